import PyProof.Rows.All
import Wide.All
import OpenK.AllK
import Wide.FinOn
import HandS.ForMost
import HandS.IsInst
import HandS.Walk
import HandS.Wide
import HandS.TupMul
import HandS.TupAny
import HandS.TupLe
import HandS.Style
import HandS.Star
import HandS.Zip
import HandS.Steps
import HandS.Lambda
import HandS.Deep
import KE.KUnpackStar
import HandS.TryOnly
import KE.GoesEnum
import HandS.SetFor
import HandS.Strs
import HandS.HeadHook3
import HandS.ExcOwn
import HandS.WordsExc
import HandS.ExcIs
import HandS.RaiseMore
import HandS.Replace
import HandS.EndOwn
import KE.KNestM
import HandS.HotCalls
import HandS.CallLocal
import HandS.CallSlots
import HandS.Defaults
import PyProof.StrBlock2
import HandS.Rev
import PyProof.P3In
import PyProof.Rows.FloatCmp
import PyProof.Rows.RuleB_bool
import HandS.Comp
import KE.GoesRaise
import HandS.FStr
import HandS.StrMore
import HandS.Iter
import KE.KDictCopyH
import Flt.Len
import PySem.Challenge.RW_batchyard_k82_texts
set_option Elab.async false
set_option linter.all false
set_option maxRecDepth 100000
set_option maxHeartbeats 2000000
/-! what defs do to data: readings over a heap with lists of one's own laid over it -/
namespace DD
open PySem PySem.Spec PyProof.Rows L2

abbrev D := PyData
/-- the tables of code objects that grow as lambdas are made, each with the name that its code objects bear -/
class TabQ where
  tabs : List (Addr × Str)
/-- where the caught exception lies, and the number of its class -/
class ExQ where
  ea : Addr
  ec : Nat
variable [TabQ]
/-- all but tables of code objects stays -/
def Same (H H' : Hp) : Prop := ∀ b o, H b = some o → (∀ ps, o ≠ .tbl ps) → H' b = some o
theorem Same.refl (H : Hp) : Same H H := fun _ _ h _ => h
theorem Same.trans {H H1 H2 : Hp} (a : Same H H1) (b : Same H1 H2) : Same H H2 := fun c o h n => b c o (a c o h n) n
theorem Same.of {H H' : Hp} (e : ∀ b o, H b = some o → H' b = some o) : Same H H' := fun b o h _ => e b o h
theorem Same.seq {K : PySem.W.Frag} {H H' : Hp} {a : Addr} {xs : List V} (e : Same H H') (h : SqL K H a xs) : SqL K H' a xs := by
  rcases h with (h | ⟨o, h⟩) | h
  · exact .inl (.inl (e _ _ h (fun _ => HO.noConfusion)))
  · exact .inl (.inr ⟨o, e _ _ h (fun _ => HO.noConfusion)⟩)
  · exact .inr h
/-- lists of one's own -/
abbrev Ov := Addr → Option (List V)
def ov (H : Hp) (T : Ov) : Hp := fun a => match T a with
  | some xs => some (.lst xs)
  | none => H a
structure Dis (H : Hp) (T : Ov) : Prop where
  no : ∀ a xs, T a = some xs → H a = none
  tab : LamX.Tabs TabQ.tabs H
instance {H : Hp} {T : Ov} : CoeFun (Dis H T) (fun _ => ∀ a xs, T a = some xs → H a = none) := ⟨Dis.no⟩
def Ext (T0 T : Ov) : Prop := ∀ a xs, T0 a = some xs → T a = some xs
def put (T : Ov) (p : Addr) (xs : List V) : Ov := fun a => if a = p then some xs else T a
def cut (T : Ov) (p : Addr) : Ov := fun a => if a = p then none else T a

theorem ov_own {H : Hp} {T : Ov} {a : Addr} {xs : List V} (h : T a = some xs) : ov H T a = some (.lst xs) := by
  unfold ov; rw [h]
theorem ov_none {H : Hp} {T : Ov} {a : Addr} (h : T a = none) : ov H T a = H a := by
  unfold ov; rw [h]
theorem ov_free {H : Hp} {T : Ov} {a : Addr} (h : ov H T a = none) : T a = none ∧ H a = none := by
  cases e : T a with
  | none => rw [ov_none e] at h; exact ⟨rfl, h⟩
  | some xs => rw [ov_own e] at h; cases h
/-- all that H knows stays under T -/
theorem raw_ov {H : Hp} {T : Ov} (d : Dis H T) : ∀ a o, H a = some o → ov H T a = some o := fun a o h => by
  cases e : T a with
  | none => rw [ov_none e]; exact h
  | some xs => have := d a xs e; rw [h] at this; cases this
theorem same_ov {H : Hp} {T : Ov} (d : Dis H T) : Same H (ov H T) := .of (raw_ov d)
theorem upd_ov {H : Hp} {T : Ov} {p : Addr} {o : HO} (h : T p = none) : upd (ov H T) p o = ov (upd H p o) T := by
  funext a
  by_cases e : a = p
  · subst e; rw [upd_same, ov_none h, upd_same]
  · rw [upd_ne e]
    cases q : T a with
    | none => rw [ov_none q, ov_none q, upd_ne e]
    | some xs => rw [ov_own q, ov_own q]
theorem upd_put {H : Hp} {T : Ov} {p : Addr} {xs : List V} : upd (ov H T) p (.lst xs) = ov H (put T p xs) := by
  funext a
  by_cases e : a = p
  · subst e
    have : put T a xs a = some xs := by unfold put; rw [if_pos rfl]
    rw [upd_same, ov_own this]
  · have : put T p xs a = T a := by unfold put; rw [if_neg e]
    rw [upd_ne e]
    unfold ov
    rw [this]
theorem put_same {T : Ov} {p : Addr} {xs : List V} : put T p xs p = some xs := by unfold put; rw [if_pos rfl]
theorem put_ne {T : Ov} {p a : Addr} {xs : List V} (h : a ≠ p) : put T p xs a = T a := by unfold put; rw [if_neg h]
theorem raw_new {H : Hp} {p : Addr} {o : HO} (h : H p = none) : ∀ b x, H b = some x → upd H p o b = some x := fun b x e => by
  rw [upd_ne (ne_of_none e h)]; exact e
theorem same_new {H : Hp} {p : Addr} {o : HO} (h : H p = none) : Same H (upd H p o) := .of (raw_new h)
theorem dis_upd {H : Hp} {T : Ov} {p : Addr} {o : HO} (d : Dis H T) (h : T p = none) (hn : H p = none) : Dis (upd H p o) T := ⟨fun a xs e => by
  have : a ≠ p := fun z => by rw [z, h] at e; cases e
  rw [upd_ne this]; exact d a xs e, d.tab.ext (raw_new hn)⟩
theorem dis_put {H : Hp} {T : Ov} {p : Addr} {xs : List V} (d : Dis H T) (h : H p = none) : Dis H (put T p xs) := ⟨fun a ys e => by
  by_cases q : a = p
  · rw [q]; exact h
  · rw [put_ne q] at e; exact d a ys e, d.tab⟩
theorem dis_less {H : Hp} {T T' : Ov} (d : Dis H T) (h : ∀ a xs, T' a = some xs → ∃ ys, T a = some ys) : Dis H T' := ⟨fun a xs e => let ⟨ys, q⟩ := h a xs e; d a ys q, d.tab⟩
/-- a list of one's own becomes one that is known -/
theorem ov_freeze {H : Hp} {T : Ov} {p : Addr} {xs : List V} (h : T p = some xs) : ov H T = ov (upd H p (.lst xs)) (cut T p) := by
  funext a
  by_cases e : a = p
  · subst e
    have : cut T a a = none := by unfold cut; rw [if_pos rfl]
    rw [ov_own h, ov_none this, upd_same]
  · have : cut T p a = T a := by unfold cut; rw [if_neg e]
    unfold ov
    rw [this]
    cases q : T a with
    | none => exact (upd_ne e).symm
    | some ys => rfl

/-! ### data -/
theorem Same.sqt {K : PySem.W.Frag} {H H' : Hp} {a : Addr} {xs : List V} (e : Same H H') (h : SqT K H a xs) : SqT K H' a xs := by
  rcases h with (h | ⟨o, h⟩) | h
  · exact .inl (.inl (e _ _ h (fun _ => HO.noConfusion)))
  · exact .inl (.inr ⟨o, e _ _ h (fun _ => HO.noConfusion)⟩)
  · exact .inr h
mutual
theorem dp_mono {K : PySem.W.Frag} {H H' : Hp} (e : Same H H') : ∀ {v : V} {d : D}, Dp K H v d → Dp K H' v d
  | _, _, .non => .non
  | _, _, .bl b => .bl b
  | _, _, .int i => .int i
  | _, _, .str x => .str x
  | _, _, .lst h t => .lst (e.seq h) (dpa_mono e t)
  | _, _, .tup h t => .tup (Same.sqt e h) (dpa_mono e t)
theorem dpa_mono {K : PySem.W.Frag} {H H' : Hp} (e : Same H H') : ∀ {vs : List V} {ds : List D}, DpAll K H vs ds → DpAll K H' vs ds
  | _, _, .nil => .nil
  | _, _, .cons h t => .cons (dp_mono e h) (dpa_mono e t)
end
theorem dpa_len {K : PySem.W.Frag} {H : Hp} : ∀ {vs : List V} {ds : List D}, DpAll K H vs ds → vs.length = ds.length
  | _, _, .nil => rfl
  | _, _, .cons _ t => by rw [List.length_cons, List.length_cons, dpa_len t]
theorem dpa_get {K : PySem.W.Frag} {H : Hp} : ∀ {vs : List V} {ds : List D}, DpAll K H vs ds → ∀ {i : Nat} {d : D}, ds[i]? = some d → ∃ v, vs[i]? = some v ∧ Dp K H v d
  | _, _, .nil, i, d, h => by simp at h
  | _, _, .cons h t, 0, d, e => by
    simp at e; subst e; exact ⟨_, rfl, h⟩
  | _, _, .cons h t, i + 1, d, e => by
    obtain ⟨v, q, r⟩ := dpa_get t (i := i) (by simpa using e)
    exact ⟨v, by simpa using q, r⟩
theorem dpa_append {K : PySem.W.Frag} {H : Hp} : ∀ {vs ws : List V} {ds es : List D}, DpAll K H vs ds → DpAll K H ws es → DpAll K H (vs ++ ws) (ds ++ es)
  | _, _, _, _, .nil, s => s
  | _, _, _, _, .cons h t, s => .cons h (dpa_append t s)
theorem dpa_take {K : PySem.W.Frag} {H : Hp} : ∀ {vs : List V} {ds : List D} (n : Nat), DpAll K H vs ds → DpAll K H (vs.take n) (ds.take n)
  | _, _, 0, _ => .nil
  | _, _, _ + 1, .nil => .nil
  | _, _, n + 1, .cons h t => .cons h (dpa_take n t)
theorem dpa_drop {K : PySem.W.Frag} {H : Hp} : ∀ {vs : List V} {ds : List D} (n : Nat), DpAll K H vs ds → DpAll K H (vs.drop n) (ds.drop n)
  | _, _, 0, h => h
  | _, _, _ + 1, .nil => .nil
  | _, _, n + 1, .cons _ t => dpa_drop n t
theorem dpa_rep {K : PySem.W.Frag} {H : Hp} {vs : List V} {ds : List D} (h : DpAll K H vs ds) : ∀ n : Nat, DpAll K H (List.replicate n vs).flatten (List.replicate n ds).flatten
  | 0 => .nil
  | n + 1 => by
    rw [List.replicate_succ, List.replicate_succ, List.flatten_cons, List.flatten_cons]
    exact dpa_append h (dpa_rep h n)
theorem dpa_ints {K : PySem.W.Frag} {H : Hp} : ∀ ns : List Int, DpAll K H (ns.map V.int) (ns.map PyData.int)
  | [] => .nil
  | n :: r => .cons (.int n) (dpa_ints r)
theorem dpa_snoc {K : PySem.W.Frag} {H : Hp} {vs : List V} {ds : List D} {v : V} {d : D} (h : DpAll K H vs ds) (g : Dp K H v d) : DpAll K H (vs ++ [v]) (ds ++ [d]) := dpa_append h (.cons g .nil)
theorem dpa_nil_iff {K : PySem.W.Frag} {H : Hp} {vs : List V} {ds : List D} (h : DpAll K H vs ds) : ds = [] ↔ vs = [] := by
  cases h with
  | nil => exact Iff.intro (fun _ => rfl) (fun _ => rfl)
  | cons _ _ => exact Iff.intro (fun z => nomatch z) (fun z => nomatch z)

/-! ### slots -/
inductive Sl where
  | val (d : D)
  | own (ds : List D)
  | exc (c : Nat)
abbrev En := List (Option Sl)

variable [ExQ]
/-- where one stands in a def: H0, T0 what the caller has -/
structure Good (K : PySem.W.Frag) (H0 : Hp) (T0 : Ov) (σ : L2.St) (ρ : En) (H : Hp) (T : Ov) : Prop where
  len : ρ.length = σ.length
  val : ∀ (i : Nat) (d : D), ρ[i]? = some (some (Sl.val d)) → ∃ v, σ[i]? = some (some v) ∧ Dp K H v d
  own : ∀ (i : Nat) (ds : List D), ρ[i]? = some (some (Sl.own ds)) → ∃ p xs, σ[i]? = some (some (.ref p)) ∧ T p = some xs ∧ T0 p = none ∧ DpAll K H xs ds
  inj : ∀ (i j : Nat) (ds es : List D) (p : Addr), ρ[i]? = some (some (Sl.own ds)) → ρ[j]? = some (some (Sl.own es)) → σ[i]? = some (some (.ref p)) → σ[j]? = some (some (.ref p)) → i = j
  dis : Dis H T
  ext : Ext T0 T
  ex : Same H0 H
  exc : ∀ (i : Nat) (c : Nat), ρ[i]? = some (some (Sl.exc c)) → σ[i]? = some (some (.ref ExQ.ea)) ∧ c = ExQ.ec
section
variable {K : PySem.W.Frag} {H0 H H' : Hp} {T0 T : Ov} {σ : L2.St} {ρ : En}
theorem Good.mono (G : Good K H0 T0 σ ρ H T) (e : Same H H') (d : Dis H' T) : Good K H0 T0 σ ρ H' T :=
  ⟨G.len, fun i x h => let ⟨v, a, b⟩ := G.val i x h; ⟨v, a, dp_mono e b⟩, fun i x h => let ⟨p, xs, a, b, c, f⟩ := G.own i x h; ⟨p, xs, a, b, c, dpa_mono e f⟩, G.inj, d, G.ext, G.ex.trans e, G.exc⟩
theorem get_set {α : Type} {l : List α} {i j : Nat} {x : α} {y : α} (h : (l.set i x)[j]? = some y) : (j = i ∧ y = x ∧ i < l.length) ∨ (j ≠ i ∧ l[j]? = some y) := by
  by_cases e : j = i
  · subst e
    by_cases q : j < l.length
    · rw [List.getElem?_set_self q] at h
      exact .inl ⟨rfl, (Option.some.inj h).symm, q⟩
    · rw [List.getElem?_eq_none (by simpa using q)] at h; cases h
  · rw [List.getElem?_set_ne (Ne.symm e)] at h
    exact .inr ⟨e, h⟩
theorem set_self {α : Type} {l : List α} {i : Nat} {x : α} (h : i < l.length) : (l.set i x)[i]? = some x := List.getElem?_set_self h
theorem exc_set {σ : L2.St} {ρ : En} {i : Nat} {x : Option V} {y : Option Sl} (E : ∀ (j : Nat) (c : Nat), ρ[j]? = some (some (Sl.exc c)) → σ[j]? = some (some (.ref ExQ.ea)) ∧ c = ExQ.ec) (hy : ∀ c, some (Sl.exc c) ≠ y) :
    ∀ (j : Nat) (c : Nat), (ρ.set i y)[j]? = some (some (Sl.exc c)) → (σ.set i x)[j]? = some (some (.ref ExQ.ea)) ∧ c = ExQ.ec := fun j c h => by
  rcases get_set h with ⟨_, q, _⟩ | ⟨e, q⟩
  · exact absurd q (hy c)
  · obtain ⟨a, b⟩ := E j c q
    exact ⟨by rw [List.getElem?_set_ne (Ne.symm e)]; exact a, b⟩
theorem exc_turn {σ : L2.St} {ρ : En} {i : Nat} {y : Option Sl} (E : ∀ (j : Nat) (c : Nat), ρ[j]? = some (some (Sl.exc c)) → σ[j]? = some (some (.ref ExQ.ea)) ∧ c = ExQ.ec) (hy : ∀ c, some (Sl.exc c) ≠ y) :
    ∀ (j : Nat) (c : Nat), (ρ.set i y)[j]? = some (some (Sl.exc c)) → σ[j]? = some (some (.ref ExQ.ea)) ∧ c = ExQ.ec := fun j c h => by
  rcases get_set h with ⟨_, q, _⟩ | ⟨e, q⟩
  · exact absurd q (hy c)
  · exact E j c q
/-- a slot gets a value -/
theorem Good.set {i : Nat} {v : V} {d : D} (G : Good K H0 T0 σ ρ H T) (g : Dp K H v d) : Good K H0 T0 (σ.set i (some v)) (ρ.set i (some (Sl.val d))) H T := by
  refine ⟨by rw [List.length_set, List.length_set]; exact G.len, fun j x h => ?_, fun j x h => ?_, fun j k ds es p h1 h2 h3 h4 => ?_, G.dis, G.ext, G.ex, exc_set G.exc (fun _ z => by cases z)⟩
  · rcases get_set h with ⟨e, q, l⟩ | ⟨e, q⟩
    · subst e
      cases q
      exact ⟨v, set_self (by rw [← G.len]; exact l), g⟩
    · obtain ⟨w, a, b⟩ := G.val j x q
      exact ⟨w, by rw [List.getElem?_set_ne (Ne.symm e)]; exact a, b⟩
  · rcases get_set h with ⟨e, q, l⟩ | ⟨e, q⟩
    · cases q
    · obtain ⟨p, xs, a, b⟩ := G.own j x q
      exact ⟨p, xs, by rw [List.getElem?_set_ne (Ne.symm e)]; exact a, b⟩
  · rcases get_set h1 with ⟨_, q, _⟩ | ⟨e1, q1⟩
    · cases q
    · rcases get_set h2 with ⟨_, q, _⟩ | ⟨e2, q2⟩
      · cases q
      · rw [List.getElem?_set_ne (Ne.symm e1)] at h3
        rw [List.getElem?_set_ne (Ne.symm e2)] at h4
        exact G.inj j k ds es p q1 q2 h3 h4
/-- a slot gets a new list of one's own -/
theorem Good.setOwn {i : Nat} {p : Addr} {xs : List V} {ds : List D} (G : Good K H0 T0 σ ρ H T) (g : DpAll K H xs ds) (hp : ov H T p = none) :
    Good K H0 T0 (σ.set i (some (.ref p))) (ρ.set i (some (Sl.own ds))) H (put T p xs) := by
  obtain ⟨hT, hH⟩ := ov_free hp
  have h0 : T0 p = none := by
    cases e : T0 p with
    | none => rfl
    | some ys => have := G.ext p ys e; rw [hT] at this; cases this
  have ne : ∀ a ys, T a = some ys → a ≠ p := fun a ys e z => by rw [z, hT] at e; cases e
  refine ⟨by rw [List.length_set, List.length_set]; exact G.len, fun j x h => ?_, fun j x h => ?_, fun j k ds es q h1 h2 h3 h4 => ?_, dis_put G.dis hH, fun a ys e => ?_, G.ex, exc_set G.exc (fun _ z => by cases z)⟩
  · rcases get_set h with ⟨e, q, l⟩ | ⟨e, q⟩
    · cases q
    · obtain ⟨w, a, b⟩ := G.val j x q
      exact ⟨w, by rw [List.getElem?_set_ne (Ne.symm e)]; exact a, b⟩
  · rcases get_set h with ⟨e, q, l⟩ | ⟨e, q⟩
    · cases q
      subst e
      exact ⟨p, xs, set_self (by rw [← G.len]; exact l), put_same, h0, g⟩
    · obtain ⟨r, ys, a, b, c⟩ := G.own j x q
      exact ⟨r, ys, by rw [List.getElem?_set_ne (Ne.symm e)]; exact a, by rw [put_ne (ne r ys b)]; exact b, c⟩
  · rcases get_set h1 with ⟨e1, q1, l1⟩ | ⟨e1, q1⟩
    · rcases get_set h2 with ⟨e2, q2, l2⟩ | ⟨e2, q2⟩
      · rw [e1, e2]
      · subst e1
        rw [set_self (by rw [← G.len]; exact l1)] at h3
        cases h3
        rw [List.getElem?_set_ne (Ne.symm e2)] at h4
        obtain ⟨r, ys, a, b, _⟩ := G.own k es q2
        rw [h4] at a
        cases a
        exact absurd rfl (ne _ ys b)
    · rcases get_set h2 with ⟨e2, q2, l2⟩ | ⟨e2, q2⟩
      · subst e2
        rw [set_self (by rw [← G.len]; exact l2)] at h4
        cases h4
        rw [List.getElem?_set_ne (Ne.symm e1)] at h3
        obtain ⟨r, ys, a, b, _⟩ := G.own j _ q1
        rw [h3] at a
        cases a
        exact absurd rfl (ne _ ys b)
      · rw [List.getElem?_set_ne (Ne.symm e1)] at h3
        rw [List.getElem?_set_ne (Ne.symm e2)] at h4
        exact G.inj j k _ es q q1 q2 h3 h4
  · rw [put_ne (ne a ys (G.ext a ys e))]
    exact G.ext a ys e
/-- a list of one's own turns -/
theorem Good.turn {i : Nat} {p : Addr} {xs ys : List V} {ds es : List D} (G : Good K H0 T0 σ ρ H T) (h : ρ[i]? = some (some (Sl.own ds))) (hs : σ[i]? = some (some (.ref p))) (ht : T p = some xs) (g : DpAll K H ys es) :
    Good K H0 T0 σ (ρ.set i (some (Sl.own es))) H (put T p ys) := by
  obtain ⟨p', xs', a, b, c, f⟩ := G.own i ds h
  rw [hs] at a
  cases a
  refine ⟨by rw [List.length_set]; exact G.len, fun j x q => ?_, fun j x q => ?_, fun j k as bs r h1 h2 h3 h4 => ?_, dis_put G.dis (G.dis p xs ht), fun a zs e => ?_, G.ex, exc_turn G.exc (fun _ z => by cases z)⟩
  · rcases get_set q with ⟨_, q, _⟩ | ⟨_, q⟩
    · cases q
    · exact G.val j x q
  · rcases get_set q with ⟨e, q, _⟩ | ⟨e, q⟩
    · cases q
      subst e
      exact ⟨p, ys, hs, put_same, c, g⟩
    · obtain ⟨r, zs, a, b, c⟩ := G.own j x q
      have : r ≠ p := fun z => e (G.inj j i x ds p q h (z ▸ a) hs)
      exact ⟨r, zs, a, by rw [put_ne this]; exact b, c⟩
  · have o1 : ∃ us, ρ[j]? = some (some (Sl.own us)) := by
      rcases get_set h1 with ⟨e, q, _⟩ | ⟨_, q⟩
      · exact ⟨ds, e ▸ h⟩
      · exact ⟨_, q⟩
    have o2 : ∃ us, ρ[k]? = some (some (Sl.own us)) := by
      rcases get_set h2 with ⟨e, q, _⟩ | ⟨_, q⟩
      · exact ⟨ds, e ▸ h⟩
      · exact ⟨_, q⟩
    obtain ⟨u1, o1⟩ := o1
    obtain ⟨u2, o2⟩ := o2
    exact G.inj j k u1 u2 r o1 o2 h3 h4
  · have : a ≠ p := fun z => by rw [z, c] at e; cases e
    rw [put_ne this]
    exact G.ext a zs e
def frz (i : Nat) (ρ : En) : En := match ρ[i]? with
  | some (some (Sl.own ds)) => ρ.set i (some (.val (.list ds)))
  | _ => ρ
/-- a list of one's own becomes a value -/
theorem Good.freeze (i : Nat) (G : Good K H0 T0 σ ρ H T) : ∃ H' T', Good K H0 T0 σ (frz i ρ) H' T' ∧ ov H T = ov H' T' ∧ Same H H' := by
  unfold frz
  split
  · rename_i ds h
    obtain ⟨p, xs, a, b, c, f⟩ := G.own i ds h
    have hp := G.dis p xs b
    have sm : Same H (upd H p (.lst xs)) := same_new hp
    have ne : ∀ r ys, T r = some ys → r ≠ p → cut T p r = some ys := fun r ys e q => by unfold cut; rw [if_neg q]; exact e
    refine ⟨upd H p (.lst xs), cut T p, ⟨by rw [List.length_set]; exact G.len, fun j x q => ?_, fun j x q => ?_, fun j k as bs r h1 h2 h3 h4 => ?_, ⟨fun r ys e => ?_, G.dis.tab.ext (raw_new hp)⟩, fun r ys e => ?_, G.ex.trans sm, exc_turn G.exc (fun _ z => by cases z)⟩, ov_freeze b, sm⟩
    · rcases get_set q with ⟨e, q, _⟩ | ⟨e, q⟩
      · cases q
        subst e
        exact ⟨.ref p, a, .lst (SqL.of upd_same) (dpa_mono sm f)⟩
      · obtain ⟨v, g, k⟩ := G.val j x q
        exact ⟨v, g, dp_mono sm k⟩
    · rcases get_set q with ⟨e, q, _⟩ | ⟨e, q⟩
      · cases q
      · obtain ⟨r, ys, g, k, l, m⟩ := G.own j x q
        exact ⟨r, ys, g, ne r ys k fun z => e (G.inj j i x ds p q h (z ▸ g) a), l, dpa_mono sm m⟩
    · rcases get_set h1 with ⟨_, q, _⟩ | ⟨_, q1⟩
      · cases q
      · rcases get_set h2 with ⟨_, q, _⟩ | ⟨_, q2⟩
        · cases q
        · exact G.inj j k as bs r q1 q2 h3 h4
    · unfold cut at e
      split at e
      · cases e
      · rename_i q
        rw [upd_ne q]
        exact G.dis r ys e
    · exact ne r ys (G.ext r ys e) fun z => by rw [z, c] at e; cases e
  · exact ⟨H, T, G, rfl, Same.refl H⟩
end
end DD

set_option Elab.async false
set_option linter.all false
set_option maxRecDepth 100000
set_option maxHeartbeats 2000000
namespace DD
variable [TabQ] [ExQ]
open PySem PySem.Spec PyProof.Rows L2

inductive Fl where
  | nx (ρ : En)
  | rt (d : D)
  | bk (ρ : En)
  | ct (ρ : En)

section
variable (K : PySem.W.Frag)
structure ET (te : TE) (m : En → Option D) : Prop where
  run : ∀ {H0 : Hp} {T0 : Ov} {σ : L2.St} {ρ : En} {H : Hp} {T : Ov} {d : D}, Good K H0 T0 σ ρ H T → m ρ = some d →
    ∀ Q : VK, (∀ v H', Same H H' → Dis H' T → Dp K H' v d → Q v (ov H' T)) → te σ (ov H T) Q
structure FL (te : TE) (m : En → Option (List D)) : Prop where
  run : ∀ {H0 : Hp} {T0 : Ov} {σ : L2.St} {ρ : En} {H : Hp} {T : Ov} {ds : List D}, Good K H0 T0 σ ρ H T → m ρ = some ds →
    ∀ Q : VK, (∀ p xs H', Same H H' → Dis H' T → ov H' T p = none → DpAll K H' xs ds → Q (.ref p) (upd (ov H' T) p (.lst xs))) → te σ (ov H T) Q
structure TTm (tt : TT) (m : En → Option Bool) : Prop where
  run : ∀ {H0 : Hp} {T0 : Ov} {σ : L2.St} {ρ : En} {H : Hp} {T : Ov} {b : Bool}, Good K H0 T0 σ ρ H T → m ρ = some b →
    ∀ Q : Bool → Hp → Prop, (∀ H', Same H H' → Dis H' T → Q b (ov H' T)) → tt σ (ov H T) Q
structure TAm (ta : TA) (m : En → Option (List D)) : Prop where
  run : ∀ {H0 : Hp} {T0 : Ov} {σ : L2.St} {ρ : En} {H : Hp} {T : Ov} {ds : List D}, Good K H0 T0 σ ρ H T → m ρ = some ds →
    ∀ Q : List V → Hp → Prop, (∀ vs H', Same H H' → Dis H' T → DpAll K H' vs ds → Q vs (ov H' T)) → ta σ (ov H T) Q
structure RD (r : R2) (f : D → D → Option D) : Prop where
  run : ∀ {H : Hp} {T : Ov} {x y : V} {a b d : D}, Dis H T → Dp K H x a → Dp K H y b → f a b = some d →
    ∀ Q : VK, (∀ v H', Same H H' → Dis H' T → Dp K H' v d → Q v (ov H' T)) → r x y (ov H T) Q
structure UD (r : V → Hp → VK → Prop) (f : D → Option D) : Prop where
  run : ∀ {H : Hp} {T : Ov} {x : V} {a d : D}, Dis H T → Dp K H x a → f a = some d →
    ∀ Q : VK, (∀ v H', Same H H' → Dis H' T → Dp K H' v d → Q v (ov H' T)) → r x (ov H T) Q
structure CD (r : List V → Hp → VK → Prop) (f : List D → Option D) : Prop where
  run : ∀ {H : Hp} {T : Ov} {vs : List V} {ds : List D} {d : D}, Dis H T → DpAll K H vs ds → f ds = some d →
    ∀ Q : VK, (∀ v H', Same H H' → Dis H' T → Dp K H' v d → Q v (ov H' T)) → r vs (ov H T) Q
structure CL (r : List V → Hp → VK → Prop) (f : List D → Option (List D)) : Prop where
  run : ∀ {H : Hp} {T : Ov} {vs : List V} {ds es : List D}, Dis H T → DpAll K H vs ds → f ds = some es →
    ∀ Q : VK, (∀ p xs H', Same H H' → Dis H' T → ov H' T p = none → DpAll K H' xs es → Q (.ref p) (upd (ov H' T) p (.lst xs))) → r vs (ov H T) Q
/-- a target; vs: the slots that it may change -/
structure TGm (vs : List Nat) (g : TG) (m : D → En → Option En) : Prop where
  run : ∀ {H0 : Hp} {T0 : Ov} {σ : L2.St} {ρ ρ2 : En} {H : Hp} {T : Ov} {v : V} {d : D}, Good K H0 T0 σ ρ H T → Dp K H v d → m d ρ = some ρ2 →
    ∀ Q : L2.St → Hp → Prop, (∀ σ2 H', Good K H0 T0 σ2 ρ2 H' T → Same H H' → wipe σ2 vs = wipe σ vs → Q σ2 (ov H' T)) → g v σ (ov H T) Q
structure TGsm (vs : List Nat) (g : TGs) (m : List D → En → Option En) : Prop where
  run : ∀ {H0 : Hp} {T0 : Ov} {σ : L2.St} {ρ ρ2 : En} {H : Hp} {T : Ov} {xs : List V} {ds : List D}, Good K H0 T0 σ ρ H T → DpAll K H xs ds → m ds ρ = some ρ2 →
    ∀ Q : L2.St → Hp → Prop, (∀ σ2 H', Good K H0 T0 σ2 ρ2 H' T → Same H H' → wipe σ2 vs = wipe σ vs → Q σ2 (ov H' T)) → g xs σ (ov H T) Q
/-- what is walked: the data that come -/
structure Wk (J : It) (Hm : Hp) (ds : List D) : Prop where
  go : ∀ {H : Hp} {T : Ov} (i : Nat), Same Hm H → Dis H T → i < ds.length → J.go i (ov H T)
  stop : ∀ {H : Hp} {T : Ov}, Same Hm H → Dis H T → J.stop ds.length (ov H T)
  yld : ∀ {H : Hp} {T : Ov} (i : Nat) {x : V} {Hc : Hp} {d : D}, Same Hm H → Dis H T → ds[i]? = some d → J.yld i (ov H T) x Hc → ∃ H2, Hc = ov H2 T ∧ Same H H2 ∧ Dis H2 T ∧ Dp K H2 x d
structure IT (wi : TI) (m : En → Option (List D)) : Prop where
  run : ∀ {H0 : Hp} {T0 : Ov} {σ : L2.St} {ρ : En} {H : Hp} {T : Ov} {ds : List D}, Good K H0 T0 σ ρ H T → m ρ = some ds →
    ∀ R : It → Hp → Prop, (∀ J H', Same H H' → Dis H' T → Wk K J H' ds → R J (ov H' T)) → wi σ (ov H T) R
def FlOk (H0 : Hp) (T0 : Ov) (E : Ends) : Fl → Prop
  | .nx ρ => ∀ σ H T, Good K H0 T0 σ ρ H T → E.nx σ (ov H T)
  | .bk ρ => ∀ σ H T, Good K H0 T0 σ ρ H T → E.bk σ (ov H T)
  | .ct ρ => ∀ σ H T, Good K H0 T0 σ ρ H T → E.ct σ (ov H T)
  | .rt d => ∀ v H T, Same H0 H → Dis H T → Ext T0 T → Dp K H v d → E.rt v (ov H T)
structure TSm (t : TS) (m : En → Option Fl) : Prop where
  run : ∀ {H0 : Hp} {T0 : Ov} {σ : L2.St} {ρ : En} {H : Hp} {T : Ov} {f : Fl}, Good K H0 T0 σ ρ H T → m ρ = some f → ∀ E : Ends, FlOk K H0 T0 E f → t E σ (ov H T)
/-- a def's promise by its mirror -/
def spM (n : Nat) (m : List D → Option D) : Sp := fun vs Hx Q _ => ∃ ds d H T, DpAll K H vs ds ∧ ds.length = n ∧ m ds = some d ∧ Hx = ov H T ∧ Dis H T ∧ ∀ v H', Same H H' → Dis H' T → Dp K H' v d → Q v (ov H' T)
end

/-! ### mirrors of expressions -/
def mVar (i : Nat) : En → Option D := fun ρ => match ρ[i]? with
  | some (some (.val d)) => some d
  | _ => none
def mC (d : D) : En → Option D := fun _ => some d
def mOp (f : D → D → Option D) (a b : En → Option D) : En → Option D := fun ρ => (a ρ).bind fun x => (b ρ).bind fun y => f x y
def mUn (f : D → Option D) (a : En → Option D) : En → Option D := fun ρ => (a ρ).bind f
def mList (a : En → Option (List D)) : En → Option D := fun ρ => (a ρ).map PyData.list
def mNil : En → Option (List D) := fun _ => some []
def mCons (a : En → Option D) (b : En → Option (List D)) : En → Option (List D) := fun ρ => (a ρ).bind fun x => (b ρ).map fun y => x :: y
def cap : Nat := 100000
def sized (ds : List D) : Option (List D) := if ds.length ≤ cap then some ds else none
def mTup (a : En → Option (List D)) : En → Option D := fun ρ => (a ρ).bind fun x => (sized x).map PyData.tuple
def mLst (a : En → Option (List D)) : En → Option (List D) := fun ρ => (a ρ).bind sized
def mCall (f : List D → Option D) (a : En → Option (List D)) : En → Option D := fun ρ => (a ρ).bind f
def mCallL (f : List D → Option (List D)) (a : En → Option (List D)) : En → Option (List D) := fun ρ => (a ρ).bind f
def isB : D → Option Bool
  | .bool b => some b
  | _ => none
def mTest (a : En → Option D) : En → Option Bool := fun ρ => (a ρ).bind isB
def mAnd (a b : En → Option Bool) : En → Option Bool := fun ρ => (a ρ).bind fun x => if x = true then b ρ else some false
def mOr (a b : En → Option Bool) : En → Option Bool := fun ρ => (a ρ).bind fun x => if x = true then some true else b ρ
def mNot (a : En → Option Bool) : En → Option Bool := fun ρ => (a ρ).map (!·)
def mAndV (a b : En → Option D) : En → Option D := fun ρ => (a ρ).bind fun x => (isB x).bind fun c => if c = true then b ρ else some (.bool false)
def mOrV (a b : En → Option D) : En → Option D := fun ρ => (a ρ).bind fun x => (isB x).bind fun c => if c = true then some (.bool true) else b ρ
def mNotV (a : En → Option D) : En → Option D := fun ρ => (a ρ).bind fun x => (isB x).map fun c => .bool (!c)
def mIfE (c : En → Option Bool) (a b : En → Option D) : En → Option D := fun ρ => (c ρ).bind fun x => if x = true then a ρ else b ρ
def mChain (f g : D → D → Option D) (a b c : En → Option D) : En → Option D := fun ρ => (a ρ).bind fun x => (b ρ).bind fun y => (f x y).bind fun z => (isB z).bind fun k => if k = true then (c ρ).bind fun w => g y w else some (.bool false)

section
variable {K : PySem.W.Frag} {ta tb tc te : TE} {ma mb mc : En → Option D} {r r' : R2} {f g : D → D → Option D}
theorem bind_some {α β : Type} {o : Option α} {k : α → Option β} {b : β} (h : o.bind k = some b) : ∃ a, o = some a ∧ k a = some b := by
  cases o with
  | none => cases h
  | some a => exact ⟨a, rfl, h⟩
theorem map_some {α β : Type} {o : Option α} {k : α → β} {b : β} (h : o.map k = some b) : ∃ a, o = some a ∧ k a = b := by
  cases o with
  | none => cases h
  | some a => exact ⟨a, rfl, Option.some.inj h⟩
theorem sized_some {ds es : List D} (h : sized ds = some es) : es = ds ∧ ds.length ≤ cap := by
  unfold sized at h
  split at h
  · exact ⟨(Option.some.inj h).symm, by assumption⟩
  · cases h
theorem cap_line {n : Nat} (h : n ≤ cap) : n ≤ sizeLine := Nat.le_trans h (by decide)
theorem cap_lt {n : Nat} (h : n ≤ cap) : n < sizeLine := Nat.lt_of_le_of_lt h (by decide)
theorem isB_some {d : D} {b : Bool} (h : isB d = some b) : d = .bool b := by
  cases d <;> simp [isB] at h
  subst h; rfl
theorem dp_bool {H : Hp} {v : V} {b : Bool} (h : Dp K H v (.bool b)) : v = .bl b := by cases h; rfl

theorem ev_var (i : Nat) : ET K (tVar i) (mVar i) := by
  refine ⟨fun {H0 T0 σ ρ H T d} G h Q q => ?_⟩
  unfold mVar at h
  split at h
  · rename_i x e
    cases h
    obtain ⟨v, a, b⟩ := G.val i d e
    exact ⟨v, a, q v H (Same.refl H) G.dis b⟩
  · cases h
theorem ev_c {v : V} {d : D} (h : ∀ H, Dp K H v d) : ET K (tC v) (mC d) := by
  refine ⟨fun {H0 T0 σ ρ H T e} G hh Q q => ?_⟩
  cases hh
  exact q v H (Same.refl H) G.dis (h H)
theorem ev_int {i : Int} : ET K (tC (.int i)) (mC (.int i)) := ev_c fun _ => .int i
theorem ev_str {x : Str} : ET K (tC (.str x)) (mC (.str x)) := ev_c fun _ => .str x
theorem ev_bl {b : Bool} : ET K (tC (.bl b)) (mC (.bool b)) := ev_c fun _ => .bl b
theorem ev_non : ET K (tC .non) (mC .none) := ev_c fun _ => .non
theorem ev_op (hr : RD K r f) (ha : ET K ta ma) (hb : ET K tb mb) : ET K (tOp r ta tb) (mOp f ma mb) := by
  refine ⟨fun {H0 T0 σ ρ H T d} G h Q q => ?_⟩
  obtain ⟨x, hx, h⟩ := bind_some h
  obtain ⟨y, hy, h⟩ := bind_some h
  refine ha.run G hx _ fun v H1 s1 d1 p1 => ?_
  refine hb.run (G.mono s1 d1) hy _ fun u H2 s2 d2 p2 => ?_
  exact hr.run d2 (dp_mono s2 p1) p2 h Q fun w H3 s3 d3 p3 => q w H3 ((s1.trans s2).trans s3) d3 p3
theorem ev_un {ru : V → Hp → VK → Prop} {fu : D → Option D} (hr : UD K ru fu) (ha : ET K ta ma) : ET K (tUn ru ta) (mUn fu ma) := by
  refine ⟨fun {H0 T0 σ ρ H T d} G h Q q => ?_⟩
  obtain ⟨x, hx, h⟩ := bind_some h
  refine ha.run G hx _ fun v H1 s1 d1 p1 => ?_
  exact hr.run d1 p1 h Q fun w H3 s3 d3 p3 => q w H3 (s1.trans s3) d3 p3
theorem ev_chain (hr : RD K r f) (hr' : RD K r' g) (ha : ET K ta ma) (hb : ET K tb mb) (hc : ET K tc mc) : ET K (tChain r r' ta tb tc) (mChain f g ma mb mc) := by
  refine ⟨fun {H0 T0 σ ρ H T d} G h Q q => ?_⟩
  obtain ⟨x, hx, h1⟩ := bind_some h
  obtain ⟨y, hy, h2⟩ := bind_some h1
  obtain ⟨z, hz, h3⟩ := bind_some h2
  obtain ⟨k, hk, h4⟩ := bind_some h3
  clear h h1 h2 h3
  obtain rfl := isB_some hk
  refine ha.run G hx _ fun v H1 s1 d1 p1 => ?_
  refine hb.run (G.mono s1 d1) hy _ fun u H2 s2 d2 p2 => ?_
  refine hr.run d2 (dp_mono s2 p1) p2 hz _ fun w H3 s3 d3 p3 => ?_
  cases dp_bool p3
  refine ⟨k, rfl, ?_⟩
  have G3 := (G.mono s1 d1).mono (s2.trans s3) d3
  cases k with
  | true =>
    rw [if_pos rfl] at h4 ⊢
    obtain ⟨w', hw, h5⟩ := bind_some h4
    refine hc.run G3 hw _ fun u4 H4 s4 d4 p4 => ?_
    exact hr'.run d4 (dp_mono (s3.trans s4) p2) p4 h5 Q fun w5 H5 s5 d5 p5 => q w5 H5 ((s1.trans s2).trans ((s3.trans s4).trans s5)) d5 p5
  | false =>
    rw [if_neg Bool.false_ne_true] at h4 ⊢
    cases h4
    exact q _ H3 ((s1.trans s2).trans s3) d3 (.bl false)
theorem ev_list (h : FL K te (m : En → Option (List D))) : ET K te (mList m) := by
  refine ⟨fun {H0 T0 σ ρ H T d} G hh Q q => ?_⟩
  obtain ⟨ds, hd, e⟩ := map_some hh
  subst e
  refine h.run G hd Q fun p xs H' s1 d1 n1 p1 => ?_
  obtain ⟨nT, nH⟩ := ov_free n1
  rw [upd_ov nT]
  exact q _ _ (s1.trans (same_new nH)) (dis_upd d1 nT nH) (.lst (SqL.of upd_same) (dpa_mono (same_new nH) p1))
theorem ea_nil : TAm K tNil mNil := ⟨fun {H0 T0 σ ρ H T ds} G h Q q => by cases h; exact q [] H (Same.refl H) G.dis .nil⟩
theorem ea_cons {tr : TA} {mr : En → Option (List D)} (ha : ET K ta ma) (hr : TAm K tr mr) : TAm K (tCons ta tr) (mCons ma mr) := by
  refine ⟨fun {H0 T0 σ ρ H T ds} G h Q q => ?_⟩
  obtain ⟨x, hx, h⟩ := bind_some h
  obtain ⟨y, hy, e⟩ := map_some h
  subst e
  refine ha.run G hx _ fun v H1 s1 d1 p1 => ?_
  exact hr.run (G.mono s1 d1) hy _ fun vs H2 s2 d2 p2 => q _ H2 (s1.trans s2) d2 (.cons (dp_mono s2 p1) p2)
theorem ev_tup {t : TA} {m : En → Option (List D)} (ha : TAm K t m) : ET K (tTup t) (mTup m) := by
  refine ⟨fun {H0 T0 σ ρ H T d} G h Q q => ?_⟩
  obtain ⟨x, hx, h⟩ := bind_some h
  obtain ⟨y, hy, e⟩ := map_some h
  subst e
  obtain ⟨rfl, hz⟩ := sized_some hy
  refine ha.run G hx _ fun vs H1 s1 d1 p1 => ?_
  refine ⟨cap_line (by rw [dpa_len p1]; exact hz), fun p np => ?_⟩
  obtain ⟨nT, nH⟩ := ov_free np
  rw [upd_ov nT]
  exact q _ _ (s1.trans (same_new nH)) (dis_upd d1 nT nH) (.tup (SqT.of upd_same) (dpa_mono (same_new nH) p1))
theorem fl_lst {t : TA} {m : En → Option (List D)} (ha : TAm K t m) : FL K (tLst t) (mLst m) := by
  refine ⟨fun {H0 T0 σ ρ H T d} G h Q q => ?_⟩
  obtain ⟨x, hx, h⟩ := bind_some h
  obtain ⟨rfl, hz⟩ := sized_some h
  refine ha.run G hx _ fun vs H1 s1 d1 p1 => ?_
  exact ⟨cap_line (by rw [dpa_len p1]; exact hz), fun p np => q p vs H1 s1 d1 np p1⟩
theorem ev_cb {rc : List V → Hp → VK → Prop} {fc : List D → Option D} {t : TA} {m : En → Option (List D)} (hc : CD K rc fc) (ha : TAm K t m) : ET K (tCB rc t) (mCall fc m) := by
  refine ⟨fun {H0 T0 σ ρ H T d} G h Q q => ?_⟩
  obtain ⟨x, hx, h⟩ := bind_some h
  refine ha.run G hx _ fun vs H1 s1 d1 p1 => ?_
  exact hc.run d1 p1 h Q fun w H3 s3 d3 p3 => q w H3 (s1.trans s3) d3 p3
theorem fl_cb {rc : List V → Hp → VK → Prop} {fc : List D → Option (List D)} {t : TA} {m : En → Option (List D)} (hc : CL K rc fc) (ha : TAm K t m) : FL K (tCB rc t) (mCallL fc m) := by
  refine ⟨fun {H0 T0 σ ρ H T d} G h Q q => ?_⟩
  obtain ⟨x, hx, h⟩ := bind_some h
  refine ha.run G hx _ fun vs H1 s1 d1 p1 => ?_
  exact hc.run d1 p1 h Q fun p xs H3 s3 d3 n3 p3 => q p xs H3 (s1.trans s3) d3 n3 p3
theorem ev_call {n : Nat} {mf : List D → Option D} {t : TA} {m : En → Option (List D)} {E : XK} (ha : TAm K t m) : ET K (tCall (spM K n mf) [] E t) (mCall (fun ds => if ds.length = n then mf ds else none) m) := by
  refine ⟨fun {H0 T0 σ ρ H T d} G h Q q => ?_⟩
  obtain ⟨x, hx, h⟩ := bind_some h
  refine ha.run G hx _ fun vs H1 s1 d1 p1 => ?_
  split at h
  · rename_i hn
    rw [List.append_nil]
    exact ⟨x, d, H1, T, p1, hn, h, rfl, d1, fun w H3 s3 d3 p3 => q w H3 (s1.trans s3) d3 p3⟩
  · cases h

/-! ### tests -/
variable {t u : TT} {m1 m2 : En → Option Bool}
theorem et_test (h : ET K ta ma) : TTm K (tTest ta) (mTest ma) := by
  refine ⟨fun {H0 T0 σ ρ H T b} G hh Q q => ?_⟩
  obtain ⟨x, hx, hb⟩ := bind_some hh
  obtain rfl := isB_some hb
  exact h.run G hx _ fun v H1 s1 d1 p1 => ⟨b, dp_bool p1, q H1 s1 d1⟩
theorem et_B (h : ET K ta ma) : TTm K (tB ta) (mTest ma) := by
  refine ⟨fun {H0 T0 σ ρ H T b} G hh Q q => ?_⟩
  obtain ⟨x, hx, hb⟩ := bind_some hh
  obtain rfl := isB_some hb
  exact h.run G hx _ fun v H1 s1 d1 p1 => ⟨b, dp_bool p1, q H1 s1 d1⟩
theorem et_and (h1 : TTm K t m1) (h2 : TTm K u m2) : TTm K (tAnd t u) (mAnd m1 m2) := by
  refine ⟨fun {H0 T0 σ ρ H T b} G hh Q q => ?_⟩
  obtain ⟨x, hx, hb⟩ := bind_some hh
  refine h1.run G hx _ fun H1 s1 d1 => ?_
  cases x with
  | true =>
    rw [if_pos rfl] at hb ⊢
    exact h2.run (G.mono s1 d1) hb _ fun H2 s2 d2 => q H2 (s1.trans s2) d2
  | false =>
    rw [if_neg Bool.false_ne_true] at hb ⊢
    cases hb
    exact q H1 s1 d1
theorem et_or (h1 : TTm K t m1) (h2 : TTm K u m2) : TTm K (tOr t u) (mOr m1 m2) := by
  refine ⟨fun {H0 T0 σ ρ H T b} G hh Q q => ?_⟩
  obtain ⟨x, hx, hb⟩ := bind_some hh
  refine h1.run G hx _ fun H1 s1 d1 => ?_
  cases x with
  | true =>
    rw [if_pos rfl] at hb ⊢
    cases hb
    exact q H1 s1 d1
  | false =>
    rw [if_neg Bool.false_ne_true] at hb ⊢
    exact h2.run (G.mono s1 d1) hb _ fun H2 s2 d2 => q H2 (s1.trans s2) d2
theorem et_not (h1 : TTm K t m1) : TTm K (tNot t) (mNot m1) := by
  refine ⟨fun {H0 T0 σ ρ H T b} G hh Q q => ?_⟩
  obtain ⟨x, hx, hb⟩ := map_some hh
  subst hb
  exact h1.run G hx _ fun H1 s1 d1 => q H1 s1 d1
theorem ev_andV (ha : ET K ta ma) (hb : ET K tb mb) : ET K (tAndV ta tb) (mAndV ma mb) := by
  refine ⟨fun {H0 T0 σ ρ H T d} G h Q q => ?_⟩
  obtain ⟨x, hx, h1⟩ := bind_some h
  obtain ⟨k, hk, h2⟩ := bind_some h1
  clear h h1
  rename _ => h
  obtain rfl := isB_some hk
  refine ha.run G hx _ fun v H1 s1 d1 p1 => ⟨k, dp_bool p1, ?_⟩
  cases k with
  | true =>
    rw [if_pos rfl] at h ⊢
    exact hb.run (G.mono s1 d1) h _ fun u H2 s2 d2 p2 => q u H2 (s1.trans s2) d2 p2
  | false =>
    rw [if_neg Bool.false_ne_true] at h ⊢
    cases h
    exact q _ H1 s1 d1 (.bl false)
theorem ev_orV (ha : ET K ta ma) (hb : ET K tb mb) : ET K (tOrV ta tb) (mOrV ma mb) := by
  refine ⟨fun {H0 T0 σ ρ H T d} G h Q q => ?_⟩
  obtain ⟨x, hx, h1⟩ := bind_some h
  obtain ⟨k, hk, h2⟩ := bind_some h1
  clear h h1
  rename _ => h
  obtain rfl := isB_some hk
  refine ha.run G hx _ fun v H1 s1 d1 p1 => ⟨k, dp_bool p1, ?_⟩
  cases k with
  | true =>
    rw [if_pos rfl] at h ⊢
    cases h
    exact q _ H1 s1 d1 (.bl true)
  | false =>
    rw [if_neg Bool.false_ne_true] at h ⊢
    exact hb.run (G.mono s1 d1) h _ fun u H2 s2 d2 p2 => q u H2 (s1.trans s2) d2 p2
theorem ev_notV (ha : ET K ta ma) : ET K (tNotV ta) (mNotV ma) := by
  refine ⟨fun {H0 T0 σ ρ H T d} G h Q q => ?_⟩
  obtain ⟨x, hx, h1⟩ := bind_some h
  obtain ⟨k, hk, h2⟩ := map_some h1
  clear h h1
  subst h2
  obtain rfl := isB_some hk
  exact ha.run G hx _ fun v H1 s1 d1 p1 => ⟨k, dp_bool p1, q _ H1 s1 d1 (.bl _)⟩
theorem ev_if (hc : TTm K t m1) (ha : ET K ta ma) (hb : ET K tb mb) : ET K (tIf t ta tb) (mIfE m1 ma mb) := by
  refine ⟨fun {H0 T0 σ ρ H T d} G h Q q => ?_⟩
  obtain ⟨x, hx, h⟩ := bind_some h
  refine hc.run G hx _ fun H1 s1 d1 => ?_
  cases x with
  | true =>
    rw [if_pos rfl] at h ⊢
    exact ha.run (G.mono s1 d1) h _ fun u H2 s2 d2 p2 => q u H2 (s1.trans s2) d2 p2
  | false =>
    rw [if_neg Bool.false_ne_true] at h ⊢
    exact hb.run (G.mono s1 d1) h _ fun u H2 s2 d2 p2 => q u H2 (s1.trans s2) d2 p2
end
end DD

set_option Elab.async false
set_option linter.all false
set_option maxRecDepth 100000
set_option maxHeartbeats 4000000
namespace DD
variable [TabQ] [ExQ]
open PySem PySem.Spec PyProof.Rows L2

theorem tuple_mul1 (l : Addr) (items : Array Value) (n : Nat) (dd : Option Addr) (sl : Array (Option Value)) (x : Int) (u : Tok) (c0 : (decide (x < -(2 ^ 63)) || decide (x ≥ 2 ^ 63)) = false) (c1 : (items.isEmpty || x == 1) = true) :
    Meets (Builtin.«tuple.__mul__» ⟨[.ref l, .int x u], []⟩) (fun _ R s => s.heap.get? l = some { cls := .type "tuple", dict := dd, data := .seq items n, slots := sl } ∧
      R (.ok (.ret (Value.ref l))) s) :=
  .of_wp fun prog w A R s h => by
    obtain ⟨hp, g, d, tk, os⟩ := s
    obtain ⟨hl, h⟩ := h
    have f1 := AutoSeq1.idx_int
    wp_walk using wpAny_loadPart' hl
    repeat (first
      | (refine wpAny_ite_false (decide_eq_false (by rw [c0]; exact Bool.false_ne_true)) ?_; wp_walk using wpAny_loadPart' hl)
      | (refine wpAny_ite_true (decide_eq_true c1) ?_; wp_walk using wpAny_loadPart' hl))
    exact ⟨_, rfl, h⟩
theorem tuple_mul0 (l : Addr) (items : Array Value) (n : Nat) (dd : Option Addr) (sl : Array (Option Value)) (x : Int) (u : Tok) (c0 : (decide (x < -(2 ^ 63)) || decide (x ≥ 2 ^ 63)) = false) (c1 : (items.isEmpty || x == 1) = false) (c2 : (decide (x ≤ 0) || items.isEmpty) = true) :
    Meets (Builtin.«tuple.__mul__» ⟨[.ref l, .int x u], []⟩) (fun _ R s => s.heap.get? l = some { cls := .type "tuple", dict := dd, data := .seq items n, slots := sl } ∧
      R (.ok (.ret (Value.ref s.heap.objs.size))) { s with heap := s.heap.push { cls := Value.type "tuple", data := Data.seq #[] }, toks := s.toks }) :=
  .of_wp fun prog w A R s h => by
    obtain ⟨hp, g, d, tk, os⟩ := s
    obtain ⟨hl, h⟩ := h
    have f1 := AutoSeq1.idx_int
    wp_walk using wpAny_loadPart' hl
    repeat (first
      | (refine wpAny_ite_false (decide_eq_false (by rw [c0]; exact Bool.false_ne_true)) ?_; wp_walk using wpAny_loadPart' hl)
      | (refine wpAny_ite_false (decide_eq_false (by rw [c1]; exact Bool.false_ne_true)) ?_; wp_walk using wpAny_loadPart' hl)
      | (refine wpAny_ite_true (decide_eq_true c2) ?_; wp_walk using wpAny_loadPart' hl))
    exact ⟨_, rfl, h⟩

section
variable {X : Cx}
def rRep0 (K : PySem.W.Frag) : R2 := fun x y H Q => ∃ l k xs, x = .ref l ∧ y = .int k ∧ SqT K H l xs ∧ xs ≠ [] ∧ k ≤ 1 ∧ -1000 ≤ k ∧ (k = 1 → Q (.ref l) H) ∧ (k ≤ 0 → ∀ p, H p = none → Q (.ref p) (upd H p (.tup [])))
theorem op_rep0 : OpR X (binaryOp .Mult) (rRep0 X.K) := by
  intro pins s σ H x y v u Q I rx ry h
  obtain ⟨l, k, xs, rfl, rfl, hT, hne, h1, h2, q1, q0⟩ := h
  cases rx
  obtain ⟨t, rfl⟩ := ry
  obtain ⟨its, r, ⟨⟨cls, dd, data, sl⟩, ho, hc, n, hd⟩, hs⟩ := I.tuple hT
  simp only at hc hd
  subst hc hd
  have hle : its.length = xs.length := r.length.symm
  have hn : its ≠ [] := fun e => hne (by
    rw [e] at hle
    exact List.eq_nil_of_length_eq_zero hle.symm)
  have hi : its.toArray.isEmpty = false := by
    cases its with
    | nil => exact absurd rfl hn
    | cons a b => rfl
  have c0 : (decide (k < -(2 ^ 63)) || decide (k ≥ 2 ^ 63)) = false := by
    rw [decide_eq_false (by omega), decide_eq_false (by omega)] <;> rfl
  by_cases hk : k = 1
  · have c1 : (its.toArray.isEmpty || k == 1) = true := by
      rw [hi, Bool.false_or]
      exact beq_iff_eq.mpr hk
    refine wpAny_binaryOp_repeat_ref (T := "tuple") (U := "int") (by decide) ⟨_, ho, rfl⟩ (fun s' => typeIs_int s' k t) noFill_tuple_mul F.fills_int_mul F.slot_int_rmul repeat_tuple F.slot_int_index.lookup
      (call_meets F.slot_int_rmul (typeIs_int s k t) F.entry_int_rmul (F.args_int_rmul_2 _ _) (int_rmul_tuple k t l its.toArray n dd sl)
        ⟨ho, rfl, ⟨_, ho, rfl⟩, call_meets F.slot_tuple_mul ⟨_, ho, rfl⟩ F.entry_tuple_mul (F.args_tuple_mul_2 _ _) (tuple_mul1 l its.toArray n dd sl k t c0 c1) ⟨ho, ?_⟩⟩)
    exact ⟨.ref l, H, I, rfl, q1 hk⟩
  · have c1 : (its.toArray.isEmpty || k == 1) = false := by
      rw [hi, Bool.false_or]
      exact beq_eq_false_iff_ne.mpr hk
    have c2 : (decide (k ≤ 0) || its.toArray.isEmpty) = true := by
      rw [decide_eq_true (by omega)]
      rfl
    refine wpAny_binaryOp_repeat_ref (T := "tuple") (U := "int") (by decide) ⟨_, ho, rfl⟩ (fun s' => typeIs_int s' k t) noFill_tuple_mul F.fills_int_mul F.slot_int_rmul repeat_tuple F.slot_int_index.lookup
      (call_meets F.slot_int_rmul (typeIs_int s k t) F.entry_int_rmul (F.args_int_rmul_2 _ _) (int_rmul_tuple k t l its.toArray n dd sl)
        ⟨ho, rfl, ⟨_, ho, rfl⟩, call_meets F.slot_tuple_mul ⟨_, ho, rfl⟩ F.entry_tuple_mul (F.args_tuple_mul_2 _ _) (tuple_mul0 l its.toArray n dd sl k t c0 c1 c2) ⟨ho, ?_⟩⟩)
    refine ⟨.ref s.heap.objs.size, _, I.laid (t' := s.toks) (o := .tup []) (fun b ob q => Heap.get?_push_of_some _ q) (Nat.le_refl _) ?_, rfl, q0 (by omega) _ (I.hok.fresh (Nat.le_refl _))⟩
    exact ⟨Nat.zero_le _, [], .nil, IsTup.new _ _⟩
end

/-! ### operations on data -/
section
variable {K : PySem.W.Frag} {H : Hp} {T : Ov} {x y v : V} {a b d : D}
theorem dp_int {i : Int} (h : Dp K H v (.int i)) : v = .int i := by cases h; rfl
theorem dp_str {z : Str} (h : Dp K H v (.str z)) : v = .str z := by cases h; rfl
theorem dp_non (h : Dp K H v .none) : v = .non := by cases h; rfl
theorem dp_tup {ds : List D} (h : Dp K H v (.tuple ds)) : ∃ p xs, v = .ref p ∧ SqT K H p xs ∧ DpAll K H xs ds := by cases h with | tup a b => exact ⟨_, _, rfl, a, b⟩
theorem dp_lst {ds : List D} (h : Dp K H v (.list ds)) : ∃ p xs, v = .ref p ∧ SqL K H p xs ∧ DpAll K H xs ds := by cases h with | lst a b => exact ⟨_, _, rfl, a, b⟩
theorem sqt_ov {p : Addr} {xs : List V} (dis : Dis H T) (h : SqT K H p xs) : SqT K (ov H T) p xs := Same.sqt (same_ov dis) h
theorem sql_ov {p : Addr} {xs : List V} (dis : Dis H T) (h : SqL K H p xs) : SqL K (ov H T) p xs := (same_ov dis).seq h
theorem dp_ov (dis : Dis H T) (h : Dp K H v d) : Dp K (ov H T) v d := dp_mono (same_ov dis) h
/-- a new tuple -/
theorem tup_new {Q : VK} {p : Addr} {xs : List V} {ds : List D} {H1 : Hp} (s : Same H H1) (dis : Dis H1 T) (np : ov H1 T p = none) (g : DpAll K H1 xs ds)
    (q : ∀ v H', Same H H' → Dis H' T → Dp K H' v (.tuple ds) → Q v (ov H' T)) : Q (.ref p) (upd (ov H1 T) p (.tup xs)) := by
  obtain ⟨nT, nH⟩ := ov_free np
  rw [upd_ov nT]
  exact q _ _ (s.trans (same_new nH)) (dis_upd dis nT nH) (.tup (SqT.of upd_same) (dpa_mono (same_new nH) g))

def inW (i : Int) : Bool := decide (-(2 ^ 64) < i) && decide (i < 2 ^ 64)
theorem inW_of {i : Int} (h : inW i = true) : -(2 ^ 64) < i ∧ i < 2 ^ 64 := by
  unfold inW at h
  rw [Bool.and_eq_true] at h
  exact ⟨of_decide_eq_true h.1, of_decide_eq_true h.2⟩
def dAdd : D → D → Option D
  | .int i, .int j => some (.int (i + j))
  | .str p, .str q => if p.length + q.length ≤ cap then some (.str (p ++ q)) else none
  | .tuple p, .tuple q => if p.length + q.length ≤ cap then some (.tuple (p ++ q)) else none
  | _, _ => none
def dSub : D → D → Option D
  | .int i, .int j => some (.int (i - j))
  | _, _ => none
def dMul : D → D → Option D
  | .int i, .int j => if (inW i || inW j) = true then some (.int (i * j)) else none
  | .tuple p, .int k => if p ≠ [] ∧ p.length ≤ 1000 ∧ -1000 ≤ k ∧ k ≤ 1000 then some (.tuple (List.replicate k.toNat p).flatten) else none
  | _, _ => none
def dFdiv : D → D → Option D
  | .int i, .int j => if 0 < j ∧ j.natAbs.log2 < 9000 then some (.int (i / j)) else none
  | _, _ => none
def dMod : D → D → Option D
  | .int i, .int j => if 0 < j then some (.int (i % j)) else none
  | _, _ => none
def dPow : D → D → Option D
  | .int i, .int j => if 0 ≤ j ∧ j ≤ 1000000 ∧ i.natAbs < 2 ^ 64 then some (.int (i ^ j.toNat)) else none
  | _, _ => none
def dNeg : D → Option D
  | .int i => some (.int (-i))
  | _ => none
def dCmp (p : Int → Int → Bool) : D → D → Option D
  | .int i, .int j => some (.bool (p i j))
  | _, _ => none
def dEq (a b : D) : Option D := if (SeqAt.shaped a && SeqAt.shaped b) = true then some (.bool (PyData.eqv a b)) else none
def dNe (a b : D) : Option D := if (SeqAt.shaped a && SeqAt.shaped b) = true then some (.bool (!PyData.eqv a b)) else none
def dIs : D → D → Option D
  | .none, .none => some (.bool true)
  | .bool _, .none => some (.bool false)
  | .int _, .none => some (.bool false)
  | .str _, .none => some (.bool false)
  | .tuple _, .none => some (.bool false)
  | .list _, .none => some (.bool false)
  | .bool p, .bool q => some (.bool (decide (p = q)))
  | _, _ => none
def dIsNot (a b : D) : Option D := (dIs a b).bind fun z => (isB z).map fun c => .bool (!c)

def rAddA (K : PySem.W.Frag) : R2 := fun x y H Q => rI0 (fun i j => .int (i + j)) x y H Q ∨ (∃ i j, x = V.str i ∧ y = .str j ∧ i.length + j.length ≤ sizeLine ∧ Q (.str (i ++ j)) H) ∨ rCatA K x y H Q
theorem op_addA {X : Cx} : OpR X (binaryOp .Add) (rAddA X.K) := op_add.or (op_add_str.or op_catA)
theorem rd_add : RD K (rAddA K) dAdd := by
  refine ⟨fun {H T x y a b d} dis ha hb h Q q => ?_⟩
  unfold dAdd at h
  split at h
  · cases h
    cases dp_int ha
    cases dp_int hb
    exact .inl ⟨_, _, rfl, rfl, q _ H (Same.refl H) dis (.int _)⟩
  · split at h
    · rename_i hz
      cases h
      cases dp_str ha
      cases dp_str hb
      exact .inr (.inl ⟨_, _, rfl, rfl, cap_line hz, q _ H (Same.refl H) dis (.str _)⟩)
    · cases h
  · split at h
    · rename_i p q' hz
      cases h
      obtain ⟨p1, xs, rfl, hx, gx⟩ := dp_tup ha
      obtain ⟨p2, ys, rfl, hy, gy⟩ := dp_tup hb
      refine .inr (.inr ⟨p1, p2, xs, ys, rfl, rfl, sqt_ov dis hx, sqt_ov dis hy, cap_line (by rw [dpa_len gx, dpa_len gy]; exact hz), fun e => ?_, fun _ e => ?_, fun _ _ r nr => ?_⟩)
      · rw [(dpa_nil_iff gx).mpr e, List.nil_append] at q
        exact q _ H (Same.refl H) dis hb
      · rw [(dpa_nil_iff gy).mpr e, List.append_nil] at q
        exact q _ H (Same.refl H) dis ha
      · exact tup_new (Same.refl H) dis nr (dpa_append gx gy) q
    · cases h
  · cases h
theorem rd_I0 {g : Int → Int → V} {f : D → D → Option D} (e : ∀ i j, ∃ d, f (.int i) (.int j) = some d ∧ ∀ H, Dp K H (g i j) d) (o : ∀ a b d, f a b = some d → ∃ i j, a = .int i ∧ b = .int j) : RD K (rI0 g) f := by
  refine ⟨fun {H T x y a b d} dis ha hb h Q q => ?_⟩
  obtain ⟨i, j, rfl, rfl⟩ := o a b d h
  obtain ⟨d', h', g'⟩ := e i j
  rw [h] at h'
  cases h'
  cases dp_int ha
  cases dp_int hb
  exact ⟨i, j, rfl, rfl, q _ H (Same.refl H) dis (g' H)⟩
theorem rd_sub : RD K (rI0 fun i j => .int (i - j)) dSub := rd_I0 (fun i j => ⟨_, rfl, fun _ => .int _⟩) fun a b d h => by
  unfold dSub at h
  split at h
  · exact ⟨_, _, rfl, rfl⟩
  · cases h
theorem rd_cmp {p : Int → Int → Bool} : RD K (rI0 fun i j => .bl (p i j)) (dCmp p) := rd_I0 (fun i j => ⟨_, rfl, fun _ => .bl _⟩) fun a b d h => by
  unfold dCmp at h
  split at h
  · exact ⟨_, _, rfl, rfl⟩
  · cases h
theorem rd_lt : RD K (rI0 fun i j => .bl (decide (i < j))) (dCmp fun i j => decide (i < j)) := rd_cmp
theorem rd_le : RD K (rI0 fun i j => .bl (decide (i ≤ j))) (dCmp fun i j => decide (i ≤ j)) := rd_cmp
theorem rd_gt : RD K (rI0 fun i j => .bl (decide (j < i))) (dCmp fun i j => decide (j < i)) := rd_cmp
theorem rd_ge : RD K (rI0 fun i j => .bl (decide (j ≤ i))) (dCmp fun i j => decide (j ≤ i)) := rd_cmp
theorem rd_I {C : Int → Int → Prop} {g : Int → Int → V} {f : D → D → Option D} (o : ∀ a b d, f a b = some d → ∃ i j, a = .int i ∧ b = .int j ∧ C i j ∧ ∀ H, Dp K H (g i j) d) : RD K (rI C g) f := by
  refine ⟨fun {H T x y a b d} dis ha hb h Q q => ?_⟩
  obtain ⟨i, j, rfl, rfl, c, g'⟩ := o a b d h
  cases dp_int ha
  cases dp_int hb
  exact ⟨i, j, rfl, rfl, c, q _ H (Same.refl H) dis (g' H)⟩
theorem rd_fdiv : RD K (rI CDivW fun i j => .int (i / j)) dFdiv := rd_I fun a b d h => by
  unfold dFdiv at h
  split at h
  · split at h
    · rename_i c
      cases h
      exact ⟨_, _, rfl, rfl, c, fun _ => .int _⟩
    · cases h
  · cases h
theorem rd_mod : RD K (rI (fun _ j => 0 < j) fun i j => .int (i % j)) dMod := rd_I fun a b d h => by
  unfold dMod at h
  split at h
  · split at h
    · rename_i c
      cases h
      exact ⟨_, _, rfl, rfl, c, fun _ => .int _⟩
    · cases h
  · cases h
theorem rd_pow : RD K (rI CPow fun i j => .int (i ^ j.toNat)) dPow := rd_I fun a b d h => by
  unfold dPow at h
  split at h
  · split at h
    · rename_i c
      cases h
      exact ⟨_, _, rfl, rfl, c, fun _ => .int _⟩
    · cases h
  · cases h
theorem ud_neg : UD K (rU fun i => .int (-i)) dNeg := by
  refine ⟨fun {H T x a d} dis ha h Q q => ?_⟩
  unfold dNeg at h
  split at h
  · cases h
    cases dp_int ha
    exact ⟨_, rfl, q _ H (Same.refl H) dis (.int _)⟩
  · cases h
def rMulA (K : PySem.W.Frag) : R2 := fun x y H Q => rI CMul (fun i j => .int (i * j)) x y H Q ∨ rRepT K x y H Q ∨ rRep0 K x y H Q
theorem op_mulA {X : Cx} : OpR X (binaryOp .Mult) (rMulA X.K) := op_mul.or (op_repT.or op_rep0)
theorem rd_mul : RD K (rMulA K) dMul := by
  refine ⟨fun {H T x y a b d} dis ha hb h Q q => ?_⟩
  unfold dMul at h
  split at h
  · split at h
    · rename_i c
      cases h
      cases dp_int ha
      cases dp_int hb
      refine .inl ⟨_, _, rfl, rfl, ?_, q _ H (Same.refl H) dis (.int _)⟩
      rw [Bool.or_eq_true] at c
      exact c.elim (fun z => .inl (inW_of z)) fun z => .inr (inW_of z)
    · cases h
  · split at h
    · rename_i p k c
      cases h
      obtain ⟨p1, xs, rfl, hx, gx⟩ := dp_tup ha
      cases dp_int hb
      have ne : xs ≠ [] := fun e => c.1 ((dpa_nil_iff gx).mpr e)
      by_cases hk : 2 ≤ k
      · refine .inr (.inl ⟨p1, k, xs, rfl, rfl, sqt_ov dis hx, ne, hk, c.2.2.2, by rw [dpa_len gx]; exact c.2.1, fun r nr => ?_⟩)
        exact tup_new (Same.refl H) dis nr (dpa_rep gx _) q
      · refine .inr (.inr ⟨p1, k, xs, rfl, rfl, sqt_ov dis hx, ne, by omega, c.2.2.1, fun e => ?_, fun e r nr => ?_⟩)
        · have : (List.replicate k.toNat p).flatten = p := by
            subst e
            show (List.replicate 1 p).flatten = p
            simp
          rw [this] at q
          exact q _ H (Same.refl H) dis ha
        · have e0 : k.toNat = 0 := by omega
          rw [e0] at q
          exact tup_new (Same.refl H) dis nr .nil q
    · cases h
  · cases h
theorem rd_eq : RD K (rEqD K) dEq := by
  refine ⟨fun {H T x y a b d} dis ha hb h Q q => ?_⟩
  unfold dEq at h
  split at h
  · rename_i c
    rw [Bool.and_eq_true] at c
    cases h
    exact ⟨a, b, dp_ov dis ha, dp_ov dis hb, c.1, c.2, q _ H (Same.refl H) dis (.bl _)⟩
  · cases h
theorem rd_ne : RD K (rNeD K) dNe := by
  refine ⟨fun {H T x y a b d} dis ha hb h Q q => ?_⟩
  unfold dNe at h
  split at h
  · rename_i c
    rw [Bool.and_eq_true] at c
    cases h
    exact ⟨a, b, dp_ov dis ha, dp_ov dis hb, c.1, c.2, q _ H (Same.refl H) dis (.bl _)⟩
  · cases h
def rIsA : R2 := fun x y H Q => rIsN x y H Q ∨ rIsB x y H Q
def rNotA : R2 := fun x y H Q => rNotN x y H Q ∨ rNotB x y H Q
theorem op_isA {X : Cx} : OpR X (compareOp .Is) rIsA := op_isN1.or op_isBl
theorem op_notA {X : Cx} : OpR X (compareOp .IsNot) rNotA := op_notN1.or op_notBl
theorem dis_cases {a b d : D} (h : dIs a b = some d) : (b = .none ∧ ∃ c, d = .bool c ∧ ∀ H v, Dp K H v a → decide (v = .non) = c) ∨ ∃ p q, a = .bool p ∧ b = .bool q ∧ d = .bool (decide (p = q)) := by
  unfold dIs at h
  split at h <;> first
    | (cases h; exact .inl ⟨rfl, _, rfl, fun H v g => by cases g <;> simp⟩)
    | (cases h; exact .inr ⟨_, _, rfl, rfl, rfl⟩)
    | cases h
theorem rd_is : RD K rIsA dIs := by
  refine ⟨fun {H T x y a b d} dis ha hb h Q q => ?_⟩
  rcases dis_cases (K := K) h with ⟨rfl, c, rfl, g⟩ | ⟨p, q', rfl, rfl, rfl⟩
  · exact .inl ⟨dp_non hb, by rw [g H x ha]; exact q _ H (Same.refl H) dis (.bl _)⟩
  · exact .inr ⟨p, q', dp_bool ha, dp_bool hb, q _ H (Same.refl H) dis (.bl _)⟩
theorem rd_isnot : RD K rNotA dIsNot := by
  refine ⟨fun {H T x y a b d} dis ha hb h Q q => ?_⟩
  obtain ⟨z, hz, h⟩ := bind_some h
  obtain ⟨k, hk, h⟩ := map_some h
  subst h
  rcases dis_cases (K := K) hz with ⟨rfl, c, rfl, g⟩ | ⟨p, q', rfl, rfl, rfl⟩
  · cases isB_some hk
    exact .inl ⟨dp_non hb, by rw [g H x ha]; exact q _ H (Same.refl H) dis (.bl _)⟩
  · cases isB_some hk
    exact .inr ⟨p, q', dp_bool ha, dp_bool hb, q _ H (Same.refl H) dis (.bl _)⟩
end
end DD

set_option Elab.async false
set_option linter.all false
set_option maxRecDepth 100000
set_option maxHeartbeats 4000000
namespace DD
variable [TabQ] [ExQ]
open PySem PySem.Spec PyProof.Rows L2
section
variable {K : PySem.W.Frag} {H : Hp} {T : Ov} {x y v : V} {a b d : D}

/-! ### len, all, any, max, min, tuple, list, sorted -/
def dLen : List D → Option D
  | [.str z] => if z.length ≤ cap then some (.int z.length) else none
  | [.list ds] => if ds.length ≤ cap then some (.int ds.length) else none
  | [.tuple ds] => if ds.length ≤ cap then some (.int ds.length) else none
  | _ => none
def rLenA (K : PySem.W.Frag) : List V → Hp → VK → Prop := fun xs H Q => ∃ x n, xs = [x] ∧ LenV K x H n ∧ Q (.int n) H
theorem cr_len {X : Cx} : CallR X (.builtin "len") (rLenA X.K) := call_len
theorem dpa_one {vs : List V} (h : DpAll K H vs [d]) : ∃ v, vs = [v] ∧ Dp K H v d := by
  cases h with
  | cons a b => cases b; exact ⟨_, rfl, a⟩
theorem dpa_two {vs : List V} (h : DpAll K H vs [a, b]) : ∃ u v, vs = [u, v] ∧ Dp K H u a ∧ Dp K H v b := by
  cases h with
  | cons p q =>
    obtain ⟨v, rfl, r⟩ := dpa_one q
    exact ⟨_, v, rfl, p, r⟩
theorem cd_len : CD K (rLenA K) dLen := by
  refine ⟨fun {H T vs ds d} dis h e Q q => ?_⟩
  unfold dLen at e
  split at e
  · split at e
    · rename_i z hz
      cases e
      obtain ⟨v, rfl, g⟩ := dpa_one h
      cases dp_str g
      exact ⟨_, _, rfl, ⟨cap_line hz, rfl⟩, q _ H (Same.refl H) dis (.int _)⟩
    · cases e
  · split at e
    · rename_i es hz
      cases e
      obtain ⟨v, rfl, g⟩ := dpa_one h
      obtain ⟨p, xs, rfl, hx, gx⟩ := dp_lst g
      exact ⟨_, _, rfl, .inl ⟨xs, sql_ov dis hx, rfl⟩, by rw [dpa_len gx]; exact q _ H (Same.refl H) dis (.int _)⟩
    · cases e
  · split at e
    · rename_i es hz
      cases e
      obtain ⟨v, rfl, g⟩ := dpa_one h
      obtain ⟨p, xs, rfl, hx, gx⟩ := dp_tup g
      exact ⟨_, _, rfl, .inr ⟨xs, sqt_ov dis hx, rfl⟩, by rw [dpa_len gx]; exact q _ H (Same.refl H) dis (.int _)⟩
    · cases e
  · cases e
/-- a list of truths -/
def bools : List D → Option (List Bool)
  | [] => some []
  | .bool b :: r => (bools r).map fun x => b :: x
  | _ => none
theorem bools_of : ∀ {ds : List D} {bs : List Bool}, bools ds = some bs → ∀ {vs : List V}, DpAll K H vs ds → vs = bs.map V.bl
  | [], bs, h, vs, g => by cases h; cases g; rfl
  | .bool b :: r, bs, h, vs, g => by
    obtain ⟨c, hc, e⟩ := map_some h
    subst e
    cases g with
    | cons p q => rw [List.map_cons, dp_bool p, bools_of hc q]
  | .none :: _, _, h, _, _ => by cases h
  | .int _ :: _, _, h, _, _ => by cases h
  | .str _ :: _, _, h, _, _ => by cases h
  | .list _ :: _, _, h, _, _ => by cases h
  | .tuple _ :: _, _, h, _, _ => by cases h
  | .dict _ :: _, _, h, _, _ => by cases h
def dAll : List D → Option D
  | [.list ds] => (bools ds).map fun bs => .bool (bs.all id)
  | _ => none
def dAny : List D → Option D
  | [.list ds] => (bools ds).map fun bs => .bool (bs.any id)
  | _ => none
theorem cd_all : CD K (rAll K) dAll := by
  refine ⟨fun {H T vs ds d} dis h e Q q => ?_⟩
  unfold dAll at e
  split at e
  · obtain ⟨bs, hb, e⟩ := map_some e
    subst e
    obtain ⟨v, rfl, g⟩ := dpa_one h
    obtain ⟨p, xs, rfl, hx, gx⟩ := dp_lst g
    rw [bools_of hb gx] at hx
    exact ⟨p, bs, rfl, sql_ov dis hx, q _ H (Same.refl H) dis (.bl _)⟩
  · cases e
theorem cd_any : CD K (rAny K) dAny := by
  refine ⟨fun {H T vs ds d} dis h e Q q => ?_⟩
  unfold dAny at e
  split at e
  · obtain ⟨bs, hb, e⟩ := map_some e
    subst e
    obtain ⟨v, rfl, g⟩ := dpa_one h
    obtain ⟨p, xs, rfl, hx, gx⟩ := dp_lst g
    rw [bools_of hb gx] at hx
    exact ⟨p, bs, rfl, sql_ov dis hx, q _ H (Same.refl H) dis (.bl _)⟩
  · cases e
def rMax2 : List V → Hp → VK → Prop := fun xs H Q => ∃ i j, xs = [.int i, .int j] ∧ Q (.int (if j > i then j else i)) H
def rMin2 : List V → Hp → VK → Prop := fun xs H Q => ∃ i j, xs = [.int i, .int j] ∧ Q (.int (if j < i then j else i)) H
theorem cr_max2 {X : Cx} (hc : X.calm = true) : CallR X (.builtin "max") rMax2 := call_max2 hc
theorem cr_min2 {X : Cx} (hc : X.calm = true) : CallR X (.builtin "min") rMin2 := call_min2 hc
def dMax2 : List D → Option D
  | [.int i, .int j] => some (.int (if j > i then j else i))
  | _ => none
def dMin2 : List D → Option D
  | [.int i, .int j] => some (.int (if j < i then j else i))
  | _ => none
theorem cd_max2 : CD K rMax2 dMax2 := by
  refine ⟨fun {H T vs ds d} dis h e Q q => ?_⟩
  unfold dMax2 at e
  split at e
  · cases e
    obtain ⟨u, v, rfl, g1, g2⟩ := dpa_two h
    cases dp_int g1
    cases dp_int g2
    exact ⟨_, _, rfl, q _ H (Same.refl H) dis (.int _)⟩
  · cases e
theorem cd_min2 : CD K rMin2 dMin2 := by
  refine ⟨fun {H T vs ds d} dis h e Q q => ?_⟩
  unfold dMin2 at e
  split at e
  · cases e
    obtain ⟨u, v, rfl, g1, g2⟩ := dpa_two h
    cases dp_int g1
    cases dp_int g2
    exact ⟨_, _, rfl, q _ H (Same.refl H) dis (.int _)⟩
  · cases e
def rTupOf (K : PySem.W.Frag) : List V → Hp → VK → Prop := fun xs H Q => ∃ p ys, xs = [.ref p] ∧ ((SqL K H p ys ∧ ∀ l, H l = none → Q (.ref l) (upd H l (.tup ys))) ∨ (SqT K H p ys ∧ Q (.ref p) H))
theorem cr_tupOf {X : Cx} : CallR X (.type "tuple") (rTupOf X.K) := call_tuple_of
def dTupOf : List D → Option D
  | [.list ds] => some (.tuple ds)
  | [.tuple ds] => some (.tuple ds)
  | _ => none
theorem cd_tupOf : CD K (rTupOf K) dTupOf := by
  refine ⟨fun {H T vs ds d} dis h e Q q => ?_⟩
  unfold dTupOf at e
  split at e
  · cases e
    obtain ⟨v, rfl, g⟩ := dpa_one h
    obtain ⟨p, xs, rfl, hx, gx⟩ := dp_lst g
    exact ⟨p, xs, rfl, .inl ⟨sql_ov dis hx, fun l nl => tup_new (Same.refl H) dis nl gx q⟩⟩
  · cases e
    obtain ⟨v, rfl, g⟩ := dpa_one h
    obtain ⟨p, xs, rfl, hx, gx⟩ := dp_tup g
    exact ⟨p, xs, rfl, .inr ⟨sqt_ov dis hx, q _ H (Same.refl H) dis g⟩⟩
  · cases e
def rLstOf (K : PySem.W.Frag) : List V → Hp → VK → Prop := fun xs H Q => ∃ p ys, xs = [.ref p] ∧ (SqL K H p ys ∨ SqT K H p ys) ∧ ∀ l, H l = none → Q (.ref l) (upd H l (.lst ys))
theorem cr_lstOf {X : Cx} : CallR X (.type "list") (rLstOf X.K) := call_list_of
def dLstOf : List D → Option (List D)
  | [.list ds] => some ds
  | [.tuple ds] => some ds
  | _ => none
theorem cl_lstOf : CL K (rLstOf K) dLstOf := by
  refine ⟨fun {H T vs ds es} dis h e Q q => ?_⟩
  unfold dLstOf at e
  split at e
  · cases e
    obtain ⟨v, rfl, g⟩ := dpa_one h
    obtain ⟨p, xs, rfl, hx, gx⟩ := dp_lst g
    exact ⟨p, xs, rfl, .inl (sql_ov dis hx), fun l nl => q l xs H (Same.refl H) dis nl gx⟩
  · cases e
    obtain ⟨v, rfl, g⟩ := dpa_one h
    obtain ⟨p, xs, rfl, hx, gx⟩ := dp_tup g
    exact ⟨p, xs, rfl, .inr (sqt_ov dis hx), fun l nl => q l xs H (Same.refl H) dis nl gx⟩
  · cases e

/-! ### isinstance -/
def tyName : D → String
  | .none => "NoneType"
  | .bool _ => "bool"
  | .int _ => "int"
  | .str _ => "str"
  | .list _ => "list"
  | .tuple _ => "tuple"
  | .dict _ => "dict"
theorem tyX_of (dis : Dis H T) (h : Dp K H v d) : TyX K (ov H T) v (.type (tyName d)) := by
  cases h with
  | non => exact .base .non
  | bl b => exact .base (.bl b)
  | int i => exact .base (.int i)
  | str z => exact .base (.str z)
  | lst hs _ =>
    rcases sql_ov dis hs with (h | ⟨o, h⟩) | ⟨o, its, n, hk, hc, _⟩
    · exact .base (.lst h)
    · exact .base (.frz h)
    · exact .kList hk hc
  | tup hs _ =>
    rcases sqt_ov dis hs with (h | ⟨o, h⟩) | ⟨o, its, n, hk, hc, _⟩
    · exact .base (.tup h)
    · exact .fTuple h
    · exact .kTuple hk hc
/-- whether a thing is of a built-in class -/
def isName (c t : String) : Bool := t == c || (c == "int" && t == "bool")
def isIt (c : String) (d : D) : Bool := isName c (tyName d)
def dIsi (c : String) (d : D) : Option D := some (.bool (isIt c d))
def tyNames : List String := ["NoneType", "bool", "int", "str", "list", "tuple", "dict"]
theorem ty_in (d : D) : tyName d ∈ tyNames := by cases d <;> simp [tyName, tyNames]
def ClsOk (c : String) : Prop := ∀ d : D, kitB (tyName d) c = some (isIt c d)
theorem cls_by {c : String} (h : ∀ t ∈ tyNames, kitB t c = some (isName c t)) : ClsOk c := fun d => h _ (ty_in d)
theorem cls_int : ClsOk "int" := cls_by (by decide +kernel)
theorem cls_bool : ClsOk "bool" := cls_by (by decide +kernel)
theorem cls_str : ClsOk "str" := cls_by (by decide +kernel)
theorem cls_list : ClsOk "list" := cls_by (by decide +kernel)
theorem cls_tuple : ClsOk "tuple" := cls_by (by decide +kernel)
theorem ev_isi {c : String} {ta : TE} {ma : En → Option D} (hc : ClsOk c) (ha : ET K ta ma) : ET K (tCB (rIsi K) (tCons ta (tCons (tC (.ty c)) tNil))) (mUn (dIsi c) ma) := by
  refine ⟨fun {H0 T0 σ ρ H T d} G h Q q => ?_⟩
  obtain ⟨x, hx, h⟩ := bind_some h
  cases h
  refine ha.run G hx _ fun v H1 s1 d1 p1 => ?_
  exact ⟨v, .ty c, _, _, _, rfl, .ty c, tyX_of d1 p1, kit_ty (hc x), q _ H1 s1 d1 (.bl _)⟩

/-! ### truth of a value -/
def tru : D → Option Bool
  | .none => some false
  | .bool b => some b
  | .int i => some (i != 0)
  | .str z => if z.length ≤ cap then some ((z.length : Int) != 0) else none
  | .list ds => some (!ds.isEmpty)
  | .tuple ds => some (!ds.isEmpty)
  | .dict _ => none
def mTru (a : En → Option D) : En → Option Bool := fun ρ => (a ρ).bind tru
theorem emp_of {xs : List V} {ds : List D} (h : DpAll K H xs ds) : xs.isEmpty = ds.isEmpty := by cases h <;> rfl
theorem et_tru {ta : TE} {ma : En → Option D} (ha : ET K ta ma) : TTm K (tTru K ta) (mTru ma) := by
  refine ⟨fun {H0 T0 σ ρ H T b} G h Q q => ?_⟩
  obtain ⟨x, hx, h⟩ := bind_some h
  refine ha.run G hx _ fun v H1 s1 d1 p1 => ⟨b, ?_, q H1 s1 d1⟩
  unfold tru at h
  split at h
  · cases h; cases dp_non p1; rfl
  · cases h; cases dp_bool p1; rfl
  · cases h; cases dp_int p1; rfl
  · split at h
    · rename_i hz
      cases h; cases dp_str p1; exact ⟨cap_line hz, rfl⟩
    · cases h
  · cases h
    obtain ⟨p, xs, rfl, hs, g⟩ := dp_lst p1
    exact .inl ⟨xs, sql_ov d1 hs, by rw [emp_of g]⟩
  · cases h
    obtain ⟨p, xs, rfl, hs, g⟩ := dp_tup p1
    exact .inr (.inl ⟨xs, sqt_ov d1 hs, by rw [emp_of g]⟩)
  · cases h

/-! ### places, slices -/
def dIx : D → D → Option D
  | .list ds, .int i => atI ds i
  | .tuple ds, .int i => atI ds i
  | .str z, .int i => if z.length ≤ cap then (atI z.cps.toList i).map fun c => .str ⟨#[c]⟩ else none
  | _, _ => none
theorem atI_dp {xs : List V} {ds : List D} (h : DpAll K H xs ds) {i : Int} (e : atI ds i = some d) : ∃ v, atI xs i = some v ∧ Dp K H v d := by
  unfold atI at e ⊢
  rw [dpa_len h]
  obtain ⟨j, hj, e⟩ := bind_some e
  rw [hj]
  exact dpa_get h e
theorem rd_ix : RD K (rIx K) dIx := by
  refine ⟨fun {H T x y a b d} dis ha hb h Q q => ?_⟩
  unfold dIx at h
  split at h
  · obtain ⟨p, xs, rfl, hs, g⟩ := dp_lst ha
    cases dp_int hb
    obtain ⟨v, hv, gv⟩ := atI_dp g h
    exact .inl ⟨p, xs, _, v, rfl, rfl, sql_ov dis hs, hv, q v H (Same.refl H) dis gv⟩
  · obtain ⟨p, xs, rfl, hs, g⟩ := dp_tup ha
    cases dp_int hb
    obtain ⟨v, hv, gv⟩ := atI_dp g h
    exact .inr (.inl ⟨p, xs, _, v, rfl, rfl, sqt_ov dis hs, hv, q v H (Same.refl H) dis gv⟩)
  · split at h
    · rename_i z i hz
      obtain ⟨c, hc, h⟩ := map_some h
      subst h
      cases dp_str ha
      cases dp_int hb
      exact .inr (.inr ⟨z, i, c, rfl, rfl, cap_line hz, hc, q _ H (Same.refl H) dis (.str _)⟩)
    · cases h
  · cases h
/-- a slice's parts -/
structure PAm (K : PySem.W.Frag) (t : TO) (m : En → Option (Option Int)) : Prop where
  run : ∀ {H0 : Hp} {T0 : Ov} {σ : L2.St} {ρ : En} {H : Hp} {T : Ov} {o : Option Int}, Good K H0 T0 σ ρ H T → m ρ = some o →
    ∀ Q : Option Int → Hp → Prop, (∀ H', Same H H' → Dis H' T → Q o (ov H' T)) → t σ (ov H T) Q
def mNoPart : En → Option (Option Int) := fun _ => some none
def isI : D → Option Int
  | .int i => some i
  | _ => none
def mPart (a : En → Option D) : En → Option (Option Int) := fun ρ => (a ρ).bind fun x => (isI x).map some
theorem po_no : PAm K tNoPart mNoPart := ⟨fun {H0 T0 σ ρ H T o} G h Q q => by cases h; exact q H (Same.refl H) G.dis⟩
theorem po_part {ta : TE} {ma : En → Option D} (ha : ET K ta ma) : PAm K (tPart ta) (mPart ma) := by
  refine ⟨fun {H0 T0 σ ρ H T o} G h Q q => ?_⟩
  obtain ⟨x, hx, h⟩ := bind_some h
  obtain ⟨i, hi, h⟩ := map_some h
  subst h
  have e : x = .int i := by
    unfold isI at hi
    split at hi
    · cases hi; rfl
    · cases hi
  subst e
  exact ha.run G hx _ fun v H1 s1 d1 p1 => ⟨i, dp_int p1, q H1 s1 d1⟩
def cutD (ds : List D) (lo hi : Option Int) : List D := (ds.drop (HT.sIx ds.length 0 lo)).take (HT.sIx ds.length ds.length hi - HT.sIx ds.length 0 lo)
theorem dpa_cut {xs : List V} {ds : List D} (h : DpAll K H xs ds) (lo hi : Option Int) : DpAll K H (cutV xs lo hi) (cutD ds lo hi) := by
  unfold cutV cutD
  rw [dpa_len h]
  exact dpa_take _ (dpa_drop _ h)
def dSl (d : D) (lo hi : Option Int) : Option D := match d with
  | .tuple ds => some (.tuple (cutD ds lo hi))
  | .str z => if z.length ≤ cap then some (.str (cutS z lo hi)) else none
  | _ => none
def mSl (a : En → Option D) (l h : En → Option (Option Int)) : En → Option D := fun ρ => (a ρ).bind fun x => (l ρ).bind fun lo => (h ρ).bind fun hi => dSl x lo hi
def rSlX (K : PySem.W.Frag) : V → Option Int → Option Int → Hp → VK → Prop := fun x lo hi H Q => rSlA K x lo hi H Q ∨ rSlS x lo hi H Q
theorem sl_any {X : Cx} : SlR X (rSlX X.K) := SlR.or sl_tupA sl_str
theorem ev_sl {ta : TE} {tl th : TO} {ma : En → Option D} {ml mh : En → Option (Option Int)} (ha : ET K ta ma) (hl : PAm K tl ml) (hh : PAm K th mh) : ET K (tSl (rSlX K) ta tl th) (mSl ma ml mh) := by
  refine ⟨fun {H0 T0 σ ρ H T d} G h Q q => ?_⟩
  obtain ⟨x, hx, h1⟩ := bind_some h
  obtain ⟨lo, hlo, h2⟩ := bind_some h1
  obtain ⟨hi, hhi, h3⟩ := bind_some h2
  refine ha.run G hx _ fun v H1 s1 d1 p1 => ?_
  refine hl.run (G.mono s1 d1) hlo _ fun H2 s2 d2 => ?_
  refine hh.run (G.mono (s1.trans s2) d2) hhi _ fun H3 s3 d3 => ?_
  have p3 := dp_mono (s2.trans s3) p1
  have s13 := (s1.trans s2).trans s3
  unfold dSl at h3
  split at h3
  · cases h3
    obtain ⟨p, xs, rfl, hs, g⟩ := dp_tup p3
    refine .inl ⟨p, xs, rfl, sqt_ov d3 hs, fun hw => ?_, fun hw r nr => ?_⟩
    · refine q _ H3 s13 d3 ?_
      have := dpa_cut g lo hi
      unfold cutV at this
      rw [hw.1, hw.2, List.drop_zero, Nat.sub_zero, List.take_length] at this
      exact .tup hs this
    · exact tup_new (Same.refl H3) d3 nr (dpa_cut g lo hi) fun u H4 s4 d4 p4 => q u H4 (s13.trans s4) d4 p4
  · split at h3
    · rename_i hz
      cases h3
      cases dp_str p3
      exact .inr ⟨_, rfl, cap_line hz, q _ H3 s13 d3 (.str _)⟩
    · cases h3
  · cases h3
def mSlL (a : En → Option D) (l h : En → Option (Option Int)) : En → Option (List D) := fun ρ => (a ρ).bind fun x => (l ρ).bind fun lo => (h ρ).bind fun hi => match x with
  | .list ds => some (cutD ds lo hi)
  | _ => none
theorem fl_sl {ta : TE} {tl th : TO} {ma : En → Option D} {ml mh : En → Option (Option Int)} (ha : ET K ta ma) (hl : PAm K tl ml) (hh : PAm K th mh) : FL K (tSl (rSlL K) ta tl th) (mSlL ma ml mh) := by
  refine ⟨fun {H0 T0 σ ρ H T d} G h Q q => ?_⟩
  obtain ⟨x, hx, h1⟩ := bind_some h
  obtain ⟨lo, hlo, h2⟩ := bind_some h1
  obtain ⟨hi, hhi, h3⟩ := bind_some h2
  refine ha.run G hx _ fun v H1 s1 d1 p1 => ?_
  refine hl.run (G.mono s1 d1) hlo _ fun H2 s2 d2 => ?_
  refine hh.run (G.mono (s1.trans s2) d2) hhi _ fun H3 s3 d3 => ?_
  have p3 := dp_mono (s2.trans s3) p1
  split at h3
  · cases h3
    obtain ⟨p, xs, rfl, hs, g⟩ := dp_lst p3
    exact ⟨p, xs, rfl, sql_ov d3 hs, fun r nr => q r _ H3 ((s1.trans s2).trans s3) d3 nr (dpa_cut g lo hi)⟩
  · cases h3

/-! ### in -/
def dInS : D → D → Option D
  | .str p, .str z => match p.cps.toList with
    | [c] => some (.bool (decide (c ∈ z.cps.toList)))
    | _ => none
  | _, _ => none
def dNotInS (a b : D) : Option D := (dInS a b).bind fun z => (isB z).map fun c => .bool (!c)
theorem inS_cases {a b d : D} (h : dInS a b = some d) : ∃ c z, a = .str ⟨#[c]⟩ ∧ b = .str z ∧ d = .bool (decide (c ∈ z.cps.toList)) := by
  unfold dInS at h
  split at h
  · rename_i p z
    split at h
    · rename_i c e
      cases h
      refine ⟨c, z, ?_, rfl, rfl⟩
      obtain ⟨p⟩ := p
      have : p = #[c] := by
        have e' : p.toList = [c] := e
        rw [← Array.toArray_toList (xs := p), e']
      rw [this]
    · cases h
  · cases h
theorem rd_inS : RD K rInS dInS := by
  refine ⟨fun {H T x y a b d} dis ha hb h Q q => ?_⟩
  obtain ⟨c, z, rfl, rfl, rfl⟩ := inS_cases h
  exact ⟨c, z, dp_str ha, dp_str hb, q _ H (Same.refl H) dis (.bl _)⟩
theorem rd_notInS : RD K rNotInS dNotInS := by
  refine ⟨fun {H T x y a b d} dis ha hb h Q q => ?_⟩
  obtain ⟨w, hw, h⟩ := bind_some h
  obtain ⟨k, hk, h⟩ := map_some h
  subst h
  obtain ⟨c, z, rfl, rfl, rfl⟩ := inS_cases hw
  cases isB_some hk
  exact ⟨c, z, dp_str ha, dp_str hb, q _ H (Same.refl H) dis (.bl _)⟩
/-- in a list of any data -/
def dInL : D → D → Option D
  | x, .list ds => if (SeqAt.shaped x && SeqAt.shaped (.list ds)) = true then some (.bool (ds.any fun z => PyData.eqv z x)) else none
  | _, _ => none
def dNotInL (a b : D) : Option D := (dInL a b).bind fun z => (isB z).map fun c => .bool (!c)
theorem rd_inL : RD K (rInD K) dInL := by
  refine ⟨fun {H T x y a b d} dis ha hb h Q q => ?_⟩
  unfold dInL at h
  split at h
  · rename_i ds
    split at h
    · rename_i c
      rw [Bool.and_eq_true] at c
      cases h
      exact ⟨a, ds, dp_ov dis ha, dp_ov dis hb, c.1, c.2, q _ H (Same.refl H) dis (.bl _)⟩
    · cases h
  · cases h
theorem rd_notInL : RD K (rNotInD K) dNotInL := by
  refine ⟨fun {H T x y a b d} dis ha hb h Q q => ?_⟩
  obtain ⟨w, hw, h⟩ := bind_some h
  obtain ⟨k, hk, h⟩ := map_some h
  subst h
  unfold dInL at hw
  split at hw
  · rename_i ds
    split at hw
    · rename_i c
      rw [Bool.and_eq_true] at c
      cases hw
      cases isB_some hk
      exact ⟨a, ds, dp_ov dis ha, dp_ov dis hb, c.1, c.2, q _ H (Same.refl H) dis (.bl _)⟩
    · cases hw
  · cases hw
/-- in a tuple of flat data -/
def flatD : D → Bool
  | .none => true
  | .bool _ => true
  | .int _ => true
  | .str _ => true
  | _ => false
def dInT (neg : Bool) : D → D → Option D
  | x, .tuple ds => if (flatD x && ds.all flatD) = true then some (.bool (if neg then !(ds.any fun z => PyData.eqv z x) else ds.any fun z => PyData.eqv z x)) else none
  | _, _ => none
theorem flat_of (h : Dp K H v d) (f : flatD d = true) : flatV v = true := by cases h <;> first | rfl | cases f
theorem flatA_of : ∀ {xs : List V} {ds : List D}, DpAll K H xs ds → ds.all flatD = true → xs.all flatV = true
  | _, _, .nil, _ => rfl
  | _, _, .cons h t, f => by
    rw [List.all_cons, Bool.and_eq_true] at f
    rw [List.all_cons, flat_of h f.1, flatA_of t f.2]
    rfl
theorem eqV_eqv {x y : V} {a b : D} (ha : Dp K H x a) (hb : Dp K H y b) (fa : flatD a = true) (fb : flatD b = true) : eqV x y = PyData.eqv a b := by
  cases ha <;> first | (cases fa; done) | (cases hb <;> first | (cases fb; done) | (simp [eqV, PyData.eqv]; done) | rfl)
theorem inV_eqv {x : V} {a : D} (ha : Dp K H x a) (fa : flatD a = true) : ∀ {xs : List V} {ds : List D}, DpAll K H xs ds → ds.all flatD = true → inV x xs = ds.any fun z => PyData.eqv z a
  | _, _, .nil, _ => rfl
  | _, _, .cons (vs := vs) (ds := ds) h t, f => by
    rw [List.all_cons, Bool.and_eq_true] at f
    have ih := inV_eqv ha fa t f.2
    unfold inV at ih ⊢
    rw [List.any_cons, List.any_cons, ih, eqV_eqv h ha f.1 fa]
theorem rd_inT {neg : Bool} : RD K (rIn K neg) (dInT neg) := by
  refine ⟨fun {H T x y a b d} dis ha hb h Q q => ?_⟩
  unfold dInT at h
  split at h
  · rename_i ds
    split at h
    · rename_i c
      rw [Bool.and_eq_true] at c
      cases h
      obtain ⟨p, xs, rfl, hs, g⟩ := dp_tup hb
      refine ⟨p, xs, rfl, .inr (sqt_ov dis hs), flat_of ha c.1, flatA_of g c.2, ?_⟩
      rw [inV_eqv ha c.1 g c.2]
      exact q _ H (Same.refl H) dis (.bl _)
    · cases h
  · cases h
end
end DD

set_option Elab.async false
set_option linter.all false
set_option maxRecDepth 100000
set_option maxHeartbeats 4000000
namespace DD
variable [TabQ] [ExQ]
open PySem PySem.Spec PyProof.Rows L2

/-! ### mirrors of statements -/
def sNext : En → Option Fl := fun ρ => some (.nx ρ)
def sSeq (a b : En → Option Fl) : En → Option Fl := fun ρ => (a ρ).bind fun f => match f with
  | .nx ρ' => b ρ'
  | f => some f
def sIf (c : En → Option Bool) (a b : En → Option Fl) : En → Option Fl := fun ρ => (c ρ).bind fun x => if x = true then a ρ else b ρ
def sRet (a : En → Option D) : En → Option Fl := fun ρ => (a ρ).map Fl.rt
def sDrop (a : En → Option D) : En → Option Fl := fun ρ => (a ρ).map fun _ => .nx ρ
def gSet (i : Nat) (d : D) (ρ : En) : Option En := some (ρ.set i (some (.val d)))
def sAsg (a : En → Option D) (g : D → En → Option En) : En → Option Fl := fun ρ => (a ρ).bind fun d => (g d ρ).map Fl.nx
def sOwn (i : Nat) (a : En → Option (List D)) : En → Option Fl := fun ρ => (a ρ).map fun ds => .nx (ρ.set i (some (.own ds)))
def sFrz (i : Nat) (a : En → Option Fl) : En → Option Fl := fun ρ => a (frz i ρ)
def sPar (i j : Nat) (a b : En → Option D) : En → Option Fl := fun ρ => (a ρ).bind fun x => (b ρ).map fun y => .nx ((ρ.set i (some (.val x))).set j (some (.val y)))
def sBrk : En → Option Fl := fun ρ => some (.bk ρ)
def sCnt : En → Option Fl := fun ρ => some (.ct ρ)
def sStop : En → Option Fl := fun _ => none
def loop (g : D → En → Option En) (b : En → Option Fl) : List D → En → Option Fl
  | [], ρ => some (.nx ρ)
  | d :: ds, ρ => (g d ρ).bind fun ρ1 => (b ρ1).bind fun f => match f with
    | .nx ρ2 => loop g b ds ρ2
    | .ct ρ2 => loop g b ds ρ2
    | .bk ρ2 => some (.nx ρ2)
    | .rt d => some (.rt d)
def sFor (it : En → Option (List D)) (g : D → En → Option En) (b : En → Option Fl) : En → Option Fl := fun ρ => (it ρ).bind fun ds => loop g b ds ρ
def whl (c : En → Option Bool) (b : En → Option Fl) : Nat → En → Option Fl
  | 0, _ => none
  | n + 1, ρ => (c ρ).bind fun x => if x = true then (b ρ).bind fun f => match f with
      | .nx ρ2 => whl c b n ρ2
      | .ct ρ2 => whl c b n ρ2
      | .bk ρ2 => some (.nx ρ2)
      | .rt d => some (.rt d)
    else some (.nx ρ)
def sWhile (fuel : En → Nat) (c : En → Option Bool) (b : En → Option Fl) : En → Option Fl := fun ρ => whl c b (fuel ρ) ρ
def sAppend (i : Nat) (a : En → Option D) : En → Option Fl := fun ρ => match ρ[i]? with
  | some (some (.own ds)) => (a ρ).bind fun d => if ds.length < cap then some (.nx (ρ.set i (some (.own (ds ++ [d]))))) else none
  | _ => none
def sExtend (i : Nat) (a : En → Option (List D)) : En → Option Fl := fun ρ => match ρ[i]? with
  | some (some (.own ds)) => (a ρ).bind fun es => if ds.length + es.length ≤ cap then some (.nx (ρ.set i (some (.own (ds ++ es))))) else none
  | _ => none

section
variable {K : PySem.W.Frag} {t u : TS} {te ta tb : TE} {ma mb : En → Option D} {m1 m2 : En → Option Fl}
theorem st_next : TSm K tNext sNext := ⟨fun {H0 T0 σ ρ H T f} G h E q => by cases h; exact q σ H T G⟩
theorem st_brk : TSm K tBreak sBrk := ⟨fun {H0 T0 σ ρ H T f} G h E q => by cases h; exact q σ H T G⟩
theorem st_cnt : TSm K tCont sCnt := ⟨fun {H0 T0 σ ρ H T f} G h E q => by cases h; exact q σ H T G⟩
theorem st_stop {t : TS} : TSm K t sStop := ⟨fun {H0 T0 σ ρ H T f} G h E q => by cases h⟩
theorem st_seq (h1 : TSm K t m1) (h2 : TSm K u m2) : TSm K (tSeq t u) (sSeq m1 m2) := by
  refine ⟨fun {H0 T0 σ ρ H T f} G h E q => ?_⟩
  obtain ⟨x, hx, h⟩ := bind_some h
  refine h1.run G hx _ ?_
  cases x with
  | nx ρ' => exact fun σ' H' T' G' => h2.run G' h E q
  | rt d => cases h; exact q
  | bk ρ' => cases h; exact q
  | ct ρ' => cases h; exact q
theorem FlOk.mono {H0 : Hp} {T0 : Ov} {E : Ends} {f : Fl} (h : FlOk K H0 T0 E f) : FlOk K H0 T0 E f := h
theorem st_if {tc : TT} {mc : En → Option Bool} (hc : TTm K tc mc) (h1 : TSm K t m1) (h2 : TSm K u m2) : TSm K (tIfS tc t u) (sIf mc m1 m2) := by
  refine ⟨fun {H0 T0 σ ρ H T f} G h E q => ?_⟩
  obtain ⟨x, hx, h⟩ := bind_some h
  refine hc.run G hx _ fun H1 s1 d1 => ?_
  cases x with
  | true =>
    rw [if_pos rfl] at h ⊢
    exact h1.run (G.mono s1 d1) h E q
  | false =>
    rw [if_neg Bool.false_ne_true] at h ⊢
    exact h2.run (G.mono s1 d1) h E q
theorem st_ret (ha : ET K te ma) : TSm K (tRet te) (sRet ma) := by
  refine ⟨fun {H0 T0 σ ρ H T f} G h E q => ?_⟩
  obtain ⟨x, hx, h⟩ := map_some h
  subst h
  exact ha.run G hx _ fun v H1 s1 d1 p1 => q v H1 T (G.ex.trans s1) d1 G.ext p1
theorem st_drop (ha : ET K te ma) : TSm K (tDrop te) (sDrop ma) := by
  refine ⟨fun {H0 T0 σ ρ H T f} G h E q => ?_⟩
  obtain ⟨x, hx, h⟩ := map_some h
  subst h
  exact ha.run G hx _ fun v H1 s1 d1 p1 => q σ H1 T (G.mono s1 d1)
theorem tg_name (i : Nat) {vs : List Nat} (hi : i ∈ vs) : TGm K vs (gName i) (gSet i) := by
  refine ⟨fun {H0 T0 σ ρ ρ2 H T v d} G g h Q q => ?_⟩
  cases h
  refine q _ H (G.set g) (Same.refl H) ?_
  have wset : ∀ (vs : List Nat) (σ : L2.St) (x : Option V), i ∈ vs → wipe (σ.set i x) vs = wipe σ vs := by
    intro vs
    induction vs with
    | nil => intro σ x h; cases h
    | cons j r ih =>
      intro σ x h
      show (wipe (σ.set i x) r).set j none = (wipe σ r).set j none
      rcases List.mem_cons.mp h with rfl | h
      · by_cases hr : i ∈ r
        · rw [ih σ x hr]
        · have : ∀ (r : List Nat) (σ : L2.St), i ∉ r → wipe (σ.set i x) r = (wipe σ r).set i x := by
            intro r
            induction r with
            | nil => intro σ _; rfl
            | cons k r ih2 =>
              intro σ h
              show (wipe (σ.set i x) r).set k none = ((wipe σ r).set k none).set i x
              rw [ih2 σ (fun z => h (List.mem_cons_of_mem _ z)), List.set_comm _ _ (fun z : i = k => h (by rw [z]; exact List.mem_cons_self))]
          rw [this r σ hr, List.set_set]
      · rw [ih σ x h]
  exact wset vs σ _ hi
theorem st_asg {vs : List Nat} {g : TG} {mg : D → En → Option En} (ha : ET K te ma) (hg : TGm K vs g mg) : TSm K (tAsg te g) (sAsg ma mg) := by
  refine ⟨fun {H0 T0 σ ρ H T f} G h E q => ?_⟩
  obtain ⟨x, hx, h⟩ := bind_some h
  obtain ⟨ρ2, h2, h⟩ := map_some h
  subst h
  exact ha.run G hx _ fun v H1 s1 d1 p1 => hg.run (G.mono s1 d1) p1 h2 _ fun σ2 H2 G2 _ _ => q σ2 H2 T G2
theorem st_set (i : Nat) (ha : ET K te ma) : TSm K (tAsg te (gName i)) (sAsg ma (gSet i)) := st_asg ha (tg_name i (vs := [i]) List.mem_cons_self)
theorem st_own (i : Nat) {m : En → Option (List D)} (ha : FL K te m) : TSm K (tAsg te (gName i)) (sOwn i m) := by
  refine ⟨fun {H0 T0 σ ρ H T f} G h E q => ?_⟩
  obtain ⟨ds, hd, h⟩ := map_some h
  subst h
  refine ha.run G hd _ fun p xs H1 s1 d1 n1 p1 => ?_
  rw [upd_put]
  exact q _ _ _ ((G.mono s1 d1).setOwn p1 n1)
theorem st_frz (i : Nat) (h1 : TSm K t m1) : TSm K t (sFrz i m1) := by
  refine ⟨fun {H0 T0 σ ρ H T f} G h E q => ?_⟩
  obtain ⟨H', T', G', e, _⟩ := G.freeze i
  rw [e]
  exact h1.run G' h E q
theorem st_par {i j : Nat} (ha : ET K ta ma) (hb : ET K tb mb) : TSm K (tPar i j (tCons ta (tCons tb tNil))) (sPar i j ma mb) := by
  refine ⟨fun {H0 T0 σ ρ H T f} G h E q => ?_⟩
  obtain ⟨x, hx, h⟩ := bind_some h
  obtain ⟨y, hy, h⟩ := map_some h
  subst h
  refine ha.run G hx _ fun v H1 s1 d1 p1 => ?_
  refine hb.run (G.mono s1 d1) hy _ fun w H2 s2 d2 p2 => ⟨v, w, rfl, ?_⟩
  exact q _ H2 T (((G.mono (s1.trans s2) d2).set (dp_mono s2 p1)).set p2)
theorem st_append {i : Nat} (ha : ET K te ma) : TSm K (tDrop (tBM K "list" rAppend (tVar i) (tCons te tNil))) (sAppend i ma) := by
  refine ⟨fun {H0 T0 σ ρ H T f} G h E q => ?_⟩
  unfold sAppend at h
  split at h
  · rename_i ds e
    obtain ⟨x, hx, h⟩ := bind_some h
    split at h
    · rename_i hz
      cases h
      obtain ⟨p, xs, a, b, c, g⟩ := G.own i ds e
      refine ⟨.ref p, a, .inl ⟨rfl, xs, SqL.of (ov_own b)⟩, ?_⟩
      refine ha.run G hx _ fun v H1 s1 d1 p1 => ?_
      refine ⟨p, xs, v, rfl, rfl, ov_own b, cap_lt (by rw [dpa_len g]; omega), ?_⟩
      rw [upd_put]
      exact q _ _ _ ((G.mono s1 d1).turn e a b (dpa_snoc (dpa_mono s1 g) p1))
    · cases h
  · cases h
theorem st_extend {i : Nat} {m : En → Option (List D)} (ha : FL K te m) : TSm K (tDrop (tBM K "list" rExtend (tVar i) (tCons te tNil))) (sExtend i m) := by
  refine ⟨fun {H0 T0 σ ρ H T f} G h E q => ?_⟩
  unfold sExtend at h
  split at h
  · rename_i ds e
    obtain ⟨es, hx, h⟩ := bind_some h
    split at h
    · rename_i hz
      cases h
      obtain ⟨p, xs, a, b, c, g⟩ := G.own i ds e
      refine ⟨.ref p, a, .inl ⟨rfl, xs, SqL.of (ov_own b)⟩, ?_⟩
      refine ha.run G hx _ fun r ys H1 s1 d1 n1 p1 => ?_
      obtain ⟨nT, nH⟩ := ov_free n1
      have ne : p ≠ r := fun z => by rw [← z, b] at nT; cases nT
      refine ⟨p, r, xs, ys, rfl, rfl, by rw [upd_ne ne]; exact ov_own b, upd_same, cap_line (by rw [dpa_len g, dpa_len p1]; exact hz), ?_⟩
      rw [upd_ov nT, upd_put]
      have s2 : Same H1 (upd H1 r (.lst ys)) := same_new nH
      exact q _ _ _ ((G.mono (s1.trans s2) (dis_upd d1 nT nH)).turn e a b (dpa_append (dpa_mono (s1.trans s2) g) (dpa_mono s2 p1)))
    · cases h
  · cases h
theorem st_for {wi : TI} {mi : En → Option (List D)} {vs : List Nat} {g : TG} {mg : D → En → Option En} (hi : IT K wi mi) (hg : TGm K vs g mg) (hb : TSm K t m1) : TSm K (tFor wi g t) (sFor mi mg m1) := by
  refine ⟨fun {H0 T0 σ ρ H T f} G h E q => ?_⟩
  obtain ⟨ds, hd, h⟩ := bind_some h
  refine hi.run G hd _ fun J Hm s1 d1 w => ?_
  refine ⟨fun i m σ Hc => i ≤ ds.length ∧ m = ds.length - i ∧ ∃ ρ H T, Hc = ov H T ∧ Good K H0 T0 σ ρ H T ∧ Same Hm H ∧ loop mg m1 (ds.drop i) ρ = some f, ⟨ds.length, Nat.zero_le _, rfl, ρ, Hm, T, rfl, G.mono s1 d1, Same.refl Hm, h⟩, ?_⟩
  rintro i m σ1 Hc ⟨hi, rfl, ρ1, H1, T1, rfl, G1, sm, hl⟩
  by_cases hlt : i < ds.length
  · have hge : ds[i]? = some ds[i] := List.getElem?_eq_getElem hlt
    rw [List.drop_eq_getElem_cons hlt] at hl
    obtain ⟨ρ2, h2, hl⟩ := bind_some hl
    obtain ⟨f3, h3, hl⟩ := bind_some hl
    refine .inr ⟨w.go i sm G1.dis hlt, fun σ' Hc' => ∃ ρ H T, Hc' = ov H T ∧ Good K H0 T0 σ' ρ H T ∧ Same Hm H ∧ loop mg m1 (ds.drop (i + 1)) ρ = some f, fun σ' Hc' ⟨ρ', H', T', e', G', s', l'⟩ => ⟨ds.length - (i + 1), by omega, by omega, rfl, ρ', H', T', e', G', s', l'⟩, fun x Hc' y => ?_⟩
    obtain ⟨H2, rfl, s2, d2, p2⟩ := w.yld i sm G1.dis hge y
    refine hg.run (G1.mono s2 d2) p2 h2 _ fun σ3 H3 G3 s3 _ => ?_
    refine hb.run (H0 := H3) (T0 := T0) (σ := σ3) (ρ := ρ2) (H := H3) (T := T1) ⟨G3.len, G3.val, G3.own, G3.inj, G3.dis, G3.ext, Same.refl H3, G3.exc⟩ h3 _ ?_
    have s03 : Same H0 H3 := G3.ex
    cases f3 with
    | nx ρ4 => exact fun σ4 H4 T4 G4 => ⟨ρ4, H4, T4, rfl, ⟨G4.len, G4.val, G4.own, G4.inj, G4.dis, G4.ext, s03.trans G4.ex, G4.exc⟩, (sm.trans (s2.trans s3)).trans G4.ex, hl⟩
    | ct ρ4 => exact fun σ4 H4 T4 G4 => ⟨ρ4, H4, T4, rfl, ⟨G4.len, G4.val, G4.own, G4.inj, G4.dis, G4.ext, s03.trans G4.ex, G4.exc⟩, (sm.trans (s2.trans s3)).trans G4.ex, hl⟩
    | bk ρ4 =>
      cases hl
      exact fun σ4 H4 T4 G4 => q σ4 H4 T4 ⟨G4.len, G4.val, G4.own, G4.inj, G4.dis, G4.ext, s03.trans G4.ex, G4.exc⟩
    | rt d =>
      cases hl
      exact fun v H4 T4 s4 d4 e4 p4 => q v H4 T4 (s03.trans s4) d4 e4 p4
  · have e : i = ds.length := by omega
    subst e
    rw [List.drop_length] at hl
    cases hl
    exact .inl ⟨w.stop sm G1.dis, q σ1 H1 T1 G1⟩
theorem st_while {tc : TT} {mc : En → Option Bool} (fuel : En → Nat) (hc : TTm K tc mc) (hb : TSm K t m1) : TSm K (tWhile tc t) (sWhile fuel mc m1) := by
  refine ⟨fun {H0 T0 σ ρ H T f} G h E q => ?_⟩
  refine ⟨fun m σ Hc => ∃ ρ H T, Hc = ov H T ∧ Good K H0 T0 σ ρ H T ∧ whl mc m1 m ρ = some f, ⟨fuel ρ, ρ, H, T, rfl, G, h⟩, ?_⟩
  rintro m σ1 Hc ⟨ρ1, H1, T1, rfl, G1, hw⟩
  cases m with
  | zero => cases hw
  | succ n =>
    obtain ⟨x, hx, hw⟩ := bind_some hw
    refine hc.run G1 hx _ fun H2 s2 d2 => ?_
    have G2 := G1.mono s2 d2
    cases x with
    | true =>
      rw [if_pos rfl] at hw ⊢
      obtain ⟨f3, h3, hl⟩ := bind_some hw
      refine ⟨fun σ' Hc' => ∃ ρ H T, Hc' = ov H T ∧ Good K H0 T0 σ' ρ H T ∧ whl mc m1 n ρ = some f, fun σ' Hc' h' => ⟨n, Nat.lt_succ_self n, h'⟩, ?_⟩
      refine hb.run G2 h3 _ ?_
      cases f3 with
      | nx ρ4 => exact fun σ4 H4 T4 G4 => ⟨ρ4, H4, T4, rfl, G4, hl⟩
      | ct ρ4 => exact fun σ4 H4 T4 G4 => ⟨ρ4, H4, T4, rfl, G4, hl⟩
      | bk ρ4 => cases hl; exact q
      | rt d => cases hl; exact q
    | false =>
      rw [if_neg Bool.false_ne_true] at hw ⊢
      cases hw
      exact q σ1 H2 T1 G2

/-! ### what is walked -/
def its : D → Option (List D)
  | .list ds => some ds
  | .tuple ds => some ds
  | .str z => some (z.cps.toList.map fun c => .str ⟨#[c]⟩)
  | _ => none
def mIter (a : En → Option D) : En → Option (List D) := fun ρ => (a ρ).bind its
def iAny (K : PySem.W.Frag) (te : TE) : TI := fun σ H R => te σ H fun x H1 => (∃ a, x = .ref a ∧ (∃ xs, SqL K H1 a xs) ∧ R (Itl K a) H1) ∨ (∃ a, x = .ref a ∧ (∃ xs, SqT K H1 a xs) ∧ R (Itt K a) H1) ∨ ∃ z, x = .str z ∧ R (Its z) H1
theorem pi_any {X : Cx} {tg l : Expr} {tl : TE} (hl : PE X l tl) : PI X tg l (iAny X.K tl) := by
  refine ⟨fun pins s σ H R I h => ?_⟩
  refine thn (hl.run pins s σ H _ I h) fun v s1 ⟨x, H1, I1, r1, q1⟩ => ?_
  rcases q1 with ⟨a, e, ⟨xs, hq⟩, q⟩ | ⟨a, e, ⟨xs, hq⟩, q⟩ | ⟨z, e, q⟩
  · subst e
    cases r1
    obtain ⟨its, rv, p, hz⟩ := I1.list hq
    refine wpAny_pyIter_list p.isList ?_
    refine ⟨s1.heap.objs.size, [s1.heap.objs.size], _, _, H1, rfl, I1.kept (t' := s1.toks) fun b o e => Heap.get?_push_of_some _ e, turn_list a _, ⟨_, Heap.get?_push_size _ rfl, rfl, rfl⟩, fun b hb => ?_, q⟩
    have e : b = s1.heap.objs.size := by simpa using hb
    subst e
    exact I1.fpOk (Nat.le_refl _) (I1.hok.fresh (Nat.le_refl _))
  · subst e
    cases r1
    obtain ⟨its, rv, p, hz⟩ := I1.tuple hq
    refine wpAny_pyIter_tuple (show s1.heap.IsTuple a its.toArray from p) ?_
    refine ⟨s1.heap.objs.size, [s1.heap.objs.size], _, _, H1, rfl, I1.kept (t' := s1.toks) fun b o e => Heap.get?_push_of_some _ e, turn_tuple a _, ⟨_, Heap.get?_push_size _ rfl, rfl, rfl⟩, fun b hb => ?_, q⟩
    have e : b = s1.heap.objs.size := by simpa using hb
    subst e
    exact I1.fpOk (Nat.le_refl _) (I1.hok.fresh (Nat.le_refl _))
  · subst e
    obtain ⟨t, rfl⟩ := r1
    cases ha : z.cps.all (· < 128)
    · exact wpAny_pyIter_wide ha (pi_one (tk := s1.toks) I1 _ (turn_str _ z t "str_iterator" (.inr rfl)) ⟨_, Heap.get?_push_size _ rfl, rfl, rfl⟩ q)
    · exact wpAny_pyIter_ascii ha (pi_one (tk := s1.toks) I1 _ (turn_str _ z t "str_ascii_iterator" (.inl rfl)) ⟨_, Heap.get?_push_size _ rfl, rfl, rfl⟩ q)
theorem it_any {ma : En → Option D} (ha : ET K te ma) : IT K (iAny K te) (mIter ma) := by
  refine ⟨fun {H0 T0 σ ρ H T ds} G h R q => ?_⟩
  obtain ⟨x, hx, h⟩ := bind_some h
  refine ha.run G hx _ fun v H1 s1 d1 p1 => ?_
  unfold its at h
  split at h
  · cases h
    obtain ⟨p, xs, rfl, hs, g⟩ := dp_lst p1
    refine .inl ⟨p, rfl, ⟨xs, sql_ov d1 hs⟩, q _ H1 s1 d1 ⟨fun {H T} i sm dis hi => ?_, fun {H T} sm dis => ?_, fun {H T} i {x Hc d} sm dis hd y => ?_⟩⟩
    · rw [← dpa_len g] at hi
      exact ⟨xs, xs[i], sql_ov dis (sm.seq hs), by simp [hi]⟩
    · exact ⟨xs, sql_ov dis (sm.seq hs), by rw [dpa_len g]; exact Nat.le_refl _⟩
    · obtain ⟨rfl, y⟩ := y
      obtain ⟨w, hw, gw⟩ := dpa_get g hd
      have := y xs (sql_ov dis (sm.seq hs))
      rw [hw] at this
      cases this
      exact ⟨H, rfl, Same.refl H, dis, dp_mono sm gw⟩
  · cases h
    obtain ⟨p, xs, rfl, hs, g⟩ := dp_tup p1
    refine .inr (.inl ⟨p, rfl, ⟨xs, sqt_ov d1 hs⟩, q _ H1 s1 d1 ⟨fun {H T} i sm dis hi => ?_, fun {H T} sm dis => ?_, fun {H T} i {x Hc d} sm dis hd y => ?_⟩⟩)
    · rw [← dpa_len g] at hi
      exact ⟨xs, xs[i], sqt_ov dis (Same.sqt sm hs), by simp [hi]⟩
    · exact ⟨xs, sqt_ov dis (Same.sqt sm hs), by rw [dpa_len g]; exact Nat.le_refl _⟩
    · obtain ⟨rfl, y⟩ := y
      obtain ⟨w, hw, gw⟩ := dpa_get g hd
      have := y xs (sqt_ov dis (Same.sqt sm hs))
      rw [hw] at this
      cases this
      exact ⟨H, rfl, Same.refl H, dis, dp_mono sm gw⟩
  · rename_i z
    cases h
    refine .inr (.inr ⟨z, dp_str p1, q _ H1 s1 d1 ⟨fun {H T} i sm dis hi => ?_, fun {H T} sm dis => ?_, fun {H T} i {x Hc d} sm dis hd y => ?_⟩⟩)
    · rw [List.length_map, Array.length_toList] at hi
      exact hi
    · show z.cps.size ≤ _
      rw [List.length_map, Array.length_toList]
      exact Nat.le_refl _
    · obtain ⟨rfl, c, hc, rfl⟩ := y
      rw [List.getElem?_map, Array.getElem?_toList, hc] at hd
      cases hd
      exact ⟨H, rfl, Same.refl H, dis, .str _⟩
  · cases h
/-- range(n), range(a, b) -/
def upto (lo : Int) (n : Nat) : List D := (List.range n).map fun (i : Nat) => PyData.int (lo + (i : Int))
def mRange (a : En → Option (List D)) : En → Option (List D) := fun ρ => (a ρ).bind fun ds => match ds with
  | [.int j] => if -(2 ^ 62) ≤ j ∧ j < 2 ^ 62 then some (upto 0 j.toNat) else none
  | [.int i, .int j] => if -(2 ^ 62) ≤ i ∧ i < 2 ^ 62 ∧ -(2 ^ 62) ≤ j ∧ j < 2 ^ 62 then some (upto i (j - i).toNat) else none
  | _ => none
theorem wk_range {Hm : Hp} {lo : Int} {n : Nat} : Wk K (Itr lo n) Hm (upto lo n) := by
  refine ⟨fun {H T} i sm dis hi => ?_, fun {H T} sm dis => ?_, fun {H T} i {x Hc d} sm dis hd y => ?_⟩
  · unfold upto at hi
    rw [List.length_map, List.length_range] at hi
    exact hi
  · unfold upto
    rw [List.length_map, List.length_range]
    exact Nat.le_refl _
  · obtain ⟨rfl, rfl⟩ := y
    unfold upto at hd
    rw [List.getElem?_map] at hd
    by_cases hi : i < n
    · rw [List.getElem?_range hi] at hd
      cases hd
      exact ⟨H, rfl, Same.refl H, dis, .int _⟩
    · rw [List.getElem?_eq_none (by simpa using hi)] at hd
      cases hd
theorem it_range1 {ta : TA} {m : En → Option (List D)} (ha : TAm K ta m) : IT K (iRng1 ta) (mRange fun ρ => (m ρ).bind fun ds => if ds.length = 1 then some ds else none) := by
  refine ⟨fun {H0 T0 σ ρ H T ds} G h R q => ?_⟩
  obtain ⟨x, hx, h⟩ := bind_some h
  obtain ⟨y, hy, hx⟩ := bind_some hx
  split at hx
  · rename_i hl
    cases hx
    refine ha.run G hy _ fun vs H1 s1 d1 p1 => ?_
    split at h
    · split at h
      · rename_i hb
        cases h
        obtain ⟨v, rfl, g⟩ := dpa_one p1
        cases dp_int g
        exact ⟨_, rfl, hb.1, hb.2, q _ H1 s1 d1 wk_range⟩
      · cases h
    · cases hl
    · cases h
  · cases hx
theorem it_range2 {ta : TA} {m : En → Option (List D)} (ha : TAm K ta m) : IT K (iRng2 ta) (mRange fun ρ => (m ρ).bind fun ds => if ds.length = 2 then some ds else none) := by
  refine ⟨fun {H0 T0 σ ρ H T ds} G h R q => ?_⟩
  obtain ⟨x, hx, h⟩ := bind_some h
  obtain ⟨y, hy, hx⟩ := bind_some hx
  split at hx
  · rename_i hl
    cases hx
    refine ha.run G hy _ fun vs H1 s1 d1 p1 => ?_
    split at h
    · cases hl
    · split at h
      · rename_i hb
        cases h
        obtain ⟨u, v, rfl, g1, g2⟩ := dpa_two p1
        cases dp_int g1
        cases dp_int g2
        exact ⟨_, _, rfl, hb, q _ H1 s1 d1 wk_range⟩
      · cases h
    · cases h
  · cases hx

/-! ### targets of several names -/
def gNilM (ds : List D) (ρ : En) : Option En := match ds with
  | [] => some ρ
  | _ => none
def gConsM (g : D → En → Option En) (r : List D → En → Option En) (ds : List D) (ρ : En) : Option En := match ds with
  | d :: es => (g d ρ).bind fun ρ1 => r es ρ1
  | [] => none
def gTupM (n : Nat) (g : List D → En → Option En) (d : D) (ρ : En) : Option En := match d with
  | .tuple ds => if ds.length = n then g ds ρ else none
  | _ => none
theorem tgs_nil {vs : List Nat} : TGsm K vs gNil gNilM := by
  refine ⟨fun {H0 T0 σ ρ ρ2 H T xs ds} G g h Q q => ?_⟩
  unfold gNilM at h
  split at h
  · cases h
    cases g
    exact ⟨rfl, q σ H G (Same.refl H) rfl⟩
  · cases h
theorem tgs_cons {vs : List Nat} {g : TG} {gs : TGs} {mg : D → En → Option En} {mr : List D → En → Option En} (h1 : TGm K vs g mg) (h2 : TGsm K vs gs mr) : TGsm K vs (gCons g gs) (gConsM mg mr) := by
  refine ⟨fun {H0 T0 σ ρ ρ2 H T xs ds} G g h Q q => ?_⟩
  unfold gConsM at h
  split at h
  · obtain ⟨ρ1, e1, h⟩ := bind_some h
    cases g with
    | cons a b =>
      refine ⟨_, _, rfl, ?_⟩
      refine h1.run G a e1 _ fun σ2 H2 G2 s2 w2 => ?_
      exact h2.run G2 (dpa_mono s2 b) h _ fun σ3 H3 G3 s3 w3 => q σ3 H3 G3 (s2.trans s3) (w3.trans w2)
  · cases h
theorem tg_tup {vs : List Nat} {n : Nat} {gs : TGs} {mr : List D → En → Option En} (h : TGsm K vs gs mr) : TGm K vs (gTup K n gs) (gTupM n mr) := by
  refine ⟨fun {H0 T0 σ ρ ρ2 H T v d} G g e Q q => ?_⟩
  unfold gTupM at e
  split at e
  · split at e
    · rename_i hn
      obtain ⟨p, xs, rfl, hs, ga⟩ := dp_tup g
      exact ⟨p, xs, rfl, sqt_ov G.dis hs, by rw [dpa_len ga]; exact hn, h.run G ga e Q q⟩
    · cases e
  · cases e

/-! ### comprehensions -/
def wipeM (ρ : En) : List Nat → En
  | [] => ρ
  | v :: vs => (wipeM ρ vs).set v none
def coll (g : D → En → Option En) (c : En → Option Bool) (e : En → Option D) (ρ : En) : List D → Option (List D)
  | [] => some []
  | d :: ds => (g d ρ).bind fun ρ1 => (c ρ1).bind fun b => if b = true then (e ρ1).bind fun x => (coll g c e ρ ds).map fun r => x :: r else coll g c e ρ ds
def mLc (it : En → Option (List D)) (g : D → En → Option En) (c : En → Option Bool) (e : En → Option D) (vs : List Nat) : En → Option (List D) := fun ρ => (it ρ).bind fun ds => if ds.length ≤ cap then coll g c e (wipeM ρ vs) ds else none
def mYes : En → Option Bool := fun _ => some true
theorem et_yes : TTm K tYes mYes := ⟨fun {H0 T0 σ ρ H T b} G h Q q => by cases h; exact q H (Same.refl H) G.dis⟩
theorem Good.drop {K : PySem.W.Frag} {H0 H : Hp} {T0 T : Ov} {σ : L2.St} {ρ : En} (i : Nat) (G : Good K H0 T0 σ ρ H T) : Good K H0 T0 (σ.set i none) (ρ.set i none) H T := by
  refine ⟨by rw [List.length_set, List.length_set]; exact G.len, fun j x h => ?_, fun j x h => ?_, fun j k ds es p h1 h2 h3 h4 => ?_, G.dis, G.ext, G.ex, exc_set G.exc (fun _ z => by cases z)⟩
  · rcases get_set h with ⟨_, q, _⟩ | ⟨e, q⟩
    · cases q
    · obtain ⟨w, a, b⟩ := G.val j x q
      exact ⟨w, by rw [List.getElem?_set_ne (Ne.symm e)]; exact a, b⟩
  · rcases get_set h with ⟨_, q, _⟩ | ⟨e, q⟩
    · cases q
    · obtain ⟨p, xs, a, b⟩ := G.own j x q
      exact ⟨p, xs, by rw [List.getElem?_set_ne (Ne.symm e)]; exact a, b⟩
  · rcases get_set h1 with ⟨_, q, _⟩ | ⟨e1, q1⟩
    · cases q
    · rcases get_set h2 with ⟨_, q, _⟩ | ⟨e2, q2⟩
      · cases q
      · rw [List.getElem?_set_ne (Ne.symm e1)] at h3
        rw [List.getElem?_set_ne (Ne.symm e2)] at h4
        exact G.inj j k ds es p q1 q2 h3 h4
theorem Good.wipe {K : PySem.W.Frag} {H0 H : Hp} {T0 T : Ov} {σ : L2.St} {ρ : En} (G : Good K H0 T0 σ ρ H T) : ∀ vs : List Nat, Good K H0 T0 (wipe σ vs) (wipeM ρ vs) H T
  | [] => G
  | v :: vs => (Good.wipe G vs).drop v
theorem wipe_wipe (σ : L2.St) (vs : List Nat) : wipe (wipe σ vs) vs = wipe σ vs := by
  apply List.ext_getElem?
  intro i
  have key : ∀ (vs : List Nat) (σ : L2.St), (wipe σ vs)[i]? = if i ∈ vs then (if i < σ.length then some none else none) else σ[i]? := by
    intro vs
    induction vs with
    | nil => intro σ; simp [L2.wipe]
    | cons v r ih =>
      intro σ
      show ((L2.wipe σ r).set v none)[i]? = _
      by_cases h : v = i
      · subst h
        rw [List.getElem?_set]
        simp [wipe_length]
      · rw [List.getElem?_set_ne h, ih σ]
        have : (i ∈ v :: r) ↔ i ∈ r := by simp [Ne.symm h]
        simp only [this]
  rw [key vs (wipe σ vs), key vs σ, wipe_length]
  split <;> rfl
/-- one list more of one's own, known to no slot -/
theorem Good.more {K : PySem.W.Frag} {H0 H : Hp} {T0 T : Ov} {σ : L2.St} {ρ : En} {p : Addr} {xs : List V} (G : Good K H0 T0 σ ρ H T) (hp : ov H T p = none) : Good K H0 T0 σ ρ H (put T p xs) := by
  obtain ⟨hT, hH⟩ := ov_free hp
  have ne : ∀ a ys, T a = some ys → a ≠ p := fun a ys e z => by rw [z, hT] at e; cases e
  exact ⟨G.len, G.val, fun i ds h => let ⟨r, ys, a, b, c⟩ := G.own i ds h; ⟨r, ys, a, by rw [put_ne (ne r ys b)]; exact b, c⟩, G.inj, dis_put G.dis hH, fun a ys e => by rw [put_ne (ne a ys (G.ext a ys e))]; exact G.ext a ys e, G.ex, G.exc⟩
theorem put_put {T : Ov} {p : Addr} {xs ys : List V} : put (put T p xs) p ys = put T p ys := by
  funext a
  unfold put
  split <;> rfl
theorem fl_lc {wi : TI} {g : TG} {tt : TT} {te : TE} {vs : List Nat} {mi : En → Option (List D)} {mg : D → En → Option En} {mc : En → Option Bool} {me : En → Option D}
    (hi : IT K wi mi) (hg : TGm K vs g mg) (ht : TTm K tt mc) (he : ET K te me) : FL K (tLc wi g tt te vs) (mLc mi mg mc me vs) := by
  refine ⟨fun {H0 T0 σ ρ H T out} G h Q q => ?_⟩
  obtain ⟨ds, hd, h⟩ := bind_some h
  split at h
  · rename_i hz
    refine hi.run G hd _ fun J Hm s1 d1 w => ?_
    intro Dl hD
    obtain ⟨nT, nH⟩ := ov_free hD
    have G1 := (G.mono s1 d1).wipe vs
    refine ⟨fun i m Hc => i ≤ ds.length ∧ m = ds.length - i ∧ ∃ H1 acc as r, Hc = ov H1 (put T Dl acc) ∧ Same Hm H1 ∧ Dis H1 T ∧ H1 Dl = none ∧ DpAll K H1 acc as ∧ acc.length ≤ i ∧ coll mg mc me (wipeM ρ vs) (ds.drop i) = some r ∧ out = as ++ r,
      ⟨ds.length, Nat.zero_le _, rfl, Hm, [], [], out, by rw [upd_put], Same.refl Hm, d1, nH, .nil, Nat.le_refl _, h, rfl⟩, ?_⟩
    rintro i m Hc ⟨hil, rfl, H1, acc, as, r, rfl, sm, dis, nD, ga, hac, hc, eo⟩
    have dput : Dis H1 (put T Dl acc) := dis_put dis nD
    by_cases hlt : i < ds.length
    · have hge : ds[i]? = some ds[i] := List.getElem?_eq_getElem hlt
      rw [List.drop_eq_getElem_cons hlt] at hc
      obtain ⟨ρ2, h2, hc⟩ := bind_some hc
      obtain ⟨b, hb, hc⟩ := bind_some hc
      refine .inr ⟨w.go i sm dput hlt, fun Hc' => ∃ H1 acc as r, Hc' = ov H1 (put T Dl acc) ∧ Same Hm H1 ∧ Dis H1 T ∧ H1 Dl = none ∧ DpAll K H1 acc as ∧ acc.length ≤ i + 1 ∧ coll mg mc me (wipeM ρ vs) (ds.drop (i + 1)) = some r ∧ out = as ++ r,
        fun Hc' ⟨H1, acc, as, r, a1, a2, a3, a4, a5, a6, a7, a8⟩ => ⟨ds.length - (i + 1), by omega, by omega, rfl, H1, acc, as, r, a1, a2, a3, a4, a5, a6, a7, a8⟩, fun x Hc' y => ?_⟩
      obtain ⟨H2, rfl, s2, d2, p2⟩ := w.yld i sm dput hge y
      have fr : ∀ {H' : Hp}, Dis H' (put T Dl acc) → Dis H' T ∧ H' Dl = none := fun {H'} d => ⟨⟨fun a xs e => by
        by_cases z : a = Dl
        · rw [z, nT] at e; cases e
        · exact d a xs (by rw [put_ne z]; exact e), d.tab⟩, d Dl acc put_same⟩
      have G2 : Good K H0 T0 (L2.wipe σ vs) (wipeM ρ vs) H2 (put T Dl acc) := (((G.mono s1 d1).wipe vs).more hD).mono (sm.trans s2) d2
      refine hg.run G2 p2 h2 _ fun σ3 H3 G3 s3 w3 => ⟨by rw [w3, wipe_wipe], ?_⟩
      refine ht.run G3 hb _ fun H4 s4 d4 => ?_
      have G4 := G3.mono s4 d4
      cases b with
      | true =>
        rw [if_pos rfl] at hc ⊢
        obtain ⟨z, hz2, hc⟩ := bind_some hc
        obtain ⟨r', hr, hc⟩ := map_some hc
        refine he.run G4 hz2 _ fun v H5 s5 d5 p5 => ?_
        obtain ⟨dT, dn⟩ := fr d5
        refine ⟨acc, ov_own put_same, cap_lt (Nat.le_trans hac (Nat.le_trans (Nat.le_of_lt hlt) hz)), H5, acc ++ [v], as ++ [z], r', by rw [upd_put, put_put], (sm.trans s2).trans ((s3.trans s4).trans s5), dT, dn, dpa_snoc (dpa_mono (s2.trans ((s3.trans s4).trans s5)) ga) p5, by rw [List.length_append, List.length_singleton]; omega, hr, ?_⟩
        rw [eo, ← hc, List.append_assoc]
        rfl
      | false =>
        rw [if_neg Bool.false_ne_true] at hc ⊢
        obtain ⟨dT, dn⟩ := fr d4
        exact ⟨H4, acc, as, r, rfl, (sm.trans s2).trans (s3.trans s4), dT, dn, dpa_mono (s2.trans (s3.trans s4)) ga, by omega, hc, eo⟩
    · have e : i = ds.length := by omega
      subst e
      rw [List.drop_length] at hc
      cases hc
      rw [List.append_nil] at eo
      subst eo
      refine .inl ⟨w.stop sm dput, ?_⟩
      rw [← upd_put]
      have hfree : ov H1 T Dl = none := by rw [ov_none nT]; exact nD
      exact q Dl acc H1 (s1.trans sm) dis hfree ga
  · cases h

/-! ### a def -/
def start0 (N : Nat) (ds : List D) : En := ds.map (fun d => some (.val d)) ++ List.replicate (N - ds.length) none
def mDef (N : Nat) (b : En → Option Fl) (ds : List D) : Option D := (b (start0 N ds)).bind fun f => match f with
  | .rt d => some d
  | .nx _ => some .none
  | _ => none
theorem good_start {N : List Str} {vs : List V} {ds : List D} {H : Hp} {T : Ov} (h : DpAll K H vs ds) (d : Dis H T) : Good K H T (start N vs) (start0 N.length ds) H T := by
  have hl := dpa_len h
  have at0 : ∀ (i : Nat) (s : Sl), (start0 N.length ds)[i]? = some (some s) → ∃ d, ds[i]? = some d ∧ s = .val d := by
    intro i s e
    unfold start0 at e
    by_cases hi : i < ds.length
    · rw [List.getElem?_append_left (by simpa using hi), List.getElem?_map, List.getElem?_eq_getElem hi] at e
      cases e
      exact ⟨ds[i], List.getElem?_eq_getElem hi, rfl⟩
    · rw [List.getElem?_append_right (by simpa using hi), List.getElem?_replicate] at e
      split at e <;> cases e
  refine ⟨?_, fun i x e => ?_, fun i x e => ?_, fun i j as bs p e1 e2 _ _ => ?_, d, fun a xs e => e, Same.refl H, fun i c e => ?_⟩
  · unfold L2.start start0
    rw [List.length_append, List.length_append, List.length_map, List.length_map, List.length_replicate, List.length_replicate, hl]
  · obtain ⟨d, hd, es⟩ := at0 i _ e
    cases es
    obtain ⟨v, hv, g⟩ := dpa_get h hd
    refine ⟨v, ?_, g⟩
    unfold L2.start
    rw [List.getElem?_append_left (by rw [List.length_map]; exact (List.getElem?_eq_some_iff.mp hv).1), List.getElem?_map, hv]
    rfl
  · obtain ⟨d, hd, es⟩ := at0 i _ e
    cases es
  · obtain ⟨d, hd, es⟩ := at0 i _ e1
    cases es
  · obtain ⟨d, hd, es⟩ := at0 i _ e
    cases es
/-- a heap with lists of one's own on it, told apart again -/
theorem under {T0 : Ov} {X : Hp} (tab : LamX.Tabs TabQ.tabs X) (hT : ∀ a xs, T0 a = some xs → X a = some (.lst xs)) : ∃ H', X = ov H' T0 ∧ Dis H' T0 ∧ ∀ a o, X a = some o → T0 a = none → H' a = some o := by
  have key : ∀ a o, X a = some o → T0 a = none → (match T0 a with | some _ => none | none => X a) = some o := fun a o h q => by
    rw [q]; exact h
  have no : ∀ a o, X a = some o → (∀ xs, o ≠ .lst xs) → T0 a = none := fun a o h n => by
    cases q : T0 a with
    | none => rfl
    | some xs => rw [hT a xs q] at h; exact absurd (Option.some.inj h).symm (n xs)
  refine ⟨fun a => match T0 a with | some _ => none | none => X a, ?_, ⟨fun a xs h => ?_, fun p hp => ?_⟩, key⟩
  · funext a
    cases q : T0 a with
    | some xs => rw [ov_own q, hT a xs q]
    | none =>
      rw [ov_none q]
      show X a = match T0 a with | some _ => none | none => X a
      rw [q]
  · show (match T0 a with | some _ => none | none => X a) = none
    rw [h]
  · obtain ⟨ps, h1, h2, h3⟩ := tab p hp
    refine ⟨ps, key _ _ h1 (no _ _ h1 (fun _ => HO.noConfusion)), h2, fun pos cv hc => ?_⟩
    obtain ⟨c, e1, e2⟩ := h3 pos cv hc
    exact ⟨c, e1, key _ _ e2 (no _ _ e2 (fun _ => HO.noConfusion))⟩
/-- the caller's lists out of the way again -/
theorem back {H0 H : Hp} {T0 T : Ov} (d0 : Dis H0 T0) (s : Same H0 H) (d : Dis H T) (e : Ext T0 T) : ∃ H', ov H T = ov H' T0 ∧ Same H0 H' ∧ Dis H' T0 ∧ Same H H' := by
  obtain ⟨H', e1, d1, k⟩ := under (T0 := T0) (X := ov H T) (d.tab.ext (raw_ov d)) fun a xs h => ov_own (e a xs h)
  refine ⟨H', e1, fun a o h n => ?_, d1, fun a o h _ => ?_⟩
  · refine k a o (same_ov d a o (s a o h n) n) ?_
    cases q : T0 a with
    | none => rfl
    | some xs => have := d0 a xs q; rw [h] at this; cases this
  · refine k a o (raw_ov d a o h) ?_
    cases q : T0 a with
    | none => rfl
    | some xs => have := d a xs (e a xs q); rw [h] at this; cases this
theorem def_ok {P : Program} {w : World} {mg : Str → Option Value} {base : Heap} {x qual : Str} {st : Stmt} {f : Addr} {fd : FuncData} {N ps : List Str} {k : Nat} {mb : En → Option Fl} (F : Fun K x qual st f fd) (S : FnScope N ps (defScope st))
    (hbody : ∀ (cdv : Value) (A : Around) (outer : List Env) (s : Shared) (H : Hp) (E : XK), Room k (A.deeper (envOfC qual (defScope st) s.heap.objs.size f cdv)) →
      ∃ t, PSs (cxOf CX0 P w K mg base N qual (defScope st) f cdv A outer s H E).nox (defBody st) t ∧ TSm K t mb) : FnOk P w K mg base CX0 (k + 1) f fd ps (spM K ps.length (mDef N.length mb)) := by
  refine F.ok S (fun vs H Q E h => ?_) (fun cdv A outer s Hx vs Q E hr h => ?_)
  · obtain ⟨ds, d, H, T, g, hn, _⟩ := h
    rw [dpa_len g, hn]
  · obtain ⟨ds, d, H, T, g, hn, hm, rfl, dis, q⟩ := h
    obtain ⟨t, p, m⟩ := hbody cdv A outer s (ov H T) E hr
    refine ⟨t, p, ?_⟩
    obtain ⟨fl, hf, hm⟩ := bind_some hm
    refine m.run (good_start g dis) hf _ ?_
    cases fl with
    | rt d' =>
      cases hm
      intro v H' T' s1 d1 e1 p1
      obtain ⟨H2, e2, s2, d2, s3⟩ := back dis s1 d1 e1
      show Q v (ov H' T')
      rw [e2]
      exact q v H2 s2 d2 (dp_mono s3 p1)
    | nx ρ =>
      cases hm
      intro σ' H' T' G'
      obtain ⟨H2, e2, s2, d2, s3⟩ := back dis G'.ex G'.dis G'.ext
      show Q .non (ov H' T')
      rw [e2]
      exact q _ H2 s2 d2 .non
    | bk ρ => cases hm
    | ct ρ => cases hm
end
end DD

set_option Elab.async false
set_option linter.all false
set_option maxRecDepth 100000
set_option maxHeartbeats 4000000
namespace DD
variable [TabQ] [ExQ]
open PySem PySem.Spec PyProof.Rows L2
def dLt : D → D → Option D := dCmp fun i j => decide (i < j)
def dLe : D → D → Option D := dCmp fun i j => decide (i ≤ j)
def dGt : D → D → Option D := dCmp fun i j => decide (j < i)
def dGe : D → D → Option D := dCmp fun i j => decide (j ≤ i)
def lim (n : Nat) (m : List D → Option D) : List D → Option D := fun ds => if ds.length = n then m ds else none
def mRange1 (m : En → Option (List D)) : En → Option (List D) := mRange fun ρ => (m ρ).bind fun ds => if ds.length = 1 then some ds else none
def mRange2 (m : En → Option (List D)) : En → Option (List D) := mRange fun ρ => (m ρ).bind fun ds => if ds.length = 2 then some ds else none
def mIfL (c : En → Option Bool) (a b : En → Option (List D)) : En → Option (List D) := fun ρ => (c ρ).bind fun x => if x = true then a ρ else b ρ
def mStar (a : En → Option D) (b : En → Option (List D)) : En → Option (List D) := fun ρ => (a ρ).bind fun x => match x with
  | .list ds => (b ρ).map fun r => ds ++ r
  | .tuple ds => (b ρ).map fun r => ds ++ r
  | _ => none
def gLstM (n : Nat) (g : List D → En → Option En) (d : D) (ρ : En) : Option En := match d with
  | .list ds => if ds.length = n then g ds ρ else none
  | _ => none
def sPar3 (i j l : Nat) (a b c : En → Option D) : En → Option Fl := fun ρ => (a ρ).bind fun x => (b ρ).bind fun y => (c ρ).map fun z => .nx (((ρ.set i (some (.val x))).set j (some (.val y))).set l (some (.val z)))
def mCatL (a b : En → Option (List D)) : En → Option (List D) := fun ρ => (a ρ).bind fun x => (b ρ).bind fun y => if x.length + y.length ≤ cap then some (x ++ y) else none
section
variable {K : PySem.W.Frag} {te ta tb tc : TE} {ma mb mc : En → Option D}
theorem rd_lt' : RD K (rI0 fun i j => .bl (decide (i < j))) dLt := rd_lt
theorem rd_le' : RD K (rI0 fun i j => .bl (decide (i ≤ j))) dLe := rd_le
theorem rd_gt' : RD K (rI0 fun i j => .bl (decide (j < i))) dGt := rd_gt
theorem rd_ge' : RD K (rI0 fun i j => .bl (decide (j ≤ i))) dGe := rd_ge
theorem hu65 {A : Around} {k : Nat} (hr : Room k A) : A.units + 65 < cLine := by have := hr.un; omega
theorem pt_tr {X : Cx} {a : Expr} {ta : TE} (ha : PE X a ta) (he : ∀ whole, isTrue a X.env whole = (do let v ← whole; standAt a.pos; holding [v] (truthy v))) : PT X a (tTru X.K ta) := pt_truth ha he
theorem ev_call' {n : Nat} {mf : List D → Option D} {t : TA} {m : En → Option (List D)} {E : XK} (ha : TAm K t m) : ET K (tCall (spM K n mf) [] E t) (mCall (lim n mf) m) := ev_call ha
theorem it_range1' {t : TA} {m : En → Option (List D)} (ha : TAm K t m) : IT K (iRng1 t) (mRange1 m) := it_range1 ha
theorem it_range2' {t : TA} {m : En → Option (List D)} (ha : TAm K t m) : IT K (iRng2 t) (mRange2 m) := it_range2 ha
theorem fl_if {tt : TT} {m1 : En → Option Bool} {m2 m3 : En → Option (List D)} (hc : TTm K tt m1) (ha : FL K ta m2) (hb : FL K tb m3) : FL K (tIf tt ta tb) (mIfL m1 m2 m3) := by
  refine ⟨fun {H0 T0 σ ρ H T d} G h Q q => ?_⟩
  obtain ⟨x, hx, h⟩ := bind_some h
  refine hc.run G hx _ fun H1 s1 d1 => ?_
  cases x with
  | true =>
    rw [if_pos rfl] at h ⊢
    exact ha.run (G.mono s1 d1) h _ fun p xs H2 s2 d2 n2 p2 => q p xs H2 (s1.trans s2) d2 n2 p2
  | false =>
    rw [if_neg Bool.false_ne_true] at h ⊢
    exact hb.run (G.mono s1 d1) h _ fun p xs H2 s2 d2 n2 p2 => q p xs H2 (s1.trans s2) d2 n2 p2
theorem ea_star {t : TA} {m : En → Option (List D)} (ha : ET K ta ma) (hr : TAm K t m) : TAm K (StX.tStar K ta t) (mStar ma m) := by
  refine ⟨fun {H0 T0 σ ρ H T ds} G h Q q => ?_⟩
  obtain ⟨x, hx, h⟩ := bind_some h
  refine ha.run G hx _ fun v H1 s1 d1 p1 => ?_
  split at h
  · obtain ⟨r, hr2, h⟩ := map_some h
    subst h
    obtain ⟨p, xs, rfl, hs, g⟩ := dp_lst p1
    refine ⟨p, xs, rfl, .inr (sql_ov d1 hs), ?_⟩
    exact hr.run (G.mono s1 d1) hr2 _ fun vs H2 s2 d2 p2 => q _ H2 (s1.trans s2) d2 (dpa_append (dpa_mono s2 g) p2)
  · obtain ⟨r, hr2, h⟩ := map_some h
    subst h
    obtain ⟨p, xs, rfl, hs, g⟩ := dp_tup p1
    refine ⟨p, xs, rfl, .inl (sqt_ov d1 hs), ?_⟩
    exact hr.run (G.mono s1 d1) hr2 _ fun vs H2 s2 d2 p2 => q _ H2 (s1.trans s2) d2 (dpa_append (dpa_mono s2 g) p2)
  · cases h
theorem st_par3 {i j l : Nat} (ha : ET K ta ma) (hb : ET K tb mb) (hc : ET K tc mc) : TSm K (tPar3 i j l (tCons ta (tCons tb (tCons tc tNil)))) (sPar3 i j l ma mb mc) := by
  refine ⟨fun {H0 T0 σ ρ H T f} G h E q => ?_⟩
  obtain ⟨x, hx, h⟩ := bind_some h
  obtain ⟨y, hy, h⟩ := bind_some h
  obtain ⟨z, hz, h⟩ := map_some h
  subst h
  refine ha.run G hx _ fun v H1 s1 d1 p1 => ?_
  refine hb.run (G.mono s1 d1) hy _ fun w H2 s2 d2 p2 => ?_
  refine hc.run (G.mono (s1.trans s2) d2) hz _ fun u H3 s3 d3 p3 => ⟨v, w, u, rfl, ?_⟩
  exact q _ H3 T ((((G.mono ((s1.trans s2).trans s3) d3).set (dp_mono (s2.trans s3) p1)).set (dp_mono s3 p2)).set p3)
end
end DD
namespace DD
variable [TabQ] [ExQ]
open PySem PySem.Spec PyProof.Rows L2
def fuelOf (i : Nat) (ρ : En) : Nat := match ρ[i]? with
  | some (some (.val (.int k))) => k.toNat + 1
  | _ => 1
end DD

set_option Elab.async false
set_option linter.all false
set_option maxRecDepth 100000
set_option maxHeartbeats 4000000
namespace DD
variable [TabQ] [ExQ]
open PySem PySem.Spec PyProof.Rows L2

/-! ### head, *rest = a row -/
section
variable {prog : Program} {w : World} {A : Around} {E : Value → Shared → Prop} {s : Shared}
theorem star_items {t : Addr} {items : Array Value} {Q : List Value → Shared → Prop} (hl : IsTup s.heap t items) (hh : A.handled = none) (h1 : 1 ≤ items.size) (hz : items.size ≤ sizeLine)
    (h : ∀ (h' : Heap) (tk : Nat), (∀ b o, s.heap.get? b = some o → h'.get? b = some o) → Q [items.toList.headD .none, .ref h'.objs.size] { s with heap := h'.push { cls := .type "list", data := .seq (items.toList.drop 1).toArray }, toks := tk }) :
    wpAny (model prog w) A (unpackItems (.ref t) 2 (some 1)) Q E s := by
  have hne : t ≠ s.heap.objs.size := by
    obtain ⟨o, ho, _⟩ := hl
    exact Nat.ne_of_lt (Heap.lt_size ho)
  unfold unpackItems notIterableAtAll
  refine wpAny_bind (wpAny_bind (wpAny_specialOf hl.typeIs slot_tuple_iter.lookup (wpAny_pure ?_)))
  simp only [Option.isNone_some, Bool.false_eq_true, if_false]
  refine wpAny_bind (wpAny_holding (iter_tuple hl ?_))
  refine wpAny_bind (wpAny_holding (draw_tuple hne 1 0 _ _ ⟨_, Heap.get?_push_size _ rfl, rfl, rfl⟩ (hl.push _) (by omega) fun g1 st1 same1 => ?_))
  have tup1 : IsTup g1 t items := (hl.push _).extBut same1.extBut hne
  have it1 := st1
  rw [Nat.zero_add] at it1
  obtain ⟨oi, hoi, _⟩ := id it1
  obtain ⟨ot, hot, _⟩ := id tup1
  have hd : List.take 1 (List.drop 0 items.toList) = [items.toList.headD .none] := by
    cases e : items.toList with
    | nil =>
      have hz0 : items.size = 0 := by simpa using congrArg List.length e
      omega
    | cons x r => rfl
  rw [hd]
  rw [if_neg (by show ¬ (1 < 1); omega)]
  refine wpAny_bind (wpAny_holding (PySem.W.kun_collect (s := { s with heap := g1 }) (T := "tuple_iterator") (.inr (.inr (.inr rfl))) (Walks.tuple (A := A.in1) hh s.heap.objs.size t hne items) (fun j u st => st.1.typeIs) (k := 1) h1 ⟨it1, tup1⟩ (Heap.lt_size hoi) (Heap.lt_size hot) (fun g2 tk keep2 => ?_) hz))
  have keep : ∀ b o, s.heap.get? b = some o → g2.get? b = some o := fun b o e => by
    have nb : b ≠ s.heap.objs.size := Nat.ne_of_lt (Heap.lt_size e)
    exact keep2 b o nb (same1.extBut b o nb (Heap.get?_push_of_some _ e))
  have len : (items.toList.drop 1).length = items.size - 1 := by rw [List.length_drop, Array.length_toList]
  show wpAny _ _ (if (items.toList.drop 1).length < 2 - 1 - 1 then _ else _) _ _ _
  rw [if_neg (by omega)]
  show wpAny _ _ (newList ((items.toList.drop 1).take ((items.toList.drop 1).length - (2 - 1 - 1))) >>= fun d => pure ([items.toList.headD .none] ++ [d] ++ (items.toList.drop 1).drop ((items.toList.drop 1).length - (2 - 1 - 1)))) _ _ _
  have e1 : (items.toList.drop 1).take ((items.toList.drop 1).length - (2 - 1 - 1)) = items.toList.drop 1 := List.take_of_length_le (by omega)
  have e2 : (items.toList.drop 1).drop ((items.toList.drop 1).length - (2 - 1 - 1)) = [] := List.drop_of_length_le (by omega)
  rw [e1, e2]
  refine wpAny_bind (wpAny_newList ?_ (by rw [len]; omega))
  exact wpAny_pure (h g2 tk keep)
end
/-- head, *rest = a tuple -/
def gHdRest (K : PySem.W.Frag) (g1 g2 : TG) : TG := fun v σ H Q => ∃ a x xs, v = .ref a ∧ SqT K H a (x :: xs) ∧ ∀ p, H p = none → g1 x σ (upd H p (.lst xs)) fun σ' H' => g2 (.ref p) σ' H' Q
theorem pg_headRest {X : Cx} {e1 e2 : Expr} {g1 g2 : TG} {k : Nat} {p1 pos : Pos} (hc : X.calm = true) (h1 : PG X e1 g1) (h2 : PG X e2 g2)
    (ha : assignEach [e1, .Starred e2 p1] X.env = [(false, assign e1 X.env), (true, assign e2 X.env)] := by rfl) : PG X (.Tuple [e1, .Starred e2 p1] k pos) (gHdRest X.K g1 g2) := by
  refine ⟨fun pins s σ H v u Q I r hw => ?_⟩
  obtain ⟨a, x, xs, e, hq, hw⟩ := hw
  subst e
  cases r
  obtain ⟨its, rv, ht, hz⟩ := I.tuple hq
  rw [PyProof.Rows.assign_Tuple]
  refine wpAny_bind (wpAny_standAt ?_)
  unfold unpack
  rw [ha]
  have hl := rv.length
  refine wpAny_bind (wpAny_holding (star_items ht (I.ok.hd hc) (by rw [List.size_toArray, ← hl]; simp) (by rw [List.size_toArray, ← hl]; exact hz) fun h' tk kp => ?_))
  cases rv with
  | cons r1 r2 =>
    rename_i u1 us
    have I1 : Inv X pins σ H { s with heap := h', toks := tk } := I.kept kp
    have nf : H h'.objs.size = none := I1.hok.fresh (Nat.le_refl _)
    have I2 : Inv X pins σ (upd H h'.objs.size (.lst xs)) { s with heap := h'.push { cls := .type "list", data := .seq (us : List Value).toArray }, toks := tk } :=
      I1.laid (a := h'.objs.size) (o := .lst xs) (h' := h'.push { cls := .type "list", data := .seq (us : List Value).toArray }) (t' := tk) (fun b o e => Heap.get?_push_of_some _ e) (Nat.le_refl _) ⟨Nat.le_trans (Nat.le_succ _) hz, us, 0, r2, Heap.get?_push_size _ rfl⟩
    show wpAny _ _ (assignInOrder [assign e1 X.env, assign e2 X.env] [u1, .ref h'.objs.size]) _ _ _
    refine assignInOrder_cons (thn (h1.run pins _ σ _ x u1 _ I2 r1 (hw _ nf)) fun _ s3 ⟨σ3, H3, I3, q3⟩ => ?_)
    refine assignInOrder_cons (thn (h2.run pins s3 σ3 H3 (.ref h'.objs.size) _ _ I3 rfl q3) fun _ s4 q4 => ?_)
    exact assignInOrder_nil q4
def gHeadRest (m1 m2 : D → En → Option En) (d : D) (ρ : En) : Option En := match d with
  | .tuple (x :: xs) => (m1 x ρ).bind fun ρ1 => m2 (.list xs) ρ1
  | _ => none
section
variable {K : PySem.W.Frag}
theorem tg_headRest {vs : List Nat} {g1 g2 : TG} {m1 m2 : D → En → Option En} (h1 : TGm K vs g1 m1) (h2 : TGm K vs g2 m2) : TGm K vs (gHdRest K g1 g2) (gHeadRest m1 m2) := by
  refine ⟨fun {H0 T0 σ ρ ρ2 H T v d} G g h Q q => ?_⟩
  unfold gHeadRest at h
  split at h
  · rename_i y ys
    obtain ⟨ρ1, e1, h⟩ := bind_some h
    obtain ⟨a, xs, rfl, hs, ga⟩ := dp_tup g
    cases ga with
    | cons gx gr =>
      rename_i x xs
      refine ⟨a, _, _, rfl, sqt_ov G.dis hs, fun p np => ?_⟩
      obtain ⟨nT, nH⟩ := ov_free np
      rw [upd_ov nT]
      have sn : Same H (upd H p (.lst xs)) := same_new nH
      refine h1.run (G.mono sn (dis_upd G.dis nT nH)) (dp_mono sn gx) e1 _ fun σ3 H3 G3 s3 w3 => ?_
      refine h2.run G3 (dp_mono s3 (.lst (SqL.of upd_same) (dpa_mono sn gr))) h _ fun σ4 H4 G4 s4 w4 => ?_
      exact q σ4 H4 G4 ((sn.trans s3).trans s4) (w4.trans w3)
  · cases h
theorem tg_lst {vs : List Nat} {n : Nat} {gs : TGs} {mr : List D → En → Option En} (h : TGsm K vs gs mr) : TGm K vs (gLst K n gs) (gLstM n mr) := by
  refine ⟨fun {H0 T0 σ ρ ρ2 H T v d} G g e Q q => ?_⟩
  unfold gLstM at e
  split at e
  · split at e
    · rename_i hn
      obtain ⟨p, xs, rfl, hs, ga⟩ := dp_lst g
      exact ⟨p, xs, rfl, sql_ov G.dis hs, by rw [dpa_len ga]; exact hn, h.run G ga e Q q⟩
    · cases e
  · cases e
end
end DD

set_option Elab.async false
set_option linter.all false
set_option maxRecDepth 100000
set_option maxHeartbeats 4000000
namespace DD
variable [TabQ] [ExQ]
open PySem PySem.Spec PyProof.Rows L2

/-! ### zip of two, each a list or a tuple (b: it is a tuple) -/
def SqB (b : Bool) (K : PySem.W.Frag) (H : Hp) (a : Addr) (xs : List V) : Prop := if b = true then SqT K H a xs else SqL K H a xs
def HpB (b : Bool) (h : Heap) (a : Addr) (its : Array Value) : Prop := if b = true then h.IsTuple a its else h.IsList a its
def AtB (b : Bool) (h : Heap) (it a : Addr) (i : Nat) : Prop := if b = true then h.IsTupleIter it a i else h.IsListIter it a i
theorem HpB.at {b : Bool} {h h' : Heap} {a : Addr} {its : Array Value} (x : HpB b h a its) (k : ∀ o, h.get? a = some o → h'.get? a = some o) : HpB b h' a its := by
  cases b
  · exact Heap.IsList.at x k
  · exact Heap.IsTuple.at x k
theorem AtB.at {b : Bool} {h h' : Heap} {it a : Addr} {i : Nat} (x : AtB b h it a i) (k : ∀ o, h.get? it = some o → h'.get? it = some o) : AtB b h' it a i := by
  cases b
  · exact Heap.IsListIter.at x k
  · exact Heap.IsTupleIter.at x k
theorem SqB.get {b : Bool} {X : Cx} {pins : List (Addr × Obj)} {σ : L2.St} {H : Hp} {s : Shared} {a : Addr} {xs : List V} (I : Inv X pins σ H s) (h : SqB b X.K H a xs) : ∃ its : List Value, Vals xs its ∧ HpB b s.heap a its.toArray := by
  cases b
  · obtain ⟨its, rv, p, _⟩ := I.list h
    exact ⟨its, rv, p.isList⟩
  · obtain ⟨its, rv, p, _⟩ := I.tuple h
    exact ⟨its, rv, p⟩
theorem SqB.inj {b : Bool} {X : Cx} {pins : List (Addr × Obj)} {σ : L2.St} {H : Hp} {s : Shared} {a : Addr} {xs ys : List V} (I : Inv X pins σ H s) (h : SqB b X.K H a xs) (h' : SqB b X.K H a ys) : xs = ys := by
  cases b
  · exact I.list_inj h h'
  · exact I.tuple_inj h h'
theorem HpB.lt {b : Bool} {h : Heap} {a : Addr} {its : Array Value} (x : HpB b h a its) : a < h.objs.size := by
  cases b
  · obtain ⟨o, ho, _⟩ : h.IsList a its := x
    exact Heap.lt_size ho
  · obtain ⟨o, ho, _⟩ : h.IsTuple a its := x
    exact Heap.lt_size ho
theorem drawsB {prog : Program} {w : World} {A : Around} (b : Bool) (hh : A.handled = none) (it a : Addr) (hne : a ≠ it) (its : Array Value) :
    Draws prog w A it [it, a] its.size (fun i v => its[i]? = some v) (fun i h => AtB b h it a i ∧ HpB b h a its) := by
  cases b
  · exact Draws.list hh it a hne its
  · exact Draws.tuple hh it a hne its
def beB (b : Bool) (a : Addr) : Obj := { cls := .type (if b = true then "tuple_iterator" else "list_iterator"), data := .fields #[.ref a, .int 0 0] }
theorem beginsB (b : Bool) (a : Addr) (its : Array Value) : Begins (.ref a) (beB b a) fun h => HpB b h a its := by
  cases b
  · exact begins_list a its
  · exact begins_tuple a its
theorem beB_at {b : Bool} {h : Heap} {it a : Addr} (e : h.get? it = some (beB b a)) : AtB b h it a 0 := by
  cases b
  · exact ⟨_, e, rfl, rfl⟩
  · exact ⟨_, e, rfl, rfl⟩
theorem atB_obj {b : Bool} {h : Heap} {it a : Addr} {i : Nat} (x : AtB b h it a i) : ∃ o, h.get? it = some o ∧ ∀ v, o.data ≠ .cell v := by
  cases b
  · obtain ⟨o, e, _, d⟩ : h.IsListIter it a i := x
    exact ⟨o, e, fun v q => by rw [d] at q; cases q⟩
  · obtain ⟨o, e, _, d⟩ : h.IsTupleIter it a i := x
    exact ⟨o, e, fun v q => by rw [d] at q; cases q⟩
theorem apartB {b : Bool} {h : Heap} {a it : Addr} {its : Array Value} {i : Nat} (p : HpB b h a its) (q : AtB b h it a i) : a ≠ it := fun e => by
  subst e
  cases b
  · obtain ⟨o, ho, hc1, _⟩ : h.IsList a its := p
    obtain ⟨o', ho', hc2, _⟩ : h.IsListIter a a i := q
    have e := Option.some.inj (ho.symm.trans ho')
    subst e
    exact absurd (hc1.symm.trans hc2) (by decide +kernel)
  · obtain ⟨o, ho, hc1, _⟩ : h.IsTuple a its := p
    obtain ⟨o', ho', hc2, _⟩ : h.IsTupleIter a a i := q
    have e := Option.some.inj (ho.symm.trans ho')
    subst e
    exact absurd (hc1.symm.trans hc2) (by decide +kernel)
def Izz (K : PySem.W.Frag) (b1 b2 : Bool) (a b : Addr) : It :=
  ⟨fun i H => ∃ (xs ys : List V) (x y : V), SqB b1 K H a xs ∧ SqB b2 K H b ys ∧ xs[i]? = some x ∧ ys[i]? = some y,
    fun i H v H' => ∃ T x y, v = .ref T ∧ H T = none ∧ H' = upd H T (.tup [x, y]) ∧ (∀ xs, SqB b1 K H a xs → xs[i]? = some x) ∧ ∀ ys, SqB b2 K H b ys → ys[i]? = some y,
    fun i H => ∃ xs ys : List V, SqB b1 K H a xs ∧ SqB b2 K H b ys ∧ i = min xs.length ys.length⟩
theorem turn_zz {P : Program} {w : World} {K : PySem.W.Frag} {elts : List Expr} {kk : Nat} {tpos : Pos} {b1 b2 : Bool} {a b z TI TO i1 i2 : Addr} (D : ZipSep2 z TI TO i1 i2 [i1, a] [i2, b]) :
    Turn P w K (.Tuple elts kk tpos) (Izz K b1 b2 a b) [z, TI, TO, i1, i2] z (fun i h => IsZip h z TI TO .none ∧ IsTupOf2 h TI (.ref i1) (.ref i2) ∧ (∃ x y, IsTupOf2 h TO x y) ∧ AtB b1 h i1 a i ∧ AtB b2 h i2 b i) where
  mem := by simp
  obj := fun i h st c hc => by
    obtain ⟨hz, hTI, ⟨x, y, hTO⟩, h1, h2⟩ := st
    simp only [List.mem_cons, List.not_mem_nil, or_false] at hc
    rcases hc with rfl | rfl | rfl | rfl | rfl
    · exact ⟨_, hz, fun v q => nomatch q⟩
    · exact ⟨_, hTI, fun v q => nomatch q⟩
    · exact ⟨_, hTO, fun v q => nomatch q⟩
    · exact atB_obj h1
    · exact atB_obj h2
  keep := fun i h h' st k => by
    obtain ⟨hz, hTI, ⟨x, y, hTO⟩, h1, h2⟩ := st
    exact ⟨k z (by simp) _ hz, k TI (by simp) _ hTI, ⟨x, y, k TO (by simp) _ hTO⟩, h1.at fun o q => k i1 (by simp) o q, h2.at fun o q => k i2 (by simp) o q⟩
  item := by
    intro X hP hw hK hc i pins s σ H E I hf st hg
    subst hP hw hK
    obtain ⟨hz, hTI, ⟨x0, y0, hTO⟩, h1, h2⟩ := st
    obtain ⟨xs, ys, x, y, hqx, hqy, hx, hy⟩ := hg
    obtain ⟨its, rv, p⟩ := hqx.get I
    obtain ⟨its2, rv2, p2⟩ := hqy.get I
    obtain ⟨u, hu, ru⟩ := rv.get hx
    obtain ⟨u2, hu2, ru2⟩ := rv2.get hy
    have hzl : z < s.heap.objs.size := Heap.lt_size hz
    have na : a ≠ i1 := apartB p h1
    have nb : b ≠ i2 := apartB p2 h2
    have hh : X.A.in1.handled = none := I.ok.hd hc
    have j1 : i < its.toArray.size := by obtain ⟨q, _⟩ := List.getElem?_eq_some_iff.mp hu; simpa using q
    have j2 : i < its2.toArray.size := by obtain ⟨q, _⟩ := List.getElem?_eq_some_iff.mp hu2; simpa using q
    refine wpAny_pyNext_zipD2_item D (drawsB b1 hh i1 a na its.toArray) (drawsB b2 hh i2 b nb its2.toArray) hz hTI hTO ⟨h1, p⟩ ⟨h2, p2⟩ j1 j2 fun x1 x2 h' tk e1 e2 z' TO' h1' h2' hT hsz hk => ?_
    have e3 : x1 = u := by
      have : its.toArray[i]? = some u := by simpa using hu
      rw [this] at e1; exact (Option.some.inj e1).symm
    have e4 : x2 = u2 := by
      have : its2.toArray[i]? = some u2 := by simpa using hu2
      rw [this] at e2; exact (Option.some.inj e2).symm
    subst e3 e4
    refine ⟨_, rfl, wpAny_letOwnedTupleGo_zip (s := { s with heap := h', toks := tk }) z' fun h'' z'' sb => ?_⟩
    have hT2 : h''.get? s.heap.objs.size = some { cls := .type "tuple", data := .seq #[x1, x2] } := (sb.2 _ (Nat.ne_of_gt hzl)).trans hT
    have new : ObjOk X.prog X.w (upd H s.heap.objs.size (.tup [x, y])) h'' s.heap.objs.size (.tup [x, y]) :=
      ⟨by show 2 ≤ sizeLine; decide, [x1, x2], .cons ru (.cons ru2 .nil), ⟨_, hT2, rfl, _, rfl⟩⟩
    have I1 : Inv X pins σ (upd H s.heap.objs.size (.tup [x, y])) { s with heap := h'', toks := tk } :=
      I.turnedNew (t' := tk) (ch := [z, TI, TO, i1, i2]) (fun c o hb q => (sb.2 c (fun q' => hb (by simp [q']))).trans (hk c o (fun q' => hb (by simp [q'])) (fun q' => hb (by simp [q'])) (fun q' => hb (by simp [q'])) (fun q' => hb (by simp [q'])) q)) hf (Nat.le_refl _) new
    refine ⟨.ref s.heap.objs.size, _, I1, rfl, ⟨_, x, y, rfl, I.hok.fresh (Nat.le_refl _), rfl, fun l hl => by rw [hl.inj I hqx]; exact hx, fun l hl => by rw [hl.inj I hqy]; exact hy⟩, ⟨z'', ?_, ⟨x1, x2, ?_⟩, ?_, ?_⟩, fun c hcm => ?_⟩
    · exact (sb.2 _ D.TIz).trans (hk _ _ D.TIz D.TITO D.TIi1 D.TIi2 hTI)
    · exact (sb.2 _ D.TOz).trans TO'
    · exact h1'.1.at fun o q => (sb.2 _ D.zi1.symm).trans q
    · exact h2'.1.at fun o q => (sb.2 _ D.zi2.symm).trans q
    · have hlt : c < s.heap.objs.size := by
        obtain ⟨o1, w1, _⟩ := atB_obj h1
        obtain ⟨o2, w2, _⟩ := atB_obj h2
        simp only [List.mem_cons, List.not_mem_nil, or_false] at hcm
        rcases hcm with q | q | q | q | q
        · rw [q]; exact hzl
        · rw [q]; exact Heap.lt_size hTI
        · rw [q]; exact Heap.lt_size hTO
        · rw [q]; exact Heap.lt_size w1
        · rw [q]; exact Heap.lt_size w2
      rw [upd_ne (Nat.ne_of_lt hlt)]
      exact (hf c hcm).1
  done := by
    intro X hP hw hK hc i pins s σ H E I hf st hg
    subst hP hw hK
    obtain ⟨hz, hTI, ⟨x0, y0, hTO⟩, h1, h2⟩ := st
    obtain ⟨xs, ys, hqx, hqy, hend⟩ := hg
    obtain ⟨its, rv, p⟩ := hqx.get I
    obtain ⟨its2, rv2, p2⟩ := hqy.get I
    have l1 := rv.length
    have l2 := rv2.length
    have na : a ≠ i1 := apartB p h1
    have nb : b ≠ i2 := apartB p2 h2
    have hh : X.A.in1.handled = none := I.ok.hd hc
    refine wpAny_pyNext_zipD2_end D (drawsB b1 hh i1 a na its.toArray) (drawsB b2 hh i2 b nb its2.toArray) hz hTI hTO ⟨h1, p⟩ ⟨h2, p2⟩ (by simp; omega) (by simp; omega) (by simp; omega)
      fun h' tk hk => ⟨rfl, I.turnedL (t' := tk) (ch := [z, TI, TO, i1, i2]) (fun c o hb q => hk c o (fun q' => hb (by simp [q'])) (fun q' => hb (by simp [q'])) (fun q' => hb (by simp [q'])) (fun q' => hb (by simp [q'])) q) hf⟩
  self := fun A i s Q E st h => wpAny_pyIter_zip st.1 h
def iZz (K : PySem.W.Frag) (ta : TA) : TI := fun σ H R => ta σ H fun vs H1 => ∃ a b xs ys b1 b2, vs = [.ref a, .ref b] ∧ SqB b1 K H1 a xs ∧ SqB b2 K H1 b ys ∧ R (Izz K b1 b2 a b) H1
theorem pi_zipX {X : Cx} {e e2 : Expr} {ta : TA} {p pos tpos : Pos} {elts : List Expr} {kk : Nat} (hg : Gl X "zip") (hm : X.mg "zip" = none) (ha : PA X [e, e2] ta)
    (hs : starEach [e, e2] X.env = (false, eval e X.env) :: starEach [e2] X.env := by rfl) (hpl : (backTo pos (starEach [e2] X.env)).any (·.1) = false := by rfl) :
    PI X (.Tuple elts kk tpos) (.Call (.Name "zip" p) [e, e2] [] pos) (iZz X.K ta) := by
  refine ⟨fun pins s σ H R I h => ?_⟩
  refine Call_ (ld_blt I hg hm PyProof.Rows.boot_zip (PyProof.Rows.callWith_type1 (thn (ha.run pos pins s σ H _ I h) fun us s1 ⟨vs, H1, I1, r1, q1⟩ => ?_) hs hpl))
  obtain ⟨a, b, xs, ys, b1, b2, ex, hqx, hqy, q⟩ := q1
  subst ex
  cases r1 with
  | cons r rr =>
    cases rr with
    | cons r' rr =>
      cases rr
      cases r
      cases r'
      obtain ⟨its, rv, p1⟩ := hqx.get I1
      obtain ⟨its2, rv2, p2⟩ := hqy.get I1
      refine zip_begins2 (beginsB b1 a its.toArray) (beginsB b2 b its2.toArray) p1 p2 fun h' hz hTI hTO g1 g2 hsz hk => wpAny_pyIter_zip hz ?_
      have I2 : Inv X pins σ H1 { s1 with heap := h' } := I1.kept (t' := s1.toks) hk
      have D : ZipSep2 (s1.heap.objs.size + 4) (s1.heap.objs.size + 2) (s1.heap.objs.size + 3) s1.heap.objs.size (s1.heap.objs.size + 1) [s1.heap.objs.size, a] [s1.heap.objs.size + 1, b] :=
        zip_sep2 (fun c hc => by rw [List.mem_singleton.mp hc]; exact p1.lt) (fun c hc => by rw [List.mem_singleton.mp hc]; exact p2.lt)
      refine ⟨s1.heap.objs.size + 4, [s1.heap.objs.size + 4, s1.heap.objs.size + 2, s1.heap.objs.size + 3, s1.heap.objs.size, s1.heap.objs.size + 1], _, _, H1, rfl, I2, turn_zz D, ⟨hz, hTI, ⟨_, _, hTO⟩, beB_at g1, beB_at g2⟩, fun c hcm => ?_, q⟩
      have hle : s1.heap.objs.size ≤ c := by
        simp only [List.mem_cons, List.not_mem_nil, or_false] at hcm
        rcases hcm with e | e | e | e | e
        · rw [e]; exact Nat.le_add_right _ _
        · rw [e]; exact Nat.le_add_right _ _
        · rw [e]; exact Nat.le_add_right _ _
        · exact Nat.le_of_eq e.symm
        · rw [e]; exact Nat.le_add_right _ _
      exact I1.fpOk hle (I1.hok.fresh hle)

def pairs : List D → List D → List D
  | x :: xs, y :: ys => .tuple [x, y] :: pairs xs ys
  | _, _ => []
def seqD : D → Option (Bool × List D)
  | .list xs => some (false, xs)
  | .tuple xs => some (true, xs)
  | _ => none
def mZip (m : En → Option (List D)) : En → Option (List D) := fun ρ => (m ρ).bind fun ds => match ds with
  | [a, b] => (seqD a).bind fun x => (seqD b).map fun y => pairs x.2 y.2
  | _ => none
theorem pairs_len : ∀ xs ys : List D, (pairs xs ys).length = min xs.length ys.length
  | [], _ => by simp [pairs]
  | _ :: _, [] => by simp [pairs]
  | x :: xs, y :: ys => by simp [pairs, pairs_len xs ys]
theorem pairs_get : ∀ {xs ys : List D} {i : Nat} {d : D}, (pairs xs ys)[i]? = some d → ∃ x y, xs[i]? = some x ∧ ys[i]? = some y ∧ d = .tuple [x, y]
  | [], _, _, _, h => by simp [pairs] at h
  | _ :: _, [], _, _, h => by simp [pairs] at h
  | x :: xs, y :: ys, 0, d, h => by simp [pairs] at h; exact ⟨x, y, rfl, rfl, h.symm⟩
  | x :: xs, y :: ys, i + 1, d, h => by simp [pairs] at h; simpa using pairs_get h
theorem seqD_sq {K : PySem.W.Frag} {H : Hp} {v : V} {d : D} {b : Bool} {ds : List D} (h : Dp K H v d) (e : seqD d = some (b, ds)) : ∃ a xs, v = .ref a ∧ SqB b K H a xs ∧ DpAll K H xs ds := by
  cases d <;> simp [seqD] at e
  · obtain ⟨rfl, rfl⟩ := e
    obtain ⟨p, xs, rfl, hs, g⟩ := dp_lst h
    exact ⟨p, xs, rfl, hs, g⟩
  · obtain ⟨rfl, rfl⟩ := e
    obtain ⟨p, xs, rfl, hs, g⟩ := dp_tup h
    exact ⟨p, xs, rfl, hs, g⟩
theorem sqb_same {b : Bool} {K : PySem.W.Frag} {H H' : Hp} {a : Addr} {xs : List V} (e : Same H H') (h : SqB b K H a xs) : SqB b K H' a xs := by
  cases b
  · exact e.seq h
  · exact Same.sqt e h
theorem it_zipX {K : PySem.W.Frag} {ta : TA} {m : En → Option (List D)} (ha : TAm K ta m) : IT K (iZz K ta) (mZip m) := by
  refine ⟨fun {H0 T0 σ ρ H T ds} G h R q => ?_⟩
  obtain ⟨as, hx, h⟩ := bind_some h
  refine ha.run G hx _ fun vs H1 s1 d1 p1 => ?_
  split at h
  · rename_i da db
    obtain ⟨⟨b1, xs⟩, e1, h⟩ := bind_some h
    obtain ⟨⟨b2, ys⟩, e2, h⟩ := map_some h
    subst h
    obtain ⟨u, v, rfl, gu, gv⟩ := dpa_two p1
    obtain ⟨a, vx, rfl, hsx, gx⟩ := seqD_sq gu e1
    obtain ⟨b, vy, rfl, hsy, gy⟩ := seqD_sq gv e2
    have lx := dpa_len gx
    have ly := dpa_len gy
    refine ⟨a, b, vx, vy, b1, b2, rfl, sqb_same (same_ov d1) hsx, sqb_same (same_ov d1) hsy, q _ H1 s1 d1 ⟨fun {H T} i sm dis hi => ?_, fun {H T} sm dis => ?_, fun {H T} i {x Hc d} sm dis hd y => ?_⟩⟩
    · rw [pairs_len] at hi
      have i1 : i < vx.length := by rw [lx]; simp at hi; omega
      have i2 : i < vy.length := by rw [ly]; simp at hi; omega
      exact ⟨vx, vy, vx[i], vy[i], sqb_same (same_ov dis) (sqb_same sm hsx), sqb_same (same_ov dis) (sqb_same sm hsy), by simp [i1], by simp [i2]⟩
    · exact ⟨vx, vy, sqb_same (same_ov dis) (sqb_same sm hsx), sqb_same (same_ov dis) (sqb_same sm hsy), by rw [pairs_len, lx, ly]⟩
    · obtain ⟨p, xx, yy, rfl, np, rfl, ex, ey⟩ := y
      obtain ⟨dx, dy, hdx, hdy, rfl⟩ := pairs_get hd
      obtain ⟨wx, hwx, gwx⟩ := dpa_get gx hdx
      obtain ⟨wy, hwy, gwy⟩ := dpa_get gy hdy
      have := ex vx (sqb_same (same_ov dis) (sqb_same sm hsx))
      rw [hwx] at this
      cases this
      have := ey vy (sqb_same (same_ov dis) (sqb_same sm hsy))
      rw [hwy] at this
      cases this
      obtain ⟨nT, nH⟩ := ov_free np
      have sn : Same H (upd H p (.tup [xx, yy])) := same_new nH
      exact ⟨_, upd_ov nT, sn, dis_upd dis nT nH, .tup (.inl (.of upd_same)) (.cons (dp_mono sn (dp_mono sm gwx)) (.cons (dp_mono sn (dp_mono sm gwy)) .nil))⟩
  · cases h
end DD

set_option Elab.async false
set_option linter.all false
set_option maxRecDepth 100000
set_option maxHeartbeats 4000000
namespace DD
variable [TabQ] [ExQ]
open PySem PySem.Spec PyProof.Rows L2

/-! ### set(a list of ints), with what its order asks -/
section
variable {P : Program} {w : World} {A : Around} {E : Value → Shared → Prop} {s : Shared}
abbrev set0 (w : World) : Obj := { cls := .type "set", dict := none, data := .set #[] 0 (.fresh 0 0 (!w.params.followText "set-order")) }
/-- the step that fills the new set at N from the list at l -/
theorem fill_list {h0 : Heap} {l : Addr} {items : Array Value} (ns : List Int) (hh : A.handled = none) (hl : (h0.push (set0 w)).IsList l items) (hlt : l < h0.objs.size) (hi : IntsAre items.toList ns) (hb : ns.length + 1 < scanBound) {R : Result → Shared → Prop} {t : Shared} (ht : t.heap = h0.push (set0 w))
    (h : ∀ (h' : Heap) (tk c : Nat), SetR w h' h0.objs.size (fun j => decide (j ∈ ns)) c → c ≤ ns.length → (∀ b o, h0.get? b = some o → h'.get? b = some o) → R (.ok (.ret .none)) { t with heap := h', toks := tk }) :
    codeAny (model P w) A.in1.in1 (.builtin "set.update.loop" ⟨[.ref h0.objs.size, .ref (h0.push (set0 w)).objs.size], []⟩) R { t with heap := (h0.push (set0 w)).push { cls := .type "list_iterator", data := .fields #[.ref l, .int 0 0] } } := by
  have size1 : (h0.push (set0 w)).objs.size = h0.objs.size + 1 := Heap.size_push ..
  have len : items.size = ns.length := by
    have q := IntsAre.length hi
    rwa [Array.length_toList] at q
  have ne1 : l ≠ (h0.push (set0 w)).objs.size := by rw [size1]; exact Nat.ne_of_lt (Nat.lt_succ_of_lt hlt)
  have out : h0.objs.size ∉ [(h0.push (set0 w)).objs.size, l] := by
    rw [size1]
    intro m
    simp only [List.mem_cons, List.not_mem_nil, or_false] at m
    rcases m with m | m
    · exact absurd m (Nat.ne_of_lt (Nat.lt_succ_self _))
    · exact absurd m (Nat.ne_of_gt hlt)
  have at0 : ((h0.push (set0 w)).push { cls := .type "list_iterator", data := .fields #[.ref l, .int 0 0] }).get? h0.objs.size = some (set0 w) := Heap.get?_push_of_some _ (Heap.get?_push_size _ rfl)
  refine set_update_ints (P := P) (w := w) ((Walks.list (A := A.in1.in1.in1) (by simpa using hh) _ l ne1 items).toS) h0.objs.size out ns len hb (fun i v e => ?_) (items.size - 0) 0 _ (by omega) (Nat.zero_le _)
    ⟨⟨_, Heap.get?_push_size _ rfl, rfl, rfl⟩, hl.push _⟩ ⟨0, Nat.le_refl 0, setR_new_at at0⟩ fun s' c hm hc hS => ?_
  · have hil : i < ns.length := by rw [← len]; exact (Array.getElem?_eq_some_iff.mp e).1
    obtain ⟨tk, e2⟩ := IntsAre.int_at hi i v (by rw [Array.getElem?_toList]; exact e)
    refine ⟨ns[i], tk, List.getElem?_eq_getElem hil, ?_⟩
    rw [e2, List.getD_eq_getElem?_getD, List.getElem?_eq_getElem hil]
    rfl
  · obtain ⟨h', g', d', tk', os'⟩ := s'
    obtain rfl : g' = t.gens := hm.gens
    obtain rfl : d' = t.drawn := hm.drawn
    obtain rfl : os' = t.os := hm.os
    refine h h' tk' c hS (by rw [← len]; exact hc) fun b o e => hm.heap b o ?_ (Heap.get?_push_of_some _ (Heap.get?_push_of_some _ e))
    have lt := Heap.lt_size e
    rw [size1]
    intro m
    simp only [List.mem_cons, List.not_mem_nil, or_false] at m
    rcases m with m | m
    · exact absurd m (Nat.ne_of_lt lt)
    · exact absurd m (Nat.ne_of_lt (Nat.lt_succ_of_lt lt))
theorem call_setI {l : Addr} {items : Array Value} (ns : List Int) {Q : Value → Shared → Prop} (hh : A.handled = none) (hl : s.heap.IsList l items) (hit : IntsAre items.toList ns) (hb : ns.length + 1 < scanBound)
    (h : ∀ (h' : Heap) (tk c : Nat), SetR w h' s.heap.objs.size (fun j => decide (j ∈ ns)) c → c ≤ ns.length → (∀ b o, s.heap.get? b = some o → h'.get? b = some o) → Q (.ref s.heap.objs.size) { s with heap := h', toks := tk }) :
    wpAny (model P w) A (call (.type "set") [.ref l]) Q E s := by
  obtain ⟨c0, tl, hmro⟩ := F.called_set.mro
  have h0 := F.called_set.made
  have h1 := F.called_set.notType
  have h2 := F.called_set.canCreate
  have h3 := F.called_set.sub
  have h4 := F.typeCall_set_1 (.ref l)
  refine wpAny_call (codeAny_of_tree (show wpAny _ _ (callAny (.type "set") _) _ _ _ from wpAny_pure ⟨Code.quiet_builtin _ (by decide +kernel), codeAny_builtin F.entry_type_call ?_⟩))
  rw [Around.under_plain (weight_type_call_type "set" [.ref l] []) rfl]
  repeat (any_goals (first | assumption | wp_step))
  refine codeAny_mono (code_set_led1 (.ref l) (E := E) (Q₁ := fun obj s₁ => obj = .ref s.heap.objs.size ∧ s₁ = { s with heap := s.heap.push (set0 w) }) ⟨rfl, rfl⟩) fun r s₁ hr => ?_
  cases r with
  | error e => exact hr
  | ok fl =>
    cases fl with
    | ret obj =>
      obtain ⟨rfl, rfl⟩ := hr
      have at0 : (s.heap.push (set0 w)).get? s.heap.objs.size = some (set0 w) := Heap.get?_push_size _ rfl
      have ty : Shared.TypeIs { s with heap := s.heap.push (set0 w) } (.ref s.heap.objs.size) "set" := ⟨_, at0, rfl⟩
      have h5 := F.called_set.init.lookup
      have h6 := F.called_set.init.bind (.ref s.heap.objs.size)
      repeat (any_goals (first | assumption | wp_step))
      refine codeAny_mono (codeAny_call_builtin (R := wants (fun r s₂ => r = .none ∧ ∃ h' tk c, s₂ = { s with heap := h', toks := tk } ∧ SetR w h' s.heap.objs.size (fun j => decide (j ∈ ns)) c ∧ c ≤ ns.length ∧
          (∀ b o, s.heap.get? b = some o → h'.get? b = some o)) E) F.called_set.init.plain F.entry_set_init (check_set_init_1 ty ?_)) fun r₂ s₂ hr₂ => ?_
      · obtain ⟨⟨ocls, odict, odata, oslots⟩, hol, hcl, nl, hdl⟩ := hl
        simp only at hcl hdl
        subst hcl hdl
        have hol' : (s.heap.push (set0 w)).get? l = some { cls := .type "list", dict := odict, data := .seq items nl, slots := oslots } := Heap.get?_push_of_some _ hol
        have h7 := F.sub_list_set
        have h8 := F.sub_list_frozenset
        have h9 : (Value.type "list" == Value.type "dict") = false := by decide
        have hL : (s.heap.push (set0 w)).IsList l items := ⟨_, hol', rfl, nl, rfl⟩
        unfold Builtin.«set.__init__» noKeywords Builtin.Frozenset.updateFrom
        generalize hPI : pyIter = PI
        wp_walk
        subst hPI
        refine wpAny_pyIter_list hL (wpAny_bind (wpAny_runValue ?_))
        refine fill_list (A := A) (t := { s with heap := s.heap.push (set0 w) }) ns hh hL (Heap.lt_size hol) hit hb rfl fun h' tk c hS hc hk => ?_
        refine wpAny_pure ?_
        show wpAny _ _ (ret Value.none) _ _ _
        exact wpAny_pure ⟨rfl, h', tk, c, rfl, hS, hc, hk⟩
      · cases r₂ with
        | error e => exact hr₂
        | ok fl₂ =>
          cases fl₂ with
          | ret r =>
            obtain ⟨rfl, h', tk, c, rfl, hS, hc, hk⟩ := hr₂
            repeat (any_goals (first | assumption | wp_step))
            exact h _ _ _ hS hc hk
          | _ => exact hr₂.elim
    | _ => exact hr.elim
end
end DD

set_option Elab.async false
set_option linter.all false
set_option maxRecDepth 100000
set_option maxHeartbeats 4000000
namespace DD
variable [TabQ] [ExQ]
open PySem PySem.Spec PyProof.Rows L2

/-! ### l.extend(a tuple), a list + a list -/
theorem ext_tup (l : Addr) (items : Array Value) (n : Nat) (b : Addr) (items2 : Array Value) (n2 : Nat) (dd : Option Addr) (sl : Array (Option Value)) (c0 : ¬(!items.isEmpty && Builtin.List.listTooLong (items.size + items2.size)) = true) (c1 : items.size ≤ sizeLine) (c2 : items.size + items2.size ≤ sizeLine + 1) :
    Meets (Builtin.«list.extend» ⟨[.ref l, .ref b], []⟩) (fun _ R s => s.heap.get? l = some { cls := .type "list", dict := none, data := .seq items n, slots := #[] } ∧ s.heap.get? b = some { cls := .type "tuple", dict := dd, data := .seq items2 n2, slots := sl } ∧
      R (.ok (.ret Value.none)) { s with heap := s.heap.update l (Obj.mapSeq fun x => x ++ items2) }) :=
  .of_wp fun prog w A R s h => by
    obtain ⟨hp, g, d, tk, os⟩ := s
    obtain ⟨hl, hb, h⟩ := h
    have f1 := AutoSeq1.sub_tuple_tuple
    have f2 := AutoSeq1.sub_list_list
    have f3 := AutoSeq1.sub_tuple_list
    have f4 := AutoSeq1.sub_list_tuple
    have f5 : (items ++ items2).size ≤ sizeLine + 1 := by rw [Array.size_append]; exact c2
    wp_walk using (wpAny_updateSeq hl rfl (hz := c1) (_hz' := f5)), wpAny_loadPart' hl, wpAny_loadPart' hb
    exact ⟨_, rfl, h⟩
section
variable {X : Cx}
def rExtendA (K : PySem.W.Frag) : V → List V → Hp → VK → Prop := fun x vs H Q => ∃ l b xs zs, x = .ref l ∧ vs = [.ref b] ∧ H l = some (.lst xs) ∧ SqT K H b zs ∧ xs.length + zs.length ≤ sizeLine ∧ Q .non (upd H l (.lst (xs ++ zs)))
theorem mt_extendA : MtM X "list.extend" (rExtendA X.K) := by
  intro pins s σ H x vs v us Q I rx rv h
  obtain ⟨l, b, xs, zs, rfl, rfl, hH, hB, hz, q⟩ := h
  cases rx
  obtain ⟨u, rfl, ru⟩ := rv.one
  cases ru
  obtain ⟨z, its, n, r, hl, e⟩ := I.lstM hH
  obtain ⟨its2, r2, ⟨⟨cls2, dd2, data2, sl2⟩, e2, hc2, n2, hd2⟩, z2⟩ := I.tuple hB
  simp only at hc2 hd2
  subst hc2 hd2
  have l2 := r2.length
  have sz : its.toArray.size + its2.toArray.size ≤ sizeLine := by rw [List.size_toArray, List.size_toArray]; omega
  have nl : ¬ (!its.toArray.isEmpty && Builtin.List.listTooLong (its.toArray.size + its2.toArray.size)) = true := by
    rw [notLongL sz, Bool.and_false]
    exact Bool.false_ne_true
  refine call_meets F.slot_list_extend ⟨_, e, rfl⟩ F.entry_list_extend (F.args_list_extend_2 _ _)
    (ext_tup l its.toArray n b its2.toArray n2 dd2 sl2 nl (by omega) (by omega)) ⟨e, e2, ?_⟩
  refine ⟨.non, _, I.lset (its' := its ++ its2) hH e (by simp) (r.append r2) ?_, rfl, q⟩
  rw [List.length_append]
  omega
def rCatX (K : PySem.W.Frag) : R2 := fun x y H Q => ∃ l b xs zs, x = .ref l ∧ y = .ref b ∧ SqL K H l xs ∧ SqL K H b zs ∧ xs.length + zs.length ≤ sizeLine ∧ ∀ p, H p = none → Q (.ref p) (upd H p (.lst (xs ++ zs)))
theorem op_catX : OpR X (binaryOp .Add) (rCatX X.K) := by
  intro pins s σ H x y v u Q I rx ry h
  obtain ⟨l, b, xs, zs, rfl, rfl, hH, hB, hz, q⟩ := h
  cases rx
  cases ry
  obtain ⟨its, r, ⟨⟨c1, dd1, data1, sl1⟩, n, e, hc1, hn1, hd1⟩, z1⟩ := I.list hH
  obtain ⟨its2, r2, ⟨⟨c2, dd2, data2, sl2⟩, n2, e2, hc2, hn2, hd2⟩, z2⟩ := I.list hB
  simp only at hc1 hd1 hc2 hd2
  subst hc1 hd1 hc2 hd2
  have l1 := r.length
  have l2 := r2.length
  refine concat_meets ⟨_, e, rfl⟩ ⟨_, e2, rfl⟩ noFill_list_add seq_list_add PySem.F.slot_list_add PySem.F.entry_list_add (PySem.F.args_list_add_2 _ _) (list_addW l b its.toArray its2.toArray n n2 dd1 dd2 sl1 sl2 (by simp; omega)) ⟨e, e2, ?_⟩
  have ea : its.toArray ++ its2.toArray = (its ++ its2).toArray := by simp
  rw [ea]
  exact ⟨.ref s.heap.objs.size, upd H s.heap.objs.size (.lst (xs ++ zs)), I.laid (t' := s.toks) (fun _ _ z => Heap.get?_push_of_some _ z) (Nat.le_refl _) ⟨by rw [List.length_append]; exact hz, its ++ its2, 0, r.append r2, Heap.get?_push_size _ rfl⟩, rfl, q _ (I.hok.fresh (Nat.le_refl _))⟩
end
section
variable {K : PySem.W.Frag}
def sExtendA (i : Nat) (a : En → Option D) : En → Option Fl := fun ρ => match ρ[i]? with
  | some (some (.own ds)) => (a ρ).bind fun x => match x with
    | .tuple es => if ds.length + es.length ≤ cap then some (.nx (ρ.set i (some (.own (ds ++ es))))) else none
    | _ => none
  | _ => none
theorem st_extendA {i : Nat} {te : TE} {ma : En → Option D} (ha : ET K te ma) : TSm K (tDrop (tBM K "list" (rExtendA K) (tVar i) (tCons te tNil))) (sExtendA i ma) := by
  refine ⟨fun {H0 T0 σ ρ H T f} G h E q => ?_⟩
  unfold sExtendA at h
  split at h
  · rename_i ds e
    obtain ⟨x, hx, h⟩ := bind_some h
    split at h
    · rename_i es
      split at h
      · rename_i hz
        cases h
        obtain ⟨p, xs, a, b, c, g⟩ := G.own i ds e
        refine ⟨.ref p, a, .inl ⟨rfl, xs, SqL.of (ov_own b)⟩, ?_⟩
        refine ha.run G hx _ fun v H1 s1 d1 p1 => ?_
        obtain ⟨pt, zs, rfl, hs, gz⟩ := dp_tup p1
        have G1 := G.mono s1 d1
        have gx := dpa_mono s1 g
        refine ⟨p, pt, xs, zs, rfl, rfl, ov_own b, sqt_ov d1 hs, ?_, ?_⟩
        · rw [dpa_len gx, dpa_len gz]
          exact cap_line hz
        · rw [upd_put]
          exact q _ H1 _ (G1.turn e a b (dpa_append gx gz))
      · cases h
    · cases h
  · cases h
def mCatV (a : En → Option D) (b : En → Option (List D)) : En → Option (List D) := fun ρ => (a ρ).bind fun x => (b ρ).bind fun y => match x with
  | .list xs => if xs.length + y.length ≤ cap then some (xs ++ y) else none
  | _ => none
theorem fl_catV {ta tb : TE} {ma : En → Option D} {mb : En → Option (List D)} (ha : ET K ta ma) (hb : FL K tb mb) : FL K (tOp (rCatX K) ta tb) (mCatV ma mb) := by
  refine ⟨fun {H0 T0 σ ρ H T out} G h Q q => ?_⟩
  obtain ⟨x, hx, h⟩ := bind_some h
  obtain ⟨y, hy, h⟩ := bind_some h
  refine ha.run G hx _ fun v H1 s1 d1 p1 => ?_
  refine hb.run (G.mono s1 d1) hy _ fun p xs H2 s2 d2 np g2 => ?_
  split at h
  · split at h
    · rename_i hz
      cases h
      obtain ⟨a, us, rfl, hs, gu⟩ := dp_lst (dp_mono s2 p1)
      obtain ⟨nT, nH⟩ := ov_free np
      have sn : Same H2 (upd H2 p (.lst xs)) := same_new nH
      rw [upd_ov nT]
      refine ⟨a, p, us, xs, rfl, rfl, sql_ov (dis_upd d2 nT nH) (sn.seq hs), sql_ov (dis_upd d2 nT nH) (.of upd_same), by rw [dpa_len gu, dpa_len g2]; exact cap_line hz, fun p2 np2 => ?_⟩
      obtain ⟨nT2, nH2⟩ := ov_free np2
      exact q p2 _ _ ((s1.trans s2).trans sn) (dis_upd d2 nT nH) np2 (dpa_append (dpa_mono sn gu) (dpa_mono sn g2))
    · cases h
  · cases h
theorem fl_cat {ta tb : TE} {ma mb : En → Option (List D)} (ha : FL K ta ma) (hb : FL K tb mb) : FL K (tOp (rCatX K) ta tb) (mCatL ma mb) := by
  refine ⟨fun {H0 T0 σ ρ H T out} G h Q q => ?_⟩
  obtain ⟨x, hx, h⟩ := bind_some h
  obtain ⟨y, hy, h⟩ := bind_some h
  refine fl_catV (ev_list ha) hb |>.run G (ds := out) ?_ Q q
  show ((ma ρ).map PyData.list).bind _ = _
  rw [hx]
  show (mb ρ).bind _ = _
  rw [hy]
  exact h
end
end DD

set_option Elab.async false
set_option linter.all false
set_option maxRecDepth 100000
set_option maxHeartbeats 4000000
namespace DD
variable [TabQ] [ExQ]
open PySem PySem.Spec PyProof.Rows L2

/-! ### sorted(set(ints)) -/
def ins1 (x : Int) : List Int → List Int
  | [] => [x]
  | y :: r => if x < y then x :: y :: r else if x = y then y :: r else y :: ins1 x r
def sset : List Int → List Int
  | [] => []
  | x :: r => ins1 x (sset r)
theorem ins1_mem {x z : Int} : ∀ {l : List Int}, z ∈ ins1 x l ↔ z = x ∨ z ∈ l
  | [] => by simp [ins1]
  | y :: r => by
    unfold ins1
    by_cases h : x < y
    · rw [if_pos h]; simp
    · rw [if_neg h]
      by_cases h2 : x = y
      · rw [if_pos h2]; subst h2; simp
      · rw [if_neg h2]
        simp only [List.mem_cons, ins1_mem (l := r)]
        exact ⟨fun q => by rcases q with q | q | q <;> simp [q], fun q => by rcases q with q | q | q <;> simp [q]⟩
theorem ins1_sorted {x : Int} : ∀ {l : List Int}, l.Pairwise (· < ·) → (ins1 x l).Pairwise (· < ·)
  | [], _ => by simp [ins1]
  | y :: r, h => by
    obtain ⟨h1, h2⟩ := List.pairwise_cons.mp h
    unfold ins1
    by_cases c : x < y
    · rw [if_pos c]
      refine List.pairwise_cons.mpr ⟨fun z hz => ?_, h⟩
      rcases List.mem_cons.mp hz with rfl | hz
      · exact c
      · exact Int.lt_trans c (h1 z hz)
    · rw [if_neg c]
      by_cases c2 : x = y
      · rw [if_pos c2]; exact h
      · rw [if_neg c2]
        refine List.pairwise_cons.mpr ⟨fun z hz => ?_, ins1_sorted h2⟩
        rcases ins1_mem.mp hz with rfl | hz
        · omega
        · exact h1 z hz
theorem sset_mem {z : Int} : ∀ {l : List Int}, z ∈ sset l ↔ z ∈ l
  | [] => Iff.rfl
  | x :: r => by
    show z ∈ ins1 x (sset r) ↔ _
    rw [ins1_mem, sset_mem (l := r), List.mem_cons]
theorem sset_sorted : ∀ (l : List Int), (sset l).Pairwise (· < ·)
  | [] => .nil
  | x :: r => ins1_sorted (sset_sorted r)
theorem lt_uniq : ∀ {a b : List Int}, a.Pairwise (· < ·) → b.Pairwise (· < ·) → (∀ z, z ∈ a ↔ z ∈ b) → a = b
  | [], [], _, _, _ => rfl
  | [], y :: r, _, _, h => absurd ((h y).mpr List.mem_cons_self) (by simp)
  | x :: r, [], _, _, h => absurd ((h x).mp List.mem_cons_self) (by simp)
  | x :: r, y :: t, ha, hb, h => by
    obtain ⟨a1, a2⟩ := List.pairwise_cons.mp ha
    obtain ⟨b1, b2⟩ := List.pairwise_cons.mp hb
    have e : x = y := by
      rcases List.mem_cons.mp ((h x).mp List.mem_cons_self) with e | e
      · exact e
      · rcases List.mem_cons.mp ((h y).mpr List.mem_cons_self) with e2 | e2
        · exact e2.symm
        · exact absurd (Int.lt_trans (b1 x e) (a1 y e2)) (Int.lt_irrefl _)
    subst e
    refine congrArg _ (lt_uniq a2 b2 fun z => ⟨fun q => ?_, fun q => ?_⟩)
    · rcases List.mem_cons.mp ((h z).mp (List.mem_cons_of_mem _ q)) with e | e
      · exact absurd (e ▸ a1 z q) (Int.lt_irrefl _)
      · exact e
    · rcases List.mem_cons.mp ((h z).mpr (List.mem_cons_of_mem _ q)) with e | e
      · exact absurd (e ▸ b1 z q) (Int.lt_irrefl _)
      · exact e
def intsD : List D → Option (List Int)
  | [] => some []
  | .int i :: r => (intsD r).map (i :: ·)
  | _ => none
theorem ints_some : ∀ {ds : List D} {ns : List Int}, intsD ds = some ns → ds = ns.map PyData.int
  | [], _, h => by cases h; rfl
  | d :: r, ns, h => by
    cases d <;> first | exact nomatch (show none = some ns from h) | skip
    obtain ⟨ms, e, h⟩ := map_some h
    subst h
    rw [ints_some e]; rfl
theorem ints_map : ∀ ns : List Int, intsD (ns.map PyData.int) = some ns
  | [] => rfl
  | i :: r => by show (intsD _).map _ = _; rw [ints_map r]; rfl
theorem dpa_ints_v {K : PySem.W.Frag} {H : Hp} : ∀ {ns : List Int} {vs : List V}, DpAll K H vs (ns.map PyData.int) → vs = ns.map V.int
  | [], _, h => by cases h; rfl
  | i :: r, _, h => by
    cases h with
    | cons a b => rw [dp_int a, dpa_ints_v b]; rfl
section
variable {X : Cx}
def tSortedSet (K : PySem.W.Frag) (ta : TE) : TE := fun σ H Q => ta σ H fun x H1 => ∃ (l : Addr) (ns : List Int), x = V.ref l ∧ SqL K H1 l (ns.map V.int) ∧ ns.length < 63 ∧ ∀ p, H1 p = none → Q (.ref p) (upd H1 p (.lst ((sset ns).map V.int)))
theorem pe_sortedSet {a : Expr} {ta : TE} {p p2 q pos : Pos} (hg : Gl X "sorted") (hm : X.mg "sorted" = none) (hg2 : Gl X "set") (hm2 : X.mg "set" = none) (ha : PE X a ta) (hc : X.calm = true := by rfl)
    (na : starEach [a] X.env = (false, eval a X.env) :: starEach [] X.env := by rfl) : PE X (.Call (.Name "sorted" p) [.Call (.Name "set" p2) [a] [] q] [] pos) (tSortedSet X.K ta) := by
  refine ⟨fun pins s σ H Q I h => ?_⟩
  refine Call_ (ld_blt I hg hm (by boot_by_name) ?_)
  refine PyProof.Rows.callWith_builtin1 (PyProof.Rows.args_cons ?_ rfl) rfl rfl
  refine Call_ (ld_blt I hg2 hm2 boot_set ?_)
  refine PyProof.Rows.callWith_type1 (PyProof.Rows.args_cons (thn (ha.run pins s σ H _ I h) fun v s1 ⟨x, H1, I1, r1, q1⟩ => PyProof.Rows.args_nil ?_) na) na rfl
  obtain ⟨l, ns, rfl, hq, hl, q1⟩ := q1
  cases r1
  obtain ⟨its, r, pl, hz⟩ := I1.list hq
  refine call_setI ns (I1.ok.hd hc) pl.isList (by simpa using r.ints) (by unfold scanBound; omega) fun h' tk c hS hcl hk => ?_
  refine PyProof.Rows.args_nil ?_
  have I2 : Inv X pins σ H1 { s1 with heap := h', toks := tk } := I1.kept fun b o e => hk b o e
  refine sorted_set hS (I2.ok.hd hc) (by omega) fun s' p out c2 ns2 k g o hp hg hi hs hm hln => ?_
  have e : ns2 = sset ns := lt_uniq hs (sset_sorted ns) fun z => by rw [hm, sset_mem]; simp
  subst e
  have hlen : ((sset ns).map V.int).length ≤ sizeLine := by rw [List.length_map, hln, sizeLine_eq]; omega
  have hn : H1 p = none := I2.hok.fresh hp
  have J : Inv X pins σ (upd H1 p (.lst ((sset ns).map V.int))) { { s1 with heap := h', toks := tk } with heap := s'.heap, gens := s'.gens, drawn := s'.drawn, toks := s'.toks } :=
    I2.call (ch := []) (Un.laid k hp hn) (I2.hok.laid k hp ⟨hlen, out.toList, c2, vals_of_ints hi, hg⟩) (by rw [g]; exact I2.bare) (fun _ z => nomatch z)
  have e : s' = { { s1 with heap := h', toks := tk } with heap := s'.heap, gens := s'.gens, drawn := s'.drawn, toks := s'.toks } := by
    cases s'
    cases s1
    cases o
    rfl
  rw [e]
  exact ⟨.ref p, _, J, rfl, q1 p hn⟩
end
section
variable {K : PySem.W.Frag}
def mSortedSet (a : En → Option D) : En → Option (List D) := fun ρ => (a ρ).bind fun x => match x with
  | .list ds => (intsD ds).bind fun ns => if ns.length < 63 then some ((sset ns).map PyData.int) else none
  | _ => none
theorem fl_sortedSet {ta : TE} {ma : En → Option D} (ha : ET K ta ma) : FL K (tSortedSet K ta) (mSortedSet ma) := by
  refine ⟨fun {H0 T0 σ ρ H T out} G h Q q => ?_⟩
  obtain ⟨x, hx, h⟩ := bind_some h
  refine ha.run G hx _ fun v H1 s1 d1 p1 => ?_
  split at h
  · obtain ⟨ns, e, h⟩ := bind_some h
    split at h
    · rename_i hz
      cases h
      cases ints_some e
      obtain ⟨a, us, rfl, hs, gu⟩ := dp_lst p1
      cases dpa_ints_v gu
      exact ⟨a, ns, rfl, sql_ov d1 hs, hz, fun p np => q p _ H1 s1 d1 np (dpa_ints _)⟩
    · cases h
  · cases h
end

/-! ### sorted(texts) -/
def leS (a b : Str) : Bool := !ltCps b.cps.toList a.cps.toList
def insS (x : Str) : List Str → List Str
  | [] => [x]
  | y :: r => if leS x y = true then x :: y :: r else y :: insS x r
def sortS : List Str → List Str
  | [] => []
  | x :: r => insS x (sortS r)
theorem leS_iff {a b : Str} : leS a b = true ↔ a.cps.toList ≤ b.cps.toList := by
  unfold leS
  rw [ltCps_eq, ← List.not_lt]
  simp
theorem leS_trans {a b c : Str} (h : leS a b = true) (g : leS b c = true) : leS a c = true := leS_iff.mpr (List.le_trans (leS_iff.mp h) (leS_iff.mp g))
theorem leS_total (a b : Str) : leS a b = true ∨ leS b a = true := by
  by_cases h : leS a b = true
  · exact .inl h
  · refine .inr ?_
    unfold leS at h ⊢
    rw [ltCps_eq] at h ⊢
    have h' : b.cps.toList < a.cps.toList := by simpa using h
    simpa using List.le_of_lt h'
theorem leS_anti {a b : Str} (h : leS a b = true) (g : leS b a = true) : a = b := by
  have e : a.cps.toList = b.cps.toList := List.le_antisymm (leS_iff.mp h) (leS_iff.mp g)
  obtain ⟨⟨x⟩⟩ := a
  obtain ⟨⟨y⟩⟩ := b
  cases e
  rfl
theorem insS_perm (x : Str) : ∀ l : List Str, (insS x l).Perm (x :: l)
  | [] => .refl _
  | y :: r => by
    unfold insS
    split
    · exact .refl _
    · exact ((insS_perm x r).cons y).trans (.swap x y r)
theorem sortS_perm : ∀ l : List Str, (sortS l).Perm l
  | [] => .refl _
  | x :: r => (insS_perm x (sortS r)).trans ((sortS_perm r).cons x)
theorem insS_sorted {x : Str} : ∀ {l : List Str}, l.Pairwise (fun a b => leS a b = true) → (insS x l).Pairwise (fun a b => leS a b = true)
  | [], _ => by simp [insS]
  | y :: r, h => by
    obtain ⟨h1, h2⟩ := List.pairwise_cons.mp h
    unfold insS
    split
    · rename_i c
      refine List.pairwise_cons.mpr ⟨fun z hz => ?_, h⟩
      rcases List.mem_cons.mp hz with rfl | hz
      · exact c
      · exact leS_trans c (h1 z hz)
    · rename_i c
      refine List.pairwise_cons.mpr ⟨fun z hz => ?_, insS_sorted h2⟩
      rcases List.mem_cons.mp ((insS_perm x r).mem_iff.mp hz) with rfl | hz
      · exact (leS_total z y).resolve_left c
      · exact h1 z hz
theorem sortS_sorted : ∀ l : List Str, (sortS l).Pairwise (fun a b => leS a b = true)
  | [] => .nil
  | x :: r => insS_sorted (sortS_sorted r)
theorem risingS_pw : ∀ {p : Str} {l : List Str}, risingS p l = true → (p :: l).Pairwise (fun a b => leS a b = true)
  | p, [], _ => List.pairwise_singleton _ _
  | p, x :: r, h => by
    have h' : (leS p x && risingS x r) = true := h
    obtain ⟨h1, h2⟩ := Bool.and_eq_true_iff.mp h'
    have ih := risingS_pw h2
    refine List.pairwise_cons.mpr ⟨fun z hz => ?_, ih⟩
    rcases List.mem_cons.mp hz with rfl | hz
    · exact h1
    · exact leS_trans h1 ((List.pairwise_cons.mp ih).1 z hz)
theorem sortedS_pw : ∀ {l : List Str}, sortedS l = true → l.Pairwise (fun a b => leS a b = true)
  | [], _ => .nil
  | _ :: _, h => risingS_pw h
theorem sortS_uniq {l ys : List Str} (h : ys.Perm l) (g : sortedS ys = true) : ys = sortS l :=
  List.Perm.eq_of_pairwise (fun a b _ _ x y => leS_anti x y) (sortedS_pw g) (sortS_sorted l) (h.trans (sortS_perm l).symm)
def strsD : List D → Option (List Str)
  | [] => some []
  | .str x :: r => (strsD r).map (x :: ·)
  | _ => none
theorem strs_some : ∀ {ds : List D} {ns : List Str}, strsD ds = some ns → ds = ns.map PyData.str
  | [], _, h => by cases h; rfl
  | d :: r, ns, h => by
    cases d <;> first | exact nomatch (show none = some ns from h) | skip
    obtain ⟨ms, e, h⟩ := map_some h
    subst h
    rw [strs_some e]; rfl
theorem dpa_strs {K : PySem.W.Frag} {H : Hp} : ∀ ns : List Str, DpAll K H (ns.map V.str) (ns.map PyData.str)
  | [] => .nil
  | x :: r => .cons (.str x) (dpa_strs r)
theorem dpa_strs_v {K : PySem.W.Frag} {H : Hp} : ∀ {ns : List Str} {vs : List V}, DpAll K H vs (ns.map PyData.str) → vs = ns.map V.str
  | [], _, h => by cases h; rfl
  | i :: r, _, h => by
    cases h with
    | cons a b => rw [dp_str a, dpa_strs_v b]; rfl
section
variable {K : PySem.W.Frag}
def dSortedS : List D → Option (List D)
  | [.list ds] => (strsD ds).bind fun ns => if ns.length < 64 then some ((sortS ns).map PyData.str) else none
  | _ => none
theorem cl_sortedS : CL K (rSortedS K) dSortedS := by
  refine ⟨?_⟩
  intro H T vs ds out dis g h Q q
  unfold dSortedS at h
  split at h
  · obtain ⟨ns, e, h⟩ := bind_some h
    split at h
    · rename_i hz
      cases h
      cases strs_some e
      obtain ⟨v, rfl, g2⟩ := dpa_one g
      obtain ⟨a, us, rfl, hs, gu⟩ := dp_lst g2
      cases dpa_strs_v gu
      refine ⟨a, ns, rfl, sql_ov dis hs, hz, fun ys p hp hs hn => ?_⟩
      cases sortS_uniq hp hs
      exact q p _ H (Same.refl H) dis hn (dpa_strs _)
    · cases h
  · cases h
end
end DD

set_option Elab.async false
set_option linter.all false
set_option maxRecDepth 100000
set_option maxHeartbeats 4000000
namespace DD
variable [TabQ] [ExQ]
open PySem PySem.Spec PyProof.Rows L2

/-! ### a dict of the top, as data -/
def deVs (f : Value → Option D) : List Value → Option (List D)
  | [] => some []
  | u :: r => match f u, deVs f r with
    | some d, some ds => some (d :: ds)
    | _, _ => none
def deF : Value → Option D
  | .none => some .none
  | .bool b => some (.bool b)
  | .int i _ => some (.int i)
  | .str x _ => some (.str x)
  | _ => none
def deV (K : PySem.W.Frag) : Nat → Value → Option D
  | n + 1, .ref a => match K.lookup a with
    | some ⟨.type c, _, .seq its _, _⟩ => match decide (c = "tuple") && decide (its.size ≤ 1000) with
      | true => (deVs (deV K n) its.toList).map PyData.tuple
      | false => none
    | _ => none
  | _, u => deF u
def dicD (K : PySem.W.Frag) : List DictEntry → Option (List (Str × D))
  | [] => some []
  | e :: r => match e.key, deV K 3 e.val, dicD K r with
    | .str x _, some d, some ds => some ((x, d) :: ds)
    | _, _, _ => none
def dicAt (K : PySem.W.Frag) (a : Addr) : Option (List (Str × D)) := match K.lookup a with
  | some ⟨_, _, .dict es _, _⟩ => dicD K es.toList
  | _ => none
theorem deVs_ok {K : PySem.W.Frag} {f : Value → Option D} (hf : ∀ (u : Value) {d : D}, f u = some d → ∃ v, RelV v u ∧ ∀ H, Dp K H v d) : ∀ (us : List Value) {ds : List D}, deVs f us = some ds → ∃ vs, Vals vs us ∧ ∀ H, DpAll K H vs ds
  | [], _, h => by cases h; exact ⟨[], .nil, fun _ => .nil⟩
  | u :: r, ds, h => by
    unfold deVs at h
    split at h
    · rename_i d ds2 e1 e2
      cases h
      obtain ⟨v, rv, g⟩ := hf u e1
      obtain ⟨vs, rvs, gs⟩ := deVs_ok hf r e2
      exact ⟨v :: vs, .cons rv rvs, fun H => .cons (g H) (gs H)⟩
    · cases h
theorem deF_ok {K : PySem.W.Frag} (u : Value) {d : D} (h : deF u = some d) : ∃ v, RelV v u ∧ ∀ H, Dp K H v d := by
  cases u with
  | none => cases h; exact ⟨.non, rfl, fun _ => .non⟩
  | bool b => cases h; exact ⟨.bl b, rfl, fun _ => .bl b⟩
  | int i t => cases h; exact ⟨.int i, ⟨t, rfl⟩, fun _ => .int i⟩
  | str x t => cases h; exact ⟨.str x, ⟨t, rfl⟩, fun _ => .str x⟩
  | _ => cases h
theorem deV_ok {K : PySem.W.Frag} : ∀ (n : Nat) (u : Value) {d : D}, deV K n u = some d → ∃ v, RelV v u ∧ ∀ H, Dp K H v d
  | 0, u, _, h => by
    refine deF_ok u ?_
    unfold deV at h
    exact h
  | n + 1, u, d, h => by
    cases u with
    | ref a =>
      unfold deV at h
      split at h
      · rename_i c od its k sl e
        split at h
        · rename_i e2
          obtain ⟨e3, e4⟩ := Bool.and_eq_true_iff.mp e2
          have e5 : c = "tuple" := of_decide_eq_true e3
          have e6 : its.size ≤ 1000 := of_decide_eq_true e4
          obtain ⟨ds, e7, h⟩ := map_some h
          subst h e5
          obtain ⟨vs, rv, g⟩ := deVs_ok (fun u {d} h => deV_ok n u h) its.toList e7
          exact ⟨.ref a, rfl, fun H => .tup (.inr ⟨_, its, k, e, rfl, rfl, Nat.le_trans e6 (by decide), rv⟩) (g H)⟩
        · cases h
      · cases h
    | _ => exact deF_ok _ (by unfold deV at h; exact h)
def kget (kvs : List (Str × D)) (z : Str) : Option D := match kvs.find? fun kv => kv.1 == z with
  | some kv => some kv.2
  | none => none
/-- at d: the dict of these keys and data -/
structure DictC (K : PySem.W.Frag) (w : World) (d : Addr) (kvs : List (Str × D)) : Prop where
  kd : ∃ es n, KDict K w d es n ∧ es.toList.map He.keyOf = He.keysIn w.params (kvs.map (·.1))
  hit : ∀ z x, kget kvs z = some x → ∃ u v, PySem.W.nsIn K d z = some (some u) ∧ RelV v u ∧ ∀ H, Dp K H v x
  miss : ∀ z, kget kvs z = none → PySem.W.nsIn K d z = some none
theorem dicD_hit {K : PySem.W.Frag} : ∀ {l : List DictEntry} {kvs : List (Str × D)}, dicD K l = some kvs → ∀ z : Str,
    (∀ x, kget kvs z = some x → ∃ e v, l.find? (·.key.isStr z) = some e ∧ RelV v e.val ∧ ∀ H, Dp K H v x) ∧ (kget kvs z = none → l.find? (·.key.isStr z) = none)
  | [], kvs, h, z => by
    cases h
    exact ⟨fun x h => by simp [kget] at h, fun _ => rfl⟩
  | e :: r, kvs, h, z => by
    unfold dicD at h
    split at h
    · rename_i x t d ds e1 e2 e3
      cases h
      obtain ⟨i1, i2⟩ := dicD_hit e3 z
      have ek : e.key.isStr z = (x == z) := by rw [e1]; rfl
      by_cases c : (x == z) = true
      · have g : kget ((x, d) :: ds) z = some d := by unfold kget; rw [List.find?_cons_of_pos (by exact c)]
        obtain ⟨v, rv, dv⟩ := deV_ok 3 e.val e2
        refine ⟨fun y hy => ?_, fun hn => by rw [g] at hn; cases hn⟩
        rw [g] at hy
        cases hy
        exact ⟨e, v, by rw [List.find?_cons_of_pos (by rw [ek]; exact c)], rv, dv⟩
      · have g : kget ((x, d) :: ds) z = kget ds z := by unfold kget; rw [List.find?_cons_of_neg (by exact c)]
        rw [g, List.find?_cons_of_neg (by rw [ek]; exact c)]
        exact ⟨i1, i2⟩
    · cases h
theorem dictC_of {K : PySem.W.Frag} {w : World} {a : Addr} {kvs : List (Str × D)} (h1 : He.dicW K a = some (He.keysIn w.params (kvs.map (·.1)))) (h2 : dicAt K a = some kvs) : DictC K w a kvs := by
  obtain ⟨es, n, kd⟩ := He.dicW_ok h1
  have e1 : es.toList.map He.keyOf = He.keysIn w.params (kvs.map (·.1)) := by
    unfold He.dicW at h1
    rw [kd.at_] at h1
    simp only at h1
    split at h1
    · exact Option.some.inj h1
    · cases h1
  have e2 : dicD K es.toList = some kvs := by
    unfold dicAt at h2
    rw [kd.at_] at h2
    exact h2
  have nr : es.toList.any (·.refKey) = false := by
    rw [List.any_eq_false]
    intro e he
    obtain ⟨x, t, ek, _⟩ := PySem.W.KeysLit.all kd.lit e he
    simp [DictEntry.refKey, ek]
  refine ⟨⟨es, n, kd, e1⟩, fun z x hx => ?_, fun z hz => ?_⟩
  · obtain ⟨e, v, h3, rv, dv⟩ := (dicD_hit e2 z).1 x hx
    refine ⟨e.val, v, ?_, rv, dv⟩
    unfold PySem.W.nsIn
    rw [kd.at_]
    simp only
    rw [h3]
  · have h3 := (dicD_hit e2 z).2 hz
    unfold PySem.W.nsIn
    rw [kd.at_]
    simp only
    rw [h3]
    simp only
    rw [if_neg (by rw [nr]; exact Bool.false_ne_true)]
end DD

set_option Elab.async false
set_option linter.all false
set_option maxRecDepth 100000
set_option maxHeartbeats 4000000
namespace DD
variable [TabQ] [ExQ]
open PySem PySem.Spec PyProof.Rows L2

section
variable {X : Cx} {d : Addr} {kvs : List (Str × D)}
def rInK (K : PySem.W.Frag) (d : Addr) : R2 := fun x y H Q => ∃ (z : Str) (r : Option Value), x = .str z ∧ y = .ref d ∧ PySem.W.nsIn K d z = some r ∧ Q (.bl r.isSome) H
def rNotInK (K : PySem.W.Frag) (d : Addr) : R2 := fun x y H Q => ∃ (z : Str) (r : Option Value), x = .str z ∧ y = .ref d ∧ PySem.W.nsIn K d z = some r ∧ Q (.bl (!r.isSome)) H
theorem op_inK (D : DictC X.K X.w d kvs) : OpR X (compareOp .In) (rInK X.K d) := let ⟨_, _, k, _⟩ := D.kd; op_in_kd k
theorem op_notInK (D : DictC X.K X.w d kvs) : OpR X (compareOp .NotIn) (rNotInK X.K d) := let ⟨_, _, k, _⟩ := D.kd; op_notIn_kd k
def rGetK (K : PySem.W.Frag) (d : Addr) : R2 := fun x y H Q => ∃ (z : Str) (u : Value) (v : V), x = .ref d ∧ y = .str z ∧ PySem.W.nsIn K d z = some (some u) ∧ RelV v u ∧ Q v H
theorem ix_getK (D : DictC X.K X.w d kvs) : IxR X (rGetK X.K d) := by
  obtain ⟨es, n, k, _⟩ := D.kd
  intro value slice pins s σ H x y v u Q I rx ry h hs
  obtain ⟨z, u0, v0, rfl, rfl, e, r, q⟩ := h
  exact ix_kdict value slice pins s σ H _ _ v u Q I rx ry ⟨d, z, v0, rfl, rfl, ⟨es, n, u0, k.at_, k.lit, e, r⟩, q⟩ hs
def rSortedK (d : Addr) (ks : List Str) : List V → Hp → VK → Prop := fun vs H Q => vs = [V.ref d] ∧ ∀ (p : Addr), H p = none → Q (.ref p) (upd H p (.lst ((sortS ks).map V.str)))
theorem keys_of : ∀ {l : List DictEntry} {ks : List Str} {P : Params}, l.map He.keyOf = He.keysIn P ks → l.length = ks.length ∧ ∀ (j : Nat) (e : DictEntry), l[j]? = some e → ∃ x t, ks[j]? = some x ∧ e.key = .str x t
  | [], [], _, _ => ⟨rfl, fun j e h => by simp at h⟩
  | [], _ :: _, _, h => by cases h
  | _ :: _, [], _, h => by cases h
  | e :: l, k :: ks, P, h => by
    have h1 : He.keyOf e :: l.map He.keyOf = some (k, PyData.keyHash P k) :: He.keysIn P ks := h
    injection h1 with h2 h3
    obtain ⟨i1, i2⟩ := keys_of h3
    refine ⟨by simp [i1], fun j e' he => ?_⟩
    cases j with
    | zero =>
      have : e = e' := by simpa using he
      subst this
      unfold He.keyOf at h2
      split at h2
      · rename_i x t q
        obtain ⟨h5, _⟩ := Prod.mk.inj (Option.some.inj h2)
        exact ⟨x, t, by rw [h5]; rfl, q⟩
      · cases h2
    | succ j =>
      obtain ⟨x, t, a, b⟩ := i2 j e' (by simpa using he)
      exact ⟨x, t, by simpa using a, b⟩
end
section
variable {K : PySem.W.Frag} {w : World} {d : Addr} {kvs : List (Str × D)}
def dInK (kvs : List (Str × D)) : D → Option D
  | .str z => some (.bool (kget kvs z).isSome)
  | _ => none
def dNotInK (kvs : List (Str × D)) : D → Option D
  | .str z => some (.bool (!(kget kvs z).isSome))
  | _ => none
def dGetK (kvs : List (Str × D)) : D → Option D
  | .str z => kget kvs z
  | _ => none
theorem DictC.any (C : DictC K w d kvs) (z : Str) : ∃ r, PySem.W.nsIn K d z = some r ∧ r.isSome = (kget kvs z).isSome := by
  cases e : kget kvs z with
  | none => exact ⟨none, C.miss z e, rfl⟩
  | some x =>
    obtain ⟨u, v, h, _⟩ := C.hit z x e
    exact ⟨some u, h, rfl⟩
theorem ev_inK {ta : TE} {ma : En → Option D} (C : DictC K w d kvs) (ha : ET K ta ma) : ET K (tOp (rInK K d) ta (tC (.ref d))) (mUn (dInK kvs) ma) := by
  refine ⟨fun {H0 T0 σ ρ H T y} G h Q q => ?_⟩
  obtain ⟨x, hx, h⟩ := bind_some h
  refine ha.run G hx _ fun v H1 s1 d1 p1 => ?_
  unfold dInK at h
  split at h
  · rename_i z
    cases h
    obtain ⟨r, e1, e2⟩ := C.any z
    refine ⟨z, r, dp_str p1, rfl, e1, ?_⟩
    rw [e2]
    exact q _ H1 s1 d1 (.bl _)
  · cases h
theorem ev_notInK {ta : TE} {ma : En → Option D} (C : DictC K w d kvs) (ha : ET K ta ma) : ET K (tOp (rNotInK K d) ta (tC (.ref d))) (mUn (dNotInK kvs) ma) := by
  refine ⟨fun {H0 T0 σ ρ H T y} G h Q q => ?_⟩
  obtain ⟨x, hx, h⟩ := bind_some h
  refine ha.run G hx _ fun v H1 s1 d1 p1 => ?_
  unfold dNotInK at h
  split at h
  · rename_i z
    cases h
    obtain ⟨r, e1, e2⟩ := C.any z
    refine ⟨z, r, dp_str p1, rfl, e1, ?_⟩
    rw [e2]
    exact q _ H1 s1 d1 (.bl _)
  · cases h
theorem ev_getK {ta : TE} {ma : En → Option D} (C : DictC K w d kvs) (ha : ET K ta ma) : ET K (tOp (rGetK K d) (tC (.ref d)) ta) (mUn (dGetK kvs) ma) := by
  refine ⟨fun {H0 T0 σ ρ H T y} G h Q q => ?_⟩
  obtain ⟨x, hx, h⟩ := bind_some h
  refine ha.run G hx _ fun v H1 s1 d1 p1 => ?_
  unfold dGetK at h
  split at h
  · rename_i z
    obtain ⟨u, v0, e1, r, g⟩ := C.hit z y h
    exact ⟨z, u, v0, rfl, dp_str p1, e1, r, q _ H1 s1 d1 (g _)⟩
  · cases h
def mSortedK (ks : List Str) : En → Option (List D) := fun _ => some ((sortS ks).map PyData.str)
theorem fl_sortedK {ks : List Str} : FL K (tCB (rSortedK d ks) (tCons (tC (.ref d)) tNil)) (mSortedK ks) := by
  refine ⟨fun {H0 T0 σ ρ H T out} G h Q q => ?_⟩
  cases h
  exact ⟨rfl, fun p np => q p _ H (Same.refl H) G.dis np (dpa_strs _)⟩

/-! ### l.index(x) -/
def dIndex (x y : D) : Option D := match x with
  | .list ds => if (SeqAt.shaped (.list ds) && SeqAt.shaped y) = true then (ds.findIdx? fun z => PyData.eqv z y).map fun j => .int (j : Nat) else none
  | _ => none
theorem ev_index {ta tb : TE} {ma mb : En → Option D} (ha : ET K ta ma) (hb : ET K tb mb) : ET K (tBM K "list" (rIndexD K) ta (tCons tb tNil)) (mOp dIndex ma mb) := by
  refine ⟨fun {H0 T0 σ ρ H T out} G h Q q => ?_⟩
  obtain ⟨x, hx, h⟩ := bind_some h
  obtain ⟨y, hy, h⟩ := bind_some h
  refine ha.run G hx _ fun v H1 s1 d1 p1 => ?_
  unfold dIndex at h
  split at h
  · rename_i _ ds _
    split at h
    · rename_i hs
      obtain ⟨h1, h2⟩ := Bool.and_eq_true_iff.mp hs
      obtain ⟨j, hj, h⟩ := map_some h
      subst h
      obtain ⟨a, us, rfl, hq, gu⟩ := dp_lst p1
      refine ⟨.inl ⟨rfl, us, sql_ov d1 hq⟩, ?_⟩
      refine hb.run (G.mono s1 d1) hy _ fun v2 H2 s2 d2 p2 => ?_
      obtain ⟨jl, j1, j2⟩ := List.findIdx?_eq_some_iff_getElem.mp hj
      refine ⟨a, v2, y, ds, j, ds[j], rfl, rfl, dp_ov d2 (dp_mono s2 (.lst hq gu)), dp_ov d2 p2, h1, h2, List.getElem?_eq_getElem jl, j1, fun m z hm hz => ?_, q _ H2 (s1.trans s2) d2 (.int _)⟩
      have ml : m < ds.length := Nat.lt_trans hm jl
      rw [List.getElem?_eq_getElem ml] at hz
      cases hz
      simpa using j2 m hm
    · cases h
  · cases h
end

/-! ### sorted(a dict of the top) -/
section
variable {X : Cx} {d : Addr} {kvs : List (Str × D)}
theorem pairs_of {P : Program} {w : World} : ∀ {l : List DictEntry} {ks : List Str}, l.map He.keyOf = He.keysIn w.params ks → Pairs (strKind P w) l (ks.zip (l.map (·.val)))
  | [], [], _ => .nil
  | [], _ :: _, h => by cases h
  | _ :: _, [], h => by cases h
  | e :: l, k :: ks, h => by
    have h1 : He.keyOf e :: l.map He.keyOf = some (k, PyData.keyHash w.params k) :: He.keysIn w.params ks := h
    injection h1 with h2 h3
    refine .cons ?_ rfl (pairs_of h3)
    unfold He.keyOf at h2
    split at h2
    · rename_i x t q
      obtain ⟨h5, _⟩ := Prod.mk.inj (Option.some.inj h2)
      rw [q, h5]
      exact strKind_is P w k t
    · cases h2
theorem strsAre_at : ∀ {vs : List Value} {ks : List Str}, vs.length = ks.length → (∀ (j : Nat) (v : Value), vs[j]? = some v → ∃ x t, ks[j]? = some x ∧ v = .str x t) → StrsAre vs ks
  | [], [], _, _ => .nil
  | [], _ :: _, h, _ => by simp at h
  | _ :: _, [], h, _ => by simp at h
  | v :: vs, k :: ks, h, g => by
    obtain ⟨x, t, e, rfl⟩ := g 0 v rfl
    have e2 : k = x := by simpa using e
    subst e2
    exact .cons k t (strsAre_at (by simpa using h) fun j u hu => by simpa using g (j + 1) u (by simpa using hu))
theorem cr_sortedK (C : DictC X.K X.w d kvs) (h64 : (kvs.map (·.1)).length < 64) (hnd : (kvs.map (·.1)).Nodup) (hcalm : X.calm = true) : CallR X (.builtin "sorted") (rSortedK d (kvs.map (·.1))) := by
  obtain ⟨es, n, k, ek⟩ := C.kd
  obtain ⟨hl, hat⟩ := keys_of ek
  intro pins s σ H xs us Q I r q
  obtain ⟨ex, q⟩ := q
  subst ex
  rw [Vals.ref1 r]
  have hle : (kvs.map (·.1)).length ≤ (es.toList.map (·.val)).length := by rw [List.length_map (as := es.toList), hl]; exact Nat.le_refl _
  have hlv : ((kvs.map (·.1)).zip (es.toList.map (·.val))).length = (kvs.map (·.1)).length := by rw [List.length_zip, List.length_map (as := es.toList), hl]; exact Nat.min_self _
  have da : s.heap.DictAt (strKind X.prog X.w) d ((kvs.map (·.1)).zip (es.toList.map (·.val))) n := by
    refine ⟨_, es, I.kIn d _ k.at_, ⟨rfl, rfl, rfl⟩, rfl, fun e he => ?_, pairs_of ek, ?_⟩
    · obtain ⟨x, t, e1, e2⟩ := PySem.W.KeysLit.all k.lit e (Array.mem_toList_iff.mpr he)
      exact ⟨x, by rw [e1]; exact strKind_is X.prog X.w x t, e2⟩
    · rw [List.map_fst_zip hle]
      exact hnd
  refine Calls.call_function_entry PyProof.Rows.kind_sorted PyProof.Rows.plain_sorted PyProof.Rows.entry_sorted (PyProof.Rows.args_sorted1 _) ?_
  unfold Builtin.«sorted»
  refine wpAny_bind (m := checkCount "sorted" 1 1 _) (wpAny_pure ?_)
  refine wpAny_bind (PySem.W.kdu_collect (A := X.A.in1) (PySem.W.kdl_dict (knd := strKind X.prog X.w) (ep := n) k.low) (I.ok.hd hcalm) da (by rw [hlv, sizeLine_eq]; omega) fun h' tk acc hk hacc => ?_)
  have al : acc.toList.length = (kvs.map (·.1)).length := by rw [Array.length_toList, hacc.1, hlv]
  have sa : StrsAre acc.toList (kvs.map (·.1)) := strsAre_at al fun j v e => by
    obtain ⟨z, x, e1, e2⟩ := hacc.2 j v (by rw [← Array.getElem?_toList]; exact e)
    obtain ⟨t, ev⟩ := Value.isStrOf_shape (x := z) (v := v) e2
    refine ⟨z, t, ?_, ev⟩
    have e3 : (((kvs.map (·.1)).zip (es.toList.map (·.val))).map (·.1))[j]? = some z := by rw [List.getElem?_map, e1]; rfl
    rw [List.map_fst_zip hle] at e3
    exact e3
  have I1 : Inv X pins σ H { s with heap := h', toks := tk } := I.kept hk
  refine wpAny_bind (wpAny_newList ?_ (by rw [al, sizeLine_eq]; omega))
  have at0 : (h'.push (seqObj "list" acc.toList.toArray 0)).get? h'.objs.size = some (seqObj "list" acc.toList.toArray 0) := Heap.get?_push_size _ rfl
  show wpAny _ _ _ _ _ { s with heap := h'.push (seqObj "list" acc.toList.toArray 0), toks := tk }
  refine wpAny_bind (wpAny_holding (wpAny_call_entry PyProof.Rows.slot_list_sort ⟨_, at0, rfl⟩ PyProof.Rows.entry_list_sort
    (list_sort_treeK strKind_oneLt (s := { s with heap := h'.push (seqObj "list" acc.toList.toArray 0), toks := tk }) at0 sa.keysOf (fun v₁ v₂ rest e => keyKind_strs (by rw [← e]; exact sa)) (by rw [al]; exact h64) fun st' hp hs => ⟨_, rfl, ?_⟩)
    (PyProof.Rows.args_list_sort _)))
  obtain ⟨ys, g1, g2, g3⟩ := sorted_out_str sa hp hs
  cases sortS_uniq g2 g3
  obtain ⟨e', he'⟩ := PyProof.Rows.sortedHeap_at (vs := acc.toList) (out := (arrOf st').map (·.2)) at0
  have hlen : ((sortS (kvs.map (·.1))).map V.str).length ≤ sizeLine := by rw [List.length_map, g2.length_eq, sizeLine_eq]; omega
  refine wpAny_pure ⟨_, rfl, .ref h'.objs.size, upd H h'.objs.size (.lst ((sortS (kvs.map (·.1))).map V.str)), I1.laid (t' := tk) (fun b u e => ?_) (Nat.le_refl _)
    (show ObjOk X.prog X.w _ _ _ (.lst ((sortS (kvs.map (·.1))).map V.str)) from ⟨hlen, ((arrOf st').map (·.2)).toList, e', vals_of_strs g1, by rw [Array.toArray_toList]; exact he'⟩), rfl, q _ (I1.hok.fresh (Nat.le_refl _))⟩
  have lt : b < h'.objs.size := Heap.lt_size e
  rw [PyProof.Rows.sortedHeap_old (Nat.ne_of_lt lt) (by rw [Heap.size_push]; exact Nat.lt_succ_of_lt lt)]
  exact Heap.get?_push_of_some _ e
end
end DD

set_option Elab.async false
set_option linter.all false
set_option maxRecDepth 100000
set_option maxHeartbeats 4000000
namespace DD
variable [TabQ] [ExQ]
open PySem PySem.Spec PyProof.Rows L2

/-! ### a comprehension of two clauses -/
def noOwn (ρ : En) : Bool := ρ.all fun s => match s with
  | some (.own _) => false
  | _ => true
theorem noOwn_get {ρ : En} (h : noOwn ρ = true) {i : Nat} {ds : List D} (e : ρ[i]? = some (some (Sl.own ds))) : False := by
  have := List.all_eq_true.mp h _ (List.mem_of_getElem? e)
  cases this
def coll2 (g : D → En → Option En) (c : En → Option Bool) (it1 : En → Option (List D)) (g1 : D → En → Option En) (c1 : En → Option Bool) (e : En → Option D) (vs1 : List Nat) (ρ : En) : List D → Option (List D)
  | [] => some []
  | d :: ds => (g d ρ).bind fun ρ1 => (c ρ1).bind fun b => if b = true then
      (if noOwn ρ1 = true then (it1 ρ1).bind fun ds1 => (coll g1 c1 e (wipeM ρ1 vs1) ds1).bind fun r1 => (coll2 g c it1 g1 c1 e vs1 ρ ds).map fun r => r1 ++ r else none)
    else coll2 g c it1 g1 c1 e vs1 ρ ds
def mLc2 (it : En → Option (List D)) (g : D → En → Option En) (c : En → Option Bool) (it1 : En → Option (List D)) (g1 : D → En → Option En) (c1 : En → Option Bool) (e : En → Option D) (vs vs1 : List Nat) : En → Option (List D) :=
  fun ρ => (it ρ).bind fun ds => (coll2 g c it1 g1 c1 e vs1 (wipeM ρ vs) ds).bind fun r => if r.length ≤ cap then some r else none
section
variable {K : PySem.W.Frag}
theorem Good.reput {H0 H : Hp} {T0 T : Ov} {σ : L2.St} {ρ : En} {p : Addr} {xs ys : List V} (G : Good K H0 T0 σ ρ H (put T p xs)) (no : noOwn ρ = true) (hT : T p = none) (hT0 : T0 p = none) (hH : H p = none) : Good K H0 T0 σ ρ H (put T p ys) := by
  refine ⟨G.len, G.val, fun i ds h => (noOwn_get no h).elim, fun i j ds es q h => (noOwn_get no h).elim, ⟨fun a zs e => ?_, G.dis.tab⟩, fun a zs e => ?_, G.ex, G.exc⟩
  · by_cases z : a = p
    · rw [z]; exact hH
    · rw [put_ne z] at e
      exact G.dis a zs (by rw [put_ne z]; exact e)
  · have z : a ≠ p := fun z => by rw [z, hT0] at e; cases e
    have := G.ext a zs e
    rw [put_ne z] at this ⊢
    exact this
theorem fl_lc2 {wi wi1 : TI} {g g1 : TG} {tt tt1 : TT} {te : TE} {vs vs1 : List Nat} {mi mi1 : En → Option (List D)} {mg mg1 : D → En → Option En} {mc mc1 : En → Option Bool} {me : En → Option D}
    (hi : IT K wi mi) (hg : TGm K vs g mg) (ht : TTm K tt mc) (hi1 : IT K wi1 mi1) (hg1 : TGm K vs1 g1 mg1) (ht1 : TTm K tt1 mc1) (he : ET K te me) : FL K (tLc2 wi g tt wi1 g1 tt1 te vs vs1) (mLc2 mi mg mc mi1 mg1 mc1 me vs vs1) := by
  refine ⟨fun {H0 T0 σ ρ H T out} G h Q q => ?_⟩
  obtain ⟨ds, hd, h⟩ := bind_some h
  obtain ⟨out0, h, hz⟩ := bind_some h
  split at hz
  · rename_i hz0
    cases hz
    refine hi.run G hd _ fun J Hm s1 d1 w => ?_
    intro Dl hD
    obtain ⟨nT, nH⟩ := ov_free hD
    have nT0 : T0 Dl = none := by
      cases e : T0 Dl with
      | none => rfl
      | some zs => rw [G.ext Dl zs e] at nT; cases nT
    have fr : ∀ {H' : Hp} {acc : List V}, Dis H' (put T Dl acc) → Dis H' T ∧ H' Dl = none := fun {H' acc} d => ⟨⟨fun a xs e => by
      by_cases z : a = Dl
      · rw [z, nT] at e; cases e
      · exact d a xs (by rw [put_ne z]; exact e), d.tab⟩, d Dl acc put_same⟩
    refine ⟨fun i m Hc => i ≤ ds.length ∧ m = ds.length - i ∧ ∃ H1 acc as r, Hc = ov H1 (put T Dl acc) ∧ Same Hm H1 ∧ Dis H1 T ∧ H1 Dl = none ∧ DpAll K H1 acc as ∧ coll2 mg mc mi1 mg1 mc1 me vs1 (wipeM ρ vs) (ds.drop i) = some r ∧ out = as ++ r,
      ⟨ds.length, Nat.zero_le _, rfl, Hm, [], [], out, by rw [upd_put], Same.refl Hm, d1, nH, .nil, h, rfl⟩, ?_⟩
    rintro i m Hc ⟨hil, rfl, H1, acc, as, r, rfl, sm, dis, nD, ga, hc, eo⟩
    have dput : Dis H1 (put T Dl acc) := dis_put dis nD
    by_cases hlt : i < ds.length
    · have hge : ds[i]? = some ds[i] := List.getElem?_eq_getElem hlt
      rw [List.drop_eq_getElem_cons hlt] at hc
      obtain ⟨ρ2, h2, hc⟩ := bind_some hc
      obtain ⟨b, hb, hc⟩ := bind_some hc
      refine .inr ⟨w.go i sm dput hlt, fun Hc' => ∃ H1 acc as r, Hc' = ov H1 (put T Dl acc) ∧ Same Hm H1 ∧ Dis H1 T ∧ H1 Dl = none ∧ DpAll K H1 acc as ∧ coll2 mg mc mi1 mg1 mc1 me vs1 (wipeM ρ vs) (ds.drop (i + 1)) = some r ∧ out = as ++ r,
        fun Hc' ⟨H1, acc, as, r, a1, a2, a3, a4, a5, a7, a8⟩ => ⟨ds.length - (i + 1), by omega, by omega, rfl, H1, acc, as, r, a1, a2, a3, a4, a5, a7, a8⟩, fun x Hc' y => ?_⟩
      obtain ⟨H2, rfl, s2, d2, p2⟩ := w.yld i sm dput hge y
      have G2 : Good K H0 T0 (L2.wipe σ vs) (wipeM ρ vs) H2 (put T Dl acc) := (((G.mono s1 d1).wipe vs).more hD).mono (sm.trans s2) d2
      refine hg.run G2 p2 h2 _ fun σ3 H3 G3 s3 w3 => ⟨by rw [w3, wipe_wipe], ?_⟩
      refine ht.run G3 hb _ fun H4 s4 d4 => ?_
      have G4 := G3.mono s4 d4
      cases b with
      | true =>
        rw [if_pos rfl] at hc ⊢
        split at hc
        · rename_i no
          obtain ⟨ds1, hd1, hc⟩ := bind_some hc
          obtain ⟨r1, hr1, hc⟩ := bind_some hc
          obtain ⟨r2, hr2, hc⟩ := map_some hc
          subst hc
          refine hi1.run G4 hd1 _ fun J1 Hn s5 d5 w1 => ?_
          have G5 := G4.mono s5 d5
          have sB : Same H1 Hn := s2.trans ((s3.trans s4).trans s5)
          obtain ⟨dT5, dn5⟩ := fr d5
          refine ⟨fun j k Hc => j ≤ ds1.length ∧ k = ds1.length - j ∧ ∃ H1 acc as r, Hc = ov H1 (put T Dl acc) ∧ Same Hn H1 ∧ Dis H1 T ∧ H1 Dl = none ∧ DpAll K H1 acc as ∧ coll mg1 mc1 me (wipeM ρ2 vs1) (ds1.drop j) = some r ∧ out = as ++ (r ++ r2),
            ⟨ds1.length, Nat.zero_le _, rfl, Hn, acc, as, r1, rfl, Same.refl Hn, dT5, dn5, dpa_mono sB ga, hr1, eo⟩, ?_⟩
          rintro j k Hc ⟨hjl, rfl, K1, ac, bs, rr, rfl, sk, dk, nk, gk, hk, ek⟩
          have dputk : Dis K1 (put T Dl ac) := dis_put dk nk
          by_cases hjt : j < ds1.length
          · have hje : ds1[j]? = some ds1[j] := List.getElem?_eq_getElem hjt
            rw [List.drop_eq_getElem_cons hjt] at hk
            obtain ⟨ρ6, h6, hk⟩ := bind_some hk
            obtain ⟨b1, hb1, hk⟩ := bind_some hk
            refine .inr ⟨w1.go j sk dputk hjt, fun Hc' => ∃ H1 acc as r, Hc' = ov H1 (put T Dl acc) ∧ Same Hn H1 ∧ Dis H1 T ∧ H1 Dl = none ∧ DpAll K H1 acc as ∧ coll mg1 mc1 me (wipeM ρ2 vs1) (ds1.drop (j + 1)) = some r ∧ out = as ++ (r ++ r2),
              fun Hc' ⟨H1, acc, as, r, a1, a2, a3, a4, a5, a7, a8⟩ => ⟨ds1.length - (j + 1), by omega, by omega, rfl, H1, acc, as, r, a1, a2, a3, a4, a5, a7, a8⟩, fun x6 Hc6 y6 => ?_⟩
            obtain ⟨K2, rfl, s6, d6, p6⟩ := w1.yld j sk dputk hje y6
            have G6 : Good K H0 T0 (L2.wipe σ3 vs1) (wipeM ρ2 vs1) K2 (put T Dl ac) := ((((G5.reput no nT nT0 dn5 (ys := ac)).mono sk dputk).mono s6 d6).wipe vs1)
            refine hg1.run G6 p6 h6 _ fun σ7 K3 G7 s7 w7 => ⟨by rw [w7, wipe_wipe], ?_⟩
            refine ht1.run G7 hb1 _ fun K4 s8 d8 => ?_
            have G8 := G7.mono s8 d8
            cases b1 with
            | true =>
              rw [if_pos rfl] at hk ⊢
              obtain ⟨z, hz2, hk⟩ := bind_some hk
              obtain ⟨r', hr', hk⟩ := map_some hk
              refine he.run G8 hz2 _ fun v K5 s9 d9 p9 => ?_
              obtain ⟨dT, dn⟩ := fr d9
              have sQ : Same K1 K5 := s6.trans ((s7.trans s8).trans s9)
              refine ⟨ac, ov_own put_same, ?_, K5, ac ++ [v], bs ++ [z], r', by rw [upd_put, put_put], sk.trans sQ, dT, dn, dpa_snoc (dpa_mono sQ gk) p9, hr', ?_⟩
              · refine cap_lt (Nat.le_trans ?_ hz0)
                rw [dpa_len gk, ek, List.length_append]
                omega
              · rw [ek, ← hk, List.append_assoc]
                rfl
            | false =>
              rw [if_neg Bool.false_ne_true] at hk ⊢
              obtain ⟨dT, dn⟩ := fr d8
              have sQ : Same K1 K4 := s6.trans (s7.trans s8)
              exact ⟨K4, ac, bs, rr, rfl, sk.trans sQ, dT, dn, dpa_mono sQ gk, hk, ek⟩
          · have e : j = ds1.length := by omega
            subst e
            rw [List.drop_length] at hk
            cases hk
            refine .inl ⟨w1.stop sk dputk, K1, ac, bs, r2, rfl, ?_, dk, nk, gk, hr2, ?_⟩
            · exact sm.trans (sB.trans sk)
            · rw [ek]; rfl
        · cases hc
      | false =>
        rw [if_neg Bool.false_ne_true] at hc ⊢
        obtain ⟨dT, dn⟩ := fr d4
        exact ⟨H4, acc, as, r, rfl, sm.trans (s2.trans (s3.trans s4)), dT, dn, dpa_mono (s2.trans (s3.trans s4)) ga, hc, eo⟩
    · have e : i = ds.length := by omega
      subst e
      rw [List.drop_length] at hc
      cases hc
      rw [List.append_nil] at eo
      subst eo
      refine .inl ⟨w.stop sm dput, ?_⟩
      rw [← upd_put]
      have hfree : ov H1 T Dl = none := by rw [ov_none nT]; exact nD
      exact q Dl acc H1 (s1.trans sm) dis hfree ga
  · cases hz
end
end DD

set_option Elab.async false
set_option linter.all false
set_option maxRecDepth 100000
set_option maxHeartbeats 4000000
namespace DD
variable [TabQ] [ExQ]
open PySem PySem.Spec PyProof.Rows L2
/-! ### a dict of the top, from what the top's heap shows -/
def keyS (e : DictEntry) : Option Str := match e.key with
  | .str x _ => some x
  | _ => none
def Ents (K : PySem.W.Frag) : List (Option Str × Value) → Option (List (Str × D))
  | [] => some []
  | (k, v) :: r => match k, deV K 3 v, Ents K r with
    | some x, some d, some ds => some ((x, d) :: ds)
    | _, _, _ => none
theorem ents_nil {K : PySem.W.Frag} : Ents K [] = some [] := rfl
theorem ents_cons {K : PySem.W.Frag} {k : Str} {v : Value} {d : D} {l : List (Option Str × Value)} {ds : List (Str × D)} (h : deV K 3 v = some d) (r : Ents K l = some ds) : Ents K ((some k, v) :: l) = some ((k, d) :: ds) := by
  unfold Ents
  rw [h, r]
theorem deV_tup {K : PySem.W.Frag} {a : Addr} {od : Option Addr} {its : Array Value} {n : Nat} {sl : Array (Option Value)} {ds : List D} (t : K.lookup a = some ⟨.type "tuple", od, .seq its n, sl⟩) (z : its.size ≤ 1000) (u : deVs (deV K 2) its.toList = some ds) : deV K 3 (.ref a) = some (.tuple ds) := by
  unfold deV
  rw [t]
  show (match decide ("tuple" = "tuple") && decide (its.size ≤ 1000) with
      | true => (deVs (deV K 2) its.toList).map PyData.tuple
      | false => none) = _
  rw [decide_eq_true z, u]
  rfl
theorem dicD_ents {K : PySem.W.Frag} : ∀ l : List DictEntry, dicD K l = Ents K (l.map fun e => (keyS e, e.val))
  | [] => rfl
  | e :: r => by
    unfold dicD
    show _ = Ents K ((keyS e, e.val) :: r.map fun e => (keyS e, e.val))
    unfold Ents
    rw [dicD_ents r]
    have : keyS e = (match e.key with
      | .str x _ => some x
      | _ => none) := rfl
    rw [this]
    cases e.key <;> cases deV K 3 e.val <;> cases Ents K (r.map fun e => (keyS e, e.val)) <;> rfl
theorem keys_lit {P : Params} : ∀ {l : List DictEntry} {L : List (Option Str × Value)} {K : PySem.W.Frag} {kvs : List (Str × D)}, PySem.W.KeysLit P l → l.map (fun e => (keyS e, e.val)) = L → Ents K L = some kvs → l.map He.keyOf = He.keysIn P (kvs.map (·.1))
  | [], L, K, kvs, _, h, g => by
    subst h
    cases g
    rfl
  | e :: r, L, K, kvs, y, h, g => by
    subst h
    obtain ⟨⟨x, t, e1, e2⟩, y2⟩ := y
    have g' : (match keyS e, deV K 3 e.val, Ents K (r.map fun e => (keyS e, e.val)) with
      | some x, some d, some ds => some ((x, d) :: ds)
      | _, _, _ => none) = some kvs := g
    have ke : keyS e = some x := by unfold keyS; rw [e1]
    rw [ke] at g'
    split at g'
    · rename_i x2 d ds q1 q2 q3
      cases q1
      cases g'
      have ih := keys_lit (K := K) y2 rfl q3
      show He.keyOf e :: r.map He.keyOf = some (x, PyData.keyHash P x) :: He.keysIn P (ds.map (·.1))
      rw [ih]
      have : He.keyOf e = some (x, PyData.keyHash P x) := by
        unfold He.keyOf
        rw [e1, e2]
      rw [this]
    · cases g'
theorem dictC_mk {K : PySem.W.Frag} {w : World} {a : Addr} {es : Array DictEntry} {n : Nat} {L : List (Option Str × Value)} {kvs : List (Str × D)} (l : K.lookup a = some ⟨.type "dict", none, .dict es n, #[]⟩) (y : PySem.W.KeysLit w.params es.toList) (z : (a == sysModules) = false)
    (v : es.toList.map (fun e => (keyS e, e.val)) = L) (g : Ents K L = some kvs) : DictC K w a kvs := by
  have kl := keys_lit y v g
  refine dictC_of (w := w) ?_ ?_
  · unfold He.dicW
    rw [l]
    show (match decide ("dict" = "dict") && ((#[] : Array (Option Value)).isEmpty && !(a == sysModules)) with
      | true => some (es.toList.map He.keyOf)
      | false => none) = _
    rw [z, kl]
    rfl
  · unfold dicAt
    rw [l]
    show dicD K es.toList = _
    rw [dicD_ents, v, g]
end DD

set_option Elab.async false
set_option linter.all false
namespace DD
variable [TabQ] [ExQ]
open PySem PySem.Spec PyProof.Rows L2
/-! ### a list + a list, both of any form -/
section
variable {K : PySem.W.Frag}
def mCatE (a b : En → Option D) : En → Option (List D) := fun ρ => (a ρ).bind fun x => (b ρ).bind fun y => match x, y with
  | .list xs, .list ys => if xs.length + ys.length ≤ cap then some (xs ++ ys) else none
  | _, _ => none
theorem fl_catE {ta tb : TE} {ma mb : En → Option D} (ha : ET K ta ma) (hb : ET K tb mb) : FL K (tOp (rCatX K) ta tb) (mCatE ma mb) := by
  refine ⟨fun {H0 T0 σ ρ H T out} G h Q q => ?_⟩
  obtain ⟨x, hx, h⟩ := bind_some h
  obtain ⟨y, hy, h⟩ := bind_some h
  refine ha.run G hx _ fun v H1 s1 d1 p1 => hb.run (G.mono s1 d1) hy _ fun v2 H2 s2 d2 p2 => ?_
  split at h
  · rename_i xs ys
    split at h
    · rename_i hz
      cases h
      obtain ⟨a, us, rfl, hs, gu⟩ := dp_lst (dp_mono s2 p1)
      obtain ⟨b, ws, rfl, hs2, gw⟩ := dp_lst p2
      exact ⟨a, b, us, ws, rfl, rfl, sql_ov d2 hs, sql_ov d2 hs2, by rw [dpa_len gu, dpa_len gw]; exact cap_line hz, fun p np => q p _ H2 (s1.trans s2) d2 np (dpa_append gu gw)⟩
    · cases h
  · cases h
end
end DD

set_option Elab.async false
set_option linter.all false
set_option maxRecDepth 100000
set_option maxHeartbeats 4000000
/-! sets of texts: made of a list, put in a row -/
namespace DD
variable [TabQ] [ExQ]
open PySem PySem.Spec PyProof.Rows L2
def txtOf : Value → Str
  | .str x _ => x
  | _ => ""
def addS (m : List Str) (k : Str) : List Str := if k ∈ m then m else k :: m
theorem addS_mem {m : List Str} {k z : Str} : z ∈ addS m k ↔ z ∈ m ∨ z = k := by
  unfold addS
  split
  · rename_i h
    exact ⟨.inl, fun q => q.elim id fun e => e ▸ h⟩
  · rw [List.mem_cons]; exact Or.comm
theorem addS_nd {m : List Str} {k : Str} (h : m.Nodup) : (addS m k).Nodup := by
  unfold addS
  split
  · exact h
  · exact List.nodup_cons.mpr ⟨by assumption, h⟩
theorem addS_len {m : List Str} {k : Str} : (addS m k).length ≤ m.length + 1 := by
  unfold addS
  split
  · omega
  · rw [List.length_cons]; omega
section
variable {P : Program} {w : World}
/-- the set of texts at a: its members m, each once; it can be walked -/
def TxS (P : Program) (w : World) (h : Heap) (a : Addr) (m : List Str) : Prop :=
  ∃ o es ep t, h.get? a = some o ∧ o.ExactSet ∧ o.data = .set es ep t ∧ ElemsOf (PySem.strKind P w) es.toList ∧ (es.toList.map fun e => txtOf e.2).Perm m ∧ m.Nodup ∧
    es.size < scanBound ∧ t.fits es.size = true ∧ Ris t.place.toList ∧ (w.params.followText "set-order" = true ∨ t.led = true)
theorem TxS.at {h h' : Heap} {a : Addr} {m : List Str} (R : TxS P w h a m) (k : ∀ o, h.get? a = some o → h'.get? a = some o) : TxS P w h' a m := by
  obtain ⟨o, es, ep, t, ho, r⟩ := R
  exact ⟨o, es, ep, t, k o ho, r⟩
theorem tx_is {k : Str} {v : Value} (h : (PySem.strKind P w).is k v = true) : ∃ t, v = .str k t := Value.isStrOf_shape h
theorem tx_of {l : List (Int × Value)} (g : ElemsOf (PySem.strKind P w) l) {e : Int × Value} (he : e ∈ l) (k : Str) : (PySem.strKind P w).is k e.2 = true ↔ txtOf e.2 = k := by
  obtain ⟨⟨k0, h0, _⟩, _⟩ := g e he
  obtain ⟨t, q⟩ := tx_is h0
  rw [q]
  constructor
  · intro z
    obtain ⟨t2, q2⟩ := tx_is z
    cases q2
    rfl
  · intro z
    have z' : k0 = k := z
    subst z'
    exact PySem.strKind_is P w _ t
theorem tx_mem {l : List (Int × Value)} {m : List Str} (g : ElemsOf (PySem.strKind P w) l) (pm : (l.map fun e => txtOf e.2).Perm m) (k : Str) : k ∈ m ↔ ∃ e ∈ l, (PySem.strKind P w).is k e.2 = true := by
  rw [← pm.mem_iff, List.mem_map]
  exact ⟨fun ⟨e, he, q⟩ => ⟨e, he, (tx_of g he k).2 q⟩, fun ⟨e, he, q⟩ => ⟨e, he, (tx_of g he k).1 q⟩⟩
theorem tx_new {h : Heap} {a : Addr} (ho : h.get? a = some (set0 w)) : TxS P w h a [] := by
  refine ⟨_, #[], 0, _, ho, ⟨rfl, rfl, rfl⟩, rfl, fun e he => ?_, ?_, List.nodup_nil, by decide, by rfl, List.Pairwise.nil, ?_⟩
  · simp at he
  · exact List.Perm.refl _
  · show _ ∨ (!w.params.followText "set-order") = true
    cases w.params.followText "set-order" with
    | true => exact .inl rfl
    | false => exact .inr rfl
end
section
variable {P : Program} {w : World} {A : Around} {E : Value → Shared → Prop} {s : Shared} {a : Addr}
theorem put_at {h : Heap} {o : Obj} {es es' : Array (Int × Value)} {ep : Nat} {t t' : SetTable} (ho : h.get? a = some o) (hd : o.data = .set es ep t) :
    (h.update a (Obj.putSet es' t')).get? a = some { o with data := .set es' (ep + 1) t' } := by
  have e1 := putSet_of es' t' hd
  have e2 := Heap.get?_update_self (Obj.putSet es' t') ho (by rw [e1]; rfl)
  rw [e1] at e2; exact e2
/-- the new member is laid, the table made wider where it is too full -/
theorem tx_laid {gv : Bool → Sem Unit} (hg : ∀ (b : Bool) (s₁ : Shared) (Q' : Unit → Shared → Prop), Q' () s₁ → wpAny (model P w) A (gv b) Q' E s₁)
    {o : Obj} {es es1 : Array (Int × Value)} {ep : Nat} {t t2 : SetTable} {m : List Str} (ho : s.heap.get? a = some o) (hex : o.ExactSet) (hd : o.data = .set es ep t)
    (g1 : ElemsOf (PySem.strKind P w) es1.toList) (pm1 : (es1.toList.map fun e => txtOf e.2).Perm m) (nd : m.Nodup) (hb1 : es1.size < scanBound) (hf2 : t2.fits es1.size = true) (hr : Ris t2.place.toList)
    (hl : w.params.followText "set-order" = true ∨ t2.led = true) {wasD : Bool} {R : Option Bool → Shared → Prop} (hR : ∀ h', Heap.SameBut a s.heap h' → TxS P w h' a m → R (some true) { s with heap := h' }) :
    wpAny (model P w) A (do
        storeSet a es1 t2
        if (!wasD && t2.tooFull) = true then do
            gv (relayAll t2 es1 (SetTable.grown es1.size)).2.2
            storeSet a (relayAll t2 es1 (SetTable.grown es1.size)).1 (relayAll t2 es1 (SetTable.grown es1.size)).2.1
            pure (some true)
          else pure (some true)) R E s := by
  refine wpAny_bind (wpAny_storeSet_of ho hd ?_ (fits_of_scanBound hb1))
  have ho1 := put_at (es' := es1) (t' := t2) ho hd
  have sb := Heap.SameBut.update s.heap a (Obj.putSet es1 t2)
  split
  · have q1 := relayAll_perm t2 es1 (SetTable.grown es1.size)
    have q2 := relayAll_fits t2 es1 (SetTable.grown es1.size)
    have q3 := L2.relayAll_ris t2 es1 (SetTable.grown es1.size)
    have q4 := L2.relayAll_led t2 es1 (SetTable.grown es1.size)
    generalize relayAll t2 es1 (SetTable.grown es1.size) = W at q1 q2 q3 q4 ⊢
    obtain ⟨es2, t3, gave⟩ := W
    simp only at q1 q2 q3 q4 ⊢
    have hz : es2.size = es1.size := by rw [← Array.length_toList, q1.length_eq, Array.length_toList]
    have hb2 : es2.size < scanBound := by rw [hz]; exact hb1
    refine wpAny_bind (hg _ _ _ (wpAny_bind (wpAny_storeSet_of ho1 rfl ?_ (fits_of_scanBound hb2))))
    refine wpAny_pure (hR _ (sb.trans (Heap.SameBut.update _ a _)) ⟨_, es2, _, t3, put_at (es' := es2) (t' := t3) ho1 rfl, hex, rfl, g1.perm q1, (q1.map _).trans pm1, nd, hb2, q2, q3, hl.imp id fun z => by rw [q4]; exact z⟩)
  · exact wpAny_pure (hR _ sb ⟨_, es1, _, t2, ho1, hex, rfl, g1, pm1, nd, hb1, hf2, hr, hl⟩)
theorem tx_add {m : List Str} {k : Str} {tk : Tok} {Q : Bool → Shared → Prop} (R : TxS P w s.heap a m) (room : m.length + 1 < scanBound)
    (hQ : ∀ b h', Heap.SameBut a s.heap h' → TxS P w h' a (addS m k) → Q b { s with heap := h' }) :
    wpAny (model P w) A (setAddHashed a (.str k tk) ((PySem.strKind P w).hash k)) Q E s := by
  obtain ⟨o, es, ep, t, ho, hex, hd, g, pm, nd, hb, hf, hr, hl⟩ := R
  have hkey : (PySem.strKind P w).is k (.str k tk) = true := PySem.strKind_is P w k tk
  have hsc : (Value.str k tk).scannable = true := rfl
  unfold setAddHashed; unfold setAddHashedIn
  refine wpAny_holding (wpAny_bind (wpAny_setState_of ho hd hf ?_))
  simp only [byScan_of hsc hb g, ↓reduceIte]; unfold setAddByScan
  refine wpAny_bind (wpAny_bind (wpAny_rule (wpAny_bind (wpAny_setScan_of hkey ho hd hf g ?_))))
  cases hfi : List.findIdx? (fun e => (PySem.strKind P w).is k e.2) es.toList with
  | some j =>
    simp only
    obtain ⟨hj, pj, _⟩ := List.findIdx?_eq_some_iff_getElem.mp hfi
    have hin : k ∈ m := (tx_mem g pm k).2 ⟨es.toList[j], List.getElem_mem hj, pj⟩
    refine wpAny_pure (wpAny_pure (hQ _ s.heap (Heap.SameBut.refl a s.heap) ⟨o, es, ep, t, ho, hex, hd, g, ?_, addS_nd nd, hb, hf, hr, hl⟩))
    unfold addS; rw [if_pos hin]; exact pm
  | none =>
    simp only
    have hnk : k ∉ m := fun z => by
      obtain ⟨e, he, q⟩ := (tx_mem g pm k).1 z
      exact absurd (List.findIdx?_eq_none_iff.mp hfi e he) (by rw [q]; decide)
    have hgv : ∀ (b : Bool) {s₁ : Shared} {Q' : Unit → Shared → Prop}, Q' () s₁ → wpAny (model P w) A (match b with | true => rule "set.scan.the-table-gave-way" | false => pure ()) Q' E s₁ := fun b => by
      intro s₁ Q' q
      cases b with
      | true => exact wpAny_rule q
      | false => exact wpAny_pure q
    have q1 := layNew_perm t es ((PySem.strKind P w).hash k) (.str k tk)
    have q2 := layNew_fits t es ((PySem.strKind P w).hash k) (.str k tk)
    have q3 := L2.layNew_ris t es ((PySem.strKind P w).hash k) (.str k tk) hr
    have q4 := L2.layNew_led t es ((PySem.strKind P w).hash k) (.str k tk)
    generalize layNew t es ((PySem.strKind P w).hash k) (.str k tk) = W at q1 q2 q3 q4 ⊢
    obtain ⟨es1, t1, wasD, gave⟩ := W
    simp only at q1 q2 q3 q4 ⊢
    rw [Array.toList_push] at q1
    have g1 : ElemsOf (PySem.strKind P w) es1.toList := (g.push hkey hsc).perm q1
    have pm1 : (es1.toList.map fun e => txtOf e.2).Perm (addS m k) := by
      have z := q1.map fun e => txtOf e.2
      rw [List.map_append] at z
      unfold addS; rw [if_neg hnk]
      exact z.trans ((List.perm_append_singleton _ _).trans (pm.cons k))
    have hz : es1.size = m.length + 1 := by
      rw [← Array.length_toList, q1.length_eq, List.length_append]
      have := pm.length_eq
      rw [List.length_map] at this
      rw [this]; rfl
    have hb1 : es1.size < scanBound := by rw [hz]; exact room
    have hled : w.params.followText "set-order" = true ∨ t1.led = true := hl.imp id fun z => by rw [q4]; exact z
    refine wpAny_bind (hgv _ ?_)
    split
    · refine wpAny_bind ?_
      rw [hashByValue_scannable 8 hsc]
      refine wpAny_pure (tx_laid ?_ ho hex hd g1 pm1 (addS_nd nd) hb1 ?_ ?_ ?_ ?_)
      · intro b s₁ Q' q; exact hgv b q
      · first | (split <;> first | exact q2 | exact SetTable.fits_plain_off q2) | exact q2
      · first | (split <;> exact q3) | exact q3
      · first | (split <;> exact hled) | exact hled
      · intro h' sb r; simp only; exact wpAny_pure (hQ _ h' sb r)
    · refine wpAny_bind (wpAny_pure ?_)
      simp only [↓reduceIte]
      refine tx_laid ?_ ho hex hd g1 pm1 (addS_nd nd) hb1 q2 q3 hled ?_
      · intro b s₁ Q' q; exact hgv b q
      · intro h' sb r; simp only; exact wpAny_pure (hQ _ h' sb r)
end
def nubS (xs : List Str) : List Str := xs.foldl addS []
theorem nubS_snoc (xs : List Str) (k : Str) : nubS (xs ++ [k]) = addS (nubS xs) k := by unfold nubS; rw [List.foldl_append]; rfl
section
variable {P : Program} {w : World} {A : Around} {E : Value → Shared → Prop} {s : Shared}
theorem tx_loop {I : Addr} {fp wr : List Addr} {G : Array GenState → Array GenState → Prop} {n : Nat} {Pv : Nat → Value → Prop} {St : Nat → Shared → Prop} {R : Result → Shared → Prop}
    (W : WalksS P w A.in1 I fp wr G n Pv St) (S : Addr) (hSf : S ∉ fp) (xs : List Str) (hn : n = xs.length) (hb : xs.length + 1 < scanBound) (hval : ∀ i v, Pv i v → ∃ k t, xs[i]? = some k ∧ v = .str k t) :
    ∀ (k i : Nat) (s : Shared), n - i = k → i ≤ n → St i s → (nubS (xs.take i)).length ≤ i → TxS P w s.heap S (nubS (xs.take i)) →
      (∀ s', Moved (S :: wr) G s s' → TxS P w s'.heap S (nubS xs) → (nubS xs).length ≤ n → R (.ok (.ret .none)) s') →
      codeAny (model P w) A (.builtin "set.update.loop" ⟨[.ref S, .ref I], []⟩) R s := by
  have hSw : S ∉ wr := fun h => hSf (W.sub _ h)
  have hsub : ∀ b ∈ wr, b ∈ S :: wr := fun b hb => List.mem_cons_of_mem _ hb
  intro k
  induction k with
  | zero =>
    intro i s hk hi hst hc hS hR
    have hin : i = n := by omega
    subst hin
    refine codeAny_builtin F.entry_set_update_loop ?_
    rw [Around.under_plainId F.plain_set_update_loop _]
    have e : xs.take i = xs := List.take_of_length_le (by omega)
    rw [e] at hS hc
    refine wpAny_bind (m := pyNext (.ref I)) (W.done s _ _ hst fun s' hm => ?_)
    exact wpAny_pure (hR s' (hm.mono hsub) (hS.at fun o e => hm.heap S o hSw e) hc)
  | succ k ih =>
    intro i s hk hi hst hc hS hR
    have hlt : i < n := by omega
    refine codeAny_builtin F.entry_set_update_loop ?_
    rw [Around.under_plainId F.plain_set_update_loop _]
    refine wpAny_bind (m := pyNext (.ref I)) (W.item i s _ _ hlt hst fun v s' hP hst' hm => ?_)
    obtain ⟨z, t, hz, rfl⟩ := hval i v hP
    have hS' : TxS P w s'.heap S (nubS (xs.take i)) := hS.at fun o e => hm.heap S o hSw e
    refine wpAny_bind (m := holding [Value.str z t] (setAdd S (.str z t))) (wpAny_holding ?_)
    unfold setAdd
    refine wpAny_holding (wpAny_bind ((PySem.strKind P w).pyHash (k := z) (PySem.strKind_is _ _ _ _) ?_))
    refine tx_add (s := { s' with toks := s'.toks + 1 }) hS' (by omega) fun b h' sb hS2 => ?_
    have e1 : xs.take (i + 1) = xs.take i ++ [z] := by rw [List.take_add_one, hz]; rfl
    have hS3 : TxS P w h' S (nubS (xs.take (i + 1))) := by rw [e1, nubS_snoc]; exact hS2
    have hc3 : (nubS (xs.take (i + 1))).length ≤ i + 1 := by
      rw [e1, nubS_snoc]
      exact Nat.le_trans addS_len (by omega)
    refine wpAny_pure ⟨plainId_quiet F.plain_set_update_loop _, ih (i + 1) _ (by omega) hlt (W.frame _ s' _ _ hst' (Nat.le_succ _) fun b hb o e => ?_) hc3 hS3 fun s'' hm2 hS4 hc4 => ?_⟩
    · exact (sb.2 b fun h : b = S => hSf (h ▸ hb)).trans e
    · refine hR s'' (Moved.trans W.gtrans ((hm.mono hsub).then_heap (Nat.le_succ _) fun b o hb e => ?_) hm2) hS4 hc4
      exact (sb.2 b fun h : b = S => hb (h ▸ List.mem_cons_self)).trans e
theorem strs_nth : ∀ {us : List Value} {ys : List Str}, StrsAre us ys → ∀ (i : Nat) (v : Value), us[i]? = some v → ∃ t, v = .str (ys.getD i Str.empty) t
  | _, _, .nil, i, v, h => by simp at h
  | _, _, .cons x t _, 0, v, h => by
    simp at h
    exact ⟨t, by rw [← h]; rfl⟩
  | _, _, .cons x t r, i + 1, v, h => by
    obtain ⟨t2, q⟩ := strs_nth r i v (by simpa using h)
    exact ⟨t2, by rw [q]; rfl⟩
/-- the step that fills the new set from the list of texts at l -/
theorem fillTx {h0 : Heap} {l : Addr} {items : Array Value} (xs : List Str) (hh : A.handled = none) (hl : (h0.push (set0 w)).IsList l items) (hlt : l < h0.objs.size) (hi : StrsAre items.toList xs) (hb : xs.length + 1 < scanBound) {R : Result → Shared → Prop} {t : Shared} (ht : t.heap = h0.push (set0 w))
    (h : ∀ (h' : Heap) (tk : Nat), TxS P w h' h0.objs.size (nubS xs) → (nubS xs).length ≤ xs.length → (∀ b o, h0.get? b = some o → h'.get? b = some o) → R (.ok (.ret .none)) { t with heap := h', toks := tk }) :
    codeAny (model P w) A.in1.in1 (.builtin "set.update.loop" ⟨[.ref h0.objs.size, .ref (h0.push (set0 w)).objs.size], []⟩) R { t with heap := (h0.push (set0 w)).push { cls := .type "list_iterator", data := .fields #[.ref l, .int 0 0] } } := by
  have size1 : (h0.push (set0 w)).objs.size = h0.objs.size + 1 := Heap.size_push ..
  have len : items.size = xs.length := by
    have q := StrsAre.length hi
    rwa [Array.length_toList] at q
  have ne1 : l ≠ (h0.push (set0 w)).objs.size := by rw [size1]; exact Nat.ne_of_lt (Nat.lt_succ_of_lt hlt)
  have out : h0.objs.size ∉ [(h0.push (set0 w)).objs.size, l] := by
    rw [size1]
    intro m
    simp only [List.mem_cons, List.not_mem_nil, or_false] at m
    rcases m with m | m
    · exact absurd m (Nat.ne_of_lt (Nat.lt_succ_self _))
    · exact absurd m (Nat.ne_of_gt hlt)
  have at0 : ((h0.push (set0 w)).push { cls := .type "list_iterator", data := .fields #[.ref l, .int 0 0] }).get? h0.objs.size = some (set0 w) := Heap.get?_push_of_some _ (Heap.get?_push_size _ rfl)
  refine tx_loop (P := P) (w := w) ((Walks.list (A := A.in1.in1.in1) (by simpa using hh) _ l ne1 items).toS) h0.objs.size out xs len hb (fun i v e => ?_) (items.size - 0) 0 _ (by omega) (Nat.zero_le _)
    ⟨⟨_, Heap.get?_push_size _ rfl, rfl, rfl⟩, hl.push _⟩ (Nat.le_refl 0) (tx_new at0) fun s' hm hS hc => ?_
  · obtain ⟨tk, e2⟩ := strs_nth hi i v (by rw [Array.getElem?_toList]; exact e)
    have hil : i < xs.length := by rw [← len]; exact (Array.getElem?_eq_some_iff.mp e).1
    refine ⟨xs[i], tk, List.getElem?_eq_getElem hil, ?_⟩
    rw [e2, List.getD_eq_getElem?_getD, List.getElem?_eq_getElem hil]
    rfl
  · obtain ⟨h', g', d', tk', os'⟩ := s'
    obtain rfl : g' = t.gens := hm.gens
    obtain rfl : d' = t.drawn := hm.drawn
    obtain rfl : os' = t.os := hm.os
    refine h h' tk' hS (by rw [← len]; exact hc) fun b o e => hm.heap b o ?_ (Heap.get?_push_of_some _ (Heap.get?_push_of_some _ e))
    have lt := Heap.lt_size e
    rw [size1]
    intro m
    simp only [List.mem_cons, List.not_mem_nil, or_false] at m
    rcases m with m | m
    · exact absurd m (Nat.ne_of_lt lt)
    · exact absurd m (Nat.ne_of_lt (Nat.lt_succ_of_lt lt))
theorem call_setTx {l : Addr} {items : Array Value} (xs : List Str) {Q : Value → Shared → Prop} (hh : A.handled = none) (hl : s.heap.IsList l items) (hit : StrsAre items.toList xs) (hb : xs.length + 1 < scanBound)
    (h : ∀ (h' : Heap) (tk : Nat), TxS P w h' s.heap.objs.size (nubS xs) → (nubS xs).length ≤ xs.length → (∀ b o, s.heap.get? b = some o → h'.get? b = some o) → Q (.ref s.heap.objs.size) { s with heap := h', toks := tk }) :
    wpAny (model P w) A (call (.type "set") [.ref l]) Q E s := by
  obtain ⟨c0, tl, hmro⟩ := F.called_set.mro
  have h0 := F.called_set.made
  have h1 := F.called_set.notType
  have h2 := F.called_set.canCreate
  have h3 := F.called_set.sub
  have h4 := F.typeCall_set_1 (.ref l)
  refine wpAny_call (codeAny_of_tree (show wpAny _ _ (callAny (.type "set") _) _ _ _ from wpAny_pure ⟨Code.quiet_builtin _ (by decide +kernel), codeAny_builtin F.entry_type_call ?_⟩))
  rw [Around.under_plain (weight_type_call_type "set" [.ref l] []) rfl]
  repeat (any_goals (first | assumption | wp_step))
  refine codeAny_mono (code_set_led1 (.ref l) (E := E) (Q₁ := fun obj s₁ => obj = .ref s.heap.objs.size ∧ s₁ = { s with heap := s.heap.push (set0 w) }) ⟨rfl, rfl⟩) fun r s₁ hr => ?_
  cases r with
  | error e => exact hr
  | ok fl =>
    cases fl with
    | ret obj =>
      obtain ⟨rfl, rfl⟩ := hr
      have at0 : (s.heap.push (set0 w)).get? s.heap.objs.size = some (set0 w) := Heap.get?_push_size _ rfl
      have ty : Shared.TypeIs { s with heap := s.heap.push (set0 w) } (.ref s.heap.objs.size) "set" := ⟨_, at0, rfl⟩
      have h5 := F.called_set.init.lookup
      have h6 := F.called_set.init.bind (.ref s.heap.objs.size)
      repeat (any_goals (first | assumption | wp_step))
      refine codeAny_mono (codeAny_call_builtin (R := wants (fun r s₂ => r = .none ∧ ∃ h' tk, s₂ = { s with heap := h', toks := tk } ∧ TxS P w h' s.heap.objs.size (nubS xs) ∧ (nubS xs).length ≤ xs.length ∧
          (∀ b o, s.heap.get? b = some o → h'.get? b = some o)) E) F.called_set.init.plain F.entry_set_init (check_set_init_1 ty ?_)) fun r₂ s₂ hr₂ => ?_
      · obtain ⟨⟨ocls, odict, odata, oslots⟩, hol, hcl, nl, hdl⟩ := hl
        simp only at hcl hdl
        subst hcl hdl
        have hol' : (s.heap.push (set0 w)).get? l = some { cls := .type "list", dict := odict, data := .seq items nl, slots := oslots } := Heap.get?_push_of_some _ hol
        have h7 := F.sub_list_set
        have h8 := F.sub_list_frozenset
        have h9 : (Value.type "list" == Value.type "dict") = false := by decide
        have hL : (s.heap.push (set0 w)).IsList l items := ⟨_, hol', rfl, nl, rfl⟩
        unfold Builtin.«set.__init__» noKeywords Builtin.Frozenset.updateFrom
        generalize hPI : pyIter = PI
        wp_walk
        subst hPI
        refine wpAny_pyIter_list hL (wpAny_bind (wpAny_runValue ?_))
        refine fillTx (A := A) (t := { s with heap := s.heap.push (set0 w) }) xs hh hL (Heap.lt_size hol) hit hb rfl fun h' tk hS hc hk => ?_
        refine wpAny_pure ?_
        show wpAny _ _ (ret Value.none) _ _ _
        exact wpAny_pure ⟨rfl, h', tk, rfl, hS, hc, hk⟩
      · cases r₂ with
        | error e => exact hr₂
        | ok fl₂ =>
          cases fl₂ with
          | ret r =>
            obtain ⟨rfl, h', tk, rfl, hS, hc, hk⟩ := hr₂
            repeat (any_goals (first | assumption | wp_step))
            exact h _ _ hS hc hk
          | _ => exact hr₂.elim
    | _ => exact hr.elim
/-- the members as texts -/
theorem strs_vals : ∀ {vs : List Value}, (∀ v ∈ vs, ∃ k t, v = Value.str k t) → StrsAre vs (vs.map txtOf)
  | [], _ => .nil
  | v :: r, h => by
    obtain ⟨k, t, rfl⟩ := h v List.mem_cons_self
    exact .cons k t (strs_vals fun u hu => h u (List.mem_cons_of_mem _ hu))
/-- sorted(set of texts) -/
theorem sortTx {a : Addr} {m : List Str} {Q : Value → Shared → Prop} (R : TxS P w s.heap a m) (hh : A.handled = none) (h64 : m.length < 64)
    (hQ : ∀ s' p (out : Array Value) (c : Nat), (∀ b o, s.heap.get? b = some o → s'.heap.get? b = some o) → s'.gens = s.gens → s'.os = s.os → s.heap.objs.size ≤ p →
      s'.heap.get? p = some (seqObj "list" out c) → StrsAre out.toList (sortS m) → Q (.ref p) s') :
    wpAny (model P w) A (call (.builtin "sorted") [.ref a]) Q E s := by
  obtain ⟨o, es, ep, t, ho, hex, hd, g, pm, nd, hb, hf, hr, hl⟩ := R
  refine Calls.call_function_entry kind_sorted plain_sorted entry_sorted (args_sorted1 _) ?_
  unfold Builtin.«sorted»
  refine wpAny_bind (m := checkCount "sorted" 1 1 _) (wpAny_pure (wpAny_bind (L2.collect_set (A := A.in1) hh ⟨o, ho, hex.1, hd⟩ hf hb hr hl fun s1 vs k1 hz g1 o1 pv => ?_)))
  have len : vs.length = m.length := by
    have q := pm.length_eq
    rw [List.length_map] at q
    rw [pv.length_eq, List.length_map, q]
  have hS : StrsAre vs (vs.map txtOf) := strs_vals fun v hv => by
    obtain ⟨e, he, q⟩ := List.mem_map.mp (pv.mem_iff.mp hv)
    obtain ⟨⟨k, hk, _⟩, _⟩ := g e he
    obtain ⟨t0, q2⟩ := tx_is hk
    exact ⟨k, t0, by rw [← q]; exact q2⟩
  have pk : (vs.map txtOf).Perm m := by
    have q := pv.map txtOf
    rw [List.map_map] at q
    exact q.trans pm
  refine wpAny_bind (wpAny_newList ?_ (by rw [len, sizeLine_eq]; omega))
  have hoL : (s1.heap.push (seqObj "list" vs.toArray 0)).get? s1.heap.objs.size = some (seqObj "list" vs.toArray 0) := Heap.get?_push_size _ rfl
  refine wpAny_bind (wpAny_holding (wpAny_call_entry PyProof.Rows.slot_list_sort ⟨_, hoL, rfl⟩ PyProof.Rows.entry_list_sort
    (list_sort_treeK strKind_oneLt (s := { s1 with heap := s1.heap.push (seqObj "list" vs.toArray 0) }) hoL hS.keysOf (fun v₁ v₂ rest e => keyKind_strs (by rw [← e]; exact hS)) (by rw [len]; exact h64) fun st' hp hs => ⟨_, rfl, ?_⟩)
    (PyProof.Rows.args_list_sort _)))
  obtain ⟨ys, u1, u2, u3⟩ := sorted_out_str hS hp hs
  obtain ⟨c, hc⟩ := sortedHeap_at (vs := vs) (out := (arrOf st').map (·.2)) hoL
  cases sortS_uniq (u2.trans pk) u3
  refine wpAny_pure ⟨_, rfl, hQ _ s1.heap.objs.size _ c (fun b u e => ?_) g1 o1 hz hc (by simpa using u1)⟩
  have q := k1 b u e
  have hlt := Heap.lt_size q
  show (sortedHeap (s1.heap.push (seqObj "list" vs.toArray 0)) s1.heap.objs.size vs ((arrOf st').map (·.2))).get? b = some u
  rw [sortedHeap_old (Nat.ne_of_lt hlt) (by rw [size_push']; exact Nat.lt_succ_of_lt hlt)]
  exact Heap.get?_push_of_some _ q
end
/-- the texts of a list, each once, rising -/
def ssetS (xs : List Str) : List Str := sortS (nubS xs)
section
variable {X : Cx}
def tSortTx (K : PySem.W.Frag) (ta : TE) : TE := fun σ H Q => ta σ H fun x H1 => ∃ (l : Addr) (xs : List Str), x = V.ref l ∧ SqL K H1 l (xs.map V.str) ∧ xs.length < 63 ∧ ∀ p, H1 p = none → Q (.ref p) (upd H1 p (.lst ((ssetS xs).map V.str)))
theorem pe_sortTx {a : Expr} {ta : TE} {p p2 q pos : Pos} (hg : Gl X "sorted") (hm : X.mg "sorted" = none) (hg2 : Gl X "set") (hm2 : X.mg "set" = none) (ha : PE X a ta) (hc : X.calm = true := by rfl)
    (na : starEach [a] X.env = (false, eval a X.env) :: starEach [] X.env := by rfl) : PE X (.Call (.Name "sorted" p) [.Call (.Name "set" p2) [a] [] q] [] pos) (tSortTx X.K ta) := by
  refine ⟨fun pins s σ H Q I h => ?_⟩
  refine Call_ (ld_blt I hg hm (by boot_by_name) ?_)
  refine PyProof.Rows.callWith_builtin1 (PyProof.Rows.args_cons ?_ rfl) rfl rfl
  refine Call_ (ld_blt I hg2 hm2 boot_set ?_)
  refine PyProof.Rows.callWith_type1 (PyProof.Rows.args_cons (thn (ha.run pins s σ H _ I h) fun v s1 ⟨x, H1, I1, r1, q1⟩ => PyProof.Rows.args_nil ?_) na) na rfl
  obtain ⟨l, xs, rfl, hq, hl, q1⟩ := q1
  cases r1
  obtain ⟨its, r, pl, hz⟩ := I1.list hq
  refine call_setTx (P := X.prog) xs (I1.ok.hd hc) pl.isList (by simpa using strsAre_of r) (by unfold scanBound; omega) fun h' tk hS hcl hk => ?_
  refine PyProof.Rows.args_nil ?_
  have I2 : Inv X pins σ H1 { s1 with heap := h', toks := tk } := I1.kept fun b o e => hk b o e
  refine sortTx hS (I2.ok.hd hc) (by omega) fun s' p out c2 k g o hp hg hi => ?_
  have hlen : ((ssetS xs).map V.str).length ≤ sizeLine := by
    have : (ssetS xs).length = (nubS xs).length := (sortS_perm _).length_eq
    rw [List.length_map, this, sizeLine_eq]; omega
  have hn : H1 p = none := I2.hok.fresh hp
  have J : Inv X pins σ (upd H1 p (.lst ((ssetS xs).map V.str))) { { s1 with heap := h', toks := tk } with heap := s'.heap, gens := s'.gens, drawn := s'.drawn, toks := s'.toks } :=
    I2.call (ch := []) (Un.laid k hp hn) (I2.hok.laid k hp ⟨hlen, out.toList, c2, vals_of_strs hi, hg⟩) (by rw [g]; exact I2.bare) (fun _ z => nomatch z)
  have e : s' = { { s1 with heap := h', toks := tk } with heap := s'.heap, gens := s'.gens, drawn := s'.drawn, toks := s'.toks } := by
    cases s'; cases s1; cases o; rfl
  rw [e]
  exact ⟨.ref p, _, J, rfl, q1 p hn⟩
end
section
variable {K : PySem.W.Frag}
def mSortTx (a : En → Option D) : En → Option (List D) := fun ρ => (a ρ).bind fun x => match x with
  | .list ds => (strsD ds).bind fun ns => if ns.length < 63 then some ((ssetS ns).map PyData.str) else none
  | _ => none
theorem fl_sortTx {ta : TE} {ma : En → Option D} (ha : ET K ta ma) : FL K (tSortTx K ta) (mSortTx ma) := by
  refine ⟨fun {H0 T0 σ ρ H T out} G h Q q => ?_⟩
  obtain ⟨x, hx, h⟩ := bind_some h
  refine ha.run G hx _ fun v H1 s1 d1 p1 => ?_
  split at h
  · obtain ⟨ns, e, h⟩ := bind_some h
    split at h
    · rename_i hz
      cases h
      cases strs_some e
      obtain ⟨a, us, rfl, hs, gu⟩ := dp_lst p1
      cases dpa_strs_v gu
      exact ⟨a, ns, rfl, sql_ov d1 hs, hz, fun p np => q p _ H1 s1 d1 np (dpa_strs _)⟩
    · cases h
  · cases h
theorem strs_map : ∀ ns : List Str, strsD (ns.map PyData.str) = some ns
  | [] => rfl
  | i :: r => by show (strsD _).map _ = _; rw [strs_map r]; rfl
theorem sortTx_of {a : En → Option D} {ρ : En} {ns : List Str} (h : a ρ = some (.list (ns.map .str))) (hz : ns.length < 63) : mSortTx a ρ = some ((ssetS ns).map .str) := by
  unfold mSortTx
  rw [h]
  show (strsD (ns.map PyData.str)).bind _ = _
  rw [strs_map]
  exact if_pos hz
end
end DD

set_option Elab.async false
set_option linter.all false
set_option maxRecDepth 100000
set_option maxHeartbeats 4000000
/-! a second name for one of two lists of one's own, to which something is appended at once -/
namespace DD
variable [TabQ] [ExQ]
open PySem PySem.Spec PyProof.Rows L2
section
variable {K : PySem.W.Frag} {H0 H : Hp} {T0 T : Ov} {σ : L2.St} {ρ : En}
/-- a slot gets a value of which nothing is known -/
theorem Good.hide {i : Nat} {v : Option V} (G : Good K H0 T0 σ ρ H T) : Good K H0 T0 (σ.set i v) (ρ.set i none) H T := by
  refine ⟨by rw [List.length_set, List.length_set]; exact G.len, fun j x h => ?_, fun j x h => ?_, fun j k ds es p h1 h2 h3 h4 => ?_, G.dis, G.ext, G.ex, exc_set G.exc (fun _ z => by cases z)⟩
  · rcases get_set h with ⟨_, q, _⟩ | ⟨e, q⟩
    · cases q
    · obtain ⟨w, a, b⟩ := G.val j x q
      exact ⟨w, by rw [List.getElem?_set_ne (Ne.symm e)]; exact a, b⟩
  · rcases get_set h with ⟨_, q, _⟩ | ⟨e, q⟩
    · cases q
    · obtain ⟨p, xs, a, b⟩ := G.own j x q
      exact ⟨p, xs, by rw [List.getElem?_set_ne (Ne.symm e)]; exact a, b⟩
  · rcases get_set h1 with ⟨_, q, _⟩ | ⟨e1, q1⟩
    · cases q
    · rcases get_set h2 with ⟨_, q, _⟩ | ⟨e2, q2⟩
      · cases q
      · rw [List.getElem?_set_ne (Ne.symm e1)] at h3
        rw [List.getElem?_set_ne (Ne.symm e2)] at h4
        exact G.inj j k ds es p q1 q2 h3 h4
end
def sAli (w : Nat) (c : En → Option Bool) (i j : Nat) (a : En → Option D) : En → Option Fl := fun ρ => (c ρ).bind fun b =>
  if w < ρ.length then match ρ[if b = true then i else j]? with
    | some (some (.own _)) => sAppend (if b = true then i else j) a (ρ.set w none)
    | _ => none
  else none
section
variable {K : PySem.W.Frag} {tc : TT} {te : TE} {mc : En → Option Bool} {ma : En → Option D} {t u v : TS} {m : En → Option Fl}
theorem st_ali {w i j : Nat} (hc : TTm K tc mc) (ha : ET K te ma) :
    TSm K (tSeq (tAsg (tIf tc (tVar i) (tVar j)) (gName w)) (tDrop (tBM K "list" rAppend (tVar w) (tCons te tNil)))) (sAli w mc i j ma) := by
  refine ⟨fun {H0 T0 σ ρ H T f} G h E q => ?_⟩
  obtain ⟨b, hb, h⟩ := bind_some h
  split at h
  · rename_i hw
    split at h
    · rename_i ds0 e0
      refine hc.run G hb _ fun H1 s1 d1 => ?_
      have G1 := G.mono s1 d1
      unfold sAppend at h
      split at h
      · rename_i ds e
        obtain ⟨x, hx, h⟩ := bind_some h
        split at h
        · rename_i hz
          cases h
          obtain ⟨p0, xs0, a0, b0, c0, g0⟩ := G1.own _ ds0 e0
          have G2 := G1.hide (i := w) (v := some (.ref p0))
          have lw : w < σ.length := by rw [← G.len]; exact hw
          have nw : ¬ w = (if b = true then i else j) := fun z => by
            rw [← z, set_self hw] at e
            cases e
          have sk : (σ.set w (some (V.ref p0)))[if b = true then i else j]? = some (some (.ref p0)) := by rw [List.getElem?_set_ne nw]; exact a0
          have core : ∃ v, (σ.set w (some (V.ref p0)))[w]? = some (some v) ∧ (tyV K "list" v (ov H1 T) ∧ tCons te tNil (σ.set w (some (V.ref p0))) (ov H1 T) fun xs H2 => rAppend v xs H2 fun _ H3 => E.nx (σ.set w (some (V.ref p0))) H3) := by
            refine ⟨.ref p0, set_self lw, .inl ⟨rfl, xs0, SqL.of (ov_own b0)⟩, ?_⟩
            refine ha.run G2 hx _ fun y H2 s2 d2 p2 => ?_
            obtain ⟨p, xs, a, b', c, g⟩ := (G2.mono s2 d2).own _ ds e
            rw [sk] at a
            cases a
            refine ⟨p0, xs, y, rfl, rfl, ov_own b', cap_lt (by rw [dpa_len g]; omega), ?_⟩
            rw [upd_put]
            exact q _ _ _ ((G2.mono s2 d2).turn e sk b' (dpa_snoc g p2))
          cases b with
          | true => exact ⟨.ref p0, a0, core⟩
          | false => exact ⟨.ref p0, a0, core⟩
        · cases h
      · cases h
    · cases h
  · cases h
theorem st_assoc (h : TSm K (tSeq (tSeq t u) v) m) : TSm K (tSeq t (tSeq u v)) m := ⟨fun G q E k => h.run G q E k⟩
end
end DD

set_option Elab.async false
set_option linter.all false
set_option maxRecDepth 100000
set_option maxHeartbeats 4000000
/-! several names get new lists at once -/
namespace DD
variable [TabQ] [ExQ]
open PySem PySem.Spec PyProof.Rows L2
section
variable {K : PySem.W.Frag} {H0 H : Hp} {T0 T : Ov} {σ : L2.St} {ρ : En}
theorem Good.lay {p : Addr} {xs : List V} (G : Good K H0 T0 σ ρ H T) (hp : ov H T p = none) : Good K H0 T0 σ ρ H (put T p xs) := by
  obtain ⟨hT, hH⟩ := ov_free hp
  refine ⟨G.len, G.val, fun i ds h => ?_, G.inj, dis_put G.dis hH, fun a ys e => ?_, G.ex, G.exc⟩
  · obtain ⟨r, ys, a, b, c⟩ := G.own i ds h
    exact ⟨r, ys, a, by rw [put_ne fun z => by rw [z, hT] at b; cases b]; exact b, c⟩
  · have := G.ext a ys e
    rw [put_ne fun z => by rw [z, hT] at this; cases this]
    exact this
theorem Good.apart {p : Addr} (G : Good K H0 T0 σ ρ H T) (h : T p = none) : ∀ (j : Nat) (es : List D), ρ[j]? = some (some (Sl.own es)) → σ[j]? ≠ some (some (.ref p)) := fun j es e z => by
  obtain ⟨r, ys, a, b, _⟩ := G.own j es e
  rw [z] at a
  cases a
  rw [h] at b
  cases b
theorem Good.new0 {p : Addr} (G : Good K H0 T0 σ ρ H T) (h : T p = none) : T0 p = none := by
  cases e : T0 p with
  | none => rfl
  | some ys => have := G.ext p ys e; rw [h] at this; cases this
/-- a list that is laid gets its name -/
theorem Good.adopt {i : Nat} {p : Addr} {xs : List V} {ds : List D} (G : Good K H0 T0 σ ρ H T) (hp : T p = some xs) (h0 : T0 p = none) (g : DpAll K H xs ds)
    (hn : ∀ (j : Nat) (es : List D), ρ[j]? = some (some (Sl.own es)) → σ[j]? ≠ some (some (.ref p))) : Good K H0 T0 (σ.set i (some (.ref p))) (ρ.set i (some (Sl.own ds))) H T := by
  refine ⟨by rw [List.length_set, List.length_set]; exact G.len, fun j x h => ?_, fun j x h => ?_, fun j k as bs r h1 h2 h3 h4 => ?_, G.dis, G.ext, G.ex, exc_set G.exc (fun _ z => by cases z)⟩
  · rcases get_set h with ⟨_, q, _⟩ | ⟨e, q⟩
    · cases q
    · obtain ⟨w, a, b⟩ := G.val j x q
      exact ⟨w, by rw [List.getElem?_set_ne (Ne.symm e)]; exact a, b⟩
  · rcases get_set h with ⟨e, q, l⟩ | ⟨e, q⟩
    · cases q
      subst e
      exact ⟨p, xs, set_self (by rw [← G.len]; exact l), hp, h0, g⟩
    · obtain ⟨r, ys, a, b⟩ := G.own j x q
      exact ⟨r, ys, by rw [List.getElem?_set_ne (Ne.symm e)]; exact a, b⟩
  · rcases get_set h1 with ⟨e1, q1, l1⟩ | ⟨e1, q1⟩
    · rcases get_set h2 with ⟨e2, q2, l2⟩ | ⟨e2, q2⟩
      · rw [e1, e2]
      · subst e1
        rw [set_self (by rw [← G.len]; exact l1)] at h3
        cases h3
        rw [List.getElem?_set_ne (Ne.symm e2)] at h4
        exact absurd h4 (hn k bs q2)
    · rcases get_set h2 with ⟨e2, q2, l2⟩ | ⟨e2, q2⟩
      · subst e2
        rw [set_self (by rw [← G.len]; exact l2)] at h4
        cases h4
        rw [List.getElem?_set_ne (Ne.symm e1)] at h3
        exact absurd h3 (hn j as q1)
      · rw [List.getElem?_set_ne (Ne.symm e1)] at h3
        rw [List.getElem?_set_ne (Ne.symm e2)] at h4
        exact G.inj j k as bs r q1 q2 h3 h4
/-- the other slots stay apart -/
theorem apart_set {i : Nat} {p q : Addr} {ds : List D} (ne : p ≠ q) (h : ∀ (j : Nat) (es : List D), ρ[j]? = some (some (Sl.own es)) → σ[j]? ≠ some (some (.ref q))) (l : ρ.length = σ.length) :
    ∀ (j : Nat) (es : List D), (ρ.set i (some (Sl.own ds)))[j]? = some (some (Sl.own es)) → (σ.set i (some (.ref p)))[j]? ≠ some (some (.ref q)) := fun j es e z => by
  rcases get_set e with ⟨e1, _, l1⟩ | ⟨e1, q1⟩
  · subst e1
    rw [set_self (by rw [← l]; exact l1)] at z
    cases z
    exact ne rfl
  · rw [List.getElem?_set_ne (Ne.symm e1)] at z
    exact h j es q1 z
end
def sParOV (i j : Nat) (a : En → Option (List D)) (b : En → Option D) : En → Option Fl := fun ρ => (a ρ).bind fun x => (b ρ).map fun y => .nx ((ρ.set i (some (.own x))).set j (some (.val y)))
def sParOO (i j : Nat) (a b : En → Option (List D)) : En → Option Fl := fun ρ => (a ρ).bind fun x => (b ρ).map fun y => .nx ((ρ.set i (some (.own x))).set j (some (.own y)))
def sParOOO (i j l : Nat) (a b c : En → Option (List D)) : En → Option Fl := fun ρ => (a ρ).bind fun x => (b ρ).bind fun y => (c ρ).map fun z => .nx (((ρ.set i (some (.own x))).set j (some (.own y))).set l (some (.own z)))
section
variable {K : PySem.W.Frag} {ta tb tc : TE}
theorem st_parOV {i j : Nat} {ma : En → Option (List D)} {mb : En → Option D} (ha : FL K ta ma) (hb : ET K tb mb) : TSm K (tPar i j (tCons ta (tCons tb tNil))) (sParOV i j ma mb) := by
  refine ⟨fun {H0 T0 σ ρ H T f} G h E q => ?_⟩
  obtain ⟨x, hx, h⟩ := bind_some h
  obtain ⟨y, hy, h⟩ := map_some h
  subst h
  refine ha.run G hx _ fun p xs H1 s1 d1 n1 p1 => ?_
  rw [upd_put]
  have G0 := G.mono s1 d1
  have nT := (ov_free n1).1
  have G1 := G0.lay (xs := xs) n1
  refine hb.run G1 hy _ fun w H2 s2 d2 p2 => ⟨.ref p, w, rfl, ?_⟩
  have G2 := G1.mono s2 d2
  exact q _ H2 _ ((G2.adopt put_same (G0.new0 nT) (dpa_mono s2 p1) (G0.apart nT)).set p2)
theorem st_parOO {i j : Nat} {ma mb : En → Option (List D)} (ha : FL K ta ma) (hb : FL K tb mb) : TSm K (tPar i j (tCons ta (tCons tb tNil))) (sParOO i j ma mb) := by
  refine ⟨fun {H0 T0 σ ρ H T f} G h E q => ?_⟩
  obtain ⟨x, hx, h⟩ := bind_some h
  obtain ⟨y, hy, h⟩ := map_some h
  subst h
  refine ha.run G hx _ fun p xs H1 s1 d1 n1 p1 => ?_
  rw [upd_put]
  have G0 := G.mono s1 d1
  have nT := (ov_free n1).1
  have G1 := G0.lay (xs := xs) n1
  refine hb.run G1 hy _ fun r ys H2 s2 d2 n2 p2 => ⟨.ref p, .ref r, rfl, ?_⟩
  rw [upd_put]
  have G2 := G1.mono s2 d2
  have nT2 := (ov_free n2).1
  have ne : p ≠ r := fun z => by rw [← z, put_same] at nT2; cases nT2
  have G3 := G2.lay (xs := ys) n2
  have A := G3.adopt (i := i) (by rw [put_ne ne]; exact put_same) (G0.new0 nT) (dpa_mono s2 p1) (G0.apart nT)
  exact q _ H2 _ (A.adopt put_same (G2.new0 nT2) p2 (apart_set ne (G2.apart nT2) G.len))
theorem st_parOOO {i j l : Nat} {ma mb mc : En → Option (List D)} (ha : FL K ta ma) (hb : FL K tb mb) (hc : FL K tc mc) : TSm K (tPar3 i j l (tCons ta (tCons tb (tCons tc tNil)))) (sParOOO i j l ma mb mc) := by
  refine ⟨fun {H0 T0 σ ρ H T f} G h E q => ?_⟩
  obtain ⟨x, hx, h⟩ := bind_some h
  obtain ⟨y, hy, h⟩ := bind_some h
  obtain ⟨z, hz, h⟩ := map_some h
  subst h
  refine ha.run G hx _ fun p xs H1 s1 d1 n1 p1 => ?_
  rw [upd_put]
  have G0 := G.mono s1 d1
  have nT := (ov_free n1).1
  have G1 := G0.lay (xs := xs) n1
  refine hb.run G1 hy _ fun r ys H2 s2 d2 n2 p2 => ?_
  rw [upd_put]
  have G2 := G1.mono s2 d2
  have nT2 := (ov_free n2).1
  have ne : p ≠ r := fun z => by rw [← z, put_same] at nT2; cases nT2
  have G3 := G2.lay (xs := ys) n2
  refine hc.run G3 hz _ fun u zs H3 s3 d3 n3 p3 => ⟨.ref p, .ref r, .ref u, rfl, ?_⟩
  rw [upd_put]
  have G4 := G3.mono s3 d3
  have nT3 := (ov_free n3).1
  have ne2 : r ≠ u := fun z => by rw [← z, put_same] at nT3; cases nT3
  have ne3 : p ≠ u := fun z => by rw [← z, put_ne ne, put_same] at nT3; cases nT3
  have G5 := G4.lay (xs := zs) n3
  have A := G5.adopt (i := i) (by rw [put_ne ne3, put_ne ne]; exact put_same) (G0.new0 nT) (dpa_mono (s2.trans s3) p1) (G0.apart nT)
  have B := A.adopt (i := j) (by rw [put_ne ne2]; exact put_same) (G2.new0 nT2) (dpa_mono s3 p2) (apart_set ne (G2.apart nT2) G.len)
  exact q _ H3 _ (B.adopt put_same (G4.new0 nT3) p3 (apart_set ne2 (apart_set ne3 (G4.apart nT3) G.len) (by rw [List.length_set, List.length_set]; exact G.len)))
end
section
variable {K : PySem.W.Frag} {ta tb tc : TE}
/-- three new lists by way of a tuple -/
theorem st_tupOOO {i j l : Nat} {ma mb mc : En → Option (List D)} (ha : FL K ta ma) (hb : FL K tb mb) (hc : FL K tc mc) :
    TSm K (tAsg (tTup (tCons ta (tCons tb (tCons tc tNil)))) (gTup K 3 (gCons (gName i) (gCons (gName j) (gCons (gName l) gNil))))) (sParOOO i j l ma mb mc) := by
  refine ⟨fun {H0 T0 σ ρ H T f} G h E q => ?_⟩
  obtain ⟨x, hx, h⟩ := bind_some h
  obtain ⟨y, hy, h⟩ := bind_some h
  obtain ⟨z, hz, h⟩ := map_some h
  subst h
  refine ha.run G hx _ fun p xs H1 s1 d1 n1 p1 => ?_
  rw [upd_put]
  have G0 := G.mono s1 d1
  have nT := (ov_free n1).1
  have G1 := G0.lay (xs := xs) n1
  refine hb.run G1 hy _ fun r ys H2 s2 d2 n2 p2 => ?_
  rw [upd_put]
  have G2 := G1.mono s2 d2
  have nT2 := (ov_free n2).1
  have ne : p ≠ r := fun z => by rw [← z, put_same] at nT2; cases nT2
  have G3 := G2.lay (xs := ys) n2
  refine hc.run G3 hz _ fun u zs H3 s3 d3 n3 p3 => ?_
  rw [upd_put]
  have G4 := G3.mono s3 d3
  have nT3 := (ov_free n3).1
  have ne2 : r ≠ u := fun z => by rw [← z, put_same] at nT3; cases nT3
  have ne3 : p ≠ u := fun z => by rw [← z, put_ne ne, put_same] at nT3; cases nT3
  have G5 := G4.lay (xs := zs) n3
  refine ⟨(show 3 ≤ sizeLine by decide), fun t nt => ?_⟩
  obtain ⟨tT, tH⟩ := ov_free nt
  rw [upd_ov tT]
  have s4 : Same H3 (upd H3 t (.tup [.ref p, .ref r, .ref u])) := same_new tH
  have G6 := G5.mono s4 (dis_upd G5.dis tT tH)
  refine ⟨t, [.ref p, .ref r, .ref u], rfl, sqt_ov G6.dis (SqT.of upd_same), rfl, .ref p, _, rfl, .ref r, _, rfl, .ref u, _, rfl, rfl, ?_⟩
  have A := G6.adopt (i := i) (by rw [put_ne ne3, put_ne ne]; exact put_same) (G0.new0 nT) (dpa_mono ((s2.trans s3).trans s4) p1) (G0.apart nT)
  have B := A.adopt (i := j) (by rw [put_ne ne2]; exact put_same) (G2.new0 nT2) (dpa_mono (s3.trans s4) p2) (apart_set ne (G2.apart nT2) G.len)
  exact q _ _ _ (B.adopt put_same (G4.new0 nT3) (dpa_mono s4 p3) (apart_set ne2 (apart_set ne3 (G4.apart nT3) G.len) (by rw [List.length_set, List.length_set]; exact G.len)))
end
end DD

set_option Elab.async false
set_option linter.all false
set_option maxRecDepth 100000
set_option maxHeartbeats 4000000
/-! in, of a list or a tuple of flat data -/
namespace DD
variable [TabQ] [ExQ]
open PySem PySem.Spec PyProof.Rows L2
section
variable {K : PySem.W.Frag}
def dInX (neg : Bool) : D → D → Option D
  | x, .list ds => if (flatD x && ds.all flatD) = true then some (.bool (if neg then !(ds.any fun z => PyData.eqv z x) else ds.any fun z => PyData.eqv z x)) else none
  | x, .tuple ds => if (flatD x && ds.all flatD) = true then some (.bool (if neg then !(ds.any fun z => PyData.eqv z x) else ds.any fun z => PyData.eqv z x)) else none
  | _, _ => none
theorem rd_inX {neg : Bool} : RD K (rIn K neg) (dInX neg) := by
  refine ⟨fun {H T x y a b d} dis ha hb h Q q => ?_⟩
  unfold dInX at h
  split at h
  · rename_i ds
    split at h
    · rename_i c
      rw [Bool.and_eq_true] at c
      cases h
      obtain ⟨p, xs, rfl, hs, g⟩ := dp_lst hb
      refine ⟨p, xs, rfl, .inl (sql_ov dis hs), flat_of ha c.1, flatA_of g c.2, ?_⟩
      rw [inV_eqv ha c.1 g c.2]
      exact q _ H (Same.refl H) dis (.bl _)
    · cases h
  · rename_i ds
    split at h
    · rename_i c
      rw [Bool.and_eq_true] at c
      cases h
      obtain ⟨p, xs, rfl, hs, g⟩ := dp_tup hb
      refine ⟨p, xs, rfl, .inr (sqt_ov dis hs), flat_of ha c.1, flatA_of g c.2, ?_⟩
      rw [inV_eqv ha c.1 g c.2]
      exact q _ H (Same.refl H) dis (.bl _)
    · cases h
  · cases h
/-! texts in a row of texts -/
theorem flat_strs_all (l : List Str) : (l.map PyData.str).all flatD = true := by
  rw [List.all_eq_true]
  intro x hx
  obtain ⟨y, _, rfl⟩ := List.mem_map.mp hx
  rfl
theorem eqv_str (a b : Str) : PyData.eqv (.str a) (.str b) = decide (a = b) := by
  show (a == b) = decide (a = b)
  by_cases h : a = b
  · subst h; simp
  · simp [h]
theorem any_strs (n : Str) (l : List Str) : ((l.map PyData.str).any fun z => PyData.eqv z (.str n)) = decide (n ∈ l) := by
  induction l with
  | nil => rfl
  | cons x r ih =>
    rw [List.map_cons, List.any_cons, ih, eqv_str]
    by_cases h : x = n
    · subst h; simp
    · have h2 : ¬ n = x := fun z => h z.symm
      simp [h, h2]
theorem inX_l (n : Str) (l : List Str) : dInX false (.str n) (.list (l.map .str)) = some (.bool (decide (n ∈ l))) := by
  show (if (true && (l.map PyData.str).all flatD) = true then some (PyData.bool (if false = true then !((l.map PyData.str).any fun z => PyData.eqv z (.str n)) else (l.map PyData.str).any fun z => PyData.eqv z (.str n))) else none) = _
  rw [flat_strs_all, any_strs]
  rfl
theorem inX_t (n : Str) (l : List Str) : dInX false (.str n) (.tuple (l.map .str)) = some (.bool (decide (n ∈ l))) := by
  show (if (true && (l.map PyData.str).all flatD) = true then some (PyData.bool (if false = true then !((l.map PyData.str).any fun z => PyData.eqv z (.str n)) else (l.map PyData.str).any fun z => PyData.eqv z (.str n))) else none) = _
  rw [flat_strs_all, any_strs]
  rfl
theorem ninX_l (n : Str) (l : List Str) : dInX true (.str n) (.list (l.map .str)) = some (.bool (!decide (n ∈ l))) := by
  show (if (true && (l.map PyData.str).all flatD) = true then some (PyData.bool (if true = true then !((l.map PyData.str).any fun z => PyData.eqv z (.str n)) else (l.map PyData.str).any fun z => PyData.eqv z (.str n))) else none) = _
  rw [flat_strs_all, any_strs]
  rfl
theorem ninX_t (n : Str) (l : List Str) : dInX true (.str n) (.tuple (l.map .str)) = some (.bool (!decide (n ∈ l))) := by
  show (if (true && (l.map PyData.str).all flatD) = true then some (PyData.bool (if true = true then !((l.map PyData.str).any fun z => PyData.eqv z (.str n)) else (l.map PyData.str).any fun z => PyData.eqv z (.str n))) else none) = _
  rw [flat_strs_all, any_strs]
  rfl
end
end DD

set_option Elab.async false
set_option linter.all false
set_option maxRecDepth 100000
set_option maxHeartbeats 4000000
/-! how many texts there are in a row; tuples of the top -/
namespace DD
variable [TabQ] [ExQ]
open PySem PySem.Spec PyProof.Rows L2
section
variable {P : Program} {w : World} {A : Around} {E : Value → Shared → Prop} {s : Shared}
/-- the step that fills the new set from the tuple of texts at l -/
theorem fillTxT {h0 : Heap} {l : Addr} {items : Array Value} (xs : List Str) (hh : A.handled = none) (hl : (h0.push (set0 w)).IsTuple l items) (hlt : l < h0.objs.size) (hi : StrsAre items.toList xs) (hb : xs.length + 1 < scanBound) {R : Result → Shared → Prop} {t : Shared} (ht : t.heap = h0.push (set0 w))
    (h : ∀ (h' : Heap) (tk : Nat), TxS P w h' h0.objs.size (nubS xs) → (nubS xs).length ≤ xs.length → (∀ b o, h0.get? b = some o → h'.get? b = some o) → R (.ok (.ret .none)) { t with heap := h', toks := tk }) :
    codeAny (model P w) A.in1.in1 (.builtin "set.update.loop" ⟨[.ref h0.objs.size, .ref (h0.push (set0 w)).objs.size], []⟩) R { t with heap := (h0.push (set0 w)).push { cls := .type "tuple_iterator", data := .fields #[.ref l, .int 0 0] } } := by
  have size1 : (h0.push (set0 w)).objs.size = h0.objs.size + 1 := Heap.size_push ..
  have len : items.size = xs.length := by
    have q := StrsAre.length hi
    rwa [Array.length_toList] at q
  have ne1 : l ≠ (h0.push (set0 w)).objs.size := by rw [size1]; exact Nat.ne_of_lt (Nat.lt_succ_of_lt hlt)
  have out : h0.objs.size ∉ [(h0.push (set0 w)).objs.size, l] := by
    rw [size1]
    intro m
    simp only [List.mem_cons, List.not_mem_nil, or_false] at m
    rcases m with m | m
    · exact absurd m (Nat.ne_of_lt (Nat.lt_succ_self _))
    · exact absurd m (Nat.ne_of_gt hlt)
  have at0 : ((h0.push (set0 w)).push { cls := .type "tuple_iterator", data := .fields #[.ref l, .int 0 0] }).get? h0.objs.size = some (set0 w) := Heap.get?_push_of_some _ (Heap.get?_push_size _ rfl)
  refine tx_loop (P := P) (w := w) ((Walks.tuple (A := A.in1.in1.in1) (by simpa using hh) _ l ne1 items).toS) h0.objs.size out xs len hb (fun i v e => ?_) (items.size - 0) 0 _ (by omega) (Nat.zero_le _)
    ⟨⟨_, Heap.get?_push_size _ rfl, rfl, rfl⟩, hl.push _⟩ (Nat.le_refl 0) (tx_new at0) fun s' hm hS hc => ?_
  · obtain ⟨tk, e2⟩ := strs_nth hi i v (by rw [Array.getElem?_toList]; exact e)
    have hil : i < xs.length := by rw [← len]; exact (Array.getElem?_eq_some_iff.mp e).1
    refine ⟨xs[i], tk, List.getElem?_eq_getElem hil, ?_⟩
    rw [e2, List.getD_eq_getElem?_getD, List.getElem?_eq_getElem hil]
    rfl
  · obtain ⟨h', g', d', tk', os'⟩ := s'
    obtain rfl : g' = t.gens := hm.gens
    obtain rfl : d' = t.drawn := hm.drawn
    obtain rfl : os' = t.os := hm.os
    refine h h' tk' hS (by rw [← len]; exact hc) fun b o e => hm.heap b o ?_ (Heap.get?_push_of_some _ (Heap.get?_push_of_some _ e))
    have lt := Heap.lt_size e
    rw [size1]
    intro m
    simp only [List.mem_cons, List.not_mem_nil, or_false] at m
    rcases m with m | m
    · exact absurd m (Nat.ne_of_lt lt)
    · exact absurd m (Nat.ne_of_lt (Nat.lt_succ_of_lt lt))
theorem call_setTxT {l : Addr} {items : Array Value} (xs : List Str) {Q : Value → Shared → Prop} (hh : A.handled = none) (hl : s.heap.IsTuple l items) (hit : StrsAre items.toList xs) (hb : xs.length + 1 < scanBound)
    (h : ∀ (h' : Heap) (tk : Nat), TxS P w h' s.heap.objs.size (nubS xs) → (nubS xs).length ≤ xs.length → (∀ b o, s.heap.get? b = some o → h'.get? b = some o) → Q (.ref s.heap.objs.size) { s with heap := h', toks := tk }) :
    wpAny (model P w) A (call (.type "set") [.ref l]) Q E s := by
  obtain ⟨c0, tl, hmro⟩ := F.called_set.mro
  have h0 := F.called_set.made
  have h1 := F.called_set.notType
  have h2 := F.called_set.canCreate
  have h3 := F.called_set.sub
  have h4 := F.typeCall_set_1 (.ref l)
  refine wpAny_call (codeAny_of_tree (show wpAny _ _ (callAny (.type "set") _) _ _ _ from wpAny_pure ⟨Code.quiet_builtin _ (by decide +kernel), codeAny_builtin F.entry_type_call ?_⟩))
  rw [Around.under_plain (weight_type_call_type "set" [.ref l] []) rfl]
  repeat (any_goals (first | assumption | wp_step))
  refine codeAny_mono (code_set_led1 (.ref l) (E := E) (Q₁ := fun obj s₁ => obj = .ref s.heap.objs.size ∧ s₁ = { s with heap := s.heap.push (set0 w) }) ⟨rfl, rfl⟩) fun r s₁ hr => ?_
  cases r with
  | error e => exact hr
  | ok fl =>
    cases fl with
    | ret obj =>
      obtain ⟨rfl, rfl⟩ := hr
      have at0 : (s.heap.push (set0 w)).get? s.heap.objs.size = some (set0 w) := Heap.get?_push_size _ rfl
      have ty : Shared.TypeIs { s with heap := s.heap.push (set0 w) } (.ref s.heap.objs.size) "set" := ⟨_, at0, rfl⟩
      have h5 := F.called_set.init.lookup
      have h6 := F.called_set.init.bind (.ref s.heap.objs.size)
      repeat (any_goals (first | assumption | wp_step))
      refine codeAny_mono (codeAny_call_builtin (R := wants (fun r s₂ => r = .none ∧ ∃ h' tk, s₂ = { s with heap := h', toks := tk } ∧ TxS P w h' s.heap.objs.size (nubS xs) ∧ (nubS xs).length ≤ xs.length ∧
          (∀ b o, s.heap.get? b = some o → h'.get? b = some o)) E) F.called_set.init.plain F.entry_set_init (check_set_init_1 ty ?_)) fun r₂ s₂ hr₂ => ?_
      · obtain ⟨⟨ocls, odict, odata, oslots⟩, hol, hcl, nl, hdl⟩ := hl
        simp only at hcl hdl
        subst hcl hdl
        have hol' : (s.heap.push (set0 w)).get? l = some { cls := .type "tuple", dict := odict, data := .seq items nl, slots := oslots } := Heap.get?_push_of_some _ hol
        have h7 := F.sub_tuple_set
        have h8 := F.sub_tuple_frozenset
        have h9 : (Value.type "tuple" == Value.type "dict") = false := by decide
        have hL : (s.heap.push (set0 w)).IsTuple l items := ⟨_, hol', rfl, nl, rfl⟩
        unfold Builtin.«set.__init__» noKeywords Builtin.Frozenset.updateFrom
        generalize hPI : pyIter = PI
        wp_walk
        subst hPI
        refine wpAny_pyIter_tuple hL (wpAny_bind (wpAny_runValue ?_))
        refine fillTxT (A := A) (t := { s with heap := s.heap.push (set0 w) }) xs hh hL (Heap.lt_size hol) hit hb rfl fun h' tk hS hc hk => ?_
        refine wpAny_pure ?_
        show wpAny _ _ (ret Value.none) _ _ _
        exact wpAny_pure ⟨rfl, h', tk, rfl, hS, hc, hk⟩
      · cases r₂ with
        | error e => exact hr₂
        | ok fl₂ =>
          cases fl₂ with
          | ret r =>
            obtain ⟨rfl, h', tk, rfl, hS, hc, hk⟩ := hr₂
            repeat (any_goals (first | assumption | wp_step))
            exact h _ _ hS hc hk
          | _ => exact hr₂.elim
    | _ => exact hr.elim
end
section
variable {X : Cx}
def tLenTx (K : PySem.W.Frag) (ta : TE) : TE := fun σ H Q => ta σ H fun x H1 => ∃ (l : Addr) (xs : List Str), x = V.ref l ∧ (SqL K H1 l (xs.map V.str) ∨ SqT K H1 l (xs.map V.str)) ∧ xs.length < 63 ∧ Q (.int ((nubS xs).length : Nat)) H1
theorem pe_lenTx {a : Expr} {ta : TE} {p p2 q pos : Pos} (hg : Gl X "len") (hm : X.mg "len" = none) (hg2 : Gl X "set") (hm2 : X.mg "set" = none) (ha : PE X a ta) (hc : X.calm = true := by rfl)
    (na : starEach [a] X.env = (false, eval a X.env) :: starEach [] X.env := by rfl) : PE X (.Call (.Name "len" p) [.Call (.Name "set" p2) [a] [] q] [] pos) (tLenTx X.K ta) := by
  refine ⟨fun pins s σ H Q I h => ?_⟩
  refine Call_ (ld_blt I hg hm boot_len ?_)
  refine PyProof.Rows.callWith_builtin1 (PyProof.Rows.args_cons ?_ rfl) rfl rfl
  refine Call_ (ld_blt I hg2 hm2 boot_set ?_)
  refine PyProof.Rows.callWith_type1 (PyProof.Rows.args_cons (thn (ha.run pins s σ H _ I h) fun v s1 ⟨x, H1, I1, r1, q1⟩ => PyProof.Rows.args_nil ?_) na) na rfl
  obtain ⟨l, xs, rfl, hq, h1, q1⟩ := q1
  cases r1
  have fin : ∀ (h' : Heap) (tk : Nat), TxS X.prog X.w h' s1.heap.objs.size (nubS xs) → (nubS xs).length ≤ xs.length → (∀ b o, s1.heap.get? b = some o → h'.get? b = some o) →
      wpAny (model X.prog X.w) X.A (spliced (backTo pos (starEach [] X.env))) (fun vs s₂ => wpAny (model X.prog X.w) X.A (call (.builtin "len") (Value.ref s1.heap.objs.size :: vs)) (EP X pins σ Q) X.xe s₂) X.xe { s1 with heap := h', toks := tk } := fun h' tk hS hl hk => by
    refine PyProof.Rows.args_nil ?_
    obtain ⟨o, es, ep, t, ho, hex, hd, _, pm, _, _, hf, _⟩ := hS
    have hn : es.size = (nubS xs).length := by
      have := pm.length_eq
      rw [List.length_map] at this
      exact this
    have I2 : Inv X pins σ H1 { s1 with heap := h', toks := tk } := I1.kept fun b o e => hk b o e
    refine call_len_set ho hex hd hf (by rw [hn]; omega) ⟨.int ((nubS xs).length : Nat), H1, I2.tok _, ⟨_, by rw [hn]⟩, q1⟩
  rcases hq with hq | hq
  · obtain ⟨its, r, pl, hz⟩ := I1.list hq
    exact call_setTx (P := X.prog) xs (I1.ok.hd hc) pl.isList (by simpa using strsAre_of r) (by unfold scanBound; omega) fun h' tk hS hl hk => fin h' tk hS hl hk
  · obtain ⟨its, r, pl, hz⟩ := I1.tuple hq
    exact call_setTxT (P := X.prog) xs (I1.ok.hd hc) pl (by simpa using strsAre_of r) (by unfold scanBound; omega) fun h' tk hS hl hk => fin h' tk hS hl hk
end
section
variable {K : PySem.W.Frag}
def mLenTx (a : En → Option D) : En → Option D := fun ρ => (a ρ).bind fun x => match x with
  | .list ds => (strsD ds).bind fun ns => if ns.length < 63 then some (.int ((nubS ns).length : Nat)) else none
  | .tuple ds => (strsD ds).bind fun ns => if ns.length < 63 then some (.int ((nubS ns).length : Nat)) else none
  | _ => none
theorem ev_lenTx {ta : TE} {ma : En → Option D} (ha : ET K ta ma) : ET K (tLenTx K ta) (mLenTx ma) := by
  refine ⟨fun {H0 T0 σ ρ H T d} G h Q q => ?_⟩
  obtain ⟨x, hx, h⟩ := bind_some h
  refine ha.run G hx _ fun v H1 s1 d1 p1 => ?_
  split at h
  · obtain ⟨ns, e, h⟩ := bind_some h
    split at h
    · rename_i hz
      cases h
      cases strs_some e
      obtain ⟨a, us, rfl, hs, gu⟩ := dp_lst p1
      cases dpa_strs_v gu
      exact ⟨a, ns, rfl, .inl (sql_ov d1 hs), hz, q _ H1 s1 d1 (.int _)⟩
    · cases h
  · obtain ⟨ns, e, h⟩ := bind_some h
    split at h
    · rename_i hz
      cases h
      cases strs_some e
      obtain ⟨a, us, rfl, hs, gu⟩ := dp_tup p1
      cases dpa_strs_v gu
      exact ⟨a, ns, rfl, .inr (sqt_ov d1 hs), hz, q _ H1 s1 d1 (.int _)⟩
    · cases h
  · cases h
/-- a tuple of the top -/
theorem tup_const {a : Addr} {od : Option Addr} {its : Array Value} {n : Nat} {sl : Array (Option Value)} {ds : List D} (t : K.lookup a = some ⟨.type "tuple", od, .seq its n, sl⟩) (z : its.size ≤ 1000) (u : deVs (deV K 2) its.toList = some ds) :
    ∀ H, Dp K H (.ref a) (.tuple ds) := by
  obtain ⟨v, r, g⟩ := deV_ok 3 _ (deV_tup t z u)
  have : v = .ref a := by
    cases v <;> first | (cases r; rfl) | (obtain ⟨_, z⟩ := r; cases z) | cases r
  subst this
  exact g
end
end DD

set_option Elab.async false
set_option linter.all false
set_option maxRecDepth 100000
set_option maxHeartbeats 4000000
/-! sorted of a tuple of texts; slices of lists of which nothing is known -/
namespace DD
variable [TabQ] [ExQ]
open PySem PySem.Spec PyProof.Rows L2
section
variable {P : Program} {w : World} {A : Around} {E : Value → Shared → Prop} {s : Shared}
abbrev fillH (h : Heap) (vs : List Value) : Heap := (h.push (seqObj "list" #[] 0)).update h.objs.size (Obj.mapSeq (· ++ vs.toArray))
theorem fromTup {l : Addr} {vs : List Value} {Q : List Value → Shared → Prop} (hl : s.heap.IsTuple l vs.toArray) (hz : vs.length ≤ sizeLine) (h : Q vs { s with heap := fillH s.heap vs }) :
    wpAny (model P w) A (collect (.ref l)) Q E s := by
  obtain ⟨o, ho, hc, n, hd⟩ := id hl
  have hn : (s.heap.push (seqObj "list" #[] 0)).get? s.heap.objs.size = some (seqObj "list" #[] 0) := Heap.get?_push_size _ rfl
  have ho1 : (s.heap.push (seqObj "list" #[] 0)).get? l = some o := Heap.get?_push_of_some _ ho
  have h1 : (Value.type "tuple" == Value.type "list") = false := by decide
  have h2 : (Value.type "tuple" == Value.type "tuple") = true := by decide
  unfold collect
  refine wpAny_bind (wpAny_runValue (codeAny_builtin entry_proto_collect' ?_))
  show wpAny _ _ (do again (.builtin "list.__iadd__" ⟨[← newList [], .ref l], []⟩)) _ _ s
  refine wpAny_bind (wpAny_newList (wpAny_pure ⟨Code.quiet_builtin _ (by decide +kernel), codeAny_builtin entry_list_iadd' (show wpAny _ _ (Builtin.List.listExtendWith (.ref s.heap.objs.size) (.ref l) (.ref s.heap.objs.size)) _ _ { s with heap := s.heap.push (seqObj "list" #[] 0) } from ?_)⟩))
  unfold Builtin.List.listExtendWith
  refine wpAny_bind (wpAny_typeOf (T := "tuple") ⟨o, ho1, hc⟩ ?_)
  rw [if_pos (by rw [h1, h2]; simp)]
  refine wpAny_bind (listItems_at ho1 hd (wpAny_bind (listItems_at (xs := #[]) (n := 0) hn rfl ?_)))
  rw [if_neg (by simp)]
  refine wpAny_bind (listUpdate_at (xs := #[]) (n := 0) hn rfl (wpAny_pure ?_) (Nat.zero_le _) ?_)
  · show wpAny (model P w) A (load s.heap.objs.size >>= _) Q E { s with heap := fillH s.heap vs }
    refine wpAny_bind (wpAny_load (get?_update_seq hn _) ?_)
    have e : ((#[] : Array Value) ++ vs.toArray).toList = vs := by simp
    show wpAny _ _ (pure ((#[] : Array Value) ++ vs.toArray).toList) Q E _
    rw [e]; exact wpAny_pure h
  · show (#[] ++ vs.toArray).size ≤ sizeLine + 1
    simp only [Array.size_append, List.size_toArray, List.length_nil]; omega
theorem sortTup {l : Addr} {vs : List Value} {xs : List Str} {Q : Value → Shared → Prop} (hl : s.heap.IsTuple l vs.toArray) (hS : StrsAre vs xs) (h64 : vs.length < 64)
    (h : ∀ out : Array Value, StrsAre out.toList (sortS xs) → Q (.ref (s.heap.objs.size + 1)) { s with heap := sortedAll s.heap vs out }) :
    wpAny (model P w) A (call (.builtin "sorted") [.ref l]) Q E s := by
  refine Calls.call_function_entry kind_sorted plain_sorted entry_sorted (args_sorted1 _) ?_
  unfold Builtin.«sorted»
  have hz : vs.length ≤ sizeLine := by rw [sizeLine_eq]; omega
  refine wpAny_bind (m := checkCount "sorted" 1 1 _) (wpAny_pure (wpAny_bind (fromTup hl hz (wpAny_bind (wpAny_newList ?_ hz)))))
  have sz : (fillH s.heap vs).objs.size = s.heap.objs.size + 1 := by
    unfold fillH
    rw [Heap.size_update, size_push']
  have hoL : ((fillH s.heap vs).push (seqObj "list" vs.toArray 0)).get? (s.heap.objs.size + 1) = some (seqObj "list" vs.toArray 0) := by rw [← sz]; exact Heap.get?_push_size _ rfl
  show wpAny _ _ _ _ _ { s with heap := (fillH s.heap vs).push (seqObj "list" vs.toArray 0) }
  rw [sz]
  refine wpAny_bind (wpAny_holding (wpAny_call_entry PyProof.Rows.slot_list_sort ⟨_, hoL, rfl⟩ PyProof.Rows.entry_list_sort
    (list_sort_treeK strKind_oneLt (s := { s with heap := (fillH s.heap vs).push (seqObj "list" vs.toArray 0) }) hoL hS.keysOf (fun v₁ v₂ rest e => keyKind_strs (by rw [← e]; exact hS)) h64 fun st' hp hs => ⟨_, rfl, ?_⟩)
    (PyProof.Rows.args_list_sort _)))
  obtain ⟨ys, u1, u2, u3⟩ := sorted_out_str hS hp hs
  cases sortS_uniq u2 u3
  exact wpAny_pure ⟨_, rfl, h _ (by simpa using u1)⟩
end
section
variable {X : Cx}
def rSortT (K : PySem.W.Frag) : List V → Hp → VK → Prop := fun vs H Q => ∃ (a : Addr) (xs : List Str), vs = [V.ref a] ∧ (SqL K H a (xs.map V.str) ∨ SqT K H a (xs.map V.str)) ∧ xs.length < 64 ∧ ∀ p, H p = none → Q (.ref p) (upd H p (.lst ((sortS xs).map V.str)))
theorem cr_sortT' : CallR X (.builtin "sorted") (rSortT X.K) := by
  intro pins s σ H vs us Q I r h
  obtain ⟨a, xs, rfl, hs | hs, h64, q⟩ := h
  · exact cr_sortedS pins s σ H _ us Q I r ⟨a, xs, rfl, hs, h64, fun ys p h1 h2 h3 => by cases sortS_uniq h1 h2; exact q p h3⟩
  · obtain ⟨its, rv, hl, hz⟩ := I.tuple hs
    rw [Vals.ref1 r]
    have len := rv.length
    rw [List.length_map] at len
    refine sortTup hl rv.strs (by rw [← len]; exact h64) fun out h1 => ?_
    obtain ⟨ep, he⟩ := PyProof.Rows.sortedAll_at s.heap its out
    have hlen : ((sortS xs).map V.str).length ≤ sizeLine := by rw [List.length_map, (sortS_perm xs).length_eq, sizeLine_eq]; omega
    exact ⟨.ref _, upd H (s.heap.objs.size + 1) (.lst ((sortS xs).map V.str)), I.laid (t' := s.toks) (fun _ _ => PyProof.Rows.sortedAll_old) (Nat.le_succ _) ⟨hlen, out.toList, ep, vals_of_strs h1, he⟩, rfl, q _ (I.hok.fresh (Nat.le_succ _))⟩
end
section
variable {K : PySem.W.Frag}
def dSortT : List D → Option (List D)
  | [.list ds] => (strsD ds).bind fun ns => if ns.length < 64 then some ((sortS ns).map PyData.str) else none
  | [.tuple ds] => (strsD ds).bind fun ns => if ns.length < 64 then some ((sortS ns).map PyData.str) else none
  | _ => none
theorem cl_sortT : CL K (rSortT K) dSortT := by
  refine ⟨?_⟩
  intro H T vs ds out dis g h Q q
  unfold dSortT at h
  split at h
  · obtain ⟨ns, e, h⟩ := bind_some h
    split at h
    · rename_i hz
      cases h
      cases strs_some e
      obtain ⟨v, rfl, g2⟩ := dpa_one g
      obtain ⟨a, us, rfl, hs, gu⟩ := dp_lst g2
      cases dpa_strs_v gu
      exact ⟨a, ns, rfl, .inl (sql_ov dis hs), hz, fun p hn => q p _ H (Same.refl H) dis hn (dpa_strs _)⟩
    · cases h
  · obtain ⟨ns, e, h⟩ := bind_some h
    split at h
    · rename_i hz
      cases h
      cases strs_some e
      obtain ⟨v, rfl, g2⟩ := dpa_one g
      obtain ⟨a, us, rfl, hs, gu⟩ := dp_tup g2
      cases dpa_strs_v gu
      exact ⟨a, ns, rfl, .inr (sqt_ov dis hs), hz, fun p hn => q p _ H (Same.refl H) dis hn (dpa_strs _)⟩
    · cases h
  · cases h
/-! slices of lists, tuples and texts -/
def dSlY (d : D) (lo hi : Option Int) : Option D := match d with
  | .list ds => some (.list (cutD ds lo hi))
  | d => dSl d lo hi
def mSlY (a : En → Option D) (l h : En → Option (Option Int)) : En → Option D := fun ρ => (a ρ).bind fun x => (l ρ).bind fun lo => (h ρ).bind fun hi => dSlY x lo hi
def rSlY (K : PySem.W.Frag) : V → Option Int → Option Int → Hp → VK → Prop := fun x lo hi H Q => rSlX K x lo hi H Q ∨ rSlL K x lo hi H Q
theorem sl_any2 {X : Cx} : SlR X (rSlY X.K) := SlR.or sl_any sl_list
theorem ev_slY {ta : TE} {tl th : TO} {ma : En → Option D} {ml mh : En → Option (Option Int)} (ha : ET K ta ma) (hl : PAm K tl ml) (hh : PAm K th mh) : ET K (tSl (rSlY K) ta tl th) (mSlY ma ml mh) := by
  refine ⟨fun {H0 T0 σ ρ H T d} G h Q q => ?_⟩
  obtain ⟨x, hx, h1⟩ := bind_some h
  obtain ⟨lo, hlo, h2⟩ := bind_some h1
  obtain ⟨hi, hhi, h3⟩ := bind_some h2
  refine ha.run G hx _ fun v H1 s1 d1 p1 => ?_
  refine hl.run (G.mono s1 d1) hlo _ fun H2 s2 d2 => ?_
  refine hh.run ((G.mono s1 d1).mono s2 d2) hhi _ fun H3 s3 d3 => ?_
  have p3 := dp_mono (s2.trans s3) p1
  unfold dSlY at h3
  split at h3
  · cases h3
    obtain ⟨p, xs, rfl, hs, g⟩ := dp_lst p3
    refine .inr ⟨p, xs, rfl, sql_ov d3 hs, fun r nr => ?_⟩
    obtain ⟨nT, nH⟩ := ov_free nr
    rw [upd_ov nT]
    have s4 : Same H3 (upd H3 r (.lst (cutV xs lo hi))) := same_new nH
    exact q _ _ (((s1.trans s2).trans s3).trans s4) (dis_upd d3 nT nH) (.lst (SqL.of upd_same) (dpa_mono s4 (dpa_cut g lo hi)))
  · have E0 : ET K (tSl (rSlX K) ta tl th) (mSl ma ml mh) := ev_sl ha hl hh
    refine .inl ?_
    unfold dSl at h3
    split at h3
    · rename_i ds _
      cases h3
      obtain ⟨p, xs, rfl, hs, g⟩ := dp_tup p3
      refine .inl ⟨p, xs, rfl, sqt_ov d3 hs, fun hw => ?_, fun hw r nr => ?_⟩
      · have e : cutD ds lo hi = ds := by
          unfold cutD
          rw [← dpa_len g, hw.1, hw.2]
          rw [dpa_len g]
          simp
        exact q _ H3 ((s1.trans s2).trans s3) d3 (by rw [e]; exact p3)
      · obtain ⟨nT, nH⟩ := ov_free nr
        rw [upd_ov nT]
        have s4 : Same H3 (upd H3 r (.tup (cutV xs lo hi))) := same_new nH
        exact q _ _ (((s1.trans s2).trans s3).trans s4) (dis_upd d3 nT nH) (.tup (SqT.of upd_same) (dpa_mono s4 (dpa_cut g lo hi)))
    · rename_i z _
      split at h3
      · rename_i hz
        cases h3
        cases dp_str p3
        exact .inr ⟨z, rfl, cap_line hz, q _ H3 ((s1.trans s2).trans s3) d3 (.str _)⟩
      · cases h3
    · cases h3
end
end DD

set_option Elab.async false
set_option linter.all false
set_option maxRecDepth 100000
set_option maxHeartbeats 4000000
/-! what may be raised, and caught; item = .., str(..), join, split -/
namespace DD
variable [TabQ] [ExQ]
open PySem PySem.Spec PyProof.Rows L2
/-- what a def comes to: a datum, or an exception of the class with this name -/
inductive Rs where
  | ok (d : D)
  | ex (c : Nat)
inductive FlX where
  | fl (f : Fl)
  | ex (c : Nat) (ρ : En)
section
variable (K : PySem.W.Frag) (cl : Nat → Addr)
def RsOk (H : Hp) (T : Ov) (Q : VK) (E : XK) : Rs → Prop
  | .ok d => ∀ v H', Same H H' → Dis H' T → Dp K H' v d → Q v (ov H' T)
  | .ex c => ∀ H', Same H H' → Dis H' T → E (.ref (cl c)) none (ov H' T)
def spX (n : Nat) (m : List D → Option Rs) : Sp := fun vs Hx Q E => ∃ ds r H T, DpAll K H vs ds ∧ ds.length = n ∧ m ds = some r ∧ Hx = ov H T ∧ Dis H T ∧ RsOk K cl H T Q E r
structure EX (te : WX → TE) (m : En → Option Rs) : Prop where
  run : ∀ {H0 : Hp} {T0 : Ov} {σ : L2.St} {ρ : En} {H : Hp} {T : Ov} {r : Rs}, Good K H0 T0 σ ρ H T → m ρ = some r → ∀ (W : WX) (Q : VK), RsOk K cl H T Q (fun c d h => W c d σ h) r → te W σ (ov H T) Q
def FlXOk (H0 : Hp) (T0 : Ov) (E : Ends) (W : WX) : FlX → Prop
  | .fl f => FlOk K H0 T0 E f
  | .ex c ρ => ∀ σ H T, Good K H0 T0 σ ρ H T → W (.ref (cl c)) none σ (ov H T)
structure SX (t : WX → TS) (m : En → Option FlX) : Prop where
  run : ∀ {H0 : Hp} {T0 : Ov} {σ : L2.St} {ρ : En} {H : Hp} {T : Ov} {x : FlX}, Good K H0 T0 σ ρ H T → m ρ = some x → ∀ (W : WX) (E : Ends), FlXOk K cl H0 T0 E W x → t W E σ (ov H T)
end
def okR : Rs → Option D
  | .ok d => some d
  | .ex _ => none
def limX (n : Nat) (m : List D → Option Rs) : List D → Option D := fun ds => if ds.length = n then (m ds).bind okR else none
def xLift (m : En → Option D) : En → Option Rs := fun ρ => (m ρ).map .ok
def xCall (n : Nat) (mf : List D → Option Rs) (m : En → Option (List D)) : En → Option Rs := fun ρ => (m ρ).bind fun ds => if ds.length = n then mf ds else none
def xThen (f : List D → Option D) (m : En → Option Rs) : En → Option Rs := fun ρ => (m ρ).bind fun r => match r with
  | .ok d => (f [d]).map .ok
  | .ex c => some (.ex c)
def xFl (m : En → Option Fl) : En → Option FlX := fun ρ => (m ρ).map .fl
def xSeq (a b : En → Option FlX) : En → Option FlX := fun ρ => (a ρ).bind fun x => match x with
  | .fl (.nx ρ') => b ρ'
  | x => some x
def xIf (c : En → Option Bool) (a b : En → Option FlX) : En → Option FlX := fun ρ => (c ρ).bind fun x => if x = true then a ρ else b ρ
def xRet (m : En → Option Rs) : En → Option FlX := fun ρ => (m ρ).bind fun r => match r with
  | .ok d => some (.fl (.rt d))
  | .ex c => some (.ex c ρ)
def xDrop (m : En → Option Rs) : En → Option FlX := fun ρ => (m ρ).bind fun r => match r with
  | .ok _ => some (.fl (.nx ρ))
  | .ex c => some (.ex c ρ)
def xSet (i : Nat) (m : En → Option Rs) : En → Option FlX := fun ρ => (m ρ).bind fun r => match r with
  | .ok d => some (.fl (.nx (ρ.set i (some (.val d)))))
  | .ex c => some (.ex c ρ)
def xRaise (c : Nat) : En → Option FlX := fun ρ => some (.ex c ρ)
def xDef (N : Nat) (b : En → Option FlX) (ds : List D) : Option Rs := (b (start0 N ds)).bind fun x => match x with
  | .fl (.rt d) => some (.ok d)
  | .fl (.nx _) => some (.ok .none)
  | .ex c _ => some (.ex c)
  | _ => none
section
variable {K : PySem.W.Frag} {cl : Nat → Addr}
theorem passNo {X : Cx} (σ : L2.St) : PassesAt (L2.CX X.prog X.w) X σ (fun _ _ _ => False) := fun _ _ _ _ _ _ c => by
  obtain ⟨_, _, _, _, _, _, _, _, _, _, _, _, z⟩ := c
  exact z.elim
theorem ev_callX {n : Nat} {mf : List D → Option Rs} {t : TA} {m : En → Option (List D)} {E : L2.St → XK} (ha : TAm K t m) : ET K (tCallS (spX K cl n mf) E t) (mCall (limX n mf) m) := by
  refine ⟨fun {H0 T0 σ ρ H T d} G h Q q => ?_⟩
  obtain ⟨x, hx, h⟩ := bind_some h
  refine ha.run G hx _ fun vs H1 s1 d1 p1 => ?_
  unfold limX at h
  split at h
  · rename_i hn
    obtain ⟨r, hr, h⟩ := bind_some h
    cases r with
    | ok d' =>
      cases h
      exact ⟨x, .ok d, H1, T, p1, hn, hr, rfl, d1, fun v H' s2 d2 p2 => q v H' (s1.trans s2) d2 p2⟩
    | ex c => cases h
  · cases h
theorem ex_lift {te : TE} {m : En → Option D} (h : ET K te m) : EX K cl (fun _ => te) (xLift m) := by
  refine ⟨fun {H0 T0 σ ρ H T r} G hm W Q q => ?_⟩
  obtain ⟨d, hd, e⟩ := map_some hm
  subst e
  exact h.run G hd Q q
theorem ex_call {n : Nat} {mf : List D → Option Rs} {t : TA} {m : En → Option (List D)} (ha : TAm K t m) : EX K cl (fun W => tCallS (spX K cl n mf) (WE W) t) (xCall n mf m) := by
  refine ⟨fun {H0 T0 σ ρ H T r} G h W Q q => ?_⟩
  obtain ⟨x, hx, h⟩ := bind_some h
  refine ha.run G hx _ fun vs H1 s1 d1 p1 => ?_
  split at h
  · rename_i hn
    refine ⟨x, r, H1, T, p1, hn, h, rfl, d1, ?_⟩
    cases r with
    | ok d => exact fun v H' s2 d2 p2 => q v H' (s1.trans s2) d2 p2
    | ex c => exact fun H' s2 d2 => q H' (s1.trans s2) d2
  · cases h
theorem ex_then {te : WX → TE} {m : En → Option Rs} {mf : List D → Option D} {E : XK} (h : EX K cl te m) : EX K cl (fun W => tCall (spM K 1 mf) [] E (tCons (te W) tNil)) (xThen (lim 1 mf) m) := by
  refine ⟨fun {H0 T0 σ ρ H T r} G hm W Q q => ?_⟩
  obtain ⟨r1, h1, hm⟩ := bind_some hm
  cases r1 with
  | ok d =>
    obtain ⟨d2, h2, e⟩ := map_some hm
    subst e
    refine h.run G h1 W _ fun v H1 s1 d1 p1 => ?_
    show spM K 1 mf ([v] ++ []) (ov H1 T) Q E
    exact ⟨[d], d2, H1, T, .cons p1 .nil, rfl, h2, rfl, d1, fun w H3 s3 d3 p3 => q w H3 (s1.trans s3) d3 p3⟩
  | ex c =>
    cases hm
    exact h.run G h1 W _ q
theorem sx_lift {t : TS} {m : En → Option Fl} (h : TSm K t m) : SX K cl (fun _ => t) (xFl m) := by
  refine ⟨fun {H0 T0 σ ρ H T x} G hm W E q => ?_⟩
  obtain ⟨f, hf, e⟩ := map_some hm
  subst e
  exact h.run G hf E q
theorem sx_seq {t u : WX → TS} {m1 m2 : En → Option FlX} (h1 : SX K cl t m1) (h2 : SX K cl u m2) : SX K cl (fun W => tSeq (t W) (u W)) (xSeq m1 m2) := by
  refine ⟨fun {H0 T0 σ ρ H T x} G h W E q => ?_⟩
  obtain ⟨y, hy, h⟩ := bind_some h
  refine h1.run G hy W _ ?_
  cases y with
  | fl f =>
    cases f with
    | nx ρ' => exact fun σ' H' T' G' => h2.run G' h W E q
    | rt d => cases h; exact q
    | bk ρ' => cases h; exact q
    | ct ρ' => cases h; exact q
  | ex c ρ' => cases h; exact q
theorem sx_if {tc : TT} {mc : En → Option Bool} {t u : WX → TS} {m1 m2 : En → Option FlX} (hc : TTm K tc mc) (h1 : SX K cl t m1) (h2 : SX K cl u m2) : SX K cl (fun W => tIfS tc (t W) (u W)) (xIf mc m1 m2) := by
  refine ⟨fun {H0 T0 σ ρ H T f} G h W E q => ?_⟩
  obtain ⟨x, hx, h⟩ := bind_some h
  refine hc.run G hx _ fun H1 s1 d1 => ?_
  cases x with
  | true =>
    rw [if_pos rfl] at h ⊢
    exact h1.run (G.mono s1 d1) h W E q
  | false =>
    rw [if_neg Bool.false_ne_true] at h ⊢
    exact h2.run (G.mono s1 d1) h W E q
theorem sx_ret {te : WX → TE} {m : En → Option Rs} (h : EX K cl te m) : SX K cl (fun W => tRet (te W)) (xRet m) := by
  refine ⟨fun {H0 T0 σ ρ H T x} G hm W E q => ?_⟩
  obtain ⟨r, hr, hm⟩ := bind_some hm
  refine h.run G hr W _ ?_
  cases r with
  | ok d => cases hm; exact fun v H1 s1 d1 p1 => q v H1 T (G.ex.trans s1) d1 G.ext p1
  | ex c => cases hm; exact fun H1 s1 d1 => q σ H1 T (G.mono s1 d1)
theorem sx_drop {te : WX → TE} {m : En → Option Rs} (h : EX K cl te m) : SX K cl (fun W => tDrop (te W)) (xDrop m) := by
  refine ⟨fun {H0 T0 σ ρ H T x} G hm W E q => ?_⟩
  obtain ⟨r, hr, hm⟩ := bind_some hm
  refine h.run G hr W _ ?_
  cases r with
  | ok d => cases hm; exact fun v H1 s1 d1 p1 => q σ H1 T (G.mono s1 d1)
  | ex c => cases hm; exact fun H1 s1 d1 => q σ H1 T (G.mono s1 d1)
theorem sx_set {te : WX → TE} {m : En → Option Rs} (i : Nat) (h : EX K cl te m) : SX K cl (fun W => tAsg (te W) (gName i)) (xSet i m) := by
  refine ⟨fun {H0 T0 σ ρ H T x} G hm W E q => ?_⟩
  obtain ⟨r, hr, hm⟩ := bind_some hm
  refine h.run G hr W _ ?_
  cases r with
  | ok d => cases hm; exact fun v H1 s1 d1 p1 => q _ H1 T ((G.mono s1 d1).set p1)
  | ex c => cases hm; exact fun H1 s1 d1 => q σ H1 T (G.mono s1 d1)
theorem sx_raise (c : Nat) : SX K cl (fun W _ σ H => W (.ref (cl c)) none σ H) (xRaise c) := by
  refine ⟨fun {H0 T0 σ ρ H T x} G hm W E q => ?_⟩
  cases hm
  exact q σ H T G
/-- a def that may raise -/
theorem def_okX {P : Program} {w : World} {mg : Str → Option Value} {base : Heap} {x qual : Str} {st : Stmt} {f : Addr} {fd : FuncData} {N ps : List Str} {k : Nat} {mb : En → Option FlX} (F : Fun K x qual st f fd) (S : FnScope N ps (defScope st))
    (hbody : ∀ (cdv : Value) (A : Around) (outer : List Env) (s : Shared) (H : Hp) (E : XK), Room k (A.deeper (envOfC qual (defScope st) s.heap.objs.size f cdv)) →
      ∃ t : WX → TS, PSs (cxOf (L2.CX P w) P w K mg base N qual (defScope st) f cdv A outer s H E) (defBody st) (t fun c d _ h => E c d h) ∧ SX K cl t mb) : FnOk P w K mg base (L2.CX P w) (k + 1) f fd ps (spX K cl ps.length (xDef N.length mb)) := by
  refine F.okX S (fun vs H Q E h => ?_) (fun cdv A outer s Hx vs Q E hr h => ?_)
  · obtain ⟨ds, r, H, T, g, hn, _⟩ := h
    rw [dpa_len g, hn]
  · obtain ⟨ds, r, H, T, g, hn, hm, rfl, dis, q⟩ := h
    obtain ⟨t, p, m⟩ := hbody cdv A outer s (ov H T) E hr
    refine ⟨_, p, ?_⟩
    obtain ⟨y, hy, hm⟩ := bind_some hm
    refine m.run (good_start g dis) hy _ _ ?_
    cases y with
    | fl fl =>
      cases fl with
      | rt d' =>
        cases hm
        intro v H' T' s1 d1 e1 p1
        obtain ⟨H2, e2, s2, d2, s3⟩ := back dis s1 d1 e1
        show Q v (ov H' T')
        rw [e2]
        exact q v H2 s2 d2 (dp_mono s3 p1)
      | nx ρ =>
        cases hm
        intro σ' H' T' G'
        obtain ⟨H2, e2, s2, d2, s3⟩ := back dis G'.ex G'.dis G'.ext
        show Q .non (ov H' T')
        rw [e2]
        exact q _ H2 s2 d2 .non
      | bk ρ => cases hm
      | ct ρ => cases hm
    | ex c ρ =>
      cases hm
      intro σ' H' T' G'
      obtain ⟨H2, e2, s2, d2, s3⟩ := back dis G'.ex G'.dis G'.ext
      show E (.ref (cl c)) none (ov H' T')
      rw [e2]
      exact q H2 s2 d2
/-! caught -/
/-- the suite, for exceptions of one class -/
theorem pss_cls {X : Cx} {C : Addr} {oe : Obj} {cls : Value} {d : Option Addr} {b : List Stmt} {t : TS} (hz : Zc cls d oe) (h : Zc (.ref C) none oe → PSs X b t) : PSs X b (fun D σ H => (cls = .ref C ∧ d = none) ∧ t D σ H) :=
  ⟨fun pins s σ H D I q => by
    obtain ⟨⟨rfl, rfl⟩, q⟩ := q
    exact (h hz).run pins s σ H D I q⟩
/-- what an expression of a suite comes to, the exception at a in slot i -/
structure SB (i : Nat) (te : Addr → TE) (v : V) : Prop where
  run : ∀ (a : Addr) (σ : L2.St) (H : Hp) (Q : VK), σ[i]? = some (some (.ref a)) → Q v H → te a σ H Q
structure SBT (i : Nat) (tt : Addr → TT) (b : Bool) : Prop where
  run : ∀ (a : Addr) (σ : L2.St) (H : Hp) (Q : Bool → Hp → Prop), σ[i]? = some (some (.ref a)) → Q b H → tt a σ H Q
theorem sb_is {i : Nat} {D Y : Addr} {b : Bool} (k : PySem.W.kitOne K (.ref D) (.ref Y) = some b) : SB i (fun a => tCB (rIsE K D a) (tCons (tVar i) (tCons (tC (.ref Y)) tNil))) (.bl b) :=
  ⟨fun a σ H Q h q => ⟨.ref a, h, .ref Y, .ref Y, b, rfl, fun _ r => r, k, q⟩⟩
theorem sb_and {i : Nat} {ta tb : Addr → TE} {b c : Bool} (h1 : SB i ta (.bl b)) (h2 : SB i tb (.bl c)) : SB i (fun a => tAndV (ta a) (tb a)) (.bl (b && c)) :=
  ⟨fun a σ H Q h q => h1.run a σ H _ h ⟨b, rfl, by
    cases b with
    | true => rw [if_pos rfl]; exact h2.run a σ H Q h q
    | false => rw [if_neg Bool.false_ne_true]; exact q⟩⟩
theorem sb_not {i : Nat} {ta : Addr → TE} {b : Bool} (h1 : SB i ta (.bl b)) : SB i (fun a => tNotV (ta a)) (.bl (!b)) := ⟨fun a σ H Q h q => h1.run a σ H _ h ⟨b, rfl, q⟩⟩
theorem sb_c {i : Nat} {v : V} : SB i (fun _ => tC v) v := ⟨fun a σ H Q h q => q⟩
theorem sbt_tru {i : Nat} {ta : Addr → TE} {b : Bool} (h1 : SB i ta (.bl b)) : SBT i (fun a => tTru K (ta a)) b := ⟨fun a σ H Q h q => h1.run a σ H _ h ⟨b, rfl, q⟩⟩
theorem sb_if {i : Nat} {tt : Addr → TT} {ta tb : Addr → TE} {b : Bool} {v w : V} (h : SBT i tt b) (h1 : SB i ta v) (h2 : SB i tb w) : SB i (fun a => tIf (tt a) (ta a) (tb a)) (if b = true then v else w) :=
  ⟨fun a σ H Q e q => h.run a σ H _ e (by
    cases b with
    | true => rw [if_pos rfl] at q ⊢; exact h1.run a σ H Q e q
    | false => rw [if_neg Bool.false_ne_true] at q ⊢; exact h2.run a σ H Q e q)⟩
def sTry (i : Nat) (c0 : Nat) (d0 : D) (b : En → Option FlX) : En → Option Fl := fun ρ => (b ρ).bind fun x => match x with
  | .fl f => some f
  | .ex c ρ' => if c = c0 ∧ i < ρ'.length then some (.rt d0) else none
/-- try: .. except c as e: return .. -/
theorem st_try {i : Nat} {c0 : Nat} {C : Addr} {d0 : D} {v0 : V} {tb : WX → TS} {te : Addr → TE} {mb : En → Option FlX} (hb : SX K cl tb mb) (hx : PySem.W.exmOne K (.ref (cl c0)) (.ref C) = some true) (hs : SB i te v0) (hd : ∀ H, Dp K H v0 d0) :
    TSm K (fun D σ H => tb (wAs K (.ref C) i (fun a cls d D σ H => (cls = .ref (cl c0) ∧ d = none) ∧ tRet (te a) D σ H) (fun _ _ _ _ => False) D) D σ H) (sTry i c0 d0 mb) := by
  refine ⟨fun {H0 T0 σ ρ H T f} G h E q => ?_⟩
  obtain ⟨x, hx1, h⟩ := bind_some h
  refine hb.run G hx1 _ E ?_
  cases x with
  | fl f' => cases h; exact q
  | ex c ρ' =>
    by_cases hc : c = c0 ∧ i < ρ'.length
    · have h' : some (Fl.rt d0) = some f := by
        have : (if c = c0 ∧ i < ρ'.length then some (Fl.rt d0) else none) = some f := h
        rwa [if_pos hc] at this
      cases h'
      obtain ⟨rfl, hi⟩ := hc
      intro σ' H' T' G'
      refine ⟨true, hx, fun _ a na => ⟨⟨rfl, rfl⟩, ?_⟩, fun z => (nomatch z)⟩
      exact hs.run a _ _ _ (set_self (by rw [← G'.len]; exact hi)) (q v0 H' T' G'.ex G'.dis G'.ext (hd _))
    · have : (if c = c0 ∧ i < ρ'.length then some (Fl.rt d0) else none) = some f := h
      rw [if_neg hc] at this
      cases this
/-! item = value, str, join, split -/
theorem dpa_set {H : Hp} : ∀ {xs : List V} {ds : List D} {v : V} {d : D} (j : Nat), DpAll K H xs ds → Dp K H v d → DpAll K H (xs.set j v) (ds.set j d)
  | _, _, _, _, _, .nil, _ => .nil
  | _, _, _, _, 0, .cons _ t, g => .cons g t
  | _, _, _, _, j + 1, .cons h t, g => .cons h (dpa_set j t g)
def sItem (i : Nat) (mk ma : En → Option D) : En → Option Fl := fun ρ => match ρ[i]? with
  | some (some (.own ds)) => (ma ρ).bind fun d => (mk ρ).bind fun k => match k with
    | .int k => (ixN ds.length k).map fun j => .nx (ρ.set i (some (.own (ds.set j d))))
    | _ => none
  | _ => none
theorem st_item {i : Nat} {te tk : TE} {mk ma : En → Option D} (ha : ET K te ma) (hk : ET K tk mk) : TSm K (tAsg te (gSub (tVar i) tk rSetL)) (sItem i mk ma) := by
  refine ⟨fun {H0 T0 σ ρ H T f} G h E q => ?_⟩
  unfold sItem at h
  split at h
  · rename_i ds e
    obtain ⟨d, hd, h⟩ := bind_some h
    obtain ⟨kd, hkd, h⟩ := bind_some h
    split at h
    · rename_i k
      obtain ⟨j, hj, h⟩ := map_some h
      subst h
      refine ha.run G hd _ fun v H1 s1 d1 p1 => ?_
      have G1 := G.mono s1 d1
      obtain ⟨p, xs, a, b, c, g⟩ := G1.own i ds e
      refine ⟨.ref p, a, ?_⟩
      refine hk.run G1 hkd _ fun u H2 s2 d2 p2 => ?_
      have G2 := G1.mono s2 d2
      obtain ⟨p', xs', a', b', c', g'⟩ := G2.own i ds e
      rw [a] at a'
      cases a'
      rw [b] at b'
      cases b'
      cases p2
      refine ⟨p, xs, k, j, rfl, rfl, ov_own b, by rw [dpa_len g']; exact hj, ?_⟩
      rw [upd_put]
      exact q _ _ _ (G2.turn e a b (dpa_set j g' (dp_mono s2 p1)))
    · cases h
  · cases h
def rStrA : List V → Hp → VK → Prop := fun xs H Q => (∃ i, xs = [V.int i] ∧ i.natAbs.log2 < 1920 ∧ Q (.str (toString i)) H) ∨ ∃ a, xs = [V.str a] ∧ Q (.str a) H
theorem cr_strA {X : Cx} : CallR X (.type "str") rStrA := by
  intro pins s σ H xs us Q I r h
  rcases h with h | h
  · exact call_str_int pins s σ H xs us Q I r h
  · exact SkE.call_str_str pins s σ H xs us Q I r h
def strI (i : Int) : Str := toString i
def dStrA : List D → Option D
  | [.int i] => if i.natAbs.log2 < 1920 then some (.str (strI i)) else none
  | [.str a] => some (.str a)
  | _ => none
theorem cd_strA : CD K rStrA dStrA := by
  refine ⟨fun {H T vs ds d} dis h e Q q => ?_⟩
  unfold dStrA at e
  split at e
  · split at e
    · rename_i hz
      cases e
      obtain ⟨v, rfl, g⟩ := dpa_one h
      cases g
      exact .inl ⟨_, rfl, hz, q _ H (Same.refl H) dis (.str _)⟩
    · cases e
  · cases e
    obtain ⟨v, rfl, g⟩ := dpa_one h
    cases dp_str g
    exact .inr ⟨_, rfl, q _ H (Same.refl H) dis (.str _)⟩
  · cases e
abbrev rJoinD (K : PySem.W.Frag) : V → List V → Hp → VK → Prop := fun x xs H Q => ∃ a p, ∃ ys : List Str, x = .str a ∧ xs = [.ref p] ∧ (SqL K H p (ys.map V.str) ∨ SqT K H p (ys.map V.str)) ∧ (ys.map (·.length)).sum + ys.length * a.length ≤ 16777216 ∧ Q (.str (Txt.join a ys)) H
def dJoin : D → D → Option D
  | .str a, .list ds => (strsD ds).bind fun ns => if (ns.map (·.length)).sum + ns.length * a.length ≤ 16777216 then some (.str (Txt.join a ns)) else none
  | .str a, .tuple ds => (strsD ds).bind fun ns => if (ns.map (·.length)).sum + ns.length * a.length ≤ 16777216 then some (.str (Txt.join a ns)) else none
  | _, _ => none
theorem ev_join {to ta : TE} {mo ma : En → Option D} (ho : ET K to mo) (ha : ET K ta ma) : ET K (tBM K "str" (rJoinD K) to (tCons ta tNil)) (mOp dJoin mo ma) := by
  refine ⟨fun {H0 T0 σ ρ H T d} G h Q q => ?_⟩
  obtain ⟨x, hx, h⟩ := bind_some h
  obtain ⟨y, hy, h⟩ := bind_some h
  refine ho.run G hx _ fun v H1 s1 d1 p1 => ?_
  unfold dJoin at h
  split at h
  · rename_i a ds
    obtain ⟨ns, e, h⟩ := bind_some h
    split at h
    · rename_i hz
      cases h
      cases strs_some e
      cases dp_str p1
      refine ⟨rfl, ?_⟩
      refine ha.run (G.mono s1 d1) hy _ fun u H2 s2 d2 p2 => ?_
      obtain ⟨p, us, rfl, hs, gu⟩ := dp_lst p2
      cases dpa_strs_v gu
      exact ⟨_, p, ns, rfl, rfl, .inl (sql_ov d2 hs), hz, q _ H2 (s1.trans s2) d2 (.str _)⟩
    · cases h
  · rename_i a ds
    obtain ⟨ns, e, h⟩ := bind_some h
    split at h
    · rename_i hz
      cases h
      cases strs_some e
      cases dp_str p1
      refine ⟨rfl, ?_⟩
      refine ha.run (G.mono s1 d1) hy _ fun u H2 s2 d2 p2 => ?_
      obtain ⟨p, us, rfl, hs, gu⟩ := dp_tup p2
      cases dpa_strs_v gu
      exact ⟨_, p, ns, rfl, rfl, .inr (sqt_ov d2 hs), hz, q _ H2 (s1.trans s2) d2 (.str _)⟩
    · cases h
  · cases h
end
end DD
namespace DD
variable [TabQ] [ExQ]
open PySem PySem.Spec PyProof.Rows L2
theorem kit_of {K : PySem.W.Frag} {D C : Addr} {b : Bool} (hc : PySem.W.isClsIn K C = true) (ht : PySem.W.typeIn K (.ref C) = some (.type "type")) (hs : PySem.W.subIn K (.ref D) (.ref C) = some b) (hself : PySem.W.subIn K (.ref C) (.ref C) = some true) : PySem.W.kitOne K (.ref D) (.ref C) = some b := by
  unfold PySem.W.kitOne
  split
  · rename_i h
    have e : Value.ref D = Value.ref C := by simpa using h
    cases e
    rw [hself] at hs
    exact hs
  · have hc' : (PySem.W.clsIn K C).isSome = true := hc
    show (if ((PySem.W.clsIn K C).isSome && PySem.W.typeIn K (.ref C) == some (.type "type")) = true then PySem.W.subIn K (.ref D) (.ref C) else none) = some b
    rw [hc', ht]
    exact hs
end DD
namespace DD
variable [TabQ] [ExQ]
open PySem PySem.Spec PyProof.Rows L2
theorem pg_or {X : Cx} {e : Expr} {t u : TG} (h1 : PG X e t) (h2 : PG X e u) : PG X e (fun v σ H Q => t v σ H Q ∨ u v σ H Q) := by
  refine ⟨fun pins s σ H v x Q I r h => ?_⟩
  rcases h with h | h
  · exact h1.run pins s σ H v x Q I r h
  · exact h2.run pins s σ H v x Q I r h
def gAnyM (n : Nat) (g : List D → En → Option En) (d : D) (ρ : En) : Option En := match d with
  | .tuple ds => if ds.length = n then g ds ρ else none
  | .list ds => if ds.length = n then g ds ρ else none
  | _ => none
theorem tg_any {K : PySem.W.Frag} {vs : List Nat} {n : Nat} {gs : TGs} {mr : List D → En → Option En} (h : TGsm K vs gs mr) : TGm K vs (fun v σ H Q => gTup K n gs v σ H Q ∨ gLst K n gs v σ H Q) (gAnyM n mr) := by
  refine ⟨fun {H0 T0 σ ρ ρ2 H T v d} G g e Q q => ?_⟩
  unfold gAnyM at e
  split at e
  · split at e
    · rename_i hn
      obtain ⟨p, xs, rfl, hs, ga⟩ := dp_tup g
      exact .inl ⟨p, xs, rfl, sqt_ov G.dis hs, by rw [dpa_len ga]; exact hn, h.run G ga e Q q⟩
    · cases e
  · split at e
    · rename_i hn
      obtain ⟨p, xs, rfl, hs, ga⟩ := dp_lst g
      exact .inr ⟨p, xs, rfl, sql_ov G.dis hs, by rw [dpa_len ga]; exact hn, h.run G ga e Q q⟩
    · cases e
  · cases e
end DD

set_option Elab.async false
set_option linter.all false
set_option maxRecDepth 100000
set_option maxHeartbeats 4000000
/-! a text split at another -/
namespace DD
variable [TabQ] [ExQ]
open PySem PySem.Spec PyProof.Rows L2
section
variable {K : PySem.W.Frag}
abbrev rSplitD : V → List V → Hp → VK → Prop := fun x xs H Q => ∃ a b, x = .str a ∧ xs = [.str b] ∧ (b.length == 0) = false ∧ a.length + 2 ≤ sizeLine ∧ rNewStrs (Txt.split a b) H Q
def dSplit : D → D → Option D
  | .str a, .str b => if (b.length == 0) = false ∧ a.length + 2 ≤ 16777216 then some (.list ((Txt.split a b).map PyData.str)) else none
  | _, _ => none
theorem ev_split {to ta : TE} {mo ma : En → Option D} (ho : ET K to mo) (ha : ET K ta ma) : ET K (tBM K "str" rSplitD to (tCons ta tNil)) (mOp dSplit mo ma) := by
  refine ⟨fun {H0 T0 σ ρ H T d} G h Q q => ?_⟩
  obtain ⟨x, hx, h⟩ := bind_some h
  obtain ⟨y, hy, h⟩ := bind_some h
  refine ho.run G hx _ fun v H1 s1 d1 p1 => ?_
  unfold dSplit at h
  split at h
  · rename_i a b _
    split at h
    · rename_i hz
      cases h
      cases dp_str p1
      refine ⟨rfl, ?_⟩
      refine ha.run (G.mono s1 d1) hy _ fun u H2 s2 d2 p2 => ?_
      cases dp_str p2
      refine ⟨_, _, rfl, rfl, hz.1, by rw [sizeLine_eq]; exact hz.2, fun p nr => ?_⟩
      obtain ⟨nT, nH⟩ := ov_free nr
      rw [upd_ov nT]
      have s4 : Same H2 (upd H2 p (.lst ((Txt.split a b).map V.str))) := same_new nH
      exact q _ _ ((s1.trans s2).trans s4) (dis_upd d2 nT nH) (.lst (SqL.of upd_same) (dpa_mono s4 (dpa_strs _)))
    · cases h
  · cases h
end
end DD

set_option Elab.async false
set_option linter.all false
set_option maxRecDepth 100000
set_option maxHeartbeats 4000000
/-! a def that calls itself: as deep as a number tells -/
namespace DD
variable [TabQ] [ExQ]
open PySem PySem.Spec PyProof.Rows L2
section
variable {P : Program} {w : World} {K : PySem.W.Frag} {mg : Str → Option Value} {base : Heap} {CX : CXT} {k c : Nat} {f : Addr} {fd : FuncData} {ps : List Str}
theorem fn_none (h : c = ps.length) : FnOk P w K mg base CX k f fd ps (spM K c fun _ => none) := by
  refine ⟨fun vs H Q E x => ?_, fun A outer s H args us vs Q E hr e0 hb r x => ?_⟩
  · obtain ⟨ds, d, H', T, _, _, z, _⟩ := x
    cases z
  · obtain ⟨ds, d, H', T, _, _, z, _⟩ := x
    cases z
theorem fn_rec {m : Nat → List D → Option D} (hc : c = ps.length) (h0 : m 0 = fun _ => none) (hs : ∀ n, FnOk P w K mg base CX (k + n) f fd ps (spM K c (m n)) → FnOk P w K mg base CX (k + n + 1) f fd ps (spM K c (m (n + 1)))) : ∀ n, FnOk P w K mg base CX (k + n) f fd ps (spM K c (m n))
  | 0 => by
    rw [h0]
    exact fn_none hc
  | n + 1 => hs n (fn_rec hc h0 hs n)
end
end DD

set_option Elab.async false
set_option linter.all false
set_option maxRecDepth 100000
set_option maxHeartbeats 4000000
/-! int(), abs(), a sign's place in a text; suites that tell lists; several classes in one try; raising defs that call themselves -/
namespace DD
variable [TabQ] [ExQ]
open PySem PySem.Spec PyProof.Rows L2
section
variable {K : PySem.W.Frag}
def rIntA : List V → Hp → VK → Prop := fun xs H Q => ((∃ i, xs = [V.int i] ∧ Q (.int i) H) ∨ ∃ k, xs = [V.bl k] ∧ Q (.int (if k then 1 else 0)) H) ∨ ∃ a n, xs = [V.str a] ∧ PySem.intText? a = some n ∧ a.length ≤ 640 ∧ Q (.int n) H
theorem cr_intA {X : Cx} : CallR X (.type "int") rIntA := by
  intro pins s σ H xs us Q I r h
  rcases h with h | h
  · exact call_int1 pins s σ H xs us Q I r h
  · exact call_int_str pins s σ H xs us Q I r h
def dIntA : List D → Option D
  | [.int i] => some (.int i)
  | [.bool k] => some (.int (if k then 1 else 0))
  | [.str a] => if a.length ≤ 640 then (PySem.intText? a).map .int else none
  | _ => none
theorem cd_intA : CD K rIntA dIntA := by
  refine ⟨fun {H T vs ds d} dis h e Q q => ?_⟩
  unfold dIntA at e
  split at e
  · cases e
    obtain ⟨v, rfl, g⟩ := dpa_one h
    cases g
    exact .inl (.inl ⟨_, rfl, q _ H (Same.refl H) dis (.int _)⟩)
  · cases e
    obtain ⟨v, rfl, g⟩ := dpa_one h
    cases g
    exact .inl (.inr ⟨_, rfl, q _ H (Same.refl H) dis (.int _)⟩)
  · split at e
    · rename_i hz
      obtain ⟨n, hn, e⟩ := map_some e
      subst e
      obtain ⟨v, rfl, g⟩ := dpa_one h
      cases dp_str g
      exact .inr ⟨_, n, rfl, hn, hz, q _ H (Same.refl H) dis (.int _)⟩
    · cases e
  · cases e
def rAbs : List V → Hp → VK → Prop := fun xs H Q => ∃ i, xs = [V.int i] ∧ Q (.int (if i < 0 then -i else i)) H
theorem cr_abs {X : Cx} : CallR X (.builtin "abs") rAbs := call_abs
def dAbs : List D → Option D
  | [.int i] => some (.int (if i < 0 then -i else i))
  | _ => none
theorem cd_abs : CD K rAbs dAbs := by
  refine ⟨fun {H T vs ds d} dis h e Q q => ?_⟩
  unfold dAbs at e
  split at e
  · cases e
    obtain ⟨v, rfl, g⟩ := dpa_one h
    cases g
    exact ⟨_, rfl, q _ H (Same.refl H) dis (.int _)⟩
  · cases e
abbrev rSIndex : V → List V → Hp → VK → Prop := fun x xs H Q => ∃ a b i rest, x = .str a ∧ xs = [.str b] ∧ Builtin.Str.occurrences a b 0 a.length 1 = i :: rest ∧ Q (.int (i : Nat)) H
def dSIndex : D → D → Option D
  | .str a, .str b => match Builtin.Str.occurrences a b 0 a.length 1 with
    | i :: _ => some (.int (i : Nat))
    | [] => none
  | _, _ => none
theorem ev_sindex {to ta : TE} {mo ma : En → Option D} (ho : ET K to mo) (ha : ET K ta ma) : ET K (tBM K "str" rSIndex to (tCons ta tNil)) (mOp dSIndex mo ma) := by
  refine ⟨fun {H0 T0 σ ρ H T d} G h Q q => ?_⟩
  obtain ⟨x, hx, h⟩ := bind_some h
  obtain ⟨y, hy, h⟩ := bind_some h
  refine ho.run G hx _ fun v H1 s1 d1 p1 => ?_
  unfold dSIndex at h
  split at h
  · split at h
    · rename_i hz
      cases h
      cases dp_str p1
      refine ⟨rfl, ?_⟩
      refine ha.run (G.mono s1 d1) hy _ fun u H2 s2 d2 p2 => ?_
      cases dp_str p2
      exact ⟨_, _, _, _, rfl, rfl, hz, q _ H2 (s1.trans s2) d2 (.int _)⟩
    · cases h
  · cases h
/-! suites -/
structure SBD (K : PySem.W.Frag) (i : Nat) (te : Addr → TE) (d0 : D) : Prop where
  run : ∀ (a : Addr) (σ : L2.St) (H : Hp) (T : Ov) (Q : VK), σ[i]? = some (some (.ref a)) → Dis H T → (∀ v H', Same H H' → Dis H' T → Dp K H' v d0 → Q v (ov H' T)) → te a σ (ov H T) Q
structure SBA (K : PySem.W.Frag) (i : Nat) (ta : Addr → TA) (ds : List D) : Prop where
  run : ∀ (a : Addr) (σ : L2.St) (H : Hp) (T : Ov) (R : List V → Hp → Prop), σ[i]? = some (some (.ref a)) → Dis H T → (∀ vs H', Same H H' → Dis H' T → DpAll K H' vs ds → R vs (ov H' T)) → ta a σ (ov H T) R
variable {i : Nat}
theorem sbd_of {te : Addr → TE} {v0 : V} {d0 : D} (h : SB i te v0) (hd : ∀ H, Dp K H v0 d0) : SBD K i te d0 := ⟨fun a σ H T Q e dis q => h.run a σ _ Q e (q v0 H (Same.refl H) dis (hd H))⟩
theorem sba_nil : SBA K i (fun _ => tNil) [] := ⟨fun a σ H T R e dis q => q [] H (Same.refl H) dis .nil⟩
theorem sba_cons {te : Addr → TE} {ta : Addr → TA} {d : D} {ds : List D} (h1 : SBD K i te d) (h2 : SBA K i ta ds) : SBA K i (fun a => tCons (te a) (ta a)) (d :: ds) :=
  ⟨fun a σ H T R e dis q => h1.run a σ H T _ e dis fun v H1 s1 d1 p1 => h2.run a σ H1 T _ e d1 fun vs H2 s2 d2 p2 => q (v :: vs) H2 (s1.trans s2) d2 (.cons (dp_mono s2 p1) p2)⟩
theorem sbd_lst {ta : Addr → TA} {ds : List D} (h : SBA K i ta ds) (hz : ds.length ≤ cap) : SBD K i (fun a => tLst (ta a)) (.list ds) :=
  ⟨fun a σ H T Q e dis q => h.run a σ H T _ e dis fun vs H1 s1 d1 p1 => ⟨cap_line (by rw [dpa_len p1]; exact hz), fun p np => by
    obtain ⟨nT, nH⟩ := ov_free np
    rw [upd_ov nT]
    exact q _ _ (s1.trans (same_new nH)) (dis_upd d1 nT nH) (.lst (SqL.of upd_same) (dpa_mono (same_new nH) p1))⟩⟩
theorem sbd_if {tt : Addr → TT} {ta tb : Addr → TE} {b : Bool} {d e : D} (h : SBT i tt b) (h1 : SBD K i ta d) (h2 : SBD K i tb e) : SBD K i (fun a => tIf (tt a) (ta a) (tb a)) (if b = true then d else e) :=
  ⟨fun a σ H T Q z dis q => h.run a σ _ _ z (by
    cases b with
    | true => rw [if_pos rfl] at q ⊢; exact h1.run a σ H T Q z dis q
    | false => rw [if_neg Bool.false_ne_true] at q ⊢; exact h2.run a σ H T Q z dis q)⟩
variable {cl : Nat → Addr}
/-- what a suite does, by the class of what came -/
structure SU (K : PySem.W.Frag) (cl : Nat → Addr) (C : Addr) (i : Nat) (th : Addr → Value → Option Addr → TS) (f : Nat → Option D) : Prop where
  cls : ∀ c d, f c = some d → PySem.W.exmOne K (.ref (cl c)) (.ref C) = some true
  run : ∀ (c : Nat) (d0 : D), f c = some d0 → ∀ (a : Addr) (σ : L2.St) (H : Hp) (T : Ov) (E : Ends), σ[i]? = some (some (.ref a)) → Dis H T → (∀ v H', Same H H' → Dis H' T → Dp K H' v d0 → E.rt v (ov H' T)) → th a (.ref (cl c)) none E σ (ov H T)
def fOne (c0 : Nat) (d0 : D) : Nat → Option D := fun c => if c = c0 then some d0 else none
def fOr (f1 f2 : Nat → Option D) : Nat → Option D := fun c => (f1 c).or (f2 c)
theorem su_one {C : Addr} {c0 : Nat} {d0 : D} {te : Addr → TE} (hx : PySem.W.exmOne K (.ref (cl c0)) (.ref C) = some true) (h : SBD K i te d0) :
    SU K cl C i (fun a cls d D σ H => (cls = .ref (cl c0) ∧ d = none) ∧ tRet (te a) D σ H) (fOne c0 d0) := by
  refine ⟨fun c d e => ?_, fun c d e a σ H T E hs dis q => ?_⟩
  · by_cases h : c = c0
    · rw [h]; exact hx
    · have e : (if c = c0 then some d0 else none) = some d := e
      rw [if_neg h] at e
      cases e
  · by_cases hc : c = c0
    · have e : (if c = c0 then some d0 else none) = some d := e
      rw [if_pos hc] at e
      cases e
      subst hc
      exact ⟨⟨rfl, rfl⟩, h.run a σ H T _ hs dis q⟩
    · have e : (if c = c0 then some d0 else none) = some d := e
      rw [if_neg hc] at e
      cases e
theorem su_or {C : Addr} {t1 t2 : Addr → Value → Option Addr → TS} {f1 f2 : Nat → Option D} (h1 : SU K cl C i t1 f1) (h2 : SU K cl C i t2 f2) : SU K cl C i (fun a cls d D σ H => t1 a cls d D σ H ∨ t2 a cls d D σ H) (fOr f1 f2) := by
  refine ⟨fun c d e => ?_, fun c d e a σ H T E hs dis q => ?_⟩
  · have e : (f1 c).or (f2 c) = some d := e
    cases q : f1 c with
    | some x => exact h1.cls c x q
    | none => rw [q] at e; exact h2.cls c d e
  · have e : (f1 c).or (f2 c) = some d := e
    cases q' : f1 c with
    | some x =>
      rw [q'] at e
      cases e
      exact .inl (h1.run c d q' a σ H T E hs dis q)
    | none =>
      rw [q'] at e
      exact .inr (h2.run c d e a σ H T E hs dis q)
theorem pss_or {X : Cx} {b : List Stmt} {t u : TS} (h1 : PSs X b t) (h2 : PSs X b u) : PSs X b (fun D σ H => t D σ H ∨ u D σ H) :=
  ⟨fun pins s σ H D I q => q.elim (fun z => h1.run pins s σ H D I z) fun z => h2.run pins s σ H D I z⟩
/-- a raising def called with what a raising expression tells -/
def xThenX (mf : List D → Option Rs) (m : En → Option Rs) : En → Option Rs := fun ρ => (m ρ).bind fun r => match r with
  | .ok d => mf [d]
  | .ex c => some (.ex c)
theorem ex_thenX {te : WX → TE} {m : En → Option Rs} {mf : List D → Option Rs} (h : EX K cl te m) : EX K cl (fun W => tCallS (spX K cl 1 mf) (WE W) (tCons (te W) tNil)) (xThenX mf m) := by
  refine ⟨fun {H0 T0 σ ρ H T r} G hm W Q q => ?_⟩
  obtain ⟨r1, h1, hm⟩ := bind_some hm
  cases r1 with
  | ok d =>
    refine h.run G h1 W _ fun v H1 s1 d1 p1 => ?_
    show spX K cl 1 mf ([v] ++ []) (ov H1 T) Q _
    refine ⟨[d], r, H1, T, .cons p1 .nil, rfl, hm, rfl, d1, ?_⟩
    cases r with
    | ok e => exact fun w H3 s3 d3 p3 => q w H3 (s1.trans s3) d3 p3
    | ex c => exact fun H3 s3 d3 => q H3 (s1.trans s3) d3
  | ex c =>
    cases hm
    exact h.run G h1 W _ q
def xIfE (c : En → Option Bool) (a b : En → Option Rs) : En → Option Rs := fun ρ => (c ρ).bind fun x => if x = true then a ρ else b ρ
theorem ex_if {tc : TT} {mc : En → Option Bool} {t1 t2 : WX → TE} {m1 m2 : En → Option Rs} (hc : TTm K tc mc) (h1 : EX K cl t1 m1) (h2 : EX K cl t2 m2) : EX K cl (fun W => tIf tc (t1 W) (t2 W)) (xIfE mc m1 m2) := by
  refine ⟨fun {H0 T0 σ ρ H T r} G hm W Q q => ?_⟩
  obtain ⟨x, hx, h⟩ := bind_some hm
  refine hc.run G hx _ fun H1 s1 d1 => ?_
  have q1 : RsOk K cl H1 T Q (fun c d h => W c d σ h) r := by
    cases r with
    | ok d => exact fun v H2 s2 d2 p2 => q v H2 (s1.trans s2) d2 p2
    | ex c => exact fun H2 s2 d2 => q H2 (s1.trans s2) d2
  cases x with
  | true =>
    rw [if_pos rfl] at h ⊢
    exact h1.run (G.mono s1 d1) h W Q q1
  | false =>
    rw [if_neg Bool.false_ne_true] at h ⊢
    exact h2.run (G.mono s1 d1) h W Q q1
def sTryF (i : Nat) (f : Nat → Option D) (b : En → Option FlX) : En → Option Fl := fun ρ => (b ρ).bind fun x => match x with
  | .fl f => some f
  | .ex c ρ' => if i < ρ'.length then (f c).map .rt else none
/-- try: .. except c as e: return .., for several classes -/
theorem st_tryF {C : Addr} {f : Nat → Option D} {tb : WX → TS} {th : Addr → Value → Option Addr → TS} {mb : En → Option FlX} (hb : SX K cl tb mb) (hs : SU K cl C i th f) :
    TSm K (fun D σ H => tb (wAs K (.ref C) i (fun a cls d D σ H => th a cls d D σ H) (fun _ _ _ _ => False) D) D σ H) (sTryF i f mb) := by
  refine ⟨fun {H0 T0 σ ρ H T g} G h E q => ?_⟩
  obtain ⟨x, hx1, h⟩ := bind_some h
  refine hb.run G hx1 _ E ?_
  cases x with
  | fl f' => cases h; exact q
  | ex c ρ' =>
    have h : (if i < ρ'.length then (f c).map Fl.rt else none) = some g := h
    by_cases hi : i < ρ'.length
    · rw [if_pos hi] at h
      obtain ⟨d0, hd, e⟩ := map_some h
      subst e
      intro σ' H' T' G'
      refine ⟨true, hs.cls c d0 hd, fun _ a na => ?_, fun z => (nomatch z)⟩
      exact hs.run c d0 hd a _ _ _ _ (set_self (by rw [← G'.len]; exact hi)) G'.dis fun v H2 s2 d2 p2 => q v H2 T' (G'.ex.trans s2) d2 G'.ext p2
    · rw [if_neg hi] at h
      cases h
/-! a raising def that calls itself -/
variable {P : Program} {w : World} {mg : Str → Option Value} {base : Heap} {CX : CXT} {k c : Nat} {f : Addr} {fd : FuncData} {ps : List Str}
theorem fn_noneX : FnOk P w K mg base CX k f fd ps (spX K cl c fun _ => none) := by
  refine ⟨fun vs H Q E x => ?_, fun A outer s H args us vs Q E hr e0 hb r x => ?_⟩
  · obtain ⟨ds, d, H', T, _, _, z, _⟩ := x
    cases z
  · obtain ⟨ds, d, H', T, _, _, z, _⟩ := x
    cases z
theorem fn_recX {m : Nat → List D → Option Rs} (h0 : m 0 = fun _ => none) (hs : ∀ n, FnOk P w K mg base CX (k + n) f fd ps (spX K cl c (m n)) → FnOk P w K mg base CX (k + n + 1) f fd ps (spX K cl c (m (n + 1)))) : ∀ n, FnOk P w K mg base CX (k + n) f fd ps (spX K cl c (m n))
  | 0 => by
    rw [h0]
    exact fn_noneX
  | n + 1 => hs n (fn_recX h0 hs n)
end
end DD

set_option Elab.async false
set_option linter.all false
set_option maxRecDepth 100000
set_option maxHeartbeats 4000000
/-! enumerate of a list -/
namespace DD
variable [TabQ] [ExQ]
open PySem PySem.Spec PyProof.Rows L2
def nums : Nat → List D → List D
  | _, [] => []
  | n, x :: xs => .tuple [.int (n : Nat), x] :: nums (n + 1) xs
theorem nums_len : ∀ (n : Nat) (xs : List D), (nums n xs).length = xs.length
  | _, [] => rfl
  | n, x :: xs => by simp [nums, nums_len (n + 1) xs]
theorem nums_get : ∀ {n : Nat} {xs : List D} {i : Nat} {d : D}, (nums n xs)[i]? = some d → ∃ x, xs[i]? = some x ∧ d = .tuple [.int ((n + i : Nat) : Int), x]
  | _, [], _, _, h => by simp [nums] at h
  | n, x :: xs, 0, d, h => by simp [nums] at h; exact ⟨x, rfl, h.symm⟩
  | n, x :: xs, i + 1, d, h => by
    have h2 : (nums (n + 1) xs)[i]? = some d := by simpa [nums] using h
    obtain ⟨y, h3, h4⟩ := nums_get h2
    refine ⟨y, by simpa using h3, ?_⟩
    rw [h4]
    have : n + 1 + i = n + (i + 1) := by omega
    rw [this]
def mEnum (m : En → Option (List D)) : En → Option (List D) := fun ρ => (m ρ).bind fun ds => match ds with
  | [.list xs] => some (nums 0 xs)
  | _ => none
theorem it_enum {K : PySem.W.Frag} {ta : TA} {m : En → Option (List D)} (ha : TAm K ta m) : IT K (iEnum K ta) (mEnum m) := by
  refine ⟨fun {H0 T0 σ ρ H T ds} G h R q => ?_⟩
  obtain ⟨as, hx, h⟩ := bind_some h
  refine ha.run G hx _ fun vs H1 s1 d1 p1 => ?_
  split at h
  · rename_i xs _
    cases h
    obtain ⟨v, rfl, g⟩ := dpa_one p1
    obtain ⟨a, ys, rfl, hs, gy⟩ := dp_lst g
    have ly := dpa_len gy
    refine ⟨a, ys, rfl, sql_ov d1 hs, q _ H1 s1 d1 ⟨fun {H T} i sm dis hi => ?_, fun {H T} sm dis => ?_, fun {H T} i {x Hc d} sm dis hd y => ?_⟩⟩
    · rw [nums_len] at hi
      have i1 : i < ys.length := by rw [ly]; exact hi
      exact ⟨ys, ys[i], sql_ov dis (sm.seq hs), by simp [i1]⟩
    · exact ⟨ys, sql_ov dis (sm.seq hs), by rw [nums_len, ly]; exact Nat.le_refl _⟩
    · obtain ⟨p, xx, rfl, np, rfl, ex⟩ := y
      obtain ⟨dx, hdx, rfl⟩ := nums_get hd
      obtain ⟨wx, hwx, gwx⟩ := dpa_get gy hdx
      have := ex ys (sql_ov dis (sm.seq hs))
      rw [hwx] at this
      cases this
      obtain ⟨nT, nH⟩ := ov_free np
      have sn : Same H (upd H p (.tup [.int (i : Nat), xx])) := same_new nH
      refine ⟨_, upd_ov nT, sn, dis_upd dis nT nH, .tup (.inl (.of upd_same)) (.cons ?_ (.cons (dp_mono sn (dp_mono sm gwx)) .nil))⟩
      rw [Nat.zero_add]
      exact .int _
  · cases h
end DD

set_option Elab.async false
set_option linter.all false
set_option maxRecDepth 100000
set_option maxHeartbeats 4000000
/-! l.count(x); a caught exception as an argument and in suites of several statements; f(lambda: ..) -/
namespace DD
variable [TabQ]
open PySem PySem.Spec PyProof.Rows L2
section
variable [ExQ] {K : PySem.W.Frag}
def rCountD (K : PySem.W.Frag) : V → List V → Hp → VK → Prop := fun x xs H Q => ∃ (a : Addr) (y : V) (d : D) (ds : List D), x = V.ref a ∧ xs = [y] ∧ Dp K H (V.ref a) (.list ds) ∧ Dp K H y d ∧
  SeqAt.shaped (.list ds) = true ∧ SeqAt.shaped d = true ∧ Q (.int (ds.countP (fun z => PyData.eqv z d) : Nat)) H
theorem mt_countD {X : Cx} (hu : X.A.units + 65 < cLine) : MtR X "list.count" (rCountD X.K) := by
  intro pins s σ H x xs v us Q I rx rxs h
  obtain ⟨a, y, d, ds, rfl, rfl, hl, hy, sl, sd, q⟩ := h
  cases rx
  obtain ⟨uy, rfl, ry⟩ := rxs.one
  obtain ⟨bs, r1⟩ := Dp.reads I d y uy hy ry
  have hxs : PyData.canLayAll0 ds = true := SeqAt.canLay_of_shaped sl
  have room : X.A.units + 1 + min (PyData.depthAll ds) d.depth < cLine := room_in_shaped sd hu
  cases hl with
  | lst hs ha =>
    obtain ⟨its, rv, ⟨⟨cls, dd, data, sls⟩, n, ho, hc, hdn, hdt⟩, hlen⟩ := I.list hs
    simp only at hc hdt
    subst hc hdt
    obtain ⟨as, h4⟩ := Dp.readsAll I ds _ its ha rv
    have hmap : its.map (SeqAt.readOf s.heap) = ds := SeqAt.readsAll_map ds its as hxs h4
    refine call_meets PySem.F.slot_list_count ⟨_, ho, rfl⟩ PySem.F.entry_list_count (PySem.F.args_list_count_2 _ _)
      (SeqAt.list_countAt a its.toArray n dd sls uy (fun u => PyData.eqv (SeqAt.readOf s.heap u) d))
      ⟨ho, SeqAt.items_eqAt (vs := its.toArray) (show ReadsAll s.heap its.toArray.toList ds as from h4) r1 hxs (SeqAt.canLay_of_shaped sd) room, ?_⟩
    refine ⟨.int (ds.countP (fun z => PyData.eqv z d) : Nat), H, I.tok _, ⟨s.toks, ?_⟩, q⟩
    have e : its.toArray.toList.countP (fun u => PyData.eqv (SeqAt.readOf s.heap u) d) = ds.countP (fun z => PyData.eqv z d) := by
      rw [← hmap, List.countP_map]
      rfl
    rw [e]
def dCount (x y : D) : Option D := match x with
  | .list ds => if (SeqAt.shaped (.list ds) && SeqAt.shaped y) = true then some (.int (ds.countP (fun z => PyData.eqv z y) : Nat)) else none
  | _ => none
theorem ev_count {ta tb : TE} {ma mb : En → Option D} (ha : ET K ta ma) (hb : ET K tb mb) : ET K (tBM K "list" (rCountD K) ta (tCons tb tNil)) (mOp dCount ma mb) := by
  refine ⟨fun {H0 T0 σ ρ H T out} G h Q q => ?_⟩
  obtain ⟨x, hx, h⟩ := bind_some h
  obtain ⟨y, hy, h⟩ := bind_some h
  refine ha.run G hx _ fun v H1 s1 d1 p1 => ?_
  unfold dCount at h
  split at h
  · rename_i _ ds _
    split at h
    · rename_i hs
      obtain ⟨h1, h2⟩ := Bool.and_eq_true_iff.mp hs
      cases h
      obtain ⟨a, us, rfl, hq, gu⟩ := dp_lst p1
      refine ⟨.inl ⟨rfl, us, sql_ov d1 hq⟩, ?_⟩
      refine hb.run (G.mono s1 d1) hy _ fun v2 H2 s2 d2 p2 => ?_
      exact ⟨a, v2, y, ds, rfl, rfl, dp_ov d2 (dp_mono s2 (.lst hq gu)), dp_ov d2 p2, h1, h2, q _ H2 (s1.trans s2) d2 (.int _)⟩
    · cases h
  · cases h
end
/-! ### isinstance of the exception that was caught, in the suite and in a def that got it -/
section
variable {K : PySem.W.Frag}
theorem call_isA {X : Cx} {a D : Addr} {oe : Obj} (C : ExcC X.K D) (hz : Zc (.ref D) none oe) (hf : ∃ vs, oe.data = .fields vs) (hg : X.s_0.heap.get? a = some oe) (hn : X.H_0 a = none) (hfs : a ∉ X.fs) (hex : a ∉ X.ex) : CallR X (.builtin "isinstance") (rIsE X.K D a) := by
  intro pins s σ H xs us Q I r h
  obtain ⟨c, cv, b, rfl, hcv, e, q⟩ := h
  cases r with
  | cons rx rr =>
    cases rr with
    | cons rt rr =>
      cases rr
      cases rx
      have ec := hcv _ rt
      subst ec
      have hget := I.base.keep a oe hg hn hfs hex
      obtain ⟨vs, hv⟩ := hf
      have J : PySem.W.InstAt s.heap a oe D none := by
        obtain ⟨oc, od, oda, osl⟩ := oe
        obtain ⟨h1, h2⟩ := hz
        dsimp only at h1 h2 hv
        subst h1 h2 hv
        exact ⟨hget, rfl, rfl, trivial⟩
      exact PySem.W.kia_one (PySem.W.handS_kitx_exc C.hg C.hk C.hs C.hd C.ha C.hn C.ht C.hm) I.kIn J e (fun z => nomatch z) fun tk => ⟨.bl b, H, I.kept (t' := tk) fun _ _ z => z, rfl, q⟩
/-- isinstance(e, Y), by the number of e's class -/
def mIsX (i : Nat) (f : Nat → Bool) : En → Option D := fun ρ => match ρ[i]? with
  | some (some (.exc c)) => some (.bool (f c))
  | _ => none
theorem ev_isX {i c : Nat} {a D : Addr} {v : V} {cv : Value} {f : Nat → Bool} (hv : ∀ u, RelV v u → u = cv) (k : PySem.W.kitOne K (.ref D) cv = some (f c)) :
    letI : ExQ := ⟨a, c⟩
    ET K (tCB (rIsE K D a) (tCons (tVar i) (tCons (tC v) tNil))) (mIsX i f) := by
  letI : ExQ := ⟨a, c⟩
  refine ⟨fun {H0 T0 σ ρ H T d} G h Q q => ?_⟩
  unfold mIsX at h
  split at h
  · rename_i c' e
    cases h
    obtain ⟨h1, h2⟩ := G.exc i c' e
    have h2 : c' = c := h2
    rw [h2] at q
    exact ⟨.ref a, h1, v, cv, f c, rfl, hv, k, q _ H (Same.refl H) G.dis (.bl _)⟩
  · cases h
end
/-! ### a suite as a row of statements -/
def noExc : En → Bool := fun ρ => ρ.all fun x => match x with
  | some (.exc _) => false
  | _ => true
def sTryG (i : Nat) (ok : Nat → Bool) (b : En → Option FlX) (h : En → Option Fl) : En → Option Fl := fun ρ => (b ρ).bind fun x => match x with
  | .fl f => some f
  | .ex c ρ' => if (ok c && decide (i < ρ'.length) && noExc ρ') = true then (h (ρ'.set i (some (.exc c)))).bind fun f => match f with
    | .rt d => some (.rt d)
    | _ => none
    else none
section
variable {K : PySem.W.Frag} {cl : Nat → Addr}
/-- what a suite does, whatever class of those came -/
structure SG (K : PySem.W.Frag) (cl : Nat → Addr) (C : Addr) (th : Addr → Value → Option Addr → TS) (ok : Nat → Bool) (mh : En → Option Fl) : Prop where
  cls : ∀ c, ok c = true → PySem.W.exmOne K (.ref (cl c)) (.ref C) = some true
  run : ∀ c, ok c = true → ∀ a : Addr, letI : ExQ := ⟨a, c⟩; TSm K (fun E σ H => th a (.ref (cl c)) none E σ H) mh
def tSome (cl : Nat → Addr) (ok : Nat → Bool) (t : Addr → Nat → TS) : Addr → Value → Option Addr → TS := fun a cls d E σ H => ∃ c, ok c = true ∧ (cls = .ref (cl c) ∧ d = none) ∧ t a c E σ H
theorem pss_some {X : Cx} {ok : Nat → Bool} {oe : Obj} {a : Addr} {cls : Value} {d : Option Addr} {b : List Stmt} {t : Addr → Nat → TS} (hz : Zc cls d oe) (h : ∀ c, ok c = true → Zc (.ref (cl c)) none oe → PSs X b (t a c)) : PSs X b (tSome cl ok t a cls d) :=
  ⟨fun pins s σ H D I q => by
    obtain ⟨c, hc, ⟨rfl, rfl⟩, q⟩ := q
    exact (h c hc hz).run pins s σ H D I q⟩
theorem sg_mk {C : Addr} {ok : Nat → Bool} {t : Addr → Nat → TS} {mh : En → Option Fl} (h1 : ∀ c, ok c = true → PySem.W.exmOne K (.ref (cl c)) (.ref C) = some true) (h2 : ∀ c, ok c = true → ∀ a : Addr, letI : ExQ := ⟨a, c⟩; TSm K (t a c) mh) : SG K cl C (tSome cl ok t) ok mh := by
  refine ⟨h1, fun c hc a => ?_⟩
  letI : ExQ := ⟨a, c⟩
  exact ⟨fun {H0 T0 σ ρ H T f} G h E q => ⟨c, hc, ⟨rfl, rfl⟩, (h2 c hc a).run G h E q⟩⟩
theorem noExc_at {ρ : En} (h : noExc ρ = true) {i c : Nat} (e : ρ[i]? = some (some (.exc c))) : False := by
  unfold noExc at h
  have := List.all_eq_true.mp h _ (List.mem_of_getElem? e)
  cases this
theorem good_exc [e0 : ExQ] {H0 : Hp} {T0 : Ov} {σ : L2.St} {ρ : En} {H : Hp} {T : Ov} (G : Good K H0 T0 σ ρ H T) (n : noExc ρ = true) {i c : Nat} {a : Addr} : @Good _ ⟨a, c⟩ K H0 T0 (σ.set i (some (.ref a))) (ρ.set i (some (.exc c))) H T := by
  obtain ⟨glen, gval, gown, ginj, gdis, gext, gex, _⟩ := G
  refine @Good.mk _ ⟨a, c⟩ K H0 T0 _ _ H T (by rw [List.length_set, List.length_set]; exact glen) (fun j x h => ?_) (fun j x h => ?_) (fun j k ds es p h1 h2 h3 h4 => ?_) gdis gext gex (fun j c' h => ?_)
  · rcases get_set h with ⟨_, q, _⟩ | ⟨e, q⟩
    · cases q
    · obtain ⟨w, a, b⟩ := gval j x q
      exact ⟨w, by rw [List.getElem?_set_ne (Ne.symm e)]; exact a, b⟩
  · rcases get_set h with ⟨_, q, _⟩ | ⟨e, q⟩
    · cases q
    · obtain ⟨p, xs, a, b⟩ := gown j x q
      exact ⟨p, xs, by rw [List.getElem?_set_ne (Ne.symm e)]; exact a, b⟩
  · rcases get_set h1 with ⟨_, q, _⟩ | ⟨e1, q1⟩
    · cases q
    · rcases get_set h2 with ⟨_, q, _⟩ | ⟨e2, q2⟩
      · cases q
      · rw [List.getElem?_set_ne (Ne.symm e1)] at h3
        rw [List.getElem?_set_ne (Ne.symm e2)] at h4
        exact ginj j k ds es p q1 q2 h3 h4
  · rcases get_set h with ⟨e, q, l⟩ | ⟨e, q⟩
    · cases q
      subst e
      exact ⟨set_self (by rw [← glen]; exact l), rfl⟩
    · exact (noExc_at n q).elim
theorem st_tryG [e0 : ExQ] {i : Nat} {C : Addr} {ok : Nat → Bool} {tb : WX → TS} {th : Addr → Value → Option Addr → TS} {mb : En → Option FlX} {mh : En → Option Fl} (hb : SX K cl tb mb) (hs : SG K cl C th ok mh) :
    TSm K (fun D σ H => tb (wAs K (.ref C) i th (fun _ _ _ _ => False) D) D σ H) (sTryG i ok mb mh) := by
  refine ⟨fun {H0 T0 σ ρ H T g} G h E q => ?_⟩
  obtain ⟨x, hx1, h⟩ := bind_some h
  refine hb.run G hx1 _ E ?_
  cases x with
  | fl f' => cases h; exact q
  | ex c ρ' =>
    have h : (if (ok c && decide (i < ρ'.length) && noExc ρ') = true then (mh (ρ'.set i (some (.exc c)))).bind fun f => match f with
      | .rt d => some (.rt d)
      | _ => none
      else none) = some g := h
    split at h
    · rename_i hi
      obtain ⟨hi, hn⟩ := Bool.and_eq_true_iff.mp hi
      obtain ⟨hc, hi⟩ := Bool.and_eq_true_iff.mp hi
      obtain ⟨f, hf, h⟩ := bind_some h
      cases f with
      | rt d =>
        cases h
        intro σ' H' T' G'
        refine ⟨true, hs.cls c hc, fun _ a na => ?_, fun z => (nomatch z)⟩
        exact @TSm.run _ ⟨a, c⟩ K _ _ (hs.run c hc a) _ _ _ _ _ _ _ (good_exc G' hn) hf _ fun v H2 T2 s2 d2 e2 p2 => q v H2 T2 s2 d2 e2 p2
      | nx ρ => cases h
      | bk ρ => cases h
      | ct ρ => cases h
    · cases h
end
end DD

set_option Elab.async false
set_option linter.all false
set_option maxRecDepth 100000
set_option maxHeartbeats 4000000
/-! a def called in a suite with the exception; a def that calls what it got, within a try -/
namespace DD
variable [TabQ]
open PySem PySem.Spec PyProof.Rows L2
theorem rmH_mark {k : Nat} {A : Around} {v : Option Value} (r : Room k A) : L2H.RoomH k (A.mark v) := ⟨r.dp, r.un⟩
theorem unH {k : Nat} {A : Around} (r : L2H.RoomH k A) : A.units + 64 < cLine := by have := r.un; omega
theorem huH {k : Nat} {A : Around} (r : L2H.RoomH k A) : A.units + 65 < cLine := by have := r.un; omega
theorem call_isP {X : Cx} {a D : Addr} {oe : Obj} (C : ExcC X.K D) (hz : Zc (.ref D) none oe) (hf : ∃ vs, oe.data = .fields vs) (hp : (a, oe) ∈ X.pn) : CallR X (.builtin "isinstance") (rIsE X.K D a) := by
  intro pins s σ H xs us Q I r h
  obtain ⟨c, cv, b, rfl, hcv, e, q⟩ := h
  cases r with
  | cons rx rr =>
    cases rr with
    | cons rt rr =>
      cases rr
      cases rx
      have ec := hcv _ rt
      subst ec
      have hget := (I.pin (a, oe) (List.mem_append_left _ hp)).1
      obtain ⟨vs, hv⟩ := hf
      have J : PySem.W.InstAt s.heap a oe D none := by
        obtain ⟨oc, od, oda, osl⟩ := oe
        obtain ⟨h1, h2⟩ := hz
        dsimp only at h1 h2 hv
        subst h1 h2 hv
        exact ⟨hget, rfl, rfl, trivial⟩
      exact PySem.W.kia_one (PySem.W.handS_kitx_exc C.hg C.hk C.hs C.hd C.ha C.hn C.ht C.hm) I.kIn J e (fun z => nomatch z) fun tk => ⟨.bl b, H, I.kept (t' := tk) fun _ _ z => z, rfl, q⟩
/-- what a def tells that got the exception -/
def excStart (N i c : Nat) : En := (List.replicate N none).set i (some (.exc c))
def mExc (N i : Nat) (md : En → Option Fl) (c : Nat) : Option D := (md (excStart N i c)).bind fun f => match f with
  | .rt d => some d
  | .nx _ => some .none
  | _ => none
def tExc (K : PySem.W.Frag) (i : Nat) (a : Addr) (m : Option D) : TE := fun σ H Q => σ[i]? = some (some (.ref a)) ∧ ∃ d H0 T, H = ov H0 T ∧ Dis H0 T ∧ m = some d ∧ ∀ v H', Same H0 H' → Dis H' T → Dp K H' v d → Q v (ov H' T)
def mExcV (i : Nat) (f : Nat → Option D) : En → Option D := fun ρ => match ρ[i]? with
  | some (some (.exc c)) => f c
  | _ => none
theorem ev_exc {K : PySem.W.Frag} {i c : Nat} {a : Addr} {f : Nat → Option D} : letI : ExQ := ⟨a, c⟩; ET K (tExc K i a (f c)) (mExcV i f) := by
  letI : ExQ := ⟨a, c⟩
  refine ⟨fun {H0 T0 σ ρ H T d} G h Q q => ?_⟩
  unfold mExcV at h
  split at h
  · rename_i c' e
    obtain ⟨h1, h2⟩ := G.exc i c' e
    have h2 : c' = c := h2
    rw [h2] at h
    exact ⟨h1, d, H, T, rfl, G.dis, h, q⟩
  · cases h
theorem good_none [ExQ] {K : PySem.W.Frag} {σ : L2.St} {H : Hp} {T : Ov} {n : Nat} (hl : n = σ.length) (d : Dis H T) : Good K H T σ (List.replicate n none) H T := by
  have no : ∀ (i : Nat) (s : Sl), (List.replicate n (none : Option Sl))[i]? = some (some s) → False := fun i s e => by
    rw [List.getElem?_replicate] at e
    split at e <;> cases e
  exact ⟨by rw [List.length_replicate]; exact hl, fun i d e => (no i _ e).elim, fun i ds e => (no i _ e).elim, fun i j ds es p e _ _ _ => (no i _ e).elim, d, fun a xs e => e, Same.refl H, fun i c e => (no i _ e).elim⟩
theorem noExc_none (n : Nat) : noExc (List.replicate n none) = true := by
  unfold noExc
  rw [List.all_eq_true]
  intro x hx
  rw [(List.mem_replicate.mp hx).2]
/-- f(e) in a suite, e the exception -/
theorem pe_exc [ExQ] {X : Cx} {x pa e : Str} {st : Stmt} {f : Addr} {fd : FuncData} {N : List Str} {k i c : Nat} {a : Addr} {oe : Obj} {md : En → Option Fl} {p1 q pos : Pos} (F : Fun X.K x x st f fd) (S : FnScope N [pa] (defScope st)) (hb : Binds X.K fd [pa] []) (hN : 0 < N.length)
    (hp : (a, oe) ∈ X.pn) (hr : L2H.RoomH (k + 1) X.A) (hg : Gl X x) (hm : X.mg x = some (.ref f)) (he : PE X (.Name e p1) (tVar i))
    (hbody : ∀ (cdv : Value) (A : Around) (outer : List Env) (s : Shared) (H : Hp), L2H.RoomH k (A.deeper (envOfC x (defScope st) s.heap.objs.size f cdv)) →
      ∃ t, PSs (L2H.cxH CX0 X.prog X.w X.K X.mg X.base N x (defScope st) f cdv A outer s H E0 (a, oe)) (defBody st) t ∧ @TSm _ ⟨a, c⟩ X.K t md)
    (hdb : (x == ("__debug__" : Str)) = false := by decide) (hse : starEach [.Name e p1] X.env = (false, eval (.Name e p1) X.env) :: starEach [] X.env := by rfl) (hpl : (backTo pos (starEach [] X.env)).any (·.1) = false := by rfl) :
    PE X (.Call (.Name x q) [.Name e p1] [] pos) (tExc X.K i a (mExc N.length 0 md c)) := by
  obtain ⟨oc, od, kV, doc, pm, an, cdv, ct, osl, rfl, lk, hcd⟩ := F.ex
  refine ⟨fun pins s σ H Q I h => ?_⟩
  obtain ⟨hs, d, H0, T, rfl, dis, hd, q⟩ := h
  refine wpAny_Call_Name_kw (ld_glob I hg hm ?_ hdb)
  have ha : PA X [.Name e p1] (tCons (tVar i) tNil) := pa_cons he pa_nil
  refine PySem.W.callWith_K (h₀ := X.base) I.ok.mod.kin F.kp (thn (ha.run pos pins s σ _ (fun vs H1 => vs = [V.ref a] ∧ ov H0 T = H1) I ⟨.ref a, hs, rfl, rfl⟩) fun us s1 hh => ?_) hse hpl
  obtain ⟨vs, H1, I1, r, ev, eH⟩ := hh
  subst ev
  rw [← eH] at I1
  refine ⟨I1.kIn, ?_⟩
  have P1 := I1.pin (a, oe) (List.mem_append_left _ hp)
  have hpin : L2H.PinOk X.stack (ov H0 T) s1 (a, oe) := ⟨P1.1, P1.2.1, fun hm => (List.mem_cons.mp (I1.stkSub a hm)).elim P1.2.2.1 P1.2.2.2.1, P1.2.2.2.2⟩
  have hlen : us.length = 1 := by rw [← r.length]; rfl
  have e0 := I1.env0
  have b := hb s1 us I1.kIn (by rw [List.append_nil]; exact hlen)
  rw [List.append_nil] at b
  have KX : X.K.In s1.heap := I1.kIn
  have hkind : ∀ y ∈ [pa].zip us, (defScope st).names.lookup y.1 = some .local ∨ ((defScope st).names.lookup y.1 = some .cell ∧ ((cellsFrom (s1.heap.objs.size + 1) (defScope st).names []).lookup y.1).isSome = true) := fun y hy => by
    obtain ⟨n, v⟩ := y
    rcases S.par n (List.of_mem_zip hy).1 with z | z
    · exact .inl z
    · exact .inr ⟨z, PySem.W.cellsFrom_some _ _ _ (.inl z)⟩
  have rc : codeAny (model X.prog X.w) X.A (.call (.ref f) ⟨us, []⟩) (CR CX0 X.stack X.prog X.w (ov H0 T) s1 Q E0) s1 := by
    refine codeAny_call_function hr.depth (KX _ _ lk) rfl S.co S.gen rfl (PySem.W.codeRec_of KX hcd) (b _ _ _ _ ?_)
    refine wpAny_newFunctionEnv_cells S.kind hkind fun env he s2 y => ?_
    subst he
    refine ⟨I1.nolimit.keeps y.toInCall.keep, codeAny_func ?_⟩
    obtain ⟨t, ht, tm⟩ := hbody cdv X.A X.stack s1 (ov H0 T) (hr.deeper _)
    have J : Inv (L2H.cxH CX0 X.prog X.w X.K X.mg X.base N x (defScope st) f cdv X.A X.stack s1 (ov H0 T) E0 (a, oe)) [] (L2.start N [V.ref a]) (ov H0 T) s2 := L2H.inv_startH S hpin e0 rfl r y
    have fin : ∀ {σ' : L2.St} {H' : Hp} {s' : Shared} {v : V} {u : Value}, Inv (L2H.cxH CX0 X.prog X.w X.K X.mg X.base N x (defScope st) f cdv X.A X.stack s1 (ov H0 T) E0 (a, oe)) [] σ' H' s' → RelV v u → Q v H' → CE X.stack X.prog X.w (ov H0 T) s1 Q u s' :=
      fun {σ' H' s' v u} J rv q => ⟨v, H', J.os, J.bare, J.base, J.hok, rv, q⟩
    have key : t { nx := fun _ H' => Q .non H', rt := Q } (L2.start N [V.ref a]) (ov H0 T) := by
      obtain ⟨fl, hf, hd⟩ := bind_some hd
      have st0 : (L2.start N [V.ref a]) = ((none :: List.replicate (N.length - 1) none : L2.St)).set 0 (some (.ref a)) := rfl
      have sz : N.length = (none :: List.replicate (N.length - 1) none : L2.St).length := by rw [List.length_cons, List.length_replicate]; omega
      have G := @good_exc _ X.K ⟨0, 0⟩ _ _ _ _ _ _ (@good_none _ ⟨0, 0⟩ X.K _ _ _ _ sz dis) (noExc_none _) 0 c a
      rw [← st0] at G
      refine @TSm.run _ ⟨a, c⟩ X.K _ _ tm _ _ _ _ _ _ _ G hf _ ?_
      cases fl with
      | rt d' =>
        cases hd
        intro v H' T' s1 d1 e1 p1
        obtain ⟨H2, e2, s2, d2, s3⟩ := back dis s1 d1 e1
        show Q v (ov H' T')
        rw [e2]
        exact q v H2 s2 d2 (dp_mono s3 p1)
      | nx ρ =>
        cases hd
        intro σ' H' T' G'
        obtain ⟨H2, e2, s2, d2, s3⟩ := back dis (@Good.ex _ ⟨a, c⟩ _ _ _ _ _ _ _ G') (@Good.dis _ ⟨a, c⟩ _ _ _ _ _ _ _ G') (@Good.ext _ ⟨a, c⟩ _ _ _ _ _ _ _ G')
        show Q .non (ov H' T')
        rw [e2]
        exact q _ H2 s2 d2 .non
      | bk ρ => cases hd
      | ct ρ => cases hd
    refine wpAny_mono (ht.run [] s2 _ _ _ J key) (fun fl s' hs => ?_) fun e s' hs => hs
    cases fl with
    | ret u =>
      obtain ⟨v, σ', H', J, rv, q⟩ := hs
      exact fin J rv q
    | next =>
      obtain ⟨σ', H', J, q⟩ := hs
      exact fin (v := V.non) (u := Value.none) J rfl q
    | brk =>
      obtain ⟨_, _, _, q⟩ := hs
      exact False.elim q
    | cont =>
      obtain ⟨_, _, _, q⟩ := hs
      exact False.elim q
  refine wpAny_call (codeAny_mono rc fun r s2 hq => ?_)
  cases r with
  | error e => exact (show False from hq).elim
  | ok fl =>
    cases fl with
    | ret u => exact I1.after hq
    | next => exact False.elim hq
    | brk => exact False.elim hq
    | cont => exact False.elim hq
end DD

set_option Elab.async false
set_option linter.all false
set_option maxRecDepth 100000
set_option maxHeartbeats 4000000
/-! f(lambda: ..), f a def that calls what it got within a try; a def that makes lambdas -/
namespace DD
variable [TabQ]
open PySem PySem.Spec PyProof.Rows L2
theorem takes_len {X : Cx} {W : WX} (tk : Takes X W) : Takes X (fun cls d σ H => σ.length = X.N.length → W cls d σ H) := fun u s' z => by
  obtain ⟨a, B, sI, pins, σ, H, cls, d, e, I, nb, up, sky, na, os, ag, w⟩ := z
  exact tk u s' ⟨a, B, sI, pins, σ, H, cls, d, e, I, nb, up, sky, na, os, ag, w I.len⟩
/-- what the catching def makes of the lambda's reading; res: what its suite tells, by the number of the class -/
def TTold (K : PySem.W.Frag) (cl : Nat → Addr) (ok : Nat → Bool) (res : Nat → Option D) : (XK → Hp → VK → Prop) → Hp → VK → Prop := fun tl H Q =>
  tl (fun cls d H' => ∃ c, cls = .ref (cl c) ∧ d = none ∧ ok c = true ∧ ∃ H0 T d0, H' = ov H0 T ∧ Dis H0 T ∧ res c = some d0 ∧ ∀ v H2, Same H0 H2 → Dis H2 T → Dp K H2 v d0 → Q v (ov H2 T)) H Q
def okA : Nat → Bool := fun _ => true
def rSuite (n i : Nat) (mh : En → Option Fl) (c : Nat) : Option D := (mh (excStart n i c)).bind fun f => match f with
  | .rt d => some d
  | _ => none
def mTold (ok : Nat → Bool) (res : Nat → Option D) (me : En → Option Rs) : En → Option D := fun ρ => (me ρ).bind fun r => match r with
  | .ok d => some d
  | .ex c => if ok c = true then res c else none
section
variable [ExQ] {K : PySem.W.Frag} {cl : Nat → Addr}
theorem ev_lam {ok : Nat → Bool} {res : Nat → Option D} {te : WX → TE} {me : En → Option Rs} (h : EX K cl te me) : ET K (LamX.tLam TabQ.tabs (TTold K cl ok res) (fun E => te (fun cls d _ H => E cls d H))) (mTold ok res me) := by
  refine ⟨fun {H0 T0 σ ρ H T d} G hm Q q => ⟨G.dis.tab.ext (raw_ov G.dis), fun H1 eN t1 => ?_⟩⟩
  obtain ⟨r, hr, hm⟩ := bind_some hm
  obtain ⟨H', e1, d1, k⟩ := under (T0 := T) (X := H1) t1 fun a xs h => eN a _ (ov_own h) fun _ => HO.noConfusion
  have s1 : Same H H' := fun a o h n => k a o (eN a o (raw_ov G.dis a o h) n) (by
    cases z : T a with
    | none => rfl
    | some xs => rw [G.dis a xs z] at h; cases h)
  subst e1
  refine h.run (G.mono s1 d1) hr _ Q ?_
  cases r with
  | ok d' =>
    cases hm
    exact fun v H2 s2 d2 p2 => q v H2 (s1.trans s2) d2 p2
  | ex c =>
    have hm : (if ok c = true then res c else none) = some d := hm
    split at hm
    · rename_i hc
      exact fun H2 s2 d2 => ⟨c, rfl, rfl, hc, H2, T, d, rfl, d2, hm, fun v H3 s3 d3 p3 => q v H3 ((s1.trans s2).trans s3) d3 p3⟩
    · cases hm
/-- the catching def -/
theorem gives_told {X : Cx} {Ng : List Str} {x a e ne q : Str} {sg : Scope} {g CS : Addr} {cdg : Value} {ok : Nat → Bool} {th : Addr → Value → Option Addr → TS} {mh : En → Option Fl} {i k : Nat} {b₀ : Stmt} {suite bg : List Stmt} {p1 p2 p3 p4 p5 p6 : Pos}
    (hbg : bg = [.Try [.Return (some (.Call (.Name a p1) [] [] p2)) p3] [.ExceptHandler (some (.Name e p4)) (some ne) (b₀ :: suite) p5] [] [] p6])
    (hge : sg.names.lookup e = some .globalImplicit) (hme : X.mg e = some (.ref CS)) (hde : (e == ("__debug__" : Str)) = false) (hN : Ng.Nodup) (hi : Ng[i]? = some ne) (hl : sg.names.lookup ne = some .local) (hrX : Room (k + 1) X.A)
    (h0 : ∀ f : Addr, (L2.start Ng [V.ref f])[0]? = some (some (V.ref f)))
    (hsu : ∀ (s : Shared) (H : Hp) (o : Addr) (oe : Obj) (cls : Value) (d : Option Addr) (pn : List (Addr × Obj)), Room k (X.A.deeper (envOfC x sg s.heap.objs.size g cdg)) → Zc cls d oe → (∃ vs, oe.data = .fields vs) →
      PSs ((cxOf C8.CX0 X.prog X.w X.K X.mg X.base Ng x sg g cdg X.A X.stack s H C8.E0).nox.suite o ((o, oe) :: pn)) (b₀ :: suite) (th o cls d))
    (hs : SG X.K cl CS th ok mh) : LamX.GivesTo X Ng x sg g cdg bg a q (TTold X.K cl ok (rSuite Ng.length i mh)) := by
  intro f c' s H Q tl act hc h
  subst hbg
  have hgl : Gl (cxOf C8.CX0 X.prog X.w X.K X.mg X.base Ng x sg g cdg X.A X.stack s H C8.E0).nox e := hge
  refine ⟨_, pss_one (ps_try_as (X := (cxOf C8.CX0 X.prog X.w X.K X.mg X.base Ng x sg g cdg X.A X.stack s H C8.E0).nox) (c := .ref CS) (i := i) (Wout := fun _ _ _ _ => False) (ts := th)
      (tb := fun W D σ H => ∃ Ech : XK, (∀ cls d σ' H', σ'.length = Ng.length → Ech cls d H' → W cls d σ' H') ∧ σ[0]? = some (some (.ref f)) ∧ H c' = some (LamX.CodeO c' q) ∧ tl Ech H D.rt)
      rfl rfl hN hi hl ⟨hgl, hde, .inl hme⟩ takes0 (fun W pn xe tk _ => ?_) (fun o oe cls d pn hz hf => hsu s H o oe cls d pn (hrX.deeper _) hz hf)), ?_⟩
  · refine ⟨fun pins s' σ H' D I h' => ?_⟩
    obtain ⟨Ech, hW, h1, h2, h3⟩ := h'
    have hp := act (fun cls d σ H => σ.length = Ng.length → W cls d σ H) pn xe Ech p1 p2 (takes_len tk) fun cls d σ' H' e hl => hW cls d σ' H' hl e
    exact (pss_one (ps_ret (pos := p3) hp)).run pins s' σ H' D I ⟨h1, h2, h3⟩
  · refine ⟨_, fun cls d σ' H' hl' z => ?_, h0 f, hc, h⟩
    obtain ⟨c, rfl, rfl, hok, H0, T, d0, rfl, dis, hres, q⟩ := z
    refine ⟨true, hs.cls c hok, fun _ o na => ?_, fun z => (nomatch z)⟩
    obtain ⟨fl, hf, hd⟩ := bind_some hres
    cases fl with
    | rt d' =>
      cases hd
      have G := good_exc (good_none (K := X.K) (σ := σ') hl'.symm dis) (noExc_none _) (i := i) (c := c) (a := o)
      refine @TSm.run _ ⟨o, c⟩ X.K _ _ (hs.run c hok o) _ _ _ _ _ _ _ G hf _ ?_
      intro v H2 T2 s1 d1 e1 p1
      obtain ⟨H3, e2, s2, d2, s3⟩ := back dis s1 d1 e1
      show Q v (ov H2 T2)
      rw [e2]
      exact q v H3 s2 d2 (dp_mono s3 p1)
    | nx ρ => cases hd
    | bk ρ => cases hd
    | ct ρ => cases hd
/-- x(lambda: body) -/
theorem pe_lam {X : Cx} {x a : Str} {g c P : Addr} {k : Nat} {st : Stmt} {fd : FuncData} {Ng : List Str} {params : Arguments} {body : Expr} {scope : Scope} {t : XK → TE} {TT : (XK → Hp → VK → Prop) → Hp → VK → Prop} {p lpos pos : Pos}
    (F : Fun X.K x x st g fd) (hg : Gl X x) (hm : X.mg x = some (.ref g)) (hb : Binds X.K fd [a] []) (Sg : FnScope Ng [a] (defScope st)) (hNg : Ng[0]? = some a) (hva : Vis (defScope st) a)
    (hG : ∀ cdv, LamX.GivesTo X Ng x (defScope st) g cdv (defBody st) a (X.env.qual ++ "<lambda>") TT) (TB : LamX.TabB X.base X.mg c P) (hcode : X.env.code = .ref c) (hmT : (P, X.env.qual ++ "<lambda>") ∈ TabQ.tabs)
    (hu : ∀ p ∈ TabQ.tabs, p.1 = P → p.2 = X.env.qual ++ "<lambda>") (hr : Room (k + 2) X.A) (L : LamX.LamS X.env.scope scope) (hdef : defaultsOf params X.env = ([], []))
    (hbind : ∀ (q : Str) (cl : List (Str × Addr)) (pm cv ctv : Value), bindArgs (PySem.W.kla_fn "<lambda>" q params body scope cl pm cv ctv) ⟨[], []⟩ = pure [])
    (hbody : ∀ (A : Around) (outer : List Env) (s : Shared) (H : Hp) (E : XK) (f c' : Addr), Room k (A.deeper (LamX.lamEnv X scope s.heap.objs.size f c')) → PE (LamX.lamCx X A outer s H E scope f c') body (t E))
    (hdb : (x == ("__debug__" : Str)) = false := by decide) (hd : (a == ("__debug__" : Str)) = false := by decide) (hcd : (a == ("__classdict__" : Str)) = false := by decide) :
    PE X (.Call (.Name x p) [.Lambda params body scope lpos] [] pos) (LamX.tLam TabQ.tabs TT t) := by
  obtain ⟨oc, od, kV, doc, pm, an, cdv, ct, osl, rfl, lk, hcg⟩ := F.ex
  exact LamX.pe_lamcall hg hm F.kp lk hcg hb Sg hNg hva (hG cdv) TB hcode hmT hu hr L hdef hbind hbody hdb hd hcd
/-- a def whose code object is known -/
theorem def_okT {P : Program} {w : World} {mg : Str → Option Value} {base : Heap} {x qual : Str} {st : Stmt} {f co : Addr} {fd : FuncData} {N ps : List Str} {k : Nat} {mb : En → Option Fl} (F : Fun K x qual st f fd) (hco : fd.code = .ref co) (S : FnScope N ps (defScope st))
    (hbody : ∀ (A : Around) (outer : List Env) (s : Shared) (H : Hp) (E : XK), Room k (A.deeper (envOfC qual (defScope st) s.heap.objs.size f (.ref co))) →
      ∃ t, PSs (cxOf CX0 P w K mg base N qual (defScope st) f (.ref co) A outer s H E).nox (defBody st) t ∧ TSm K t mb) : FnOk P w K mg base CX0 (k + 1) f fd ps (spM K ps.length (mDef N.length mb)) := by
  obtain ⟨oc, od, kV, doc, pm, an, cdv, ct, osl, rfl, lk, hcd⟩ := F.ex
  have ec : cdv = .ref co := hco
  subst ec
  refine fn_of lk hcd S (fun vs H Q E h => ?_) (fun A outer s Hx vs Q E hr h => ?_)
  · obtain ⟨ds, d, H, T, g, hn, _⟩ := h
    rw [dpa_len g, hn]
  · obtain ⟨ds, d, H, T, g, hn, hm, rfl, dis, q⟩ := h
    obtain ⟨t, p, m⟩ := hbody A outer s (ov H T) E hr
    refine ⟨t, p.nox, ?_⟩
    obtain ⟨fl, hf, hm⟩ := bind_some hm
    refine m.run (good_start g dis) hf _ ?_
    cases fl with
    | rt d' =>
      cases hm
      intro v H' T' s1 d1 e1 p1
      obtain ⟨H2, e2, s2, d2, s3⟩ := back dis s1 d1 e1
      show Q v (ov H' T')
      rw [e2]
      exact q v H2 s2 d2 (dp_mono s3 p1)
    | nx ρ =>
      cases hm
      intro σ' H' T' G'
      obtain ⟨H2, e2, s2, d2, s3⟩ := back dis G'.ex G'.dis G'.ext
      show Q .non (ov H' T')
      rw [e2]
      exact q _ H2 s2 d2 .non
    | bk ρ => cases hm
    | ct ρ => cases hm
end
theorem kit_ty {K : PySem.W.Frag} {D : Addr} {T : String} (hm : PySem.W.kitMeta T = true) (h : PySem.W.subIn K (.ref D) (.type T) = some true) : PySem.W.kitOne K (.ref D) (.type T) = some true := by
  unfold PySem.W.kitOne
  split
  · rfl
  · show (if PySem.W.kitMeta T = true then PySem.W.subIn K (.ref D) (.type T) else none) = some true
    rw [if_pos hm]
    exact h
end DD
namespace DD
open PySem PySem.Spec PyProof.Rows L2
theorem head_mk {K : PySem.W.Frag} {co P : Addr} {dd : Option Addr} {vs : Array Value} {sl : Array (Option Value)} (kl : K.lookup co = some ⟨.type "code", dd, .fields vs, sl⟩) (k11 : vs[11]? = some (.ref P)) (h18 : ∃ x t, vs.getD 18 .none = .str x t) (h7 : ∃ i t, vs.getD 7 .none = .int i t)
    (h9 : ∃ b, vs.getD 9 .none = .bool b) (h10 : ∃ i t, vs.getD 10 .none = .int i t) (hne : co ≠ P) : PySem.W.codeHdIn K co P = true := by
  obtain ⟨x, t, e18⟩ := h18
  obtain ⟨i, u, e7⟩ := h7
  obtain ⟨b, e9⟩ := h9
  obtain ⟨j, v, e10⟩ := h10
  unfold PySem.W.codeHdIn
  rw [kl]
  simp only [k11, e18, e7, e9, e10]
  simpa using hne
/-- the end of a law that makes lambdas in its own def -/
theorem law_at {l : PySem.W.OpenLaw} {w : World} {K : PySem.W.Frag} {k : Nat} {x q : Str} {mg : Str → Option Value} {fa co P : Addr} {h : Heap} {o : Obj} {fd : FuncData} {e : Value} {dd : Option Addr} {vs : Array Value} {sl : Array (Option Value)} {m : List D → Option D}
    (X : K.In h) (own : LamX.OwnTab K fa h) (lo : K.lookup fa = some o) (ho : o.data = .func fd) (hc : fd.code = .ref co) (kl : K.lookup co = some ⟨e, dd, .fields vs, sl⟩) (k11 : vs[11]? = some (.ref P)) (khd : PySem.W.codeHdIn K co P = true) (kn : K.lookup P = none)
    (hb : ∀ (s : Shared) (u : Value), BindsTo s fd ⟨[u], []⟩ [(x, u)]) (ht : ∀ ns : List Int, ns.length ≤ 63 → m [.list (ns.map .int)] = some (.bool true))
    (F : ∀ base : Heap, K.In base → base.Ns mainGlobals mg → LamX.TabB base mg co P → FnOk l.prog w K mg base CX0 k fa fd [x] (@spM ⟨[(P, q)]⟩ K 1 m)) : LamX.LawAtS l w K CX0 k 63 x mg fa h := by
  have one : ∀ {p : Addr × Addr}, p ∈ [(co, P)] → p = (co, P) := fun hp => by simpa using hp
  refine ⟨fd, [(co, P)], @spM ⟨[(P, q)]⟩ K 1 m, fun p hp => ?_, fun p hp => ?_, fun p hp => ?_, hb, fun H a ns hl _ hT hS => ?_, fun base h1 h2 h3 => F base h1 h2 (h3 (co, P) List.mem_cons_self)⟩
  · rw [one hp]
    exact own co P o fd e dd vs sl lo ho hc kl k11
  · rw [one hp]
    exact kn
  · rw [one hp]
    exact PySem.W.codeHd_of_K X khd
  · letI : TabQ := ⟨[(P, q)]⟩
    letI : ExQ := ⟨0, 0⟩
    have eH : H = ov H (fun _ => none) := by
      funext b
      rfl
    refine ⟨[.list (ns.map .int)], .bool true, H, fun _ => none, .cons (.lst hS (dpa_ints ns)) .nil, rfl, ht ns hl, eH, ⟨fun _ _ z => (nomatch z), fun p hp => ?_⟩, fun v H' _ _ g => dp_bool g⟩
    have ep : p = (P, q) := by simpa using (show p ∈ [(P, q)] from hp)
    rw [ep]
    exact .nil (hT (co, P) List.mem_cons_self)
end DD

set_option Elab.async false
set_option linter.all false
set_option maxRecDepth 100000
set_option maxHeartbeats 4000000
/-! defs with defaults; a dict of defs, and the def that was picked out of it; a tuple whose first part may raise -/
namespace DD
variable [TabQ] [ExQ]
open PySem PySem.Spec PyProof.Rows L2
section
variable {K : PySem.W.Frag} {cl : Nat → Addr}
/-! ### defaults -/
theorem def_okXD {P : Program} {w : World} {mg : Str → Option Value} {base : Heap} {x qual : Str} {st : Stmt} {dvs : List V} {kws : List (Str × V)} {f : Addr} {fd : FuncData} {N ps : List Str} {k : Nat} {mb : En → Option FlX} (F : FunD K x qual (defArgs st) (defBody st) (defScope st) dvs kws f fd) (S : FnScope N ps (defScope st))
    (hbody : ∀ (cdv : Value) (A : Around) (outer : List Env) (s : Shared) (H : Hp) (E : XK), Room k (A.deeper (envOfC qual (defScope st) s.heap.objs.size f cdv)) →
      ∃ t : WX → TS, PSs (cxOf (L2.CX P w) P w K mg base N qual (defScope st) f cdv A outer s H E) (defBody st) (t fun c d _ h => E c d h) ∧ SX K cl t mb) : FnOk P w K mg base (L2.CX P w) (k + 1) f fd ps (spX K cl ps.length (xDef N.length mb)) := by
  refine F.ok S (fun vs H Q E h => ?_) (fun cdv A outer s Hx vs Q E hr h => ?_)
  · obtain ⟨ds, r, H, T, g, hn, _⟩ := h
    rw [dpa_len g, hn]
  · obtain ⟨ds, r, H, T, g, hn, hm, rfl, dis, q⟩ := h
    obtain ⟨t, p, m⟩ := hbody cdv A outer s (ov H T) E hr
    refine ⟨_, p, ?_⟩
    obtain ⟨y, hy, hm⟩ := bind_some hm
    refine m.run (good_start g dis) hy _ _ ?_
    cases y with
    | fl fl =>
      cases fl with
      | rt d' =>
        cases hm
        intro v H' T' s1 d1 e1 p1
        obtain ⟨H2, e2, s2, d2, s3⟩ := back dis s1 d1 e1
        show Q v (ov H' T')
        rw [e2]
        exact q v H2 s2 d2 (dp_mono s3 p1)
      | nx ρ =>
        cases hm
        intro σ' H' T' G'
        obtain ⟨H2, e2, s2, d2, s3⟩ := back dis G'.ex G'.dis G'.ext
        show Q .non (ov H' T')
        rw [e2]
        exact q _ H2 s2 d2 .non
      | bk ρ => cases hm
      | ct ρ => cases hm
    | ex c ρ =>
      cases hm
      intro σ' H' T' G'
      obtain ⟨H2, e2, s2, d2, s3⟩ := back dis G'.ex G'.dis G'.ext
      show E (.ref (cl c)) none (ov H' T')
      rw [e2]
      exact q H2 s2 d2
def xCallD (n : Nat) (dd : List D) (mf : List D → Option Rs) (m : En → Option (List D)) : En → Option Rs := fun ρ => (m ρ).bind fun ds => if (ds ++ dd).length = n then mf (ds ++ dd) else none
def limD (n : Nat) (dd : List D) (m : List D → Option Rs) : List D → Option D := fun ds => if (ds ++ dd).length = n then (m (ds ++ dd)).bind okR else none
theorem ex_callD {n : Nat} {dvs : List V} {dd : List D} {mf : List D → Option Rs} {t : TA} {m : En → Option (List D)} (hdd : ∀ H, DpAll K H dvs dd) (ha : TAm K t m) : EX K cl (fun W => tCallSD (spX K cl n mf) dvs (WE W) t) (xCallD n dd mf m) := by
  refine ⟨fun {H0 T0 σ ρ H T r} G h W Q q => ?_⟩
  obtain ⟨x, hx, h⟩ := bind_some h
  refine ha.run G hx _ fun vs H1 s1 d1 p1 => ?_
  split at h
  · rename_i hn
    refine ⟨x ++ dd, r, H1, T, dpa_append p1 (hdd H1), hn, h, rfl, d1, ?_⟩
    cases r with
    | ok d => exact fun v H' s2 d2 p2 => q v H' (s1.trans s2) d2 p2
    | ex c => exact fun H' s2 d2 => q H' (s1.trans s2) d2
  · cases h
theorem ev_callXD {n : Nat} {dvs : List V} {dd : List D} {mf : List D → Option Rs} {t : TA} {m : En → Option (List D)} {E : L2.St → XK} (hdd : ∀ H, DpAll K H dvs dd) (ha : TAm K t m) : ET K (tCallSD (spX K cl n mf) dvs E t) (mCall (limD n dd mf) m) := by
  refine ⟨fun {H0 T0 σ ρ H T d} G h Q q => ?_⟩
  obtain ⟨x, hx, h⟩ := bind_some h
  refine ha.run G hx _ fun vs H1 s1 d1 p1 => ?_
  unfold limD at h
  split at h
  · rename_i hn
    obtain ⟨r, hr, h⟩ := bind_some h
    cases r with
    | ok d' =>
      cases h
      exact ⟨x ++ dd, .ok d, H1, T, dpa_append p1 (hdd H1), hn, hr, rfl, d1, fun v H' s2 d2 p2 => q v H' (s1.trans s2) d2 p2⟩
    | ex c => cases h
  · cases h
/-! ### (f(..), ..), f raising -/
def xTupC (m : En → Option Rs) (mr : En → Option (List D)) : En → Option Rs := fun ρ => (m ρ).bind fun r => match r with
  | .ok d => (mr ρ).bind fun ds => (sized (d :: ds)).map fun x => .ok (.tuple x)
  | .ex c => some (.ex c)
theorem ex_tupC {te : WX → TE} {tr : TA} {m : En → Option Rs} {mr : En → Option (List D)} (h1 : EX K cl te m) (h2 : TAm K tr mr) : EX K cl (fun W => tTup (tCons (te W) tr)) (xTupC m mr) := by
  refine ⟨fun {H0 T0 σ ρ H T r} G hm W Q q => ?_⟩
  obtain ⟨r1, hr1, hm⟩ := bind_some hm
  cases r1 with
  | ok d =>
    obtain ⟨ds, hds, hm⟩ := bind_some hm
    obtain ⟨x, hx, e⟩ := map_some hm
    subst e
    obtain ⟨rfl, hz⟩ := sized_some hx
    refine h1.run G hr1 W _ fun v H1 s1 d1 p1 => ?_
    refine h2.run (G.mono s1 d1) hds _ fun vs H2 s2 d2 p2 => ?_
    have pa : DpAll K H2 (v :: vs) (d :: ds) := .cons (dp_mono s2 p1) p2
    refine ⟨cap_line (by rw [dpa_len pa]; exact hz), fun p np => ?_⟩
    obtain ⟨nT, nH⟩ := ov_free np
    rw [upd_ov nT]
    exact q _ _ ((s1.trans s2).trans (same_new nH)) (dis_upd d2 nT nH) (.tup (SqT.of upd_same) (dpa_mono (same_new nH) pa))
  | ex c =>
    cases hm
    exact h1.run G hr1 W _ q
/-! ### a dict of defs -/
structure DictF (K : PySem.W.Frag) (w : World) (d : Addr) (fs : List (Str × Addr)) : Prop where
  kd : ∃ es n, KDict K w d es n
  any : ∀ z, PySem.W.nsIn K d z = some ((fs.find? fun kv => kv.1 == z).map fun kv => Value.ref kv.2)
theorem op_inF {X : Cx} {d : Addr} {fs : List (Str × Addr)} (C : DictF X.K X.w d fs) : OpR X (compareOp .In) (rInK X.K d) := let ⟨_, _, k⟩ := C.kd; op_in_kd k
theorem ix_getF {X : Cx} {d : Addr} {fs : List (Str × Addr)} (C : DictF X.K X.w d fs) : IxR X (rGetK X.K d) := by
  obtain ⟨es, n, k⟩ := C.kd
  intro value slice pins s σ H x y v u Q I rx ry h hs
  obtain ⟨z, u0, v0, rfl, rfl, e, r, q⟩ := h
  exact ix_kdict value slice pins s σ H _ _ v u Q I rx ry ⟨d, z, v0, rfl, rfl, ⟨es, n, u0, k.at_, k.lit, e, r⟩, q⟩ hs
def dInF (ks : List Str) : D → Option D
  | .str z => some (.bool (ks.any (· == z)))
  | _ => none
theorem find_any {α : Type} (z : Str) : ∀ l : List (Str × α), (l.find? fun kv => kv.1 == z).isSome = (l.map (·.1)).any (· == z)
  | [] => rfl
  | e :: l => by
    rw [List.find?_cons, List.map_cons, List.any_cons]
    cases h : (e.1 == z) with
    | true => rfl
    | false =>
      show (l.find? fun kv => kv.1 == z).isSome = (false || (l.map (·.1)).any (· == z))
      rw [Bool.false_or]
      exact find_any z l
theorem ev_inF {w : World} {d : Addr} {fs : List (Str × Addr)} {ta : TE} {ma : En → Option D} (C : DictF K w d fs) (ha : ET K ta ma) : ET K (tOp (rInK K d) ta (tC (.ref d))) (mUn (dInF (fs.map (·.1))) ma) := by
  refine ⟨fun {H0 T0 σ ρ H T y} G h Q q => ?_⟩
  obtain ⟨x, hx, h⟩ := bind_some h
  refine ha.run G hx _ fun v H1 s1 d1 p1 => ?_
  unfold dInF at h
  split at h
  · rename_i z
    cases h
    refine ⟨z, _, dp_str p1, rfl, C.any z, ?_⟩
    rw [Option.isSome_map, find_any z fs]
    exact q _ H1 s1 d1 (.bl _)
  · cases h
def tCallM (i : Nat) (l : List (Addr × Sp)) (t : TA) : TE := fun σ H Q => ∃ p ∈ l, σ[i]? = some (some (.ref p.1)) ∧ t σ H fun vs H1 => p.2 vs H1 Q fun _ _ _ => False
theorem pe_callM {X : Cx} {k i : Nat} {x : Str} {l : List (Addr × Sp)} {t : TA} {e : Expr} {es : List Expr} {p pos : Pos} (A : ∀ p ∈ l, Held X.prog X.w X.K X.mg X.base k p.1 p.2) (hr : Room k X.A) (hN : X.N[i]? = some x) (hv : Vis X.env.scope x) (ha : PA X (e :: es) t)
    (hdb : (x == ("__debug__" : Str)) = false := by decide) (hcd : (x == ("__classdict__" : Str)) = false := by decide) (he : starEach (e :: es) X.env = (false, eval e X.env) :: starEach es X.env := by rfl) (hpl : (backTo pos (starEach es X.env)).any (·.1) = false := by rfl) :
    PE X (.Call (.Name x p) (e :: es) [] pos) (tCallM i l t) := by
  refine ⟨fun pins s σ H Q I h => ?_⟩
  obtain ⟨c, hc, hs, ht⟩ := h
  obtain ⟨fd, ps, F, hk, hb⟩ := (A c hc).ex
  have key : PE X (.Call (.Name x p) (e :: es) [] pos) (tCallL i c.1 c.2 [] (fun _ _ _ => False) t) := pe_callL F hr hN hv hk hb .nil (fun _ _ _ _ _ _ _ z => z.elim) ha hdb hcd he hpl
  refine key.run pins s σ H Q I ⟨hs, ?_⟩
  have e0 : (fun (vs : List V) (H1 : Hp) => c.2 (vs ++ []) H1 Q (fun _ _ _ => False)) = fun vs H1 => c.2 vs H1 Q (fun _ _ _ => False) := by
    funext vs H1
    rw [List.append_nil]
  rw [e0]
  exact ht
theorem Good.undef {H0 H : Hp} {T0 T : Ov} {σ : L2.St} {ρ : En} (i : Nat) (x : Option V) (G : Good K H0 T0 σ ρ H T) : Good K H0 T0 (σ.set i x) (ρ.set i none) H T := by
  refine ⟨by rw [List.length_set, List.length_set]; exact G.len, fun j x h => ?_, fun j x h => ?_, fun j k ds es p h1 h2 h3 h4 => ?_, G.dis, G.ext, G.ex, exc_set G.exc (fun _ z => by cases z)⟩
  · rcases get_set h with ⟨_, z, _⟩ | ⟨e, z⟩
    · cases z
    · obtain ⟨w, a, b⟩ := G.val j x z
      exact ⟨w, by rw [List.getElem?_set_ne (Ne.symm e)]; exact a, b⟩
  · rcases get_set h with ⟨_, z, _⟩ | ⟨e, z⟩
    · cases z
    · obtain ⟨p, xs, a, b⟩ := G.own j x z
      exact ⟨p, xs, by rw [List.getElem?_set_ne (Ne.symm e)]; exact a, b⟩
  · rcases get_set h1 with ⟨_, z, _⟩ | ⟨e1, z1⟩
    · cases z
    · rcases get_set h2 with ⟨_, z, _⟩ | ⟨e2, z2⟩
      · cases z
      · rw [List.getElem?_set_ne (Ne.symm e1)] at h3
        rw [List.getElem?_set_ne (Ne.symm e2)] at h4
        exact G.inj j k ds es p z1 z2 h3 h4
/-- f = dict[key]; return f(..) -/
def sDisp (i n : Nat) (ft : List (Str × (List D → Option D))) (mk : En → Option D) (ma : En → Option (List D)) : En → Option Fl := fun ρ => (mk ρ).bind fun k => match k with
  | .str z => match ft.find? fun e => e.1 == z with
    | some e => if i < ρ.length then (ma (ρ.set i none)).bind fun ds => if ds.length = n then (e.2 ds).map .rt else none else none
    | none => none
  | _ => none
theorem find_tab {z : Str} : ∀ (l : List (Str × Addr × (List D → Option D))) {e : Str × (List D → Option D)}, (l.map fun e => (e.1, e.2.2)).find? (fun e => e.1 == z) = some e → ∃ c ∈ l, (l.map fun e => (e.1, e.2.1)).find? (fun e => e.1 == z) = some (c.1, c.2.1) ∧ e = (c.1, c.2.2)
  | [], e, h => by cases h
  | c :: l, e, h => by
    rw [List.map_cons, List.find?_cons] at h ⊢
    cases hz : (c.1 == z) with
    | true =>
      rw [show (((c.1, c.2.2) : Str × (List D → Option D)).1 == z) = true from hz] at h
      refine ⟨c, List.mem_cons_self, ?_, (Option.some.inj h).symm⟩
      rfl
    | false =>
      rw [show (((c.1, c.2.2) : Str × (List D → Option D)).1 == z) = false from hz] at h
      obtain ⟨c', m, a, b⟩ := find_tab l h
      exact ⟨c', List.mem_cons_of_mem _ m, a, b⟩
theorem st_disp {w : World} {d : Addr} {i n : Nat} {l : List (Str × Addr × (List D → Option D))} {tk : TE} {ta : TA} {mk : En → Option D} {ma : En → Option (List D)} (C : DictF K w d (l.map fun e => (e.1, e.2.1))) (hk : ET K tk mk) (ha : TAm K ta ma) :
    TSm K (tSeq (tAsg (tOp (rGetK K d) (tC (.ref d)) tk) (gName i)) (tRet (tCallM i (l.map fun e => (e.2.1, spM K n e.2.2)) ta))) (sDisp i n (l.map fun e => (e.1, e.2.2)) mk ma) := by
  refine ⟨fun {H0 T0 σ ρ H T f} G h E q => ?_⟩
  obtain ⟨x, hx, h⟩ := bind_some h
  split at h
  · rename_i z
    split at h
    · rename_i e hf
      have hil : i < ρ.length := by
        by_cases z : i < ρ.length
        · exact z
        · rw [if_neg z] at h
          cases h
      rw [if_pos hil] at h
      rw [G.len] at hil
      obtain ⟨ds, hds, h⟩ := bind_some h
      split at h
      · rename_i hn
        obtain ⟨y, hy, h⟩ := map_some h
        subst h
        obtain ⟨c, cm, c1, c2⟩ := find_tab l hf
        refine hk.run G hx _ fun v H1 s1 d1 p1 => ?_
        have en : PySem.W.nsIn K d z = some (some (.ref c.2.1)) := by rw [C.any z, c1]; rfl
        refine ⟨z, .ref c.2.1, .ref c.2.1, rfl, dp_str p1, en, rfl, ?_⟩
        have G1 := (G.mono s1 d1).undef i (some (.ref c.2.1))
        refine ⟨(c.2.1, spM K n c.2.2), List.mem_map.mpr ⟨c, cm, rfl⟩, set_self hil, ?_⟩
        refine ha.run G1 hds _ fun vs H2 s2 d2 p2 => ?_
        rw [c2] at hy
        exact ⟨ds, y, H2, T, p2, hn, hy, rfl, d2, fun u H3 s3 d3 p3 => q u H3 T (G1.ex.trans (s2.trans s3)) d3 G.ext p3⟩
      · cases h
    · cases h
  · cases h
end
/-! ### x is True, whatever x is -/
def isKind : V → Bool → Option Bool
  | .bl a, b => some (decide (a = b))
  | .non, _ => some false
  | .int _, _ => some false
  | .str _, _ => some false
  | .ref _, _ => some false
  | _, _ => none
def rIsBA : R2 := fun x y H Q => ∃ b c : Bool, y = .bl b ∧ isKind x b = some c ∧ Q (.bl c) H
theorem op_isBA {X : Cx} : OpR X (compareOp .Is) rIsBA := by
  intro pins s σ H x y v u Q I rx ry h
  obtain ⟨b, c, rfl, e, q⟩ := h
  cases (show u = Value.bool b from ry)
  cases x with
  | bl a =>
    cases (show v = Value.bool a from rx)
    cases e
    by_cases z : a = b
    · rw [decide_eq_true z] at q
      rw [z]
      exact wpAny_is_self rfl ⟨.bl true, H, I, rfl, q⟩
    · rw [decide_eq_false z] at q
      exact wpAny_is_other rfl (fun k => z (Value.bool.inj k)) ⟨.bl false, H, I, rfl, q⟩
  | non =>
    cases (show v = Value.none from rx)
    cases e
    exact wpAny_is_other rfl (fun k => Value.noConfusion k) ⟨.bl false, H, I, rfl, q⟩
  | int i =>
    obtain ⟨t, rfl⟩ := (show ∃ t, v = Value.int i t from rx)
    cases e
    exact wpAny_is_other rfl (fun k => Value.noConfusion k) ⟨.bl false, H, I, rfl, q⟩
  | str z =>
    obtain ⟨t, rfl⟩ := (show ∃ t, v = Value.str z t from rx)
    cases e
    exact wpAny_is_other rfl (fun k => Value.noConfusion k) ⟨.bl false, H, I, rfl, q⟩
  | ref a =>
    cases (show v = Value.ref a from rx)
    cases e
    exact wpAny_is_other rfl (fun k => Value.noConfusion k) ⟨.bl false, H, I, rfl, q⟩
  | _ => cases e
def dIsB : D → D → Option D
  | .bool a, .bool b => some (.bool (decide (a = b)))
  | .none, .bool _ => some (.bool false)
  | .int _, .bool _ => some (.bool false)
  | .str _, .bool _ => some (.bool false)
  | .tuple _, .bool _ => some (.bool false)
  | .list _, .bool _ => some (.bool false)
  | _, _ => none
theorem rd_isB {K : PySem.W.Frag} : RD K rIsBA dIsB := by
  refine ⟨fun {H T x y a b d} dis ha hb h Q q => ?_⟩
  unfold dIsB at h
  split at h
  · cases h
    exact ⟨_, _, dp_bool hb, by rw [dp_bool ha]; rfl, q _ H (Same.refl H) dis (.bl _)⟩
  · cases h
    exact ⟨_, false, dp_bool hb, by cases ha; rfl, q _ H (Same.refl H) dis (.bl _)⟩
  · cases h
    exact ⟨_, false, dp_bool hb, by cases ha; rfl, q _ H (Same.refl H) dis (.bl _)⟩
  · cases h
    exact ⟨_, false, dp_bool hb, by cases ha; rfl, q _ H (Same.refl H) dis (.bl _)⟩
  · cases h
    exact ⟨_, false, dp_bool hb, by cases ha; rfl, q _ H (Same.refl H) dis (.bl _)⟩
  · cases h
    exact ⟨_, false, dp_bool hb, by cases ha; rfl, q _ H (Same.refl H) dis (.bl _)⟩
  · cases h
end DD

set_option Elab.async false
set_option linter.all false
set_option maxRecDepth 100000
set_option maxHeartbeats 4000000
/-! what the top leaves: defs with defaults, dicts of defs -/
namespace DD
open PySem PySem.Spec PyProof.Rows L2
theorem funD_mk {K : PySem.W.Frag} {x qual : Str} {st : Stmt} {f dt : Addr} {oc kV doc pm cdv ct dcl : Value} {od an ddd : Option Addr} {osl dsl : Array (Option Value)} {di : Array Value} {dn : Nat} {dvs : List V}
    (l : K.lookup f = some ⟨oc, od, .func (PySem.W.fnOf x qual (defArgs st) (defBody st) (defScope st) (.ref dt) kV doc pm an cdv ct), osl⟩) (c : PySem.W.codeIn K cdv qual = true) (k : PySem.W.keepIn K (.ref f) = true) (lt : K.lookup dt = some ⟨dcl, ddd, .seq di dn, dsl⟩) (vt : Vals dvs di.toList) (hne : dvs ≠ []) :
    FunD K x qual (defArgs st) (defBody st) (defScope st) dvs [] f (PySem.W.fnOf x qual (defArgs st) (defBody st) (defScope st) (.ref dt) kV doc pm an cdv ct) :=
  ⟨⟨oc, od, .ref dt, kV, doc, pm, an, cdv, ct, osl, rfl, l, c, .inr ⟨hne, dt, _, di.toList, dn, rfl, lt, rfl, vt⟩, .inl rfl⟩, k⟩
theorem binds_all {K : PySem.W.Frag} {fd : FuncData} {ps : List Str} {dvs : List V} (h : ∃ ds, Vals (dvs.drop dvs.length) ds ∧ Binds K fd ps ds) : Binds K fd ps [] := by
  obtain ⟨ds, r, b⟩ := h
  rw [List.drop_length] at r
  cases r
  exact b
def refsOf (fs : List (Str × Addr)) : List (Option Str × Value) := fs.map fun kv => (some kv.1, .ref kv.2)
theorem keys_refs {P : Params} : ∀ {l : List DictEntry} {fs : List (Str × Addr)}, PySem.W.KeysLit P l → l.map (fun e => (keyS e, e.val)) = refsOf fs → l.map He.keyOf = He.keysIn P (fs.map (·.1))
  | [], [], _, _ => rfl
  | [], _ :: _, _, h => by cases h
  | _ :: _, [], _, h => by cases h
  | e :: r, kv :: fs, y, h => by
    obtain ⟨⟨x, t, e1, e2⟩, y2⟩ := y
    have h' : (keyS e, e.val) :: r.map (fun e => (keyS e, e.val)) = (some kv.1, Value.ref kv.2) :: refsOf fs := h
    obtain ⟨h1, h2⟩ := List.cons.inj h'
    have ke : keyS e = some x := by unfold keyS; rw [e1]
    have kx : x = kv.1 := by
      have := (Prod.mk.inj h1).1
      rw [ke] at this
      exact Option.some.inj this
    have ih := keys_refs y2 h2
    show He.keyOf e :: r.map He.keyOf = some (kv.1, PyData.keyHash P kv.1) :: He.keysIn P (fs.map (·.1))
    rw [ih]
    have : He.keyOf e = some (x, PyData.keyHash P x) := by
      unfold He.keyOf
      rw [e1, e2]
    rw [this, kx]
theorem find_refs {P : Params} (z : Str) : ∀ {l : List DictEntry} {fs : List (Str × Addr)}, PySem.W.KeysLit P l → l.map (fun e => (keyS e, e.val)) = refsOf fs →
    (l.find? (·.key.isStr z)).map (·.val) = (fs.find? fun kv => kv.1 == z).map fun kv => Value.ref kv.2
  | [], [], _, _ => rfl
  | [], _ :: _, _, h => by cases h
  | _ :: _, [], _, h => by cases h
  | e :: r, kv :: fs, y, h => by
    obtain ⟨⟨x, t, e1, e2⟩, y2⟩ := y
    have h' : (keyS e, e.val) :: r.map (fun e => (keyS e, e.val)) = (some kv.1, Value.ref kv.2) :: refsOf fs := h
    obtain ⟨h1, h2⟩ := List.cons.inj h'
    have ke : keyS e = some x := by unfold keyS; rw [e1]
    have kx : x = kv.1 := by
      have := (Prod.mk.inj h1).1
      rw [ke] at this
      exact Option.some.inj this
    have ek : e.key.isStr z = (kv.1 == z) := by rw [e1, ← kx]; rfl
    have ih := find_refs z y2 h2
    rw [List.find?_cons, List.find?_cons, ek]
    cases hz : (kv.1 == z) with
    | true => exact congrArg some (Prod.mk.inj h1).2
    | false => exact ih
theorem dictF_mk {K : PySem.W.Frag} {w : World} {a : Addr} {es : Array DictEntry} {n : Nat} {fs : List (Str × Addr)} (l : K.lookup a = some ⟨.type "dict", none, .dict es n, #[]⟩) (y : PySem.W.KeysLit w.params es.toList) (z : (a == sysModules) = false)
    (v : es.toList.map (fun e => (keyS e, e.val)) = refsOf fs) : DictF K w a fs := by
  have kl := keys_refs y v
  have h1 : He.dicW K a = some (He.keysIn w.params (fs.map (·.1))) := by
    unfold He.dicW
    rw [l]
    show (match decide ("dict" = "dict") && ((#[] : Array (Option Value)).isEmpty && !(a == sysModules)) with
      | true => some (es.toList.map He.keyOf)
      | false => none) = _
    rw [z, kl]
    rfl
  obtain ⟨es', n', kd⟩ := He.dicW_ok h1
  have he : es' = es := by
    have := kd.at_
    rw [l] at this
    have e2 := congrArg (fun o => o.map Obj.data) this
    simp at e2
    exact e2.1.symm
  subst he
  refine ⟨⟨es', n', kd⟩, fun k => ?_⟩
  have nr : es'.toList.any (·.refKey) = false := by
    rw [List.any_eq_false]
    intro e he
    obtain ⟨x, t, ek, _⟩ := PySem.W.KeysLit.all kd.lit e he
    simp [DictEntry.refKey, ek]
  have fr := find_refs k y v
  unfold PySem.W.nsIn
  rw [kd.at_]
  simp only
  cases q : es'.toList.find? (·.key.isStr k) with
  | some e =>
    rw [q] at fr
    rw [← fr]
    rfl
  | none =>
    rw [q] at fr
    rw [← fr]
    simp only
    rw [if_neg (by rw [nr]; exact Bool.false_ne_true)]
    rfl
end DD

set_option Elab.async false
set_option linter.all false
set_option maxRecDepth 100000
set_option maxHeartbeats 4000000
/-! what may raise within arguments, operators, tests, targets and loops -/
namespace DD
variable [TabQ] [ExQ]
open PySem PySem.Spec PyProof.Rows L2
/-- what arguments come to -/
inductive RsL where
  | ok (ds : List D)
  | ex (c : Nat)
section
variable (K : PySem.W.Frag) (cl : Nat → Addr)
structure XA (ta : WX → TA) (m : En → Option RsL) : Prop where
  run : ∀ {H0 : Hp} {T0 : Ov} {σ : L2.St} {ρ : En} {H : Hp} {T : Ov} {r : RsL}, Good K H0 T0 σ ρ H T → m ρ = some r → ∀ (W : WX) (R : List V → Hp → Prop),
    (match r with
      | .ok ds => ∀ vs H', Same H H' → Dis H' T → DpAll K H' vs ds → R vs (ov H' T)
      | .ex c => ∀ H', Same H H' → Dis H' T → W (.ref (cl c)) none σ (ov H' T)) → ta W σ (ov H T) R
structure TX (tt : WX → TT) (m : En → Option Rs) : Prop where
  run : ∀ {H0 : Hp} {T0 : Ov} {σ : L2.St} {ρ : En} {H : Hp} {T : Ov} {r : Rs}, Good K H0 T0 σ ρ H T → m ρ = some r → ∀ (W : WX) (Q : Bool → Hp → Prop),
    (match r with
      | .ok d => ∃ b, d = .bool b ∧ ∀ H', Same H H' → Dis H' T → Q b (ov H' T)
      | .ex c => ∀ H', Same H H' → Dis H' T → W (.ref (cl c)) none σ (ov H' T)) → tt W σ (ov H T) Q
end
def xaLift (m : En → Option (List D)) : En → Option RsL := fun ρ => (m ρ).map .ok
def xaCons (m : En → Option Rs) (mr : En → Option RsL) : En → Option RsL := fun ρ => (m ρ).bind fun r => match r with
  | .ok d => (mr ρ).bind fun x => match x with
    | .ok ds => some (.ok (d :: ds))
    | .ex c => some (.ex c)
  | .ex c => some (.ex c)
def xaBind (m : En → Option RsL) (f : List D → Option Rs) : En → Option Rs := fun ρ => (m ρ).bind fun r => match r with
  | .ok ds => f ds
  | .ex c => some (.ex c)
def okF (f : List D → Option D) : List D → Option Rs := fun ds => (f ds).map .ok
def limR (n : Nat) (f : List D → Option Rs) : List D → Option Rs := fun ds => if ds.length = n then f ds else none
def xOp (f : D → D → Option D) (a b : En → Option Rs) : En → Option Rs := fun ρ => (a ρ).bind fun x => match x with
  | .ok d => (b ρ).bind fun y => match y with
    | .ok e => (f d e).map .ok
    | .ex c => some (.ex c)
  | .ex c => some (.ex c)
def xTru (m : En → Option Rs) : En → Option Rs := fun ρ => (m ρ).bind fun r => match r with
  | .ok d => (tru d).map fun b => .ok (.bool b)
  | .ex c => some (.ex c)
def xTest (m : En → Option Rs) : En → Option Rs := fun ρ => (m ρ).bind fun r => match r with
  | .ok d => (isB d).map fun b => .ok (.bool b)
  | .ex c => some (.ex c)
def xNot (m : En → Option Rs) : En → Option Rs := fun ρ => (m ρ).bind fun r => match r with
  | .ok d => (isB d).map fun b => .ok (.bool (!b))
  | .ex c => some (.ex c)
def xIfT (m : En → Option Rs) (a b : En → Option FlX) : En → Option FlX := fun ρ => (m ρ).bind fun r => match r with
  | .ok d => (isB d).bind fun x => if x = true then a ρ else b ρ
  | .ex c => some (.ex c ρ)
def xAsgG (m : En → Option Rs) (g : D → En → Option En) : En → Option FlX := fun ρ => (m ρ).bind fun r => match r with
  | .ok d => (g d ρ).map fun ρ2 => .fl (.nx ρ2)
  | .ex c => some (.ex c ρ)
def loopX (g : D → En → Option En) (b : En → Option FlX) : List D → En → Option FlX
  | [], ρ => some (.fl (.nx ρ))
  | d :: ds, ρ => (g d ρ).bind fun ρ1 => (b ρ1).bind fun f => match f with
    | .fl (.nx ρ2) => loopX g b ds ρ2
    | .fl (.ct ρ2) => loopX g b ds ρ2
    | .fl (.bk ρ2) => some (.fl (.nx ρ2))
    | .fl (.rt d) => some (.fl (.rt d))
    | .ex c ρ2 => some (.ex c ρ2)
def xFor (it : En → Option (List D)) (g : D → En → Option En) (b : En → Option FlX) : En → Option FlX := fun ρ => (it ρ).bind fun ds => loopX g b ds ρ
def whlX (c : En → Option Bool) (b : En → Option FlX) : Nat → En → Option FlX
  | 0, _ => none
  | n + 1, ρ => (c ρ).bind fun x => if x = true then (b ρ).bind fun f => match f with
      | .fl (.nx ρ2) => whlX c b n ρ2
      | .fl (.ct ρ2) => whlX c b n ρ2
      | .fl (.bk ρ2) => some (.fl (.nx ρ2))
      | .fl (.rt d) => some (.fl (.rt d))
      | .ex c ρ2 => some (.ex c ρ2)
    else some (.fl (.nx ρ))
def xWhile (fuel : En → Nat) (c : En → Option Bool) (b : En → Option FlX) : En → Option FlX := fun ρ => whlX c b (fuel ρ) ρ
section
variable {K : PySem.W.Frag} {cl : Nat → Addr}
theorem xa_lift {ta : TA} {m : En → Option (List D)} (h : TAm K ta m) : XA K cl (fun _ => ta) (xaLift m) := by
  refine ⟨fun {H0 T0 σ ρ H T r} G hm W R q => ?_⟩
  obtain ⟨ds, hd, e⟩ := map_some hm
  subst e
  exact h.run G hd R q
theorem xa_cons {te : WX → TE} {ta : WX → TA} {m : En → Option Rs} {mr : En → Option RsL} (h1 : EX K cl te m) (h2 : XA K cl ta mr) : XA K cl (fun W => tCons (te W) (ta W)) (xaCons m mr) := by
  refine ⟨fun {H0 T0 σ ρ H T r} G hm W R q => ?_⟩
  obtain ⟨r1, hr1, hm⟩ := bind_some hm
  cases r1 with
  | ok d =>
    obtain ⟨r2, hr2, hm⟩ := bind_some hm
    refine h1.run G hr1 W _ fun v H1 s1 d1 p1 => ?_
    refine h2.run (G.mono s1 d1) hr2 W _ ?_
    cases r2 with
    | ok ds =>
      cases hm
      exact fun vs H2 s2 d2 p2 => q (v :: vs) H2 (s1.trans s2) d2 (.cons (dp_mono s2 p1) p2)
    | ex c =>
      cases hm
      exact fun H2 s2 d2 => q H2 (s1.trans s2) d2
  | ex c =>
    cases hm
    exact h1.run G hr1 W _ q
theorem ex_callA {n : Nat} {mf : List D → Option Rs} {ta : WX → TA} {m : En → Option RsL} (ha : XA K cl ta m) : EX K cl (fun W => tCallS (spX K cl n mf) (WE W) (ta W)) (xaBind m (limR n mf)) := by
  refine ⟨fun {H0 T0 σ ρ H T r} G h W Q q => ?_⟩
  obtain ⟨x, hx, h⟩ := bind_some h
  refine ha.run G hx W _ ?_
  cases x with
  | ok ds =>
    intro vs H1 s1 d1 p1
    have h : (if ds.length = n then mf ds else none) = some r := h
    split at h
    · rename_i hn
      refine ⟨ds, r, H1, T, p1, hn, h, rfl, d1, ?_⟩
      cases r with
      | ok d => exact fun v H' s2 d2 p2 => q v H' (s1.trans s2) d2 p2
      | ex c => exact fun H' s2 d2 => q H' (s1.trans s2) d2
    · cases h
  | ex c =>
    cases h
    exact q
theorem ex_callP {n : Nat} {mf : List D → Option D} {E : XK} {ta : WX → TA} {m : En → Option RsL} (ha : XA K cl ta m) : EX K cl (fun W => tCall (spM K n mf) [] E (ta W)) (xaBind m (okF (lim n mf))) := by
  refine ⟨fun {H0 T0 σ ρ H T r} G h W Q q => ?_⟩
  obtain ⟨x, hx, h⟩ := bind_some h
  refine ha.run G hx W _ ?_
  cases x with
  | ok ds =>
    intro vs H1 s1 d1 p1
    obtain ⟨d, hd, e⟩ := map_some h
    subst e
    unfold lim at hd
    split at hd
    · rename_i hn
      rw [List.append_nil]
      exact ⟨ds, d, H1, T, p1, hn, hd, rfl, d1, fun v H' s2 d2 p2 => q v H' (s1.trans s2) d2 p2⟩
    · cases hd
  | ex c =>
    cases h
    exact q
theorem ex_cbA {rc : List V → Hp → VK → Prop} {fc : List D → Option D} {ta : WX → TA} {m : En → Option RsL} (hc : CD K rc fc) (ha : XA K cl ta m) : EX K cl (fun W => tCB rc (ta W)) (xaBind m (okF fc)) := by
  refine ⟨fun {H0 T0 σ ρ H T r} G h W Q q => ?_⟩
  obtain ⟨x, hx, h⟩ := bind_some h
  refine ha.run G hx W _ ?_
  cases x with
  | ok ds =>
    intro vs H1 s1 d1 p1
    obtain ⟨d, hd, e⟩ := map_some h
    subst e
    exact hc.run d1 p1 hd Q fun v H' s2 d2 p2 => q v H' (s1.trans s2) d2 p2
  | ex c =>
    cases h
    exact q
def tupR (ds : List D) : Option Rs := (sized ds).map fun x => .ok (.tuple x)
def lstR (ds : List D) : Option Rs := (sized ds).map fun x => .ok (.list x)
theorem ex_tupA {ta : WX → TA} {m : En → Option RsL} (ha : XA K cl ta m) : EX K cl (fun W => tTup (ta W)) (xaBind m tupR) := by
  refine ⟨fun {H0 T0 σ ρ H T r} G h W Q q => ?_⟩
  obtain ⟨x, hx, h⟩ := bind_some h
  refine ha.run G hx W _ ?_
  cases x with
  | ok ds =>
    intro vs H1 s1 d1 p1
    obtain ⟨y, hy, e⟩ := map_some h
    subst e
    obtain ⟨rfl, hz⟩ := sized_some hy
    refine ⟨cap_line (by rw [dpa_len p1]; exact hz), fun p np => ?_⟩
    obtain ⟨nT, nH⟩ := ov_free np
    rw [upd_ov nT]
    exact q _ _ (s1.trans (same_new nH)) (dis_upd d1 nT nH) (.tup (SqT.of upd_same) (dpa_mono (same_new nH) p1))
  | ex c =>
    cases h
    exact q
theorem ex_lstA {ta : WX → TA} {m : En → Option RsL} (ha : XA K cl ta m) : EX K cl (fun W => tLst (ta W)) (xaBind m lstR) := by
  refine ⟨fun {H0 T0 σ ρ H T r} G h W Q q => ?_⟩
  obtain ⟨x, hx, h⟩ := bind_some h
  refine ha.run G hx W _ ?_
  cases x with
  | ok ds =>
    intro vs H1 s1 d1 p1
    obtain ⟨y, hy, e⟩ := map_some h
    subst e
    obtain ⟨rfl, hz⟩ := sized_some hy
    refine ⟨cap_line (by rw [dpa_len p1]; exact hz), fun p np => ?_⟩
    obtain ⟨nT, nH⟩ := ov_free np
    rw [upd_ov nT]
    exact q _ _ (s1.trans (same_new nH)) (dis_upd d1 nT nH) (.lst (SqL.of upd_same) (dpa_mono (same_new nH) p1))
  | ex c =>
    cases h
    exact q
theorem ex_op {r2 : R2} {f : D → D → Option D} {ta tb : WX → TE} {ma mb : En → Option Rs} (hr : RD K r2 f) (ha : EX K cl ta ma) (hb : EX K cl tb mb) : EX K cl (fun W => tOp r2 (ta W) (tb W)) (xOp f ma mb) := by
  refine ⟨fun {H0 T0 σ ρ H T r} G h W Q q => ?_⟩
  obtain ⟨x, hx, h⟩ := bind_some h
  refine ha.run G hx W _ ?_
  cases x with
  | ok a =>
    intro v H1 s1 d1 p1
    obtain ⟨y, hy, h⟩ := bind_some h
    refine hb.run (G.mono s1 d1) hy W _ ?_
    cases y with
    | ok b =>
      intro u H2 s2 d2 p2
      obtain ⟨d, hd, e⟩ := map_some h
      subst e
      exact hr.run d2 (dp_mono s2 p1) p2 hd Q fun w H3 s3 d3 p3 => q w H3 ((s1.trans s2).trans s3) d3 p3
    | ex c =>
      cases h
      exact fun H2 s2 d2 => q H2 (s1.trans s2) d2
  | ex c =>
    cases h
    exact q
theorem truV {H : Hp} {T : Ov} {v : V} {d : D} {b : Bool} (dis : Dis H T) (p : Dp K H v d) (h : tru d = some b) : TruV K v (ov H T) b := by
  unfold tru at h
  split at h
  · cases h; cases dp_non p; rfl
  · cases h; cases dp_bool p; rfl
  · cases h; cases dp_int p; rfl
  · split at h
    · rename_i hz
      cases h; cases dp_str p; exact ⟨cap_line hz, rfl⟩
    · cases h
  · cases h
    obtain ⟨a, xs, rfl, hs, g⟩ := dp_lst p
    exact .inl ⟨xs, sql_ov dis hs, by rw [emp_of g]⟩
  · cases h
    obtain ⟨a, xs, rfl, hs, g⟩ := dp_tup p
    exact .inr (.inl ⟨xs, sqt_ov dis hs, by rw [emp_of g]⟩)
  · cases h
theorem tx_tru {te : WX → TE} {m : En → Option Rs} (h : EX K cl te m) : TX K cl (fun W => tTru K (te W)) (xTru m) := by
  refine ⟨fun {H0 T0 σ ρ H T r} G hm W Q q => ?_⟩
  obtain ⟨x, hx, hm⟩ := bind_some hm
  refine h.run G hx W _ ?_
  cases x with
  | ok d =>
    intro v H1 s1 d1 p1
    obtain ⟨b, hb, e⟩ := map_some hm
    subst e
    obtain ⟨b', e', q⟩ := q
    cases e'
    exact ⟨b, truV d1 p1 hb, q H1 s1 d1⟩
  | ex c =>
    cases hm
    exact q
theorem tx_test {te : WX → TE} {m : En → Option Rs} (h : EX K cl te m) : TX K cl (fun W => tTest (te W)) (xTest m) := by
  refine ⟨fun {H0 T0 σ ρ H T r} G hm W Q q => ?_⟩
  obtain ⟨x, hx, hm⟩ := bind_some hm
  refine h.run G hx W _ ?_
  cases x with
  | ok d =>
    intro v H1 s1 d1 p1
    obtain ⟨b, hb, e⟩ := map_some hm
    subst e
    obtain ⟨b', e', q⟩ := q
    cases e'
    cases isB_some hb
    exact ⟨b, dp_bool p1, q H1 s1 d1⟩
  | ex c =>
    cases hm
    exact q
theorem tx_not {tt : WX → TT} {m : En → Option Rs} (h : TX K cl tt m) : TX K cl (fun W => tNot (tt W)) (xNot m) := by
  refine ⟨fun {H0 T0 σ ρ H T r} G hm W Q q => ?_⟩
  obtain ⟨x, hx, hm⟩ := bind_some hm
  refine h.run G hx W _ ?_
  cases x with
  | ok d =>
    obtain ⟨b, hb, e⟩ := map_some hm
    subst e
    obtain ⟨b', e', q⟩ := q
    cases e'
    exact ⟨b, isB_some hb, q⟩
  | ex c =>
    cases hm
    exact q
/-! statements -/
theorem sx_ifT {tt : WX → TT} {m : En → Option Rs} {t u : WX → TS} {m1 m2 : En → Option FlX} (hc : TX K cl tt m) (h1 : SX K cl t m1) (h2 : SX K cl u m2) : SX K cl (fun W => tIfS (tt W) (t W) (u W)) (xIfT m m1 m2) := by
  refine ⟨fun {H0 T0 σ ρ H T f} G h W E q => ?_⟩
  obtain ⟨x, hx, h⟩ := bind_some h
  refine hc.run G hx W _ ?_
  cases x with
  | ok d =>
    obtain ⟨b, hb, h⟩ := bind_some h
    refine ⟨b, isB_some hb, fun H1 s1 d1 => ?_⟩
    cases b with
    | true =>
      rw [if_pos rfl] at h ⊢
      exact h1.run (G.mono s1 d1) h W E q
    | false =>
      rw [if_neg Bool.false_ne_true] at h ⊢
      exact h2.run (G.mono s1 d1) h W E q
  | ex c =>
    cases h
    exact fun H1 s1 d1 => q σ H1 T (G.mono s1 d1)
theorem sx_asgG {te : WX → TE} {m : En → Option Rs} {vs : List Nat} {g : TG} {mg : D → En → Option En} (h : EX K cl te m) (hg : TGm K vs g mg) : SX K cl (fun W => tAsg (te W) g) (xAsgG m mg) := by
  refine ⟨fun {H0 T0 σ ρ H T x} G hm W E q => ?_⟩
  obtain ⟨r, hr, hm⟩ := bind_some hm
  refine h.run G hr W _ ?_
  cases r with
  | ok d =>
    intro v H1 s1 d1 p1
    obtain ⟨ρ2, h2, e⟩ := map_some hm
    subst e
    exact hg.run (G.mono s1 d1) p1 h2 _ fun σ2 H2 G2 _ _ => q σ2 H2 T G2
  | ex c =>
    cases hm
    exact fun H1 s1 d1 => q σ H1 T (G.mono s1 d1)
theorem sx_for {wi : TI} {mi : En → Option (List D)} {vs : List Nat} {g : TG} {mg : D → En → Option En} {t : WX → TS} {m1 : En → Option FlX} (hi : IT K wi mi) (hg : TGm K vs g mg) (hb : SX K cl t m1) : SX K cl (fun W => tFor wi g (t W)) (xFor mi mg m1) := by
  refine ⟨fun {H0 T0 σ ρ H T f} G h W E q => ?_⟩
  obtain ⟨ds, hd, h⟩ := bind_some h
  refine hi.run G hd _ fun J Hm s1 d1 w => ?_
  refine ⟨fun i m σ Hc => i ≤ ds.length ∧ m = ds.length - i ∧ ∃ ρ H T, Hc = ov H T ∧ Good K H0 T0 σ ρ H T ∧ Same Hm H ∧ loopX mg m1 (ds.drop i) ρ = some f, ⟨ds.length, Nat.zero_le _, rfl, ρ, Hm, T, rfl, G.mono s1 d1, Same.refl Hm, h⟩, ?_⟩
  rintro i m σ1 Hc ⟨hi, rfl, ρ1, H1, T1, rfl, G1, sm, hl⟩
  by_cases hlt : i < ds.length
  · have hge : ds[i]? = some ds[i] := List.getElem?_eq_getElem hlt
    rw [List.drop_eq_getElem_cons hlt] at hl
    obtain ⟨ρ2, h2, hl⟩ := bind_some hl
    obtain ⟨f3, h3, hl⟩ := bind_some hl
    refine .inr ⟨w.go i sm G1.dis hlt, fun σ' Hc' => ∃ ρ H T, Hc' = ov H T ∧ Good K H0 T0 σ' ρ H T ∧ Same Hm H ∧ loopX mg m1 (ds.drop (i + 1)) ρ = some f, fun σ' Hc' ⟨ρ', H', T', e', G', s', l'⟩ => ⟨ds.length - (i + 1), by omega, by omega, rfl, ρ', H', T', e', G', s', l'⟩, fun x Hc' y => ?_⟩
    obtain ⟨H2, rfl, s2, d2, p2⟩ := w.yld i sm G1.dis hge y
    refine hg.run (G1.mono s2 d2) p2 h2 _ fun σ3 H3 G3 s3 _ => ?_
    refine hb.run (H0 := H3) (T0 := T0) (σ := σ3) (ρ := ρ2) (H := H3) (T := T1) ⟨G3.len, G3.val, G3.own, G3.inj, G3.dis, G3.ext, Same.refl H3, G3.exc⟩ h3 W _ ?_
    have s03 : Same H0 H3 := G3.ex
    cases f3 with
    | fl f3 =>
      cases f3 with
      | nx ρ4 => exact fun σ4 H4 T4 G4 => ⟨ρ4, H4, T4, rfl, ⟨G4.len, G4.val, G4.own, G4.inj, G4.dis, G4.ext, s03.trans G4.ex, G4.exc⟩, (sm.trans (s2.trans s3)).trans G4.ex, hl⟩
      | ct ρ4 => exact fun σ4 H4 T4 G4 => ⟨ρ4, H4, T4, rfl, ⟨G4.len, G4.val, G4.own, G4.inj, G4.dis, G4.ext, s03.trans G4.ex, G4.exc⟩, (sm.trans (s2.trans s3)).trans G4.ex, hl⟩
      | bk ρ4 =>
        cases hl
        exact fun σ4 H4 T4 G4 => q σ4 H4 T4 ⟨G4.len, G4.val, G4.own, G4.inj, G4.dis, G4.ext, s03.trans G4.ex, G4.exc⟩
      | rt d =>
        cases hl
        exact fun v H4 T4 s4 d4 e4 p4 => q v H4 T4 (s03.trans s4) d4 e4 p4
    | ex c ρ4 =>
      cases hl
      exact fun σ4 H4 T4 G4 => q σ4 H4 T4 ⟨G4.len, G4.val, G4.own, G4.inj, G4.dis, G4.ext, s03.trans G4.ex, G4.exc⟩
  · have e : i = ds.length := by omega
    subst e
    rw [List.drop_length] at hl
    cases hl
    exact .inl ⟨w.stop sm G1.dis, q σ1 H1 T1 G1⟩
theorem sx_while {tc : TT} {mc : En → Option Bool} {t : WX → TS} {m1 : En → Option FlX} (fuel : En → Nat) (hc : TTm K tc mc) (hb : SX K cl t m1) : SX K cl (fun W => tWhile tc (t W)) (xWhile fuel mc m1) := by
  refine ⟨fun {H0 T0 σ ρ H T f} G h W E q => ?_⟩
  refine ⟨fun m σ Hc => ∃ ρ H T, Hc = ov H T ∧ Good K H0 T0 σ ρ H T ∧ whlX mc m1 m ρ = some f, ⟨fuel ρ, ρ, H, T, rfl, G, h⟩, ?_⟩
  rintro m σ1 Hc ⟨ρ1, H1, T1, rfl, G1, hw⟩
  cases m with
  | zero => cases hw
  | succ n =>
    obtain ⟨x, hx, hw⟩ := bind_some hw
    refine hc.run G1 hx _ fun H2 s2 d2 => ?_
    have G2 := G1.mono s2 d2
    cases x with
    | true =>
      rw [if_pos rfl] at hw ⊢
      obtain ⟨f3, h3, hl⟩ := bind_some hw
      refine ⟨fun σ' Hc' => ∃ ρ H T, Hc' = ov H T ∧ Good K H0 T0 σ' ρ H T ∧ whlX mc m1 n ρ = some f, fun σ' Hc' h' => ⟨n, Nat.lt_succ_self n, h'⟩, ?_⟩
      refine hb.run G2 h3 W _ ?_
      cases f3 with
      | fl f3 =>
        cases f3 with
        | nx ρ4 => exact fun σ4 H4 T4 G4 => ⟨ρ4, H4, T4, rfl, G4, hl⟩
        | ct ρ4 => exact fun σ4 H4 T4 G4 => ⟨ρ4, H4, T4, rfl, G4, hl⟩
        | bk ρ4 => cases hl; exact q
        | rt d => cases hl; exact q
      | ex c ρ4 => cases hl; exact q
    | false =>
      rw [if_neg Bool.false_ne_true] at hw ⊢
      cases hw
      exact q σ1 H2 T1 G2
def xFrz (i : Nat) (m : En → Option FlX) : En → Option FlX := fun ρ => m (frz i ρ)
theorem sx_frz (i : Nat) {t : WX → TS} {m : En → Option FlX} (h : SX K cl t m) : SX K cl t (xFrz i m) := by
  refine ⟨fun {H0 T0 σ ρ H T f} G hm W E q => ?_⟩
  obtain ⟨H', T', G', e, _⟩ := G.freeze i
  rw [e]
  exact h.run G' hm W E q
end
end DD

set_option Elab.async false
set_option linter.all false
set_option maxRecDepth 100000
set_option maxHeartbeats 4000000
/-! a text or a list displayed, so many times -/
namespace DD
variable [TabQ] [ExQ]
open PySem PySem.Spec PyProof.Rows L2
section
variable {K : PySem.W.Frag}
def rRepS : R2 := fun x y H Q => ∃ (a : Str) (n : Int), x = .str a ∧ y = .int n ∧ MulOk a n ∧ Q (.str (Txt.mul a n)) H
theorem op_repS {X : Cx} : OpR X (binaryOp .Mult) rRepS := by
  intro pins s σ H x y v u Q I rx ry h
  obtain ⟨a, n, rfl, rfl, ok, q⟩ := h
  obtain ⟨t, rfl⟩ := (show ∃ t, v = Value.str a t from rx)
  obtain ⟨t2, rfl⟩ := (show ∃ t, u = Value.int n t from ry)
  exact SB.mul ok fun t3 k => ⟨.str (Txt.mul a n), H, I.kept (t' := k) fun _ _ z => z, ⟨t3, rfl⟩, q⟩
theorem mulOk_of {a : Str} {n : Int} (h0 : 0 ≤ n) (h1 : n ≤ 1000000) (h2 : a.length * n.toNat ≤ cap) : MulOk a n := by
  refine ⟨?_, fun k _ => ?_, fun k _ => ?_⟩
  · rw [decide_eq_false (by omega), decide_eq_false (by omega)]
    rfl
  · have hn : (0 : Int) < n := by omega
    have e : ((a.length * n.toNat : Nat) : Int) = (a.length : Int) * n := by
      rw [Int.natCast_mul, Int.toNat_of_nonneg h0]
    have c : ((a.length * n.toNat : Nat) : Int) ≤ ((100000 : Nat) : Int) := Int.ofNat_le.mpr h2
    have b : ((100000 : Nat) : Int) ≤ 2 ^ 63 - 1 := by decide
    have le : (a.length : Int) ≤ (2 ^ 63 - 1) / n := Int.le_ediv_of_mul_le hn (by rw [← e]; exact Int.le_trans c b)
    exact fun z => absurd le (Int.not_le.mpr z)
  · have l := cap_line h2
    show decide (a.length * n.toNat > sizeLine) = false
    exact decide_eq_false (Nat.not_lt.mpr l)
def dMulS : D → D → Option D
  | .str a, .int n => if 0 ≤ n ∧ n ≤ 1000000 ∧ a.length * n.toNat ≤ cap then some (.str (Txt.mul a n)) else none
  | x, y => dMul x y
def rMulS (K : PySem.W.Frag) : R2 := fun x y H Q => rRepS x y H Q ∨ rMulA K x y H Q
theorem op_mulS {X : Cx} : OpR X (binaryOp .Mult) (rMulS X.K) := op_repS.or op_mulA
theorem rd_mulS : RD K (rMulS K) dMulS := by
  refine ⟨fun {H T x y a b d} dis ha hb h Q q => ?_⟩
  unfold dMulS at h
  split at h
  · split at h
    · rename_i c
      cases h
      exact .inl ⟨_, _, dp_str ha, dp_int hb, mulOk_of c.1 c.2.1 c.2.2, q _ H (Same.refl H) dis (.str _)⟩
    · cases h
  · exact .inr (rd_mul.run dis ha hb h Q q)
def mRepL (ma : En → Option (List D)) (mb : En → Option D) : En → Option (List D) := fun ρ => (ma ρ).bind fun ds => (mb ρ).bind fun k => match k with
  | .int k => if -(2 ^ 63) ≤ k ∧ k < 2 ^ 63 ∧ ds.length * k.toNat ≤ cap then some (List.replicate k.toNat ds).flatten else none
  | _ => none
theorem fl_rep {ta tb : TE} {ma : En → Option (List D)} {mb : En → Option D} (ha : FL K ta ma) (hb : ET K tb mb) : FL K (tOp rRep ta tb) (mRepL ma mb) := by
  refine ⟨fun {H0 T0 σ ρ H T out} G h Q q => ?_⟩
  obtain ⟨ds, hd, h⟩ := bind_some h
  obtain ⟨kd, hk, h⟩ := bind_some h
  split at h
  · rename_i k
    split at h
    · rename_i c
      cases h
      refine ha.run G hd _ fun p xs H1 s1 d1 np px => ?_
      obtain ⟨nT, nH⟩ := ov_free np
      rw [upd_ov nT]
      have sn : Same H1 (upd H1 p (.lst xs)) := same_new nH
      have d1' := dis_upd (o := .lst xs) d1 nT nH
      refine hb.run (G.mono (s1.trans sn) d1') hk _ fun v H2 s2 d2 p2 => ?_
      have hp : H2 p = some (.lst xs) := s2 p _ upd_same fun _ => HO.noConfusion
      refine ⟨p, k, xs, rfl, dp_int p2, by rw [ov_none nT]; exact hp, c.1, c.2.1, by rw [dpa_len px]; exact cap_line c.2.2, fun r nr => ?_⟩
      exact q r _ H2 ((s1.trans sn).trans s2) d2 nr (dpa_mono (sn.trans s2) (dpa_rep px _))
    · cases h
  · cases h
end
end DD

set_option Elab.async false
set_option linter.all false
set_option maxRecDepth 100000
set_option maxHeartbeats 4000000
/-! methods of texts that tell a number, a truth or a text -/
namespace DD
variable [TabQ] [ExQ]
open PySem PySem.Spec PyProof.Rows L2
section
variable {K : PySem.W.Frag}
abbrev rFindT : V → List V → Hp → VK → Prop := fun x xs H Q => ∃ a b, x = .str a ∧ xs = [.str b] ∧ Q (.int (Txt.find a b)) H
abbrev rStartsT : V → List V → Hp → VK → Prop := fun x xs H Q => ∃ a b, x = .str a ∧ xs = [.str b] ∧ Q (.bl (Txt.startswith a b)) H
abbrev rEndsT : V → List V → Hp → VK → Prop := fun x xs H Q => ∃ a b, x = .str a ∧ xs = [.str b] ∧ Q (.bl (Txt.endswith a b)) H
abbrev rIsT (f : Str → Bool) : V → List V → Hp → VK → Prop := fun x xs H Q => ∃ a, x = .str a ∧ xs = [] ∧ True ∧ Q (.bl (f a)) H
abbrev rStripT (f : Str → Str) : V → List V → Hp → VK → Prop := fun x xs H Q => ∃ a, x = .str a ∧ xs = [] ∧ a.length ≤ sizeLine ∧ Q (.str (f a)) H
def dFindT : D → D → Option D
  | .str a, .str b => some (.int (Txt.find a b))
  | _, _ => none
def dStartsT : D → D → Option D
  | .str a, .str b => some (.bool (Txt.startswith a b))
  | _, _ => none
def dEndsT : D → D → Option D
  | .str a, .str b => some (.bool (Txt.endswith a b))
  | _, _ => none
def dIsT (f : Str → Bool) : D → Option D
  | .str a => some (.bool (f a))
  | _ => none
def dStripT (f : Str → Str) : D → Option D
  | .str a => if a.length ≤ 16777216 then some (.str (f a)) else none
  | _ => none
theorem ev_txt1 {g : Str → Str → V} {f : Str → Str → D} {df : D → D → Option D} (hd : ∀ H a b, Dp K H (g a b) (f a b)) (hf : ∀ x y d, df x y = some d → ∃ a b, x = .str a ∧ y = .str b ∧ d = f a b) {to ta : TE} {mo ma : En → Option D} (ho : ET K to mo) (ha : ET K ta ma) :
    ET K (tBM K "str" (fun x xs H Q => ∃ a b, x = .str a ∧ xs = [.str b] ∧ Q (g a b) H) to (tCons ta tNil)) (mOp df mo ma) := by
  refine ⟨fun {H0 T0 σ ρ H T d} G h Q q => ?_⟩
  obtain ⟨x, hx, h⟩ := bind_some h
  obtain ⟨y, hy, h⟩ := bind_some h
  obtain ⟨a, b, rfl, rfl, rfl⟩ := hf _ _ _ h
  refine ho.run G hx _ fun v H1 s1 d1 p1 => ?_
  cases dp_str p1
  refine ⟨rfl, ?_⟩
  refine ha.run (G.mono s1 d1) hy _ fun u H2 s2 d2 p2 => ?_
  cases dp_str p2
  exact ⟨_, _, rfl, rfl, q _ H2 (s1.trans s2) d2 (hd _ _ _)⟩
theorem ev_findT {to ta : TE} {mo ma : En → Option D} (ho : ET K to mo) (ha : ET K ta ma) : ET K (tBM K "str" rFindT to (tCons ta tNil)) (mOp dFindT mo ma) :=
  ev_txt1 (g := fun a b => .int (Txt.find a b)) (f := fun a b => .int (Txt.find a b)) (fun _ _ _ => .int _) (fun x y d h => by
    unfold dFindT at h
    split at h <;> cases h
    exact ⟨_, _, rfl, rfl, rfl⟩) ho ha
theorem ev_startsT {to ta : TE} {mo ma : En → Option D} (ho : ET K to mo) (ha : ET K ta ma) : ET K (tBM K "str" rStartsT to (tCons ta tNil)) (mOp dStartsT mo ma) :=
  ev_txt1 (g := fun a b => .bl (Txt.startswith a b)) (f := fun a b => .bool (Txt.startswith a b)) (fun _ _ _ => .bl _) (fun x y d h => by
    unfold dStartsT at h
    split at h <;> cases h
    exact ⟨_, _, rfl, rfl, rfl⟩) ho ha
theorem ev_endsT {to ta : TE} {mo ma : En → Option D} (ho : ET K to mo) (ha : ET K ta ma) : ET K (tBM K "str" rEndsT to (tCons ta tNil)) (mOp dEndsT mo ma) :=
  ev_txt1 (g := fun a b => .bl (Txt.endswith a b)) (f := fun a b => .bool (Txt.endswith a b)) (fun _ _ _ => .bl _) (fun x y d h => by
    unfold dEndsT at h
    split at h <;> cases h
    exact ⟨_, _, rfl, rfl, rfl⟩) ho ha
theorem ev_isT {f : Str → Bool} {to : TE} {mo : En → Option D} (ho : ET K to mo) : ET K (tBM0 K "str" (rIsT f) to) (mUn (dIsT f) mo) := by
  refine ⟨fun {H0 T0 σ ρ H T d} G h Q q => ?_⟩
  obtain ⟨x, hx, h⟩ := bind_some h
  refine ho.run G hx _ fun v H1 s1 d1 p1 => ?_
  unfold dIsT at h
  split at h <;> cases h
  cases dp_str p1
  exact ⟨rfl, _, rfl, rfl, trivial, q _ H1 s1 d1 (.bl _)⟩
theorem ev_stripT {f : Str → Str} {to : TE} {mo : En → Option D} (ho : ET K to mo) : ET K (tBM0 K "str" (rStripT f) to) (mUn (dStripT f) mo) := by
  refine ⟨fun {H0 T0 σ ρ H T d} G h Q q => ?_⟩
  obtain ⟨x, hx, h⟩ := bind_some h
  refine ho.run G hx _ fun v H1 s1 d1 p1 => ?_
  unfold dStripT at h
  split at h
  · split at h
    · rename_i hz
      cases h
      cases dp_str p1
      exact ⟨rfl, _, rfl, rfl, by rw [sizeLine_eq]; exact hz, q _ H1 s1 d1 (.str _)⟩
    · cases h
  · cases h
end
end DD

set_option Elab.async false
set_option linter.all false
set_option maxRecDepth 100000
set_option maxHeartbeats 4000000
/-! an own list gets what may raise -/
namespace DD
variable [TabQ] [ExQ]
open PySem PySem.Spec PyProof.Rows L2
section
variable {K : PySem.W.Frag} {cl : Nat → Addr}
def xAppend (i : Nat) (a : En → Option Rs) : En → Option FlX := fun ρ => match ρ[i]? with
  | some (some (.own ds)) => (a ρ).bind fun r => match r with
    | .ok d => if ds.length < cap then some (.fl (.nx (ρ.set i (some (.own (ds ++ [d])))))) else none
    | .ex c => some (.ex c ρ)
  | _ => none
theorem sx_append {i : Nat} {te : WX → TE} {ma : En → Option Rs} (ha : EX K cl te ma) : SX K cl (fun W => tDrop (tBM K "list" rAppend (tVar i) (tCons (te W) tNil))) (xAppend i ma) := by
  refine ⟨fun {H0 T0 σ ρ H T f} G h W E q => ?_⟩
  unfold xAppend at h
  split at h
  · rename_i ds e
    obtain ⟨r, hr, h⟩ := bind_some h
    obtain ⟨p, xs, a, b, c, g⟩ := G.own i ds e
    refine ⟨.ref p, a, .inl ⟨rfl, xs, SqL.of (ov_own b)⟩, ?_⟩
    refine ha.run G hr W _ ?_
    cases r with
    | ok d =>
      have h : (if ds.length < cap then some (FlX.fl (.nx (ρ.set i (some (.own (ds ++ [d])))))) else none) = some f := h
      split at h
      · rename_i hz
        cases h
        intro v H1 s1 d1 p1
        refine ⟨p, xs, v, rfl, rfl, ov_own b, cap_lt (by rw [dpa_len g]; omega), ?_⟩
        rw [upd_put]
        exact q _ _ _ ((G.mono s1 d1).turn e a b (dpa_snoc (dpa_mono s1 g) p1))
      · cases h
    | ex c =>
      cases h
      exact fun H1 s1 d1 => q σ H1 T (G.mono s1 d1)
  · cases h
end
end DD

set_option Elab.async false
set_option linter.all false
set_option maxRecDepth 100000
set_option maxHeartbeats 4000000
/-! an own list goes on with a list or a tuple that is held -/
namespace DD
variable [TabQ] [ExQ]
open PySem PySem.Spec PyProof.Rows L2
theorem ext_lst (l : Addr) (items : Array Value) (n : Nat) (b : Addr) (items2 : Array Value) (n2 : Nat) (dd : Option Addr) (sl : Array (Option Value)) (c0 : ¬(!items.isEmpty && Builtin.List.listTooLong (items.size + items2.size)) = true) (c1 : items.size ≤ sizeLine) (c2 : items.size + items2.size ≤ sizeLine + 1) :
    Meets (Builtin.«list.extend» ⟨[.ref l, .ref b], []⟩) (fun _ R s => s.heap.get? l = some { cls := .type "list", dict := none, data := .seq items n, slots := #[] } ∧ s.heap.get? b = some { cls := .type "list", dict := dd, data := .seq items2 n2, slots := sl } ∧
      R (.ok (.ret Value.none)) { s with heap := s.heap.update l (Obj.mapSeq fun x => x ++ items2) }) :=
  .of_wp fun prog w A R s h => by
    obtain ⟨hp, g, d, tk, os⟩ := s
    obtain ⟨hl, hb, h⟩ := h
    have f1 := AutoSeq1.sub_tuple_tuple
    have f2 := AutoSeq1.sub_list_list
    have f3 := AutoSeq1.sub_tuple_list
    have f4 := AutoSeq1.sub_list_tuple
    have f5 : (items ++ items2).size ≤ sizeLine + 1 := by rw [Array.size_append]; exact c2
    wp_walk using (wpAny_updateSeq hl rfl (hz := c1) (_hz' := f5)), wpAny_loadPart' hl, wpAny_loadPart' hb
    exact ⟨_, rfl, h⟩
section
variable {X : Cx}
def rExtendL (K : PySem.W.Frag) : V → List V → Hp → VK → Prop := fun x vs H Q => ∃ l b xs zs, x = .ref l ∧ vs = [.ref b] ∧ H l = some (.lst xs) ∧ SqL K H b zs ∧ xs.length + zs.length ≤ sizeLine ∧ Q .non (upd H l (.lst (xs ++ zs)))
theorem mt_extendL : MtM X "list.extend" (rExtendL X.K) := by
  intro pins s σ H x vs v us Q I rx rv h
  obtain ⟨l, b, xs, zs, rfl, rfl, hH, hB, hz, q⟩ := h
  cases rx
  obtain ⟨u, rfl, ru⟩ := rv.one
  cases ru
  obtain ⟨z, its, n, r, hl, e⟩ := I.lstM hH
  obtain ⟨its2, r2, ⟨⟨cls2, dd2, data2, sl2⟩, n2, e2, hc2, hn2, hd2⟩, z2⟩ := I.list hB
  simp only at hc2 hd2
  subst hc2 hd2
  have l2 := r2.length
  have sz : its.toArray.size + its2.toArray.size ≤ sizeLine := by rw [List.size_toArray, List.size_toArray]; omega
  have nl : ¬ (!its.toArray.isEmpty && Builtin.List.listTooLong (its.toArray.size + its2.toArray.size)) = true := by
    rw [notLongL sz, Bool.and_false]
    exact Bool.false_ne_true
  refine call_meets F.slot_list_extend ⟨_, e, rfl⟩ F.entry_list_extend (F.args_list_extend_2 _ _)
    (ext_lst l its.toArray n b its2.toArray n2 dd2 sl2 nl (by omega) (by omega)) ⟨e, e2, ?_⟩
  refine ⟨.non, _, I.lset (its' := its ++ its2) hH e (by simp) (r.append r2) ?_, rfl, q⟩
  rw [List.length_append]
  omega
def rExtendV (K : PySem.W.Frag) : V → List V → Hp → VK → Prop := fun x vs H Q => rExtendA K x vs H Q ∨ rExtendL K x vs H Q
theorem mt_extendV : MtM X "list.extend" (rExtendV X.K) := by
  intro pins s σ H x vs v us Q I rx rv h
  rcases h with h | h
  · exact mt_extendA pins s σ H x vs v us Q I rx rv h
  · exact mt_extendL pins s σ H x vs v us Q I rx rv h
end
section
variable {K : PySem.W.Frag} {cl : Nat → Addr}
def extV (ρ : En) (i : Nat) (ds : List D) : D → Option En
  | .tuple es => if ds.length + es.length ≤ cap then some (ρ.set i (some (.own (ds ++ es)))) else none
  | .list es => if ds.length + es.length ≤ cap then some (ρ.set i (some (.own (ds ++ es)))) else none
  | _ => none
def sExtendV (i : Nat) (a : En → Option D) : En → Option Fl := fun ρ => match ρ[i]? with
  | some (some (.own ds)) => (a ρ).bind fun x => (extV ρ i ds x).map .nx
  | _ => none
def xExtendV (i : Nat) (a : En → Option Rs) : En → Option FlX := fun ρ => match ρ[i]? with
  | some (some (.own ds)) => (a ρ).bind fun r => match r with
    | .ok x => (extV ρ i ds x).map fun ρ2 => .fl (.nx ρ2)
    | .ex c => some (.ex c ρ)
  | _ => none
theorem extV_run {H0 : Hp} {T0 : Ov} {σ : L2.St} {ρ ρ2 : En} {H H1 : Hp} {T : Ov} {i : Nat} {ds : List D} {x : D} {v : V} {Q : VK} (G : Good K H0 T0 σ ρ H T) (e : ρ[i]? = some (some (.own ds))) {p : Addr} {xs : List V} (a : σ[i]? = some (some (.ref p))) (b : T p = some xs) (g : DpAll K H xs ds)
    (h : extV ρ i ds x = some ρ2) (s1 : Same H H1) (d1 : Dis H1 T) (p1 : Dp K H1 v x) (q : ∀ H2 T2, Good K H0 T0 σ ρ2 H2 T2 → Q .non (ov H2 T2)) : rExtendV K (.ref p) [v] (ov H1 T) Q := by
  have G1 := G.mono s1 d1
  have gx := dpa_mono s1 g
  unfold extV at h
  split at h
  · rename_i es
    split at h
    · rename_i hz
      cases h
      obtain ⟨pt, zs, rfl, hs, gz⟩ := dp_tup p1
      refine .inl ⟨p, pt, xs, zs, rfl, rfl, ov_own b, sqt_ov d1 hs, ?_, ?_⟩
      · rw [dpa_len gx, dpa_len gz]
        exact cap_line hz
      · rw [upd_put]
        exact q H1 _ (G1.turn e a b (dpa_append gx gz))
    · cases h
  · rename_i es
    split at h
    · rename_i hz
      cases h
      obtain ⟨pt, zs, rfl, hs, gz⟩ := dp_lst p1
      refine .inr ⟨p, pt, xs, zs, rfl, rfl, ov_own b, sql_ov d1 hs, ?_, ?_⟩
      · rw [dpa_len gx, dpa_len gz]
        exact cap_line hz
      · rw [upd_put]
        exact q H1 _ (G1.turn e a b (dpa_append gx gz))
    · cases h
  · cases h
theorem st_extendV {i : Nat} {te : TE} {ma : En → Option D} (ha : ET K te ma) : TSm K (tDrop (tBM K "list" (rExtendV K) (tVar i) (tCons te tNil))) (sExtendV i ma) := by
  refine ⟨fun {H0 T0 σ ρ H T f} G h E q => ?_⟩
  unfold sExtendV at h
  split at h
  · rename_i ds e
    obtain ⟨x, hx, h⟩ := bind_some h
    obtain ⟨ρ2, h2, e2⟩ := map_some h
    subst e2
    obtain ⟨p, xs, a, b, c, g⟩ := G.own i ds e
    refine ⟨.ref p, a, .inl ⟨rfl, xs, SqL.of (ov_own b)⟩, ?_⟩
    refine ha.run G hx _ fun v H1 s1 d1 p1 => ?_
    exact extV_run G e a b g h2 s1 d1 p1 fun H2 T2 G2 => q σ H2 T2 G2
  · cases h
theorem sx_extendV {i : Nat} {te : WX → TE} {ma : En → Option Rs} (ha : EX K cl te ma) : SX K cl (fun W => tDrop (tBM K "list" (rExtendV K) (tVar i) (tCons (te W) tNil))) (xExtendV i ma) := by
  refine ⟨fun {H0 T0 σ ρ H T f} G h W E q => ?_⟩
  unfold xExtendV at h
  split at h
  · rename_i ds e
    obtain ⟨r, hr, h⟩ := bind_some h
    obtain ⟨p, xs, a, b, c, g⟩ := G.own i ds e
    refine ⟨.ref p, a, .inl ⟨rfl, xs, SqL.of (ov_own b)⟩, ?_⟩
    refine ha.run G hr W _ ?_
    cases r with
    | ok x =>
      obtain ⟨ρ2, h2, e2⟩ := map_some h
      subst e2
      intro v H1 s1 d1 p1
      exact extV_run G e a b g h2 s1 d1 p1 fun H2 T2 G2 => q σ H2 T2 G2
    | ex c =>
      cases h
      exact fun H1 s1 d1 => q σ H1 T (G.mono s1 d1)
  · cases h
end
end DD

set_option Elab.async false
set_option linter.all false
set_option maxRecDepth 100000
set_option maxHeartbeats 4000000
/-! a list that is handed in and changed; a loop over reversed(..) -/
namespace DD
variable [TabQ] [ExQ]
open PySem PySem.Spec PyProof.Rows L2 RT
section
variable {K : PySem.W.Frag}
/-- a def of n data and a list that it changes -/
def spIO (K : PySem.W.Frag) (n : Nat) (m : List D → List D → Option (List D)) : Sp := fun vs Hx Q _ => ∃ us ds p xs es es' H T, vs = us ++ [V.ref p] ∧ DpAll K H us ds ∧ ds.length = n ∧ T p = some xs ∧ DpAll K H xs es ∧ m ds es = some es' ∧ Hx = ov H T ∧ Dis H T ∧ ∀ H' xs', Same H H' → Dis H' T → DpAll K H' xs' es' → Q .non (ov H' (put T p xs'))
theorem cut_same {T : Ov} {p : Addr} : cut T p p = none := by unfold cut; rw [if_pos rfl]
theorem cut_ne {T : Ov} {p a : Addr} (h : a ≠ p) : cut T p a = T a := by unfold cut; rw [if_neg h]
def NoOwn (ρ : En) : Prop := ∀ (j : Nat) (ds : List D), ρ[j]? ≠ some (some (Sl.own ds))
theorem good_put {H0 H : Hp} {T0 T : Ov} {σ : L2.St} {ρ : En} {p : Addr} {xs ys : List V} (G : Good K H0 T0 σ ρ H T) (no : NoOwn ρ) (h0 : T0 p = none) (ht : T p = some xs) : Good K H0 T0 σ ρ H (put T p ys) :=
  ⟨G.len, G.val, fun i ds h => absurd h (no i ds), fun i j ds es a h1 => absurd h1 (no i ds), dis_put G.dis (G.dis p xs ht), fun a zs e => by
    have : a ≠ p := fun z => by rw [z, h0] at e; cases e
    rw [put_ne this]; exact G.ext a zs e, G.ex, G.exc⟩
/-- a statement of such a def: i the slot of the list -/
structure TSp (K : PySem.W.Frag) (i : Nat) (t : TS) (m : En → List D → Option (En × List D)) : Prop where
  run : ∀ {H0 : Hp} {T0 : Ov} {σ : L2.St} {ρ ρ' : En} {H : Hp} {T : Ov} {p : Addr} {xs : List V} {es es' : List D}, Good K H0 T0 σ ρ H T → NoOwn ρ → σ[i]? = some (some (V.ref p)) → ρ[i]? = some none → T0 p = none → T p = some xs → DpAll K H xs es →
    m ρ es = some (ρ', es') → ∀ E : Ends, (∀ σ' H' T' xs', Good K H0 T0 σ' ρ' H' T' → NoOwn ρ' → σ'[i]? = some (some (V.ref p)) → ρ'[i]? = some none → T' p = some xs' → DpAll K H' xs' es' → E.nx σ' (ov H' T')) → t E σ (ov H T)
def iSeq (a b : En → List D → Option (En × List D)) : En → List D → Option (En × List D) := fun ρ es => (a ρ es).bind fun x => b x.1 x.2
def iNext : En → List D → Option (En × List D) := fun ρ es => some (ρ, es)
def iIf (c : En → Option Bool) (a b : En → List D → Option (En × List D)) : En → List D → Option (En × List D) := fun ρ es => (c ρ).bind fun x => if x = true then a ρ es else b ρ es
def iSet (j : Nat) (a : En → Option D) : En → List D → Option (En × List D) := fun ρ es => (a ρ).map fun d => (ρ.set j (some (.val d)), es)
def iAppend (a : En → Option D) : En → List D → Option (En × List D) := fun ρ es => (a ρ).bind fun d => if es.length < cap then some (ρ, es ++ [d]) else none
def extIO (es : List D) : D → Option (List D)
  | .tuple fs => if es.length + fs.length ≤ cap then some (es ++ fs) else none
  | .list fs => if es.length + fs.length ≤ cap then some (es ++ fs) else none
  | _ => none
def iExtend (a : En → Option D) : En → List D → Option (En × List D) := fun ρ es => (a ρ).bind fun d => (extIO es d).map fun fs => (ρ, fs)
def iCall (mf : List D → List D → Option (List D)) (a : En → Option D) : En → List D → Option (En × List D) := fun ρ es => (a ρ).bind fun d => (mf [d] es).map fun fs => (ρ, fs)
def iLoop (g : D → En → Option En) (b : En → List D → Option (En × List D)) : List D → En → List D → Option (En × List D)
  | [], ρ, es => some (ρ, es)
  | d :: ds, ρ, es => (g d ρ).bind fun ρ1 => (b ρ1 es).bind fun x => iLoop g b ds x.1 x.2
def iFor (it : En → Option (List D)) (j : Nat) (b : En → List D → Option (En × List D)) : En → List D → Option (En × List D) := fun ρ es => (it ρ).bind fun ds => iLoop (gSet j) b ds ρ es
theorem noOwn_set {ρ : En} {j : Nat} {d : D} (no : NoOwn ρ) : NoOwn (ρ.set j (some (.val d))) := fun i ds h => by
  rcases get_set h with ⟨_, q, _⟩ | ⟨_, q⟩
  · cases q
  · exact no i ds q
variable {i : Nat} {t u : TS} {m1 m2 : En → List D → Option (En × List D)}
theorem tsp_next : TSp K i tNext iNext := ⟨fun {H0 T0 σ ρ ρ' H T p xs es es'} G no a r h0 b g h E q => by
  cases h
  exact q σ H T xs G no a r b g⟩
theorem tsp_seq (h1 : TSp K i t m1) (h2 : TSp K i u m2) : TSp K i (tSeq t u) (iSeq m1 m2) := by
  refine ⟨fun {H0 T0 σ ρ ρ' H T p xs es es'} G no a r h0 b g h E q => ?_⟩
  obtain ⟨⟨ρ1, es1⟩, e1, h⟩ := bind_some h
  exact h1.run G no a r h0 b g e1 _ fun σ1 H1 T1 xs1 G1 no1 a1 r1 b1 g1 => h2.run G1 no1 a1 r1 h0 b1 g1 h E q
theorem tsp_if {tc : TT} {mc : En → Option Bool} (hc : TTm K tc mc) (h1 : TSp K i t m1) (h2 : TSp K i u m2) : TSp K i (tIfS tc t u) (iIf mc m1 m2) := by
  refine ⟨fun {H0 T0 σ ρ ρ' H T p xs es es'} G no a r h0 b g h E q => ?_⟩
  obtain ⟨x, hx, h⟩ := bind_some h
  refine hc.run G hx _ fun H1 s1 d1 => ?_
  cases x with
  | true =>
    rw [if_pos rfl] at h ⊢
    exact h1.run (G.mono s1 d1) no a r h0 b (dpa_mono s1 g) h E q
  | false =>
    rw [if_neg Bool.false_ne_true] at h ⊢
    exact h2.run (G.mono s1 d1) no a r h0 b (dpa_mono s1 g) h E q
theorem tsp_set {j : Nat} {te : TE} {ma : En → Option D} (hj : j ≠ i) (ha : ET K te ma) : TSp K i (tAsg te (gName j)) (iSet j ma) := by
  refine ⟨fun {H0 T0 σ ρ ρ' H T p xs es es'} G no a r h0 b g h E q => ?_⟩
  obtain ⟨d, hd, e⟩ := map_some h
  cases e
  refine ha.run G hd _ fun v H1 s1 d1 p1 => ?_
  exact q (σ.set j (some v)) H1 T xs ((G.mono s1 d1).set p1) (noOwn_set no) (by rw [List.getElem?_set_ne hj]; exact a) (by rw [List.getElem?_set_ne hj]; exact r) b (dpa_mono s1 g)
theorem tsp_append {te : TE} {ma : En → Option D} (ha : ET K te ma) : TSp K i (tDrop (tBM K "list" rAppend (tVar i) (tCons te tNil))) (iAppend ma) := by
  refine ⟨fun {H0 T0 σ ρ ρ' H T p xs es es'} G no a r h0 b g h E q => ?_⟩
  obtain ⟨d, hd, h⟩ := bind_some h
  split at h
  · rename_i hz
    cases h
    refine ⟨.ref p, a, .inl ⟨rfl, xs, SqL.of (ov_own b)⟩, ?_⟩
    refine ha.run G hd _ fun v H1 s1 d1 p1 => ?_
    refine ⟨p, xs, v, rfl, rfl, ov_own b, cap_lt (by rw [dpa_len g]; omega), ?_⟩
    rw [upd_put]
    exact q σ H1 _ (xs ++ [v]) (good_put (G.mono s1 d1) no h0 b) no a r put_same (dpa_snoc (dpa_mono s1 g) p1)
  · cases h
theorem tsp_extend {te : TE} {ma : En → Option D} (ha : ET K te ma) : TSp K i (tDrop (tBM K "list" (rExtendV K) (tVar i) (tCons te tNil))) (iExtend ma) := by
  refine ⟨fun {H0 T0 σ ρ ρ' H T p xs es es'} G no a r h0 b g h E q => ?_⟩
  obtain ⟨x, hx, h⟩ := bind_some h
  obtain ⟨fs, hf, e⟩ := map_some h
  cases e
  refine ⟨.ref p, a, .inl ⟨rfl, xs, SqL.of (ov_own b)⟩, ?_⟩
  refine ha.run G hx _ fun v H1 s1 d1 p1 => ?_
  have gx := dpa_mono s1 g
  unfold extIO at hf
  split at hf
  · rename_i fs
    split at hf
    · rename_i hz
      cases hf
      obtain ⟨pt, zs, rfl, hs, gz⟩ := dp_tup p1
      refine .inl ⟨p, pt, xs, zs, rfl, rfl, ov_own b, sqt_ov d1 hs, ?_, ?_⟩
      · rw [dpa_len gx, dpa_len gz]
        exact cap_line hz
      · rw [upd_put]
        exact q σ H1 _ _ (good_put (G.mono s1 d1) no h0 b) no a r put_same (dpa_append gx gz)
    · cases hf
  · rename_i fs
    split at hf
    · rename_i hz
      cases hf
      obtain ⟨pt, zs, rfl, hs, gz⟩ := dp_lst p1
      refine .inr ⟨p, pt, xs, zs, rfl, rfl, ov_own b, sql_ov d1 hs, ?_, ?_⟩
      · rw [dpa_len gx, dpa_len gz]
        exact cap_line hz
      · rw [upd_put]
        exact q σ H1 _ _ (good_put (G.mono s1 d1) no h0 b) no a r put_same (dpa_append gx gz)
    · cases hf
  · cases hf
theorem tsp_call {mf : List D → List D → Option (List D)} {X : XK} {te : TE} {ma : En → Option D} (ha : ET K te ma) : TSp K i (tDrop (tCall (spIO K 1 mf) [] X (tCons te (tCons (tVar i) tNil)))) (iCall mf ma) := by
  refine ⟨fun {H0 T0 σ ρ ρ' H T p xs es es'} G no a r h0 b g h E q => ?_⟩
  obtain ⟨d, hd, h⟩ := bind_some h
  obtain ⟨fs, hf, e⟩ := map_some h
  cases e
  refine ha.run G hd _ fun v H1 s1 d1 p1 => ?_
  refine ⟨.ref p, a, ?_⟩
  refine ⟨[v], [d], p, xs, es, es', H1, T, rfl, .cons p1 .nil, rfl, b, dpa_mono s1 g, hf, rfl, d1, fun H2 xs2 s2 d2 p2 => ?_⟩
  exact q σ H2 _ xs2 (good_put (G.mono (s1.trans s2) d2) no h0 b) no a r put_same p2
theorem tsp_for {wi : TI} {mi : En → Option (List D)} {j : Nat} (hj : j ≠ i) (hi : IT K wi mi) (hb : TSp K i t m1) : TSp K i (tFor wi (gName j) t) (iFor mi j m1) := by
  refine ⟨fun {H0 T0 σ ρ ρ' H T p xs es es'} G no a r h0 b g h E q => ?_⟩
  obtain ⟨ds, hd, h⟩ := bind_some h
  refine hi.run G hd _ fun J Hm s1 d1 w => ?_
  refine ⟨fun n m σ Hc => n ≤ ds.length ∧ m = ds.length - n ∧ ∃ ρ H T xs es, Hc = ov H T ∧ Good K H0 T0 σ ρ H T ∧ NoOwn ρ ∧ σ[i]? = some (some (V.ref p)) ∧ ρ[i]? = some none ∧ T p = some xs ∧ DpAll K H xs es ∧ Same Hm H ∧ iLoop (gSet j) m1 (ds.drop n) ρ es = some (ρ', es'),
    ⟨ds.length, Nat.zero_le _, rfl, ρ, Hm, T, xs, es, rfl, G.mono s1 d1, no, a, r, b, dpa_mono s1 g, Same.refl Hm, h⟩, ?_⟩
  rintro n m σ1 Hc ⟨hn, rfl, ρ1, H1, T1, xs1, es1, rfl, G1, no1, a1, r1, b1, g1, sm, hl⟩
  by_cases hlt : n < ds.length
  · have hge : ds[n]? = some ds[n] := List.getElem?_eq_getElem hlt
    rw [List.drop_eq_getElem_cons hlt] at hl
    obtain ⟨ρ2, h2, hl⟩ := bind_some hl
    cases h2
    obtain ⟨⟨ρ3, es3⟩, h3, hl⟩ := bind_some hl
    refine .inr ⟨w.go n sm G1.dis hlt, fun σ Hc => ∃ ρ H T xs es, Hc = ov H T ∧ Good K H0 T0 σ ρ H T ∧ NoOwn ρ ∧ σ[i]? = some (some (V.ref p)) ∧ ρ[i]? = some none ∧ T p = some xs ∧ DpAll K H xs es ∧ Same Hm H ∧ iLoop (gSet j) m1 (ds.drop (n + 1)) ρ es = some (ρ', es'),
      fun σ' Hc' ⟨ρ', H', T', xs', es', e', G', r'⟩ => ⟨ds.length - (n + 1), by omega, by omega, rfl, ρ', H', T', xs', es', e', G', r'⟩, fun x Hc' y => ?_⟩
    obtain ⟨H2, rfl, s2, d2, p2⟩ := w.yld n sm G1.dis hge y
    have G2 : Good K H0 T0 (σ1.set j (some x)) (ρ1.set j (some (.val ds[n]))) H2 T1 := (G1.mono s2 d2).set p2
    have s02 : Same H0 H2 := G2.ex
    refine hb.run (H0 := H2) (T0 := T0) (p := p) (H := H2) (T := T1) ⟨G2.len, G2.val, G2.own, G2.inj, G2.dis, G2.ext, Same.refl H2, G2.exc⟩ (noOwn_set no1) (by rw [List.getElem?_set_ne hj]; exact a1) (by rw [List.getElem?_set_ne hj]; exact r1) h0 b1 (dpa_mono s2 g1) h3 _ ?_
    intro σ4 H4 T4 xs4 G4 no4 a4 r4 b4 g4
    exact ⟨ρ3, H4, T4, xs4, es3, rfl, ⟨G4.len, G4.val, G4.own, G4.inj, G4.dis, G4.ext, s02.trans G4.ex, G4.exc⟩, no4, a4, r4, b4, g4, (sm.trans s2).trans G4.ex, hl⟩
  · have e : n = ds.length := by omega
    subst e
    rw [List.drop_length] at hl
    cases hl
    exact .inl ⟨w.stop sm G1.dis, q σ1 H1 T1 xs1 G1 no1 a1 r1 b1 g1⟩
/-- the mirror of a def that changes the list that it gets last -/
def ioDef (N : Nat) (b : En → List D → Option (En × List D)) (ds es : List D) : Option (List D) := (b (start0 N ds) es).map (·.2)
theorem good_startIO {N : List Str} {vs : List V} {ds : List D} {H : Hp} {T : Ov} {p : Addr} (h : DpAll K H vs ds) (hN : ds.length < N.length) (d : Dis H T) : Good K H (cut T p) (start N (vs ++ [V.ref p])) (start0 N.length ds) H T ∧ NoOwn (start0 N.length ds) ∧ (start N (vs ++ [V.ref p]))[ds.length]? = some (some (V.ref p)) ∧ (start0 N.length ds)[ds.length]? = some none := by
  have hl := dpa_len h
  have at0 : ∀ (i : Nat) (s : Sl), (start0 N.length ds)[i]? = some (some s) → ∃ d, ds[i]? = some d ∧ s = .val d := by
    intro i s e
    unfold start0 at e
    by_cases hi : i < ds.length
    · rw [List.getElem?_append_left (by simpa using hi), List.getElem?_map, List.getElem?_eq_getElem hi] at e
      cases e
      exact ⟨ds[i], List.getElem?_eq_getElem hi, rfl⟩
    · rw [List.getElem?_append_right (by simpa using hi), List.getElem?_replicate] at e
      split at e <;> cases e
  have no : NoOwn (start0 N.length ds) := fun j es e => by
    obtain ⟨d, _, z⟩ := at0 j _ e
    cases z
  refine ⟨⟨?_, fun i x e => ?_, fun i x e => absurd e (no i x), fun i j as bs p e1 e2 _ _ => absurd e1 (no i as), d, fun a xs e => ?_, Same.refl H, fun i c e => ?_⟩, no, ?_, ?_⟩
  · unfold L2.start start0
    rw [List.length_append, List.length_append, List.length_map, List.length_map, List.length_replicate, List.length_replicate, List.length_append, hl, List.length_singleton]
    omega
  · obtain ⟨d, hd, es⟩ := at0 i _ e
    cases es
    obtain ⟨v, hv, g⟩ := dpa_get h hd
    refine ⟨v, ?_, g⟩
    have hi : i < vs.length := by
      have := List.getElem?_eq_some_iff.mp hv
      exact this.1
    unfold L2.start
    rw [List.getElem?_append_left (by rw [List.length_map, List.length_append]; omega), List.getElem?_map, List.getElem?_append_left hi, hv]
    rfl
  · by_cases q : a = p
    · rw [q, cut_same] at e; cases e
    · rw [cut_ne q] at e; exact e
  · obtain ⟨d, _, z⟩ := at0 i _ e
    cases z
  · unfold L2.start
    rw [List.getElem?_append_left (by rw [List.length_map, List.length_append, hl, List.length_singleton]; omega), List.getElem?_map, List.getElem?_append_right (by omega), hl, Nat.sub_self]
    rfl
  · unfold start0
    rw [List.getElem?_append_right (by rw [List.length_map]; exact Nat.le_refl _), List.length_map, Nat.sub_self, List.getElem?_replicate, if_pos (by omega)]
theorem def_okIO {P : Program} {w : World} {mg : Str → Option Value} {base : Heap} {x qual : Str} {st : Stmt} {f : Addr} {fd : FuncData} {N ps : List Str} {k n : Nat} {mb : En → List D → Option (En × List D)} (F : Fun K x qual st f fd) (S : FnScope N ps (defScope st)) (hn : ps.length = n + 1) (hN : n < N.length)
    (hbody : ∀ (cdv : Value) (A : Around) (outer : List Env) (s : Shared) (H : Hp) (E : XK), Room k (A.deeper (envOfC qual (defScope st) s.heap.objs.size f cdv)) →
      ∃ t, PSs (cxOf CX0 P w K mg base N qual (defScope st) f cdv A outer s H E).nox (defBody st) t ∧ TSp K n t mb) : FnOk P w K mg base CX0 (k + 1) f fd ps (spIO K n (ioDef N.length mb)) := by
  refine F.ok S (fun vs H Q E h => ?_) (fun cdv A outer s Hx vs Q E hr h => ?_)
  · obtain ⟨us, ds, p, xs, es, es', H, T, rfl, g, hz, _⟩ := h
    rw [List.length_append, dpa_len g, hz, hn]; rfl
  · obtain ⟨us, ds, p, xs, es, es', H, T, rfl, g, hz, b, gx, hm, rfl, dis, q⟩ := h
    obtain ⟨t, pt, m⟩ := hbody cdv A outer s (ov H T) E hr
    refine ⟨t, pt, ?_⟩
    obtain ⟨⟨ρ', es2⟩, hf, e⟩ := map_some hm
    cases e
    obtain ⟨G, no, a, r⟩ := good_startIO (p := p) g (by rw [hz]; exact hN) dis
    rw [hz] at a r
    refine m.run G no a r cut_same b gx hf _ ?_
    intro σ' H' T' xs' G' no' a' r' b' g'
    have d0 : Dis H (put T p xs') := dis_put dis (dis p xs b)
    have e0 : Ext (put T p xs') T' := fun c ys e => by
      by_cases z : c = p
      · rw [z, put_same] at e; cases e; rw [z]; exact b'
      · rw [put_ne z] at e
        exact G'.ext c ys (by rw [cut_ne z]; exact e)
    obtain ⟨H2, e2, s2, d2, s3⟩ := back d0 G'.ex G'.dis e0
    show Q .non (ov H' T')
    rw [e2]
    refine q H2 xs' s2 (dis_less d2 fun c ys e => ?_) (dpa_mono s3 g')
    by_cases z : c = p
    · exact ⟨xs', by rw [z]; exact put_same⟩
    · exact ⟨ys, by rw [put_ne z]; exact e⟩
theorem fn_recIO {P : Program} {w : World} {mg : Str → Option Value} {base : Heap} {CX : CXT} {k c : Nat} {f : Addr} {fd : FuncData} {ps : List Str} {m : Nat → List D → List D → Option (List D)} (h0 : m 0 = fun _ _ => none) (hs : ∀ n, FnOk P w K mg base CX (k + n) f fd ps (spIO K c (m n)) → FnOk P w K mg base CX (k + n + 1) f fd ps (spIO K c (m (n + 1)))) : ∀ n, FnOk P w K mg base CX (k + n) f fd ps (spIO K c (m n))
  | 0 => by
    rw [h0]
    refine ⟨fun vs H Q E x => ?_, fun A outer s H args us vs Q E hr e0 hb r x => ?_⟩
    · obtain ⟨us, ds, p, xs, es, es', H, T, _, _, _, _, _, z, _⟩ := x
      cases z
    · obtain ⟨us, ds, p, xs, es, es', H, T, _, _, _, _, _, z, _⟩ := x
      cases z
  | n + 1 => hs n (fn_recIO h0 hs n)
/-- the call, an own list handed in -/
def sIO (i : Nat) (mf : List D → List D → Option (List D)) (a : En → Option D) : En → Option Fl := fun ρ => match ρ[i]? with
  | some (some (.own es)) => (a ρ).bind fun d => (mf [d] es).map fun fs => .nx (ρ.set i (some (.own fs)))
  | _ => none
theorem st_io {mf : List D → List D → Option (List D)} {X : XK} {te : TE} {ma : En → Option D} (ha : ET K te ma) : TSm K (tDrop (tCall (spIO K 1 mf) [] X (tCons te (tCons (tVar i) tNil)))) (sIO i mf ma) := by
  refine ⟨fun {H0 T0 σ ρ H T f} G h E q => ?_⟩
  unfold sIO at h
  split at h
  · rename_i es e
    obtain ⟨d, hd, h⟩ := bind_some h
    obtain ⟨fs, hf, e3⟩ := map_some h
    cases e3
    obtain ⟨p, xs, a, b, c, g⟩ := G.own i es e
    refine ha.run G hd _ fun v H1 s1 d1 p1 => ?_
    refine ⟨.ref p, a, ?_⟩
    refine ⟨[v], [d], p, xs, es, fs, H1, T, rfl, .cons p1 .nil, rfl, b, dpa_mono s1 g, hf, rfl, d1, fun H2 xs2 s2 d2 p2 => ?_⟩
    exact q σ H2 _ ((G.mono (s1.trans s2) d2).turn e a b p2)
  · cases h
end
/-! ### reversed -/
section
variable {K : PySem.W.Frag}
def mRev (a : En → Option D) : En → Option (List D) := fun ρ => (a ρ).bind fun x => match x with
  | .list ds => some ds.reverse
  | .tuple ds => some ds.reverse
  | _ => none
theorem it_rev {te : TE} {ma : En → Option D} (ha : ET K te ma) : IT K (iRevA K te) (mRev ma) := by
  refine ⟨fun {H0 T0 σ ρ H T ds} G h R q => ?_⟩
  obtain ⟨x, hx, h⟩ := bind_some h
  refine ha.run G hx _ fun v H1 s1 d1 p1 => ?_
  have back : ∀ {xs : List V} {es : List D} {i : Nat} {d : D}, DpAll K H1 xs es → es.reverse[i]? = some d → ∃ w, xs[xs.length - 1 - i]? = some w ∧ Dp K H1 w d := fun {xs es i d} g hd => by
    have hi : i < es.length := by
      have := List.getElem?_eq_some_iff.mp hd
      simpa using this.1
    rw [List.getElem?_reverse hi] at hd
    rw [dpa_len g]
    exact dpa_get g hd
  split at h
  · rename_i es
    cases h
    obtain ⟨p, xs, rfl, hs, g⟩ := dp_lst p1
    refine ⟨p, xs, rfl, .inl ⟨sql_ov d1 hs, q _ H1 s1 d1 ⟨fun {H T} i sm dis hi => ?_, fun {H T} sm dis => ?_, fun {H T} i {x Hc d} sm dis hd y => ?_⟩⟩⟩
    · rw [List.length_reverse, ← dpa_len g] at hi
      refine ⟨hi, xs, xs[xs.length - 1 - i], sql_ov dis (sm.seq hs), ?_⟩
      rw [List.getElem?_eq_getElem]
    · show xs.length ≤ es.reverse.length
      rw [List.length_reverse, dpa_len g]; exact Nat.le_refl _
    · obtain ⟨rfl, y⟩ := y
      obtain ⟨w, hw, gw⟩ := back g hd
      have := y xs (sql_ov dis (sm.seq hs))
      rw [hw] at this
      cases this
      exact ⟨H, rfl, Same.refl H, dis, dp_mono sm gw⟩
  · rename_i es
    cases h
    obtain ⟨p, xs, rfl, hs, g⟩ := dp_tup p1
    refine ⟨p, xs, rfl, .inr ⟨sqt_ov d1 hs, q _ H1 s1 d1 ⟨fun {H T} i sm dis hi => ?_, fun {H T} sm dis => ?_, fun {H T} i {x Hc d} sm dis hd y => ?_⟩⟩⟩
    · rw [List.length_reverse, ← dpa_len g] at hi
      refine ⟨hi, xs, xs[xs.length - 1 - i], sqt_ov dis (Same.sqt sm hs), ?_⟩
      rw [List.getElem?_eq_getElem]
    · show xs.length ≤ es.reverse.length
      rw [List.length_reverse, dpa_len g]; exact Nat.le_refl _
    · obtain ⟨rfl, y⟩ := y
      obtain ⟨w, hw, gw⟩ := back g hd
      have := y xs (sqt_ov dis (Same.sqt sm hs))
      rw [hw] at this
      cases this
      exact ⟨H, rfl, Same.refl H, dis, dp_mono sm gw⟩
  · cases h
end
end DD

set_option Elab.async false
set_option linter.all false
set_option maxRecDepth 100000
set_option maxHeartbeats 4000000
/-! t.index(x) of a tuple -/
namespace DD
variable [TabQ] [ExQ]
open PySem PySem.Spec PyProof.Rows L2
section
variable {X : Cx}
def rIndexT (K : PySem.W.Frag) : V → List V → Hp → VK → Prop := fun x xs H Q => ∃ (a : Addr) (y : V) (d : PyData) (ds : List PyData) (j : Nat) (z : PyData), x = V.ref a ∧ xs = [y] ∧ Dp K H (V.ref a) (.tuple ds) ∧ Dp K H y d ∧
  SeqAt.shaped (.tuple ds) = true ∧ SeqAt.shaped d = true ∧ ds[j]? = some z ∧ PyData.eqv z d = true ∧ (∀ (m : Nat) (z' : PyData), m < j → ds[m]? = some z' → PyData.eqv z' d = false) ∧ Q (.int (j : Nat)) H
theorem mt_indexT (hu : X.A.units + 65 < cLine) : MtR X "tuple.index" (rIndexT X.K) := by
  intro pins s σ H x xs v us Q I rx rxs h
  obtain ⟨a, y, d, ds, j, z, rfl, rfl, hl, hy, sl, sd, hz, hzj, hno, q⟩ := h
  cases rx
  cases rxs with
  | cons ry rt =>
    rename_i uy ut
    cases rt
    obtain ⟨bs, r1⟩ := Dp.reads I d y uy hy ry
    have hxs : PyData.canLayAll0 ds = true := SeqAt.canLay_of_shaped sl
    have hroom : X.A.units + 1 + min (PyData.depthAll ds) d.depth < cLine := room_in_shaped sd hu
    cases hl with
    | tup hs ha =>
      obtain ⟨its, rv, ⟨⟨cls, dd, data, sls⟩, ho, hc, n, hdt⟩, hlen⟩ := I.tuple hs
      simp only at hc hdt
      subst hc hdt
      obtain ⟨as, h4⟩ := Dp.readsAll I ds _ its ha rv
      have hn : its.length = ds.length := SeqAt.ReadsAll.length ds its as h4
      have hmap : its.map (SeqAt.readOf s.heap) = ds := SeqAt.readsAll_map ds its as hxs h4
      have hvl := rv.length
      have hsl := sizeLine_eq
      obtain ⟨hjd, _⟩ := List.getElem?_eq_some_iff.mp hz
      have hjl : j < its.length := by omega
      have hj : j < its.toArray.size := by simpa using hjl
      have at_ : ∀ (m : Nat) (hm : m < its.toArray.size) (z' : PyData), ds[m]? = some z' → SeqAt.readOf s.heap its.toArray[m] = z' := by
        intro m hm z' hz'
        have hml : m < its.length := by simpa using hm
        rw [← hmap, List.getElem?_map, List.getElem?_eq_getElem hml] at hz'
        have e1 : SeqAt.readOf s.heap its[m] = z' := Option.some.inj (show some (SeqAt.readOf s.heap its[m]) = some z' from hz')
        simpa using e1
      refine call_meets PySem.F.slot_tuple_index ⟨_, ho, rfl⟩ PySem.F.entry_tuple_index (PySem.F.args_tuple_index_2 _ _)
        (TI.tuple_indexAt a its.toArray n dd sls uy (fun u => PyData.eqv (SeqAt.readOf s.heap u) d) j hj ?_ ?_) ⟨ho, SeqAt.items_eqAt (vs := its.toArray) (show ReadsAll s.heap its.toArray.toList ds as from h4) r1 hxs (SeqAt.canLay_of_shaped sd) hroom, ?_⟩
      · show PyData.eqv (SeqAt.readOf s.heap its.toArray[j]) d = true
        rw [at_ j hj z hz]
        exact hzj
      · intro m hm hmj
        have hmd : m < ds.length := by omega
        have hz' : ds[m]? = some ds[m] := List.getElem?_eq_getElem hmd
        show PyData.eqv (SeqAt.readOf s.heap its.toArray[m]) d = false
        rw [at_ m hm _ hz']
        exact hno m _ hmj hz'
      · exact ⟨.int (j : Nat), H, I.tok _, ⟨_, rfl⟩, q⟩
end
section
variable {K : PySem.W.Frag}
def dIndexT (ds : List D) (y : D) : Option D := if (SeqAt.shaped (.tuple ds) && SeqAt.shaped y) = true then (ds.findIdx? fun z => PyData.eqv z y).map fun j => .int (j : Nat) else none
theorem ev_indexT {k : Addr} {ds : List D} {tb : TE} {mb : En → Option D} (hk : ∃ o, K.lookup k = some o ∧ o.cls = .type "tuple" ∧ o.dict = none) (hC : ∀ H, Dp K H (.ref k) (.tuple ds)) (hb : ET K tb mb) : ET K (tBM K "tuple" (rIndexT K) (tC (.ref k)) (tCons tb tNil)) (mUn (dIndexT ds) mb) := by
  refine ⟨fun {H0 T0 σ ρ H T out} G h Q q => ?_⟩
  obtain ⟨y, hy, h⟩ := bind_some h
  unfold dIndexT at h
  split at h
  · rename_i hs
    obtain ⟨h1, h2⟩ := Bool.and_eq_true_iff.mp hs
    obtain ⟨j, hj, h⟩ := map_some h
    subst h
    refine ⟨.inr (.inl ⟨rfl, hk⟩), ?_⟩
    refine hb.run G hy _ fun v2 H2 s2 d2 p2 => ?_
    obtain ⟨jl, j1, j2⟩ := List.findIdx?_eq_some_iff_getElem.mp hj
    refine ⟨k, v2, y, ds, j, ds[j], rfl, rfl, hC _, dp_ov d2 p2, h1, h2, List.getElem?_eq_getElem jl, j1, fun m z hm hz => ?_, q _ H2 s2 d2 (.int _)⟩
    have ml : m < ds.length := Nat.lt_trans hm jl
    rw [List.getElem?_eq_getElem ml] at hz
    cases hz
    simpa using j2 m hm
  · cases h
end
end DD

set_option Elab.async false
set_option linter.all false
set_option maxRecDepth 100000
set_option maxHeartbeats 4000000
/-! in, of a tuple of any data; + of numbers, texts, tuples, lists -/
namespace DD
variable [TabQ] [ExQ]
open PySem PySem.Spec PyProof.Rows L2
section
variable {X : Cx}
def rInTD (K : PySem.W.Frag) (neg : Bool) : R2 := fun x y H Q => ∃ d ds, Dp K H x d ∧ Dp K H y (.tuple ds) ∧ SeqAt.shaped d = true ∧ SeqAt.shaped (.tuple ds) = true ∧ Q (.bl (if neg then !(ds.any fun z => PyData.eqv z d) else ds.any fun z => PyData.eqv z d)) H
theorem op_inTD (hu : X.A.units + 65 < cLine) : OpR X (compareOp .In) (rInTD X.K false) := by
  intro pins s σ H x y v u Q I rx ry h
  obtain ⟨d, ds, hd, he, sd, se, q⟩ := h
  obtain ⟨as, r1⟩ := Dp.reads I d x v hd rx
  obtain ⟨bs, r2⟩ := Dp.reads I (.tuple ds) y u he ry
  exact SeqAt.in_tuple_reads r2 r1 (SeqAt.canLay_of_shaped se) (SeqAt.canLay_of_shaped sd) (room_in_shaped sd hu) ⟨.bl _, H, I, rfl, q⟩
theorem op_notInTD (hu : X.A.units + 65 < cLine) : OpR X (compareOp .NotIn) (rInTD X.K true) := by
  intro pins s σ H x y v u Q I rx ry h
  obtain ⟨d, ds, hd, he, sd, se, q⟩ := h
  obtain ⟨as, r1⟩ := Dp.reads I d x v hd rx
  obtain ⟨bs, r2⟩ := Dp.reads I (.tuple ds) y u he ry
  exact SeqAt.notIn_tuple_reads r2 r1 (SeqAt.canLay_of_shaped se) (SeqAt.canLay_of_shaped sd) (room_in_shaped sd hu) ⟨.bl _, H, I, rfl, q⟩
end
section
variable {K : PySem.W.Frag}
def dInTD (neg : Bool) : D → D → Option D
  | d, .tuple ds => if (SeqAt.shaped d && SeqAt.shaped (.tuple ds)) = true then some (.bool (if neg then !(ds.any fun z => PyData.eqv z d) else ds.any fun z => PyData.eqv z d)) else none
  | _, _ => none
theorem rd_inTD {neg : Bool} : RD K (rInTD K neg) (dInTD neg) := by
  refine ⟨fun {H T x y a b d} dis ha hb h Q q => ?_⟩
  unfold dInTD at h
  split at h
  · rename_i ds
    split at h
    · rename_i c
      rw [Bool.and_eq_true] at c
      cases h
      exact ⟨_, _, dp_ov dis ha, dp_ov dis hb, c.1, c.2, q _ H (Same.refl H) dis (.bl _)⟩
    · cases h
  · cases h
def rAddL (K : PySem.W.Frag) : R2 := fun x y H Q => rAddA K x y H Q ∨ rCatX K x y H Q
theorem op_addL {X : Cx} : OpR X (binaryOp .Add) (rAddL X.K) := op_addA.or op_catX
def dAddL : D → D → Option D
  | .list xs, .list ys => if xs.length + ys.length ≤ cap then some (.list (xs ++ ys)) else none
  | a, b => dAdd a b
theorem rd_addL : RD K (rAddL K) dAddL := by
  refine ⟨fun {H T x y a b d} dis ha hb h Q q => ?_⟩
  unfold dAddL at h
  split at h
  · rename_i xs ys
    split at h
    · rename_i hz
      cases h
      obtain ⟨a, us, rfl, hs, gu⟩ := dp_lst ha
      obtain ⟨b, ws, rfl, hs2, gw⟩ := dp_lst hb
      refine .inr ⟨a, b, us, ws, rfl, rfl, sql_ov dis hs, sql_ov dis hs2, by rw [dpa_len gu, dpa_len gw]; exact cap_line hz, fun p np => ?_⟩
      obtain ⟨nT, nH⟩ := ov_free np
      rw [upd_ov nT]
      exact q _ _ (same_new nH) (dis_upd dis nT nH) (.lst (SqL.of upd_same) (dpa_mono (same_new nH) (dpa_append gu gw)))
    · cases h
  · exact .inl (rd_add.run dis ha hb h Q q)
end
end DD

set_option Elab.async false
set_option linter.all false
set_option maxRecDepth 100000
set_option maxHeartbeats 4000000
/-! <= of numbers and truths -/
namespace DD
variable [TabQ] [ExQ]
open PySem PySem.Spec PyProof.Rows L2
section
variable {M : Model} {A : Around} {E : Value → Shared → Prop} {s : Shared}
theorem rich_sub {a b : Value} {Ta Tb id : String} {op : CmpOp} {Q : Value → Shared → Prop} (ha : s.TypeIs a Ta) (hb : s.TypeIs b Tb)
    (hne : (Value.type Ta != Value.type Tb) = true) (hsub : isSubtype (.type Tb) (.type Ta) = pure true) (h : Slot Tb (cmpInfo op).2.2 id)
    (hc : wpAny M A (call (.builtin id) [b, a]) (fun v s' => v ≠ .notImplemented ∧ Q v s') E s)
    (hv : [a, b].any Value.onHeap = false := by rfl) : wpAny M A (richCompare op a b) Q E s := by
  rcases hi : cmpInfo op with ⟨sym, f, r⟩
  rw [hi] at h
  simp only [richCompare, hi, ha.oneThing_none]
  try with_reducible refine wpAny_holding ?_
  simp only [cRoomFor, hv, Bool.false_eq_true, if_false, pure_bind]
  refine wpAny_bind (wpAny_typeOf ha (wpAny_bind (wpAny_typeOf hb ?_)))
  simp only [hne, if_true]
  refine wpAny_bind (wpAny_of_eq hsub ?_)
  simp only [if_true]
  exact wpAny_bind (wpAny_tryCompare_slot hb h (wpAny_mono hc (fun v s' h' => ⟨h'.1, wpAny_bind (wpAny_rule (wpAny_pure h'.2))⟩) fun _ _ h' => h'))
end
theorem gives_ge_bi (q : Bool) (a : Int) (t : Tok) : Gives (Builtin.«int.__ge__» ⟨[.bool q, .int a t], []⟩) (.val (Value.bool (decide (b2i q ≥ a)))) :=
  .of_wp fun M A E s Q h => by obtain ⟨hp, g, d, tk, os⟩ := s; wp_walk; exact ⟨_, rfl, h⟩
theorem gives_le_bi (q : Bool) (a : Int) (t : Tok) : Gives (Builtin.«int.__le__» ⟨[.bool q, .int a t], []⟩) (.val (Value.bool (decide (b2i q ≤ a)))) :=
  .of_wp fun M A E s Q h => by obtain ⟨hp, g, d, tk, os⟩ := s; wp_walk; exact ⟨_, rfl, h⟩
theorem sub_bi : isSubtype (.type "bool") (.type "int") = pure true := by rw [isSubtype_type]; kernel_rfl
theorem sub_ib : isSubtype (.type "int") (.type "bool") = pure false := by rw [isSubtype_type]; kernel_rfl
section
variable {prog : Program} {w : World} {A : Around} {E : Value → Shared → Prop} {s : Shared} {a : Int} {q : Bool} {t : Tok} {Q : Value → Shared → Prop}
theorem le_ib (h : Q (.bool (decide (a ≤ b2i q))) s) : wpAny (model prog w) A (compareOp .LtE (.int a t) (.bool q)) Q E s := by
  show wpAny _ A (richCompare .LtE _ _) Q E s
  exact rich_sub (typeIs_int s a t) (typeIs_bool' s q) (by decide) sub_bi F.slot_bool_ge (call_gives F.slot_bool_ge (typeIs_bool' s q) F.entry_int_ge (F.args_int_ge_2 _ _) (gives_ge_bi q a t) ⟨nofun, h⟩)
theorem le_bi (h : Q (.bool (decide (b2i q ≤ a))) s) : wpAny (model prog w) A (compareOp .LtE (.bool q) (.int a t)) Q E s := by
  show wpAny _ A (richCompare .LtE _ _) Q E s
  exact wpAny_richCompare_left (typeIs_bool' s q) (typeIs_int s a t) (by decide) sub_ib F.slot_bool_le (call_gives F.slot_bool_le (typeIs_bool' s q) F.entry_int_le (F.args_int_le_2 _ _) (gives_le_bi q a t) ⟨nofun, h⟩)
end
section
variable {X : Cx} {K : PySem.W.Frag}
def rLeMix : R2 := fun x y H Q => (∃ i b, x = .int i ∧ y = .bl b ∧ Q (.bl (decide (i ≤ b2i b))) H) ∨ (∃ b i, x = .bl b ∧ y = .int i ∧ Q (.bl (decide (b2i b ≤ i))) H)
theorem op_leMix : OpR X (compareOp .LtE) rLeMix := by
  intro pins s σ H x y v u Q I rx ry h
  rcases h with ⟨i, b, rfl, rfl, q⟩ | ⟨b, i, rfl, rfl, q⟩
  · obtain ⟨t, rfl⟩ := rx
    cases ry
    exact le_ib (fin_bl I q rfl)
  · obtain ⟨t, rfl⟩ := ry
    cases rx
    exact le_bi (fin_bl I q rfl)
def rLeB : R2 := fun x y H Q => (rI0 fun i j => .bl (decide (i ≤ j))) x y H Q ∨ rLeMix x y H Q
theorem op_leB : OpR X (compareOp .LtE) rLeB := op_le.or op_leMix
def dLeB : D → D → Option D
  | .int i, .int j => some (.bool (decide (i ≤ j)))
  | .int i, .bool b => some (.bool (decide (i ≤ b2i b)))
  | .bool b, .int j => some (.bool (decide (b2i b ≤ j)))
  | _, _ => none
theorem rd_leB : RD K rLeB dLeB := by
  refine ⟨fun {H T x y a b d} dis ha hb h Q q => ?_⟩
  unfold dLeB at h
  split at h
  · cases h
    cases ha; cases hb
    exact .inl ⟨_, _, rfl, rfl, q _ H (Same.refl H) dis (.bl _)⟩
  · cases h
    cases ha; cases hb
    exact .inr (.inl ⟨_, _, rfl, rfl, q _ H (Same.refl H) dis (.bl _)⟩)
  · cases h
    cases ha; cases hb
    exact .inr (.inr ⟨_, _, rfl, rfl, q _ H (Same.refl H) dis (.bl _)⟩)
  · cases h
end
section
variable {K : PySem.W.Frag}
theorem sb_isT {i : Nat} {D : Addr} {c : String} {b : Bool} (k : PySem.W.kitOne K (.ref D) (.type c) = some b) : SB i (fun a => tCB (rIsE K D a) (tCons (tVar i) (tCons (tC (.ty c)) tNil))) (.bl b) :=
  ⟨fun a σ H Q h q => ⟨.ref a, h, .ty c, .type c, b, rfl, fun u r => by cases r; rfl, k, q⟩⟩
end
end DD

set_option Elab.async false
set_option linter.all false
set_option maxRecDepth 100000
set_option maxHeartbeats 4000000
/-! a list comprehension whose elements may raise -/
namespace DD
variable [TabQ] [ExQ]
open PySem PySem.Spec PyProof.Rows L2
section
variable {M : Model} {A : Around} {E : Value → Shared → Prop} {s' : Shared} {base : Heap} {env cenv : Env} {outer l : List Env} {e L : Addr} {Z : Obj → Prop} {m : Str → Option Value}
theorem fails_held (hf : cenv.frame = some L) (hbC : base.get? cenv.locals = none) (hn : s'.heap.Ns cenv.locals m) (hh : HandSPX.HeldZ base l e Z L s'.heap)
    (hQ : ∀ h', HandSPX.HeldZ base l e Z L h' → (∀ b o, s'.heap.get? b = some o → b ≠ cenv.locals → (∀ vs, o.data ≠ .fields vs) → ∃ sl, h'.get? b = some { o with slots := sl }) → E (.ref e) { s' with heap := h' }) :
    CompFails M A E cenv (.ref e) s' := by
  refine ⟨m, hn, fun h₂ m₂ hn₂ hs₂ => ?_⟩
  obtain ⟨b1, b0, f1, oe, vs, T, oT, ts, he, hz, hd, h1, hnT, hTe, hT, hdT, h3⟩ := hh
  have b2 : base.StaysIn h₂ := fun b o hb => (hs₂.2 b fun q => by rw [q, hbC] at hb; cases hb).trans (b1 b o hb)
  have f2 : h₂.FunFrames base l := Heap.FunFrames.sameBut hs₂ hn₂ f1
  obtain ⟨oL, es, ep, hoL, hdL, _⟩ := id hn
  have ne : ∀ b o ws, s'.heap.get? b = some o → o.data = .fields ws → b ≠ cenv.locals := fun b o ws hb hw q => by
    rw [q, hoL] at hb
    cases hb
    rw [hdL] at hw
    cases hw
  have he' : h₂.get? e = some oe := (hs₂.2 e (ne e oe vs he hd)).trans he
  have hT' : h₂.get? T = some oT := (hs₂.2 T (ne T oT ts hT hdT)).trans hT
  have hh' : HandSPX.HeldZ base l e Z L h₂ := ⟨b2, b0, f2, oe, vs, T, oT, ts, he', hz, hd, h1, hnT, hTe, hT', hdT, h3⟩
  unfold PySem.passOn
  refine wpAny_bind (wpAny_field he' hd h1 ?_)
  rw [if_neg (show ¬ ((Value.ref T == Value.none) = true) from by simp)]
  rw [hf]
  refine wpAny_bind (HandSPX.setFlight_onZ (s := { s' with heap := h₂ }) hh' fun h₃ hh3 up => ?_)
  refine wpAny_throw ?_
  exact hQ h₃ hh3 fun b o hb hbL hnf => up b o ((hs₂.2 b hbL).trans hb) hnf
theorem noted_fly (hZ : HandSPX.Steady Z) (hfr : A.frames = some (env :: outer)) (hcf : cenv.frame = env.frame) (hf : env.frame = some L) (hbC : base.get? cenv.locals = none) (hn : s'.heap.Ns cenv.locals m) (hfl : HandSPX.FlyingZ base (env :: outer) e Z s'.heap)
    (hQ : ∀ h', HandSPX.HeldZ base (env :: outer) e Z L h' → (∀ b o, s'.heap.get? b = some o → b ≠ cenv.locals → (∀ vs, o.data ≠ .fields vs) → ∃ sl, h'.get? b = some { o with slots := sl }) → E (.ref e) { s' with heap := h' }) :
    notedBy M A cenv (CompFails M A E cenv) (.ref e) s' := by
  show wpAny M A (noteFrame (.ref e) cenv) _ _ s'
  rw [noteFrame_env _ hcf]
  refine HandSPX.looks_onZ hZ hfr hf hfl fun h' hH hk => ?_
  have hn' : h'.Ns cenv.locals m := hn.upToSlots hk
  refine fails_held (l := env :: outer) (L := L) (hcf.trans hf) hbC hn' hH fun h'' hH' hk' => hQ h'' hH' fun b o hb hbC' hnf => ?_
  obtain ⟨sl, e1⟩ := hk b o hb hnf
  obtain ⟨sl2, e2⟩ := hk' b _ e1 hbC' hnf
  exact ⟨sl2, e2⟩
end
/-- the context of a block that lets exceptions out so -/
abbrev blkX (X : Cx) (s : Shared) (H : Hp) (scope : Scope) (cenv : Env) (fp : List Addr) (xe : Value → Shared → Prop) : Cx := (X.blk s H scope cenv fp).wish xe
section
variable {X : Cx}
/-- out of a call in an element -/
theorem fly_blk {W : WX} {pins pins' : List (Addr × Obj)} {σ σ' : L2.St} {s3 s1 s' : Shared} {H3 H1 : Hp} {scope : Scope} {ce : Env} {fp : List Addr} {xe : Value → Shared → Prop} {E : XK} {e : Value}
    (hs : X.stack = X.env :: X.outer) (hf : X.env.frame = some X.env.locals) (tk : L2.Takes X W) (I3 : Inv X pins σ H3 s3) (hcf : ce.frame = X.env.frame) (hC : ce.locals = s3.heap.objs.size)
    (f3 : ∀ b ∈ fp, FpOk X pins H3 b) (I1 : Inv (blkX X s3 H3 scope ce fp xe) pins' σ' H1 s1) (c : L2.CX X.prog X.w X.stack H1 s1 E e s') (hE : ∀ c d H, E c d H → W c d σ H) :
    notedBy (model X.prog X.w) X.A ce (CompFails (model X.prog X.w) X.A X.xe ce) e s' := by
  obtain ⟨a, B, H', cls, d, rfl, fl, hok, ub, na, os, ag, hE'⟩ := c
  have hfr : X.A.frames = some (X.env :: X.outer) := by rw [I3.ok.frames, hs]
  -- the block's names
  obtain ⟨m, hnC, _⟩ := I1.loc
  have hnC : s1.heap.Ns ce.locals m := hnC
  obtain ⟨oC, es, ep, hoC, hdC, hmC⟩ := id hnC
  have fC : H1 ce.locals = none := I1.free
  have bs : Un (frs X.stack) fp H3 H1 s3.heap s1.heap := I1.base
  have nofr : ∀ b ∈ frs X.stack, b < s3.heap.objs.size := fun b hb => by
    have hb' : b ∈ X.env.locals :: X.fs := I3.stkSub b hb
    rcases List.mem_cons.mp hb' with z | z
    · rw [z]; exact I3.lt
    · by_cases q : b < s3.heap.objs.size
      · exact q
      · exact absurd z (I3.nofs (Nat.le_of_not_lt q))
  have cfr : ce.locals ∉ frs X.stack := fun z => Nat.lt_irrefl _ (by have := nofr _ z; rw [hC] at this; exact this)
  have hoB : B.get? ce.locals = some oC := ub.keep _ _ hoC fC cfr
  have hoC' : s'.heap.get? ce.locals = some oC := fl.1 _ _ hoB
  have hn' : s'.heap.Ns ce.locals m := ⟨oC, es, ep, hoC', hdC, hmC⟩
  have hHC : H' ce.locals = none := ub.free _ _ hoC fC
  -- the ground without them
  generalize hB' : PySem.W.hideAll B [ce.locals] = B'
  have bB : ∀ b o, B'.get? b = some o → B.get? b = some o := fun b o q => by rw [← hB'] at q; exact PySem.W.of_hideAll _ q
  have Bb : ∀ b o, B.get? b = some o → b ≠ ce.locals → B'.get? b = some o := fun b o q n => by rw [← hB']; exact PySem.W.hideAll_get _ q (fun z => n (List.mem_singleton.mp z))
  have nB : B'.get? ce.locals = none := by rw [← hB']; exact PySem.W.hideAll_none _ List.mem_cons_self
  have noB : ∀ b, B.get? b = none → B'.get? b = none := fun b q => by
    cases z : B'.get? b with
    | none => rfl
    | some o => rw [bB b o z] at q; cases q
  have ffr : ∀ l : List Env, s'.heap.FunFrames B l → s'.heap.FunFrames B' l := by
    intro l
    induction l with
    | nil => exact fun _ => trivial
    | cons x r ih =>
      rintro ⟨h1, ⟨L, o, h2, h3, h4, h5⟩, h6⟩
      exact ⟨h1, ⟨L, o, h2, noB L h3, h4, h5⟩, ih h6⟩
  have fl' : HandSPX.FlyingZ B' (X.env :: X.outer) a (Zc cls d) s'.heap := by
    obtain ⟨g1, g2, g3, oe, vs, T, oT, ts, he, hz, hd, h1, hnT, r⟩ := fl
    refine ⟨fun b o q => g1 b o (bB b o q), noB _ g2, ?_, oe, vs, T, oT, ts, he, hz, hd, h1, noB _ hnT, r⟩
    rw [← hs]
    exact ffr _ g3
  refine noted_fly Zc.steady hfr hcf hf nB hn' fl' fun h' hH hk => tk _ _ ?_
  obtain ⟨G, g1, g2⟩ := L2.restrict h' fun b => (B'.get? b).isSome || decide (b ∈ frs X.stack)
  have st : B'.StaysIn h' := hH.1
  have gB : ∀ b o, B'.get? b = some o → G.get? b = some o := fun b o q => by
    rw [g1 b (by simp [q])]
    exact st b o q
  have gF : ∀ b, b ∈ frs X.stack → G.get? b = h'.get? b := fun b hb => g1 b (by simp [hb])
  have og : ∀ b o, G.get? b = some o → h'.get? b = some o ∧ ((B'.get? b).isSome = true ∨ b ∈ frs X.stack) := fun b o q => by
    cases z : ((B'.get? b).isSome || decide (b ∈ frs X.stack)) with
    | false => rw [g2 b z] at q; cases q
    | true =>
      rw [g1 b z] at q
      exact ⟨q, by simpa [Bool.or_eq_true] using z⟩
  have ltC : ∀ b o, s3.heap.get? b = some o → b ≠ ce.locals := fun b o q z => by
    rw [z, hC] at q
    exact Nat.lt_irrefl _ (Heap.lt_size q)
  have frame : ∀ b ∈ frs X.stack, ∃ o, s'.heap.get? b = some o ∧ ∀ vs, o.data ≠ .fields vs := fun b hb => by
    obtain ⟨_, o, ho, hnf⟩ := (show s'.heap.FunFrames B' (X.env :: X.outer) from fl'.2.2.1).mem (by rw [← hs]; exact hb)
    exact ⟨o, ho, hnf⟩
  have hos1 : s1.os = s3.os := I1.os
  have J : Inv X pins σ H' { s3 with heap := G, gens := s'.gens, drawn := s'.drawn, toks := s'.toks } := by
    refine I3.call (ch := fp) ⟨fun b o q n hb hx => ?_, fun b o q n hb hx => ?_, fun b o q n hx => ?_, fun b o q hx => ?_, fun b xs q => ub.tups b xs (bs.tups b xs q), fun b o u q => ub.frzs b o u (bs.frzs b o u q), fun b ps q => ?_⟩ ?_ ag ?_
    · have q1 := bs.keep b o q n hb hx
      exact gB b o (Bb b o (ub.keep b o q1 (bs.free b o q n hx) hb) (ltC b o q))
    · obtain ⟨sl, q1⟩ := bs.slot b o q n hb hx
      obtain ⟨sl2, q2⟩ := ub.slot b _ q1 hb
      obtain ⟨o', ho', hnf⟩ := frame b hb
      rw [q2] at ho'
      cases ho'
      obtain ⟨sl3, q3⟩ := hk b _ q2 (ltC b o q) hnf
      exact ⟨sl3, by rw [gF b hb]; exact q3⟩
    · obtain ⟨o1, q1⟩ := bs.there b o q hx
      exact ub.free b o1 q1 (bs.free b o q n hx)
    · obtain ⟨o1, q1⟩ := bs.there b o q hx
      by_cases hb : b ∈ frs X.stack
      · obtain ⟨o', ho', hnf⟩ := frame b hb
        obtain ⟨sl3, q3⟩ := hk b _ ho' (ltC b o q) hnf
        exact ⟨_, by rw [gF b hb]; exact q3⟩
      · obtain ⟨o', q2⟩ := ub.there b o1 q1 hb
        exact ⟨o', gB b o' (Bb b o' q2 (ltC b o q))⟩
    · obtain ⟨more, q1⟩ := bs.tbls b ps q
      obtain ⟨more2, q2⟩ := ub.tbls b _ q1
      exact ⟨more ++ more2, by rw [q2, Array.append_assoc]⟩
    · intro b u q
      refine (hok b u q).stay (fun c v hc qc => gB c v (Bb c v qc fun z => ?_)) (fun _ r => r) fun _ _ r => r
      rcases hc with y | y
      · rw [← y, z, hHC] at q; cases q
      · rw [z, hHC] at y; cases y
    · intro b hb
      obtain ⟨f0, f1, f2, f3', f4, f5⟩ := f3 b hb
      exact ⟨f3', f1, f4, f5⟩
  refine ⟨a, B', _, pins, σ, H', cls, d, rfl, J, fun b o q hb => ?_, Heap.UpToSlots.of_keeps fun b o q => (og b o q).1, .inr (.inr ?_), na, ?_, ag, hE _ _ _ hE'⟩
  · obtain ⟨q', z⟩ := og b o q
    rcases z with z | z
    · obtain ⟨o', y⟩ := Option.isSome_iff_exists.mp z
      have w := st b o' y
      rw [q'] at w; cases w
      exact y
    · exact absurd z hb
  · rw [hs]
    exact hH
  · show s'.os = s3.os
    rw [os, hos1]
/-- [elt for ..], elt raising -/
theorem pe_lcX {elt tg iter : Expr} {ifs : List Expr} {scope : Scope} {own : List (Str × Nat)} {pos : Pos} {wi : TI} {g : TG} {tt : TT} {te : WX → TE} {W : WX}
    (hst : X.stack = X.env :: X.outer) (hfm : X.env.frame = some X.env.locals) (tk : L2.Takes X W) (hc : X.calm = true) (hN : X.N.Nodup) (hi : PI X tg iter wi) (ok : BlkOk X.N X.env.scope scope own)
    (hg : ∀ (s : Shared) (H : Hp) (C : Addr) (cl : List (Str × Addr)) (fp : List Addr) (xe : Value → Shared → Prop), PG (blkX X s H scope (compEnvC scope cl C X.env) fp xe) tg g)
    (ht : ∀ (s : Shared) (H : Hp) (C : Addr) (cl : List (Str × Addr)) (fp : List Addr) (xe : Value → Shared → Prop), PTs (blkX X s H scope (compEnvC scope cl C X.env) fp xe) ifs tt)
    (he : ∀ (s : Shared) (H : Hp) (C : Addr) (cl : List (Str × Addr)) (fp : List Addr) (xe : Value → Shared → Prop) (W' : WX), (∀ σ, PassesAt (L2.CX X.prog X.w) (blkX X s H scope (compEnvC scope cl C X.env) fp xe) σ (WE W' σ)) → PE (blkX X s H scope (compEnvC scope cl C X.env) fp xe) elt (te W'))
    (hs : ∀ x, foldedSetIterable iter X.env x = pure x := by intro _; rfl) :
    PE X (.ListComp elt [⟨tg, iter, ifs, 0⟩] scope pos) (fun σ H Q => tLc wi g tt (te fun c d _ h => W c d σ h) (own.map (·.2)) σ H Q) := by
  refine ⟨fun pins s σ H Q I h => ?_⟩
  rw [eval_ListComp]
  have hfree : ∀ y ∈ scope.names, y.2 = .free → ∃ c, X.env.cells.lookup y.1 = some c := fun y hy e => by
    rcases ok.free y hy e with k | k
    · exact I.ok.has _ (.inl k)
    · exact I.ok.has _ (.inr k)
  refine comprehension_at (use := none) rfl hs (closure_ok hfree) ok.kind (fun y hy e => by rw [ok.uniq y hy, e])
    (thn (hi.run pins s σ H _ I h) fun xv s1 hx => thn hx fun itv s2 h2 => ?_)
  obtain ⟨it, fp, tn, J, H2, e, I2, T, st2, f2, q⟩ := h2
  subst e
  refine wpAny_newObj_type (newEnv_comp ?_) (by show 0 ≤ sizeLine; decide)
  generalize hD : s2.heap.objs.size = D
  have hDn : H2 D = none := I2.hok.fresh (Nat.le_of_eq hD)
  obtain ⟨W0, ⟨m0, w0⟩, turn⟩ := q D hDn
  generalize hs3 : ({ s2 with heap := s2.heap.push { cls := .type "list", data := .seq ([] : List Value).toArray } } : Shared) = s3
  have I3 : Inv X pins σ (upd H2 D (.lst [])) s3 := by
    rw [← hs3]
    refine I2.laid (t' := s2.toks) (fun b o e => Heap.get?_push_of_some _ e) (Nat.le_of_eq hD) ⟨Nat.zero_le _, [], 0, .nil, ?_⟩
    rw [← hD]
    exact Heap.get?_push_size _ rfl
  have h3 : s3.heap = s2.heap.push { cls := .type "list", data := .seq ([] : List Value).toArray } := by rw [← hs3]
  have sz : ∀ b ∈ fp, b < s2.heap.objs.size := fun b hb => by
    obtain ⟨o, e, _⟩ := T.obj _ _ st2 b hb
    exact Heap.lt_size e
  have f3 : ∀ b ∈ fp, FpOk X pins (upd H2 D (.lst [])) b ∧ b < s3.heap.objs.size := fun b hb => by
    have hlt := sz b hb
    refine ⟨⟨?_, (f2 b hb).2⟩, by rw [h3, Heap.size_push]; exact Nat.lt_succ_of_lt hlt⟩
    rw [upd_ne (by rw [← hD]; exact Nat.ne_of_lt hlt)]
    exact (f2 b hb).1
  have st3 : tn 0 s3.heap := T.keep _ _ _ st2 fun b _ o e => by rw [h3]; exact Heap.get?_push_of_some _ e
  show codeAny _ _ (.compStart (.ListComp elt [⟨tg, iter, ifs, 0⟩] scope pos) 0 (.ref it) (.ref D) (compEnvC scope (cellsFrom (s3.heap.objs.size + 1) scope.names (cloFrom X.env.cells scope.names [])) s3.heap.objs.size X.env)) (compEnds (model X.prog X.w) X.A X.xe none (EP X pins σ Q) (.ref D) (compEnvC scope (cellsFrom (s3.heap.objs.size + 1) scope.names (cloFrom X.env.cells scope.names [])) s3.heap.objs.size X.env)) { s3 with heap := pushCells (s3.heap.push { cls := .type "dict", data := .dict #[] }) scope.names }
  generalize hxe : notedBy (model X.prog X.w) X.A (compEnvC scope (cellsFrom (s3.heap.objs.size + 1) scope.names (cloFrom X.env.cells scope.names [])) s3.heap.objs.size X.env) (CompFails (model X.prog X.w) X.A X.xe (compEnvC scope (cellsFrom (s3.heap.objs.size + 1) scope.names (cloFrom X.env.cells scope.names [])) s3.heap.objs.size X.env)) = xe
  have I4 := (block_start I3 ok hN f3).wish xe
  have pg := hg s3 (upd H2 D (.lst [])) s3.heap.objs.size (cellsFrom (s3.heap.objs.size + 1) scope.names (cloFrom X.env.cells scope.names [])) fp xe
  have pt := ht s3 (upd H2 D (.lst [])) s3.heap.objs.size (cellsFrom (s3.heap.objs.size + 1) scope.names (cloFrom X.env.cells scope.names [])) fp xe
  have pe := he s3 (upd H2 D (.lst [])) s3.heap.objs.size (cellsFrom (s3.heap.objs.size + 1) scope.names (cloFrom X.env.cells scope.names [])) fp xe (fun c d _ h => W c d σ h) (fun σ' pins' H1 s1 e s' I1 c => by
    rw [← hxe]
    exact fly_blk hst hfm tk I3 rfl rfl (fun b hb => (f3 b hb).1) I1 c fun _ _ _ h => h)
  have nfp : ∀ b ∈ fp, (upd H2 D (.lst [])) b = none := fun b hb => (f3 b hb).1.1
  have hxe' : xe = notedBy (model X.prog X.w) X.A (compEnvC scope (cellsFrom (s3.heap.objs.size + 1) scope.names (cloFrom X.env.cells scope.names [])) s3.heap.objs.size X.env) (fun e s' => compEnds (model X.prog X.w) X.A X.xe none (EP X pins σ Q) (.ref D) (compEnvC scope (cellsFrom (s3.heap.objs.size + 1) scope.names (cloFrom X.env.cells scope.names [])) s3.heap.objs.size X.env) (.error e) s') := hxe.symm
  clear hxe
  generalize hce : compEnvC scope (cellsFrom (s3.heap.objs.size + 1) scope.names (cloFrom X.env.cells scope.names [])) s3.heap.objs.size X.env = ce at I4 pg pt pe hxe' ⊢
  have cL : ce.locals = s3.heap.objs.size := by subst hce; rfl
  generalize hH3 : upd H2 D (.lst []) = H3 at I3 I4 pg pt pe w0 nfp f3
  generalize hs4 : ({ s3 with heap := pushCells (s3.heap.push { cls := .type "dict", data := .dict #[] }) scope.names } : Shared) = s4 at I4 ⊢
  have st4 : tn 0 s4.heap := T.keep _ _ _ st3 fun b _ o e => by rw [← hs4]; exact pushCells_keeps _ _ _ _ (Heap.get?_push_of_some _ e)
  have stat : ∀ {σ' : L2.St} {H' : Hp} {s' : Shared}, Inv (blkX X s3 H3 scope ce fp xe) [] σ' H' s' → (∀ b ∈ fp, H' b = none) → ∀ b ∈ fp, FpOk (blkX X s3 H3 scope ce fp xe) [] H' b := fun {σ' H' s'} I' hn b hb =>
    ⟨hn b hb, (I'.ok.exf b hb).1, I'.ok.exfs b hb, .inl hb, fun x c e => (I'.ok.exf b hb).2 x c e, fun p hp => absurd (show p ∈ ([] : List (Addr × Obj)) ++ [] from hp) (by simp)⟩
  have loop : codeAny (model X.prog X.w) X.A (.compLoop (.ListComp elt [⟨tg, iter, ifs, 0⟩] scope pos) 0 (.ref it) (.ref D) ce) (compEnds (model X.prog X.w) X.A X.xe none (EP X pins σ Q) (.ref D) ce) s4 := by
    refine compLoop_any (fun n s' => ∃ i H', Inv (blkX X s3 H3 scope ce fp xe) [] (L2.wipe σ (own.map (·.2))) H' s' ∧ tn i s'.heap ∧ (∀ b ∈ fp, H' b = none) ∧ W0 i n H') ?_ m0 ⟨0, H3, I4, st4, nfp, w0⟩
    rintro n s5 ⟨i, H5, I5, st5, n5, w5⟩
    have noE : ∀ {e : Value} {z : Shared}, xe e z → notedBy (model X.prog X.w) X.A ce (fun e s' => compEnds (model X.prog X.w) X.A X.xe none (EP X pins σ Q) (.ref D) ce (.error e) s') e z := fun {e z} k => by rw [hxe'] at k; exact k
    rcases turn i n H5 w5 with ⟨stop, qq⟩ | ⟨go, Nx, hNx, step⟩
    · have td := T.done (blkX X s3 H3 scope ce fp xe) rfl rfl rfl hc i [] s5 _ H5 (fun _ _ => False) I5 (stat I5 n5) st5 stop
      refine thnF td fun r s6 ⟨hr, I6⟩ => ?_
      subst hr
      have I7 : Inv X pins σ H5 s6 := I3.call' (ch := fp) I6.os I6.base I6.hok I6.bare fun b hb => ⟨(f3 b hb).1.2.2.2.1, (f3 b hb).1.2.1, (f3 b hb).1.2.2.2.2.1, (f3 b hb).1.2.2.2.2.2⟩
      have nC : H5 s3.heap.objs.size = none := by
        have z : H5 ce.locals = none := I6.free
        rw [cL] at z
        exact z
      obtain ⟨m, hn, _⟩ := I6.loc
      have hn : s6.heap.Ns ce.locals m := hn
      obtain ⟨f0, f1, f2, f3', f4, f5⟩ := I3.fpOk (Nat.le_refl _) nC
      refine ⟨m, hn, fun h'' sb => ?_⟩
      rw [cL] at sb
      exact ⟨.ref D, H5, I7.turned (t' := s6.toks) (fun b o hb e => (sb.2 b hb).trans e) f0 f1 f3' f4 f5, rfl, qq⟩
    · have ti := T.item (blkX X s3 H3 scope ce fp xe) rfl rfl rfl hc i [] s5 _ H5 (fun _ _ => False) I5 (stat I5 n5) st5 go
      refine thnF ti fun r s6 ⟨u, hr, h6⟩ => ?_
      subst hr
      refine thnF h6 fun _ s7 ⟨x, H7, I7, r7, y7, st7, n7⟩ => ?_
      have I7' := I7.pinned (stat I7 n7) (T.obj _ _ st7)
      refine wpAny_mono (pg.run _ s7 _ H7 x u _ I7' r7 (step x H7 y7)) (fun _ s8 ⟨σ8, H8, I8, hw8, q8⟩ => ?_) fun _ _ k => noE k
      refine wpAny_mono (pt.run _ s8 σ8 H8 _ I8 q8) (fun b s9 ⟨H9, I9, q9⟩ => ?_) fun _ _ k => noE k
      have fin : ∀ {s' : Shared} {H' : Hp}, Inv (blkX X s3 H3 scope ce fp xe) ([] ++ pinsAt fp s7.heap) σ8 H' s' → Nx H' → ∃ m, m < n ∧ ∃ i H', Inv (blkX X s3 H3 scope ce fp xe) [] (L2.wipe σ (own.map (·.2))) H' s' ∧ tn i s'.heap ∧ (∀ b ∈ fp, H' b = none) ∧ W0 i m H' := fun {s' H'} I' nx => by
        obtain ⟨m', hm, w'⟩ := hNx H' nx
        have pin' : ∀ b ∈ fp, ∀ o, s7.heap.get? b = some o → s'.heap.get? b = some o ∧ H' b = none := fun b hb o e =>
          let z := I'.pin (b, o) (List.mem_append_right _ (List.mem_append_right _ (mem_pinsAt hb e)))
          ⟨z.1, z.2.1⟩
        have hl : (L2.wipe σ (own.map (·.2))).length = σ8.length := by rw [← hw8, wipe_length]
        refine ⟨m', hm, i + 1, H', (I'.unpinned (pins := [])).weak hl (fun j v e => ?_), T.keep _ _ _ st7 fun b hb o e => (pin' b hb o e).1, fun b hb => ?_, w'⟩
        · rw [← hw8] at e
          exact (wipe_some e).1
        · obtain ⟨o, e, _⟩ := T.obj _ _ st7 b hb
          exact (pin' b hb o e).2
      cases b with
      | false =>
        simp only [Bool.false_eq_true, if_false] at q9 ⊢
        exact fin I9 q9
      | true =>
        simp only [if_true] at q9 ⊢
        refine wpAny_mono (pe.run _ s9 σ8 H9 _ I9 q9) (fun z s10 ⟨yv, H10, I10, r10, acc, hD10, hz10, nx⟩ => ?_) fun _ _ k => noE k
        exact app_ok (X := blkX X s3 H3 scope ce fp xe) I10 hD10 hz10 r10 fun s11 I11 => fin I11 nx
  exact codeAny_compStart_list loop (T.self X.A 0 _ _ _ st4 loop)
end
/-! ### the mirror -/
def consL (x : D) : RsL → RsL
  | .ok xs => .ok (x :: xs)
  | .ex c => .ex c
def addL (as : List D) : RsL → RsL
  | .ok xs => .ok (as ++ xs)
  | .ex c => .ex c
def collX (g : D → En → Option En) (c : En → Option Bool) (e : En → Option Rs) (ρ : En) : List D → Option RsL
  | [] => some (.ok [])
  | d :: ds => (g d ρ).bind fun ρ1 => (c ρ1).bind fun b => if b = true then (e ρ1).bind fun r => (match r with
    | .ok x => (collX g c e ρ ds).map (consL x)
    | .ex k => some (.ex k)) else collX g c e ρ ds
def mLcX (it : En → Option (List D)) (g : D → En → Option En) (c : En → Option Bool) (e : En → Option Rs) (vs : List Nat) : En → Option RsL := fun ρ => (it ρ).bind fun ds => if ds.length ≤ cap then collX g c e (wipeM ρ vs) ds else none
section
variable (K : PySem.W.Frag) (cl : Nat → Addr)
structure XL (te : WX → TE) (m : En → Option RsL) : Prop where
  run : ∀ {H0 : Hp} {T0 : Ov} {σ : L2.St} {ρ : En} {H : Hp} {T : Ov} {r : RsL}, Good K H0 T0 σ ρ H T → m ρ = some r → ∀ (W : WX) (Q : VK),
    (match r with
      | .ok ds => ∀ p xs H', Same H H' → Dis H' T → ov H' T p = none → DpAll K H' xs ds → Q (.ref p) (upd (ov H' T) p (.lst xs))
      | .ex c => ∀ H', Same H H' → Dis H' T → W (.ref (cl c)) none σ (ov H' T)) → te W σ (ov H T) Q
end
section
variable {K : PySem.W.Frag} {cl : Nat → Addr}
theorem xl_lc {wi : TI} {g : TG} {tt : TT} {te : WX → TE} {vs : List Nat} {mi : En → Option (List D)} {mg : D → En → Option En} {mc : En → Option Bool} {me : En → Option Rs}
    (hi : IT K wi mi) (hg : TGm K vs g mg) (ht : TTm K tt mc) (he : EX K cl te me) : XL K cl (fun W σ H Q => tLc wi g tt (te fun c d _ h => W c d σ h) vs σ H Q) (mLcX mi mg mc me vs) := by
  refine ⟨fun {H0 T0 σ ρ H T out} G h W Q q => ?_⟩
  obtain ⟨ds, hd, h⟩ := bind_some h
  split at h
  · rename_i hz
    refine hi.run G hd _ fun J Hm s1 d1 w => ?_
    intro Dl hD
    obtain ⟨nT, nH⟩ := ov_free hD
    have G1 := (G.mono s1 d1).wipe vs
    refine ⟨fun i m Hc => i ≤ ds.length ∧ m = ds.length - i ∧ ∃ H1 acc as r, Hc = ov H1 (put T Dl acc) ∧ Same Hm H1 ∧ Dis H1 T ∧ H1 Dl = none ∧ DpAll K H1 acc as ∧ acc.length ≤ i ∧ collX mg mc me (wipeM ρ vs) (ds.drop i) = some r ∧ out = addL as r,
      ⟨ds.length, Nat.zero_le _, rfl, Hm, [], [], out, by rw [upd_put], Same.refl Hm, d1, nH, .nil, Nat.le_refl _, h, by cases out <;> rfl⟩, ?_⟩
    rintro i m Hc ⟨hil, rfl, H1, acc, as, r, rfl, sm, dis, nD, ga, hac, hc, eo⟩
    have dput : Dis H1 (put T Dl acc) := dis_put dis nD
    by_cases hlt : i < ds.length
    · have hge : ds[i]? = some ds[i] := List.getElem?_eq_getElem hlt
      rw [List.drop_eq_getElem_cons hlt] at hc
      obtain ⟨ρ2, h2, hc⟩ := bind_some hc
      obtain ⟨b, hb, hc⟩ := bind_some hc
      refine .inr ⟨w.go i sm dput hlt, fun Hc' => ∃ H1 acc as r, Hc' = ov H1 (put T Dl acc) ∧ Same Hm H1 ∧ Dis H1 T ∧ H1 Dl = none ∧ DpAll K H1 acc as ∧ acc.length ≤ i + 1 ∧ collX mg mc me (wipeM ρ vs) (ds.drop (i + 1)) = some r ∧ out = addL as r,
        fun Hc' ⟨H1, acc, as, r, a1, a2, a3, a4, a5, a6, a7, a8⟩ => ⟨ds.length - (i + 1), by omega, by omega, rfl, H1, acc, as, r, a1, a2, a3, a4, a5, a6, a7, a8⟩, fun x Hc' y => ?_⟩
      obtain ⟨H2, rfl, s2, d2, p2⟩ := w.yld i sm dput hge y
      have fr : ∀ {H' : Hp}, Dis H' (put T Dl acc) → Dis H' T ∧ H' Dl = none := fun {H'} d => ⟨⟨fun a xs e => by
        by_cases z : a = Dl
        · rw [z, nT] at e; cases e
        · exact d a xs (by rw [put_ne z]; exact e), d.tab⟩, d Dl acc put_same⟩
      have G2 : Good K H0 T0 (L2.wipe σ vs) (wipeM ρ vs) H2 (put T Dl acc) := (((G.mono s1 d1).wipe vs).more hD).mono (sm.trans s2) d2
      refine hg.run G2 p2 h2 _ fun σ3 H3 G3 s3 w3 => ⟨by rw [w3, wipe_wipe], ?_⟩
      refine ht.run G3 hb _ fun H4 s4 d4 => ?_
      have G4 := G3.mono s4 d4
      cases b with
      | true =>
        rw [if_pos rfl] at hc ⊢
        obtain ⟨z, hz2, hc⟩ := bind_some hc
        refine he.run G4 hz2 _ _ ?_
        cases z with
        | ok z =>
          obtain ⟨r', hr, hc⟩ := map_some hc
          intro v H5 s5 d5 p5
          obtain ⟨dT, dn⟩ := fr d5
          refine ⟨acc, ov_own put_same, cap_lt (Nat.le_trans hac (Nat.le_trans (Nat.le_of_lt hlt) hz)), H5, acc ++ [v], as ++ [z], r', by rw [upd_put, put_put], (sm.trans s2).trans ((s3.trans s4).trans s5), dT, dn, dpa_snoc (dpa_mono (s2.trans ((s3.trans s4).trans s5)) ga) p5, by rw [List.length_append, List.length_singleton]; omega, hr, ?_⟩
          rw [eo, ← hc]
          cases r' with
          | ok xs => show RsL.ok (as ++ z :: xs) = RsL.ok ((as ++ [z]) ++ xs); rw [List.append_assoc]; rfl
          | ex c => rfl
        | ex c =>
          cases hc
          rw [eo] at q
          intro H5 s5 d5
          obtain ⟨dT, dn⟩ := fr d5
          have e5 : ov H5 (put T Dl acc) = ov (upd H5 Dl (.lst acc)) T := by rw [← upd_put, upd_ov nT]
          rw [e5]
          exact q _ ((s1.trans (sm.trans s2)).trans (((s3.trans s4).trans s5).trans (same_new dn))) (dis_upd dT nT dn)
      | false =>
        rw [if_neg Bool.false_ne_true] at hc ⊢
        obtain ⟨dT, dn⟩ := fr d4
        exact ⟨H4, acc, as, r, rfl, (sm.trans s2).trans (s3.trans s4), dT, dn, dpa_mono (s2.trans (s3.trans s4)) ga, by omega, hc, eo⟩
    · have e : i = ds.length := by omega
      subst e
      rw [List.drop_length] at hc
      cases hc
      have eo : out = .ok as := by rw [eo]; show RsL.ok (as ++ []) = _; rw [List.append_nil]
      subst eo
      refine .inl ⟨w.stop sm dput, ?_⟩
      rw [← upd_put]
      have hfree : ov H1 T Dl = none := by rw [ov_none nT]; exact nD
      exact q Dl acc H1 (s1.trans sm) dis hfree ga
  · cases h
def xList (m : En → Option RsL) : En → Option Rs := fun ρ => (m ρ).map fun r => match r with
  | .ok ds => .ok (.list ds)
  | .ex c => .ex c
theorem ex_list {te : WX → TE} {m : En → Option RsL} (h : XL K cl te m) : EX K cl te (xList m) := by
  refine ⟨fun {H0 T0 σ ρ H T r} G hh W Q q => ?_⟩
  obtain ⟨x, hx, e⟩ := map_some hh
  subst e
  refine h.run G hx W Q ?_
  cases x with
  | ok ds =>
    intro p xs H' s1 d1 n1 p1
    obtain ⟨nT, nH⟩ := ov_free n1
    rw [upd_ov nT]
    exact q _ _ (s1.trans (same_new nH)) (dis_upd d1 nT nH) (.lst (SqL.of upd_same) (dpa_mono (same_new nH) p1))
  | ex c => exact fun H' s1 d1 => q H' s1 d1
end
end DD

set_option Elab.async false
set_option linter.all false
set_option maxRecDepth 100000
set_option maxHeartbeats 4000000
/-! f'..' of texts -/
namespace DD
variable [TabQ] [ExQ]
open PySem PySem.Spec PyProof.Rows L2
section
variable {K : PySem.W.Frag}
def mFmt (a : En → Option D) : En → Option D := fun ρ => (a ρ).bind fun d => match d with
  | .str y => if y.length ≤ 16777216 then some (.str y) else none
  | _ => none
theorem ev_fmt {te : TE} {m : En → Option D} (h : ET K te m) : ET K (tFmt te) (mFmt m) := by
  refine ⟨fun {H0 T0 σ ρ H T d} G hm Q q => ?_⟩
  obtain ⟨x, hx, hm⟩ := bind_some hm
  split at hm
  · rename_i y
    split at hm
    · rename_i hz
      cases hm
      refine h.run G hx _ fun v H1 s1 d1 p1 => ?_
      cases p1
      exact .inl ⟨y, rfl, hz, q _ H1 s1 d1 (.str y)⟩
    · cases hm
  · cases hm
inductive JT (K : PySem.W.Frag) : List TE → List (En → Option D) → Prop where
  | nil : JT K [] []
  | cons {t : TE} {m : En → Option D} {ts : List TE} {ms : List (En → Option D)} (h : ET K t m) (r : JT K ts ms) : JT K (t :: ts) (m :: ms)
def mJs : List (En → Option D) → Str → En → Option Str
  | [], acc, _ => some acc
  | m :: ms, acc, ρ => (m ρ).bind fun d => match d with
    | .str y => if (acc ++ y).length ≤ 16777216 then mJs ms (acc ++ y) ρ else none
    | _ => none
def mJoined (ms : List (En → Option D)) : En → Option D := fun ρ => (mJs ms Str.empty ρ).map .str
theorem js_run {ts : List TE} {ms : List (En → Option D)} (h : JT K ts ms) : ∀ {H0 : Hp} {T0 : Ov} {σ : L2.St} {ρ : En} {H : Hp} {T : Ov} {acc out : Str}, Good K H0 T0 σ ρ H T → mJs ms acc ρ = some out →
    ∀ Q : Str → Hp → Prop, (∀ H', Same H H' → Dis H' T → Q out (ov H' T)) → tJs ts acc σ (ov H T) Q := by
  induction h with
  | nil =>
    intro H0 T0 σ ρ H T acc out G hm Q q
    cases hm
    exact q H (Same.refl H) G.dis
  | @cons t m ts ms h r ih =>
    intro H0 T0 σ ρ H T acc out G hm Q q
    obtain ⟨x, hx, hm⟩ := bind_some hm
    split at hm
    · rename_i y
      split at hm
      · rename_i hz
        refine h.run G hx _ fun v H1 s1 d1 p1 => ?_
        cases p1
        exact ⟨y, rfl, hz, ih (G.mono s1 d1) hm Q fun H' s2 d2 => q H' (s1.trans s2) d2⟩
      · cases hm
    · cases hm
theorem ev_joined {ts : List TE} {ms : List (En → Option D)} (h : JT K ts ms) : ET K (fun σ H Q => tJs ts Str.empty σ H fun out H1 => Q (.str out) H1) (mJoined ms) := by
  refine ⟨fun {H0 T0 σ ρ H T d} G hm Q q => ?_⟩
  obtain ⟨x, hx, e⟩ := map_some hm
  subst e
  exact js_run h G hx _ fun H' s1 d1 => q _ H' s1 d1 (.str x)
end
end DD

set_option Elab.async false
set_option linter.all false
set_option maxRecDepth 100000
set_option maxHeartbeats 4000000
/-! n += .., text.find(x, i), x.join(what may raise) -/
namespace DD
variable [TabQ] [ExQ]
open PySem PySem.Spec PyProof.Rows L2
section
variable {K : PySem.W.Frag} {cl : Nat → Addr}
def sAugI (i : Nat) (f : Int → Int → Int) (m : En → Option D) : En → Option Fl := fun ρ => match ρ[i]? with
  | some (some (.val (.int a))) => (m ρ).bind fun d => match d with
    | .int b => some (.nx (ρ.set i (some (.val (.int (f a b))))))
    | _ => none
  | _ => none
theorem st_augI {i : Nat} {f : Int → Int → Int} {te : TE} {m : En → Option D} (h : ET K te m) : TSm K (tAug i te (ipI f)) (sAugI i f m) := by
  refine ⟨fun {H0 T0 σ ρ H T g} G hm E q => ?_⟩
  unfold sAugI at hm
  split at hm
  · rename_i a e
    obtain ⟨d, hd, hm⟩ := bind_some hm
    split at hm
    · rename_i b
      cases hm
      obtain ⟨v, hv, pv⟩ := G.val i _ e
      cases pv
      refine ⟨_, hv, ?_⟩
      refine h.run G hd _ fun w H1 s1 d1 p1 => ?_
      cases p1
      exact ⟨a, b, rfl, rfl, q _ _ _ ((G.mono s1 d1).set (.int _))⟩
    · cases hm
  · cases hm
def rFind3 : V → List V → Hp → VK → Prop := fun x xs H Q => ∃ (a b : Str) (i : Int), x = .str a ∧ xs = [.str b, .int i] ∧ Q (.int (Txt.find3 a b i)) H
theorem mt_find3' {X : Cx} : MtR X "str.find" rFind3 := mt_find3
def dFind3 : D → List D → Option D
  | .str a, [.str b, .int i] => some (.int (Txt.find3 a b i))
  | _, _ => none
def mFind3 (mo : En → Option D) (ma : En → Option (List D)) : En → Option D := fun ρ => (mo ρ).bind fun x => (ma ρ).bind fun ys => dFind3 x ys
theorem ev_find3 {to : TE} {ta : TA} {mo : En → Option D} {ma : En → Option (List D)} (ho : ET K to mo) (ha : TAm K ta ma) : ET K (tBM K "str" rFind3 to ta) (mFind3 mo ma) := by
  refine ⟨fun {H0 T0 σ ρ H T d} G h Q q => ?_⟩
  obtain ⟨x, hx, h⟩ := bind_some h
  obtain ⟨ys, hy, h⟩ := bind_some h
  unfold dFind3 at h
  split at h
  · rename_i a b i
    cases h
    refine ho.run G hx _ fun v H1 s1 d1 p1 => ?_
    cases p1
    refine ⟨rfl, ?_⟩
    refine ha.run (G.mono s1 d1) hy _ fun vs H2 s2 d2 p2 => ?_
    cases p2 with
    | cons g1 r =>
      cases g1
      cases r with
      | cons g2 r =>
        cases g2
        cases r
        exact ⟨_, _, _, rfl, rfl, q _ H2 (s1.trans s2) d2 (.int _)⟩
  · cases h
def xJoin (mo : En → Option D) (ma : En → Option Rs) : En → Option Rs := fun ρ => (mo ρ).bind fun x => (ma ρ).bind fun r => match x, r with
  | .str _, .ok y => (dJoin x y).map .ok
  | .str _, .ex c => some (.ex c)
  | _, _ => none
theorem ex_join {to : TE} {te : WX → TE} {mo : En → Option D} {ma : En → Option Rs} (ho : ET K to mo) (ha : EX K cl te ma) : EX K cl (fun W => tBM K "str" (rJoinD K) to (tCons (te W) tNil)) (xJoin mo ma) := by
  refine ⟨fun {H0 T0 σ ρ H T r} G h W Q q => ?_⟩
  obtain ⟨x, hx, h⟩ := bind_some h
  obtain ⟨y, hy, h⟩ := bind_some h
  refine ho.run G hx _ fun v H1 s1 d1 p1 => ?_
  split at h
  · rename_i a y
    cases dp_str p1
    refine ⟨rfl, ?_⟩
    obtain ⟨d, hd, e⟩ := map_some h
    subst e
    refine ha.run (G.mono s1 d1) hy W _ fun u H2 s2 d2 p2 => ?_
    unfold dJoin at hd
    split at hd
    · rename_i a' ds e1
      obtain ⟨ns, e, hd⟩ := bind_some hd
      split at hd
      · rename_i hz
        cases hd
        cases strs_some e
        cases e1
        obtain ⟨p, us, rfl, hs, gu⟩ := dp_lst p2
        cases dpa_strs_v gu
        exact ⟨_, p, ns, rfl, rfl, .inl (sql_ov d2 hs), hz, q _ H2 (s1.trans s2) d2 (.str _)⟩
      · cases hd
    · rename_i a' ds e1
      obtain ⟨ns, e, hd⟩ := bind_some hd
      split at hd
      · rename_i hz
        cases hd
        cases strs_some e
        cases e1
        obtain ⟨p, us, rfl, hs, gu⟩ := dp_tup p2
        cases dpa_strs_v gu
        exact ⟨_, p, ns, rfl, rfl, .inr (sqt_ov d2 hs), hz, q _ H2 (s1.trans s2) d2 (.str _)⟩
      · cases hd
    · cases hd
  · rename_i a c
    cases dp_str p1
    refine ⟨rfl, ?_⟩
    cases h
    exact ha.run (G.mono s1 d1) hy W _ fun H2 s2 d2 => q H2 (s1.trans s2) d2
  · cases h
end
/-- a while's turns: no more than the signs of a text -/
def fuelStr (i : Nat) (ρ : En) : Nat := match ρ[i]? with
  | some (some (.val (.str z))) => z.length + 2
  | _ => 1
end DD

set_option Elab.async false
set_option linter.all false
set_option maxRecDepth 100000
set_option maxHeartbeats 4000000
/-! enumerate of a list or a tuple -/
namespace DD
variable [TabQ] [ExQ]
open PySem PySem.Spec PyProof.Rows L2
set_option maxHeartbeats 1000000 in
theorem meets_enum1 {v : Value} {o : Obj} {H : Heap → Prop} (B : Begins v o H) :
    Meets (Builtin.«enumerate.__new__» ⟨[.type "enumerate", v], []⟩) (fun _ R s => H s.heap ∧
      R (.ok (.ret (.ref (s.heap.push o).objs.size))) { s with heap := (s.heap.push o).push { cls := .type "enumerate", data := .fields #[.none, .bool false, .ref s.heap.objs.size, rawInt 0, .none, .none] } }) :=
  .of_wp fun prog w A R s h => by
    obtain ⟨hp, g, d, tk, os⟩ := s; obtain ⟨h1, h⟩ := h
    have hsub := sub_enumerate
    have q1 : ∀ {A' : Around} {E : Value → Shared → Prop} {Q : Value → Shared → Prop}, Q (.ref hp.objs.size) ⟨hp.push o, g, d, tk, os⟩ → wpAny (model prog w) A' (pyIter v) Q E ⟨hp, g, d, tk, os⟩ :=
      fun q => B.iter prog w _ _ ⟨hp, g, d, tk, os⟩ _ h1 q
    wp_walk using q1
    refine wpAny_stack_any fun st => wpAny_pure ?_
    split
    · rename_i c _ _ _ _ _
      cases (c == Value.type "enumerate")
      · wp_walk using q1
        exact ⟨_, rfl, h⟩
      · wp_walk using q1
        exact ⟨_, rfl, h⟩
    · wp_walk using q1
      exact ⟨_, rfl, h⟩
section
variable {prog : Program} {w : World} {A : Around} {E : Value → Shared → Prop} {s : Shared}
theorem call_enum1 {v : Value} {o : Obj} {H : Heap → Prop} {Q : Value → Shared → Prop} (B : Begins v o H) (h1 : H s.heap)
    (h : ∀ h', IsEnum h' (s.heap.objs.size + 1) s.heap.objs.size 0 .none → h'.get? s.heap.objs.size = some o → h'.objs.size = s.heap.objs.size + 2 →
      (∀ b o, s.heap.get? b = some o → h'.get? b = some o) → Q (.ref (s.heap.objs.size + 1)) { s with heap := h' }) :
    wpAny (model prog w) A (call (.type "enumerate") [v]) Q E s := by
  refine callType_new F.called_enumerate (by decide) (F.typeCall_enumerate_1 _) (F.newCall_enumerate_1 _) (fun obj => F.args_object_init_2 obj _) F.entry_enumerate_new
    (meets_enum1 B) ⟨h1, ?_⟩
  have hz : (s.heap.push o).objs.size = s.heap.objs.size + 1 := Heap.size_push ..
  show _ ∧ _
  rw [hz]
  have he : IsEnum ((s.heap.push o).push { cls := .type "enumerate", data := .fields #[.none, .bool false, .ref s.heap.objs.size, rawInt 0, .none, .none] }) (s.heap.objs.size + 1) s.heap.objs.size 0 .none := by
    have := Heap.get?_push_size (s.heap.push o) (o := { cls := .type "enumerate", data := .fields #[.none, .bool false, .ref s.heap.objs.size, rawInt 0, .none, .none] }) rfl
    rw [hz] at this; exact this
  refine ⟨⟨_, he, rfl⟩, h _ he (Heap.get?_push_of_some _ (Heap.get?_push_size _ B.free)) (by rw [Heap.size_push, hz]) fun b o x => Heap.get?_push_of_some _ (Heap.get?_push_of_some _ x)⟩
end
def IteB (K : PySem.W.Frag) (b : Bool) (a : Addr) : It :=
  ⟨fun i H => ∃ (xs : List V) (x : V), SqB b K H a xs ∧ xs[i]? = some x, fun i H v H' => ∃ T x, v = .ref T ∧ H T = none ∧ H' = upd H T (.tup [.int (i : Nat), x]) ∧ ∀ xs, SqB b K H a xs → xs[i]? = some x, fun i H => ∃ xs : List V, SqB b K H a xs ∧ xs.length = i⟩
theorem turn_enumB {P : Program} {w : World} {K : PySem.W.Frag} {elts : List Expr} {kk : Nat} {tpos : Pos} {b : Bool} (a e it : Addr) :
    Turn P w K (.Tuple elts kk tpos) (IteB K b a) [e, it] e (fun i h => (∃ old, IsEnum h e it ((i : Nat) : Int) old) ∧ AtB b h it a i ∧ e ≠ it) where
  mem := by simp
  obj := fun i h st c hb => by
    obtain ⟨⟨old, he⟩, hi, _⟩ := st
    have e' : c = e ∨ c = it := by simpa using hb
    rcases e' with z | z
    · rw [z]; exact ⟨_, he, fun v q => nomatch q⟩
    · rw [z]; exact atB_obj hi
  keep := fun i h h' st k => let ⟨⟨old, he⟩, hi, hne⟩ := st; ⟨⟨old, k e (by simp) _ he⟩, hi.at fun o q => k it (by simp) o q, hne⟩
  item := by
    intro X hP hw hK hc i pins s σ H E I hf st hg
    subst hP hw hK
    obtain ⟨⟨old, he⟩, hit, hne⟩ := st
    obtain ⟨xs, x, hq, hx⟩ := hg
    obtain ⟨its, rv, p⟩ := hq.get I
    obtain ⟨u, hu, ru⟩ := rv.get hx
    have hel : e < s.heap.objs.size := Heap.lt_size he
    have hil : it < s.heap.objs.size := by obtain ⟨o, q, _⟩ := atB_obj hit; exact Heap.lt_size q
    have na : a ≠ it := apartB p hit
    have ne : e ≠ a := fun z => by
      cases b
      · obtain ⟨o, ho, hc1, _⟩ : s.heap.IsList a its.toArray := p
        rw [← z] at ho
        have q := Option.some.inj (ho.symm.trans he)
        have hc2 : Value.type "enumerate" = Value.type "list" := by rw [q] at hc1; exact hc1
        exact absurd (Value.type.inj hc2) (by decide)
      · obtain ⟨o, ho, hc1, _⟩ : s.heap.IsTuple a its.toArray := p
        rw [← z] at ho
        have q := Option.some.inj (ho.symm.trans he)
        have hc2 : Value.type "enumerate" = Value.type "tuple" := by rw [q] at hc1; exact hc1
        exact absurd (Value.type.inj hc2) (by decide)
    have j1 : i < its.toArray.size := by obtain ⟨q, _⟩ := List.getElem?_eq_some_iff.mp hu; simpa using q
    refine wpAny_pyNext_enum_itemD (drawsB (A := X.A.in1) b (show X.A.in1.handled = none from I.ok.hd hc) it a na its.toArray) he ⟨hit, p⟩ j1 hne (by simp [hne, ne]) fun y h' tk ey ho hst' hT hsz hk => ?_
    have ey' : y = u := by
      have : its.toArray[i]? = some u := by simpa using hu
      rw [this] at ey; exact (Option.some.inj ey).symm
    subst ey'
    refine ⟨_, rfl, wpAny_letOwnedTupleGo_enum (s := { s with heap := h', toks := tk + 1 }) ho fun h'' he' sb => ?_⟩
    have hT2 : h''.get? s.heap.objs.size = some { cls := .type "tuple", data := .seq #[.int i tk, y] } := (sb.2 _ (Nat.ne_of_gt hel)).trans hT
    have new : ObjOk X.prog X.w (upd H s.heap.objs.size (.tup [.int (i : Nat), x])) h'' s.heap.objs.size (.tup [.int (i : Nat), x]) :=
      ⟨by show 2 ≤ sizeLine; decide, [.int i tk, y], .cons ⟨_, rfl⟩ (.cons ru .nil), ⟨_, hT2, rfl, _, rfl⟩⟩
    have I1 : Inv X pins σ (upd H s.heap.objs.size (.tup [.int (i : Nat), x])) { s with heap := h'', toks := tk + 1 } :=
      I.turnedNew (t' := tk + 1) (ch := [e, it]) (fun c ob hb q => (sb.2 c (fun z => hb (by simp [z]))).trans (hk c ob (fun z => hb (by simp [z])) (fun z => hb (by simp [z])) q)) hf (Nat.le_refl _) new
    refine ⟨.ref s.heap.objs.size, _, I1, rfl, ⟨_, x, rfl, I.hok.fresh (Nat.le_refl _), rfl, fun ys hy => by rw [hy.inj I hq]; exact hx⟩, ⟨⟨y, ?_⟩, hst'.1.at fun o q => (sb.2 it (Ne.symm hne)).trans q, hne⟩, fun c hb => ?_⟩
    · have e1 : ((i + 1 : Nat) : Int) = (i : Int) + 1 := by omega
      rw [e1]; exact he'
    · have hb' : c < s.heap.objs.size := by
        have e' : c = e ∨ c = it := by simpa using hb
        rcases e' with z | z
        · rw [z]; exact hel
        · rw [z]; exact hil
      rw [upd_ne (Nat.ne_of_lt hb')]
      exact (hf c hb).1
  done := by
    intro X hP hw hK hc i pins s σ H E I hf st hg
    subst hP hw hK
    obtain ⟨⟨old, he⟩, hit, hne⟩ := st
    obtain ⟨xs, hq, hx⟩ := hg
    obtain ⟨its, rv, p⟩ := hq.get I
    obtain ⟨f0, f1, f2, f3, f4, f5⟩ := hf it (by simp)
    have hl := rv.length
    have na : a ≠ it := apartB p hit
    have hn : its.toArray.size = i := by rw [List.size_toArray]; omega
    exact wpAny_pyNext_enum_endD (drawsB (A := X.A.in1) b (show X.A.in1.handled = none from I.ok.hd hc) it a na its.toArray) he (by rw [hn]; exact ⟨hit, p⟩) fun h' eb => ⟨rfl, I.turned (t' := s.toks) (fun c o hb q => eb c o hb q) f0 f1 f3 f4 f5⟩
  self := fun A i s Q E st h => let ⟨⟨_, he⟩, _⟩ := st; wpAny_pyIter_enum he h
def iEnumB (K : PySem.W.Frag) (ta : TA) : TI := fun σ H R => ta σ H fun vs H1 => ∃ b a xs, vs = [.ref a] ∧ SqB b K H1 a xs ∧ R (IteB K b a) H1
theorem pi_enumB {X : Cx} {e : Expr} {ta : TA} {p pos tpos : Pos} {elts : List Expr} {kk : Nat} (hg : Gl X "enumerate") (hm : X.mg "enumerate" = none) (ha : PA X [e] ta) (hs : starEach [e] X.env = [(false, eval e X.env)] := by rfl) :
    PI X (.Tuple elts kk tpos) (.Call (.Name "enumerate" p) [e] [] pos) (iEnumB X.K ta) := by
  refine ⟨fun pins s σ H R I h => ?_⟩
  refine Call_ (ld_blt I hg hm boot_enumerate (PyProof.Rows.callWith_type1 (thn (ha.run pos pins s σ H _ I h) fun us s1 ⟨vs, H1, I1, r1, q1⟩ => ?_) hs rfl))
  obtain ⟨b, a, xs, ex, hq, q⟩ := q1
  subst ex
  cases r1 with
  | cons r rr =>
    cases rr
    cases r
    obtain ⟨its, rv, p'⟩ := hq.get I1
    refine call_enum1 (beginsB b a its.toArray) p' fun h' he hit hsz hk => wpAny_pyIter_enum he ?_
    have I2 : Inv X pins σ H1 { s1 with heap := h' } := I1.kept (t' := s1.toks) hk
    refine ⟨s1.heap.objs.size + 1, [s1.heap.objs.size + 1, s1.heap.objs.size], _, _, H1, rfl, I2, turn_enumB a (s1.heap.objs.size + 1) s1.heap.objs.size, ⟨⟨.none, he⟩, beB_at hit, Nat.succ_ne_self _⟩, fun c hb => ?_, q⟩
    have e' : c = s1.heap.objs.size + 1 ∨ c = s1.heap.objs.size := by simpa using hb
    have hle : s1.heap.objs.size ≤ c := by
      rcases e' with z | z
      · rw [z]; exact Nat.le_add_right _ _
      · rw [z]; exact Nat.le_refl _
    exact I1.fpOk hle (I1.hok.fresh hle)
def mEnumB (m : En → Option (List D)) : En → Option (List D) := fun ρ => (m ρ).bind fun ds => match ds with
  | [.list xs] => some (nums 0 xs)
  | [.tuple xs] => some (nums 0 xs)
  | _ => none
theorem it_enumB {K : PySem.W.Frag} {ta : TA} {m : En → Option (List D)} (ha : TAm K ta m) : IT K (iEnumB K ta) (mEnumB m) := by
  refine ⟨fun {H0 T0 σ ρ H T ds} G h R q => ?_⟩
  obtain ⟨as, hx, h⟩ := bind_some h
  refine ha.run G hx _ fun vs H1 s1 d1 p1 => ?_
  have go : ∀ (b : Bool) (a : Addr) (ys : List V) (xs : List D), (∀ {H : Hp} {T : Ov}, Same H1 H → Dis H T → SqB b K (ov H T) a ys) → DpAll K H1 ys xs → ds = nums 0 xs → R (IteB K b a) (ov H1 T) := by
    intro b a ys xs hs gy e
    subst e
    have ly := dpa_len gy
    refine q _ H1 s1 d1 ⟨fun {H T} i sm dis hi => ?_, fun {H T} sm dis => ?_, fun {H T} i {x Hc d} sm dis hd y => ?_⟩
    · rw [nums_len] at hi
      have i1 : i < ys.length := by rw [ly]; exact hi
      exact ⟨ys, ys[i], hs sm dis, by simp [i1]⟩
    · exact ⟨ys, hs sm dis, by rw [nums_len, ly]⟩
    · obtain ⟨p, xx, rfl, np, rfl, ex⟩ := y
      obtain ⟨dx, hdx, rfl⟩ := nums_get hd
      obtain ⟨wx, hwx, gwx⟩ := dpa_get gy hdx
      have := ex ys (hs sm dis)
      rw [hwx] at this
      cases this
      obtain ⟨nT, nH⟩ := ov_free np
      have sn : Same H (upd H p (.tup [.int (i : Nat), xx])) := same_new nH
      refine ⟨_, upd_ov nT, sn, dis_upd dis nT nH, .tup (.inl (.of upd_same)) (.cons ?_ (.cons (dp_mono sn (dp_mono sm gwx)) .nil))⟩
      rw [Nat.zero_add]
      exact .int _
  split at h
  · cases h
    obtain ⟨v, rfl, g⟩ := dpa_one p1
    obtain ⟨a, ys, rfl, hs, gy⟩ := dp_lst g
    exact ⟨false, a, ys, rfl, sql_ov d1 hs, go false a ys _ (fun sm dis => sql_ov dis (sm.seq hs)) gy rfl⟩
  · cases h
    obtain ⟨v, rfl, g⟩ := dpa_one p1
    obtain ⟨a, ys, rfl, hs, gy⟩ := dp_tup g
    exact ⟨true, a, ys, rfl, sqt_ov d1 hs, go true a ys _ (fun sm dis => sqt_ov dis (Same.sqt sm hs)) gy rfl⟩
  · cases h
end DD

set_option Elab.async false
set_option linter.all false
set_option maxRecDepth 100000
set_option maxHeartbeats 2000000
/-! {None: .., True: .., False: ..}[x] -/
namespace DD
variable [TabQ] [ExQ]
open PySem PySem.Spec PyProof.Rows L2
abbrev LVs : List (Leaf × Str) → List (Leaf × Value) → Prop := Paired fun p q => p.1 = q.1 ∧ ∃ t, q.2 = Value.str p.2 t
/-- at a lies a dict of texts by such keys -/
def LfPhi (P : Program) (w : World) (a : Addr) (ks : List (Leaf × Str)) : Heap → Prop := fun h => ∃ rs : List (Leaf × Value), LVs ks rs ∧ h.DictOf (leafKind P w) a rs
theorem lf_ok {P : Program} {w : World} {H : Hp} {h : Heap} {a : Addr} {ks : List (Leaf × Str)} (x : LfPhi P w a ks h) : ObjOk P w H h a (.ext (LfPhi P w a ks)) := by
  refine ⟨x, ?_, fun h1 h2 y k => ?_⟩
  · obtain ⟨rs, _, o, es, ep, ho, _⟩ := x
    exact ⟨o, ho⟩
  · obtain ⟨rs, r, o, es, ep, ho, z⟩ := y
    exact ⟨rs, r, o, es, ep, k o ho, z⟩
def kNB (s1 s2 s3 : Str) : List (Leaf × Str) := [(.none, s1), (.num 1, s2), (.num 0, s3)]
def tNB (P : Program) (w : World) (s1 s2 s3 : Str) : TE := fun _ H Q => ∀ p, H p = none → Q (.ref p) (upd H p (.ext (LfPhi P w p (kNB s1 s2 s3))))
theorem merged_nb (u v z : Value) : merged [] [(Leaf.none, u), (Leaf.num 1, v), (Leaf.num 0, z)] = [(Leaf.none, u), (Leaf.num 1, v), (Leaf.num 0, z)] := rfl
theorem pe_nb {X : Cx} {pos : Pos} {k1 k2 k3 e1 e2 e3 : Expr} {s1 s2 s3 : Str} (h1 : PE X k1 (tC .non)) (h2 : PE X k2 (tC (.bl true))) (h3 : PE X k3 (tC (.bl false))) (g1 : PE X e1 (tC (.str s1))) (g2 : PE X e2 (tC (.str s2))) (g3 : PE X e3 (tC (.str s3))) :
    PE X (.Dict [some k1, some k2, some k3] [e1, e2, e3] pos) (tNB X.prog X.w s1 s2 s3) := by
  refine ⟨fun pins s σ H Q I q => ?_⟩
  have hn := I.hok.fresh (Nat.le_refl s.heap.objs.size)
  have I1 := I.laid (a := s.heap.objs.size) (o := .ext (LfPhi X.prog X.w s.heap.objs.size [])) (h' := s.heap.push { cls := .type "dict", data := .dict #[] }) (t' := s.toks) (fun _ _ q => Heap.get?_push_of_some _ q) (Nat.le_refl _) (lf_ok ⟨[], .nil, Heap.DictOf.new _⟩)
  refine wpAny_Dict_walk (knd := leafKind X.prog X.w) rfl rfl (fun z => nomatch z) (by decide : (3 : Nat) ≤ 15) (thn ((pps_cons h1 g1 (pps_cons h2 g2 (pps_cons h3 g3 pps_nil))).run pins _ σ _ (fun ps H2 => H2 = upd H s.heap.objs.size (.ext (LfPhi X.prog X.w s.heap.objs.size [])) ∧ ps = [(.non, .str s1), (.bl true, .str s2), (.bl false, .str s3)]) I1 ⟨rfl, rfl⟩) fun ws s2' ⟨ps, H2, I2, rel, eH, ep⟩ => ?_)
  subst ep eH
  cases rel with
  | @cons _ b1 _ _ r1 rel =>
  cases rel with
  | @cons _ b2 _ _ r2 rel =>
  cases rel with
  | @cons _ b3 _ _ r3 rel =>
  cases rel
  obtain ⟨u1, v1⟩ := b1
  obtain ⟨u2, v2⟩ := b2
  obtain ⟨u3, v3⟩ := b3
  obtain ⟨a1, t1, c1⟩ := r1
  obtain ⟨a2, t2, c2⟩ := r2
  obtain ⟨a3, t3, c3⟩ := r3
  replace a1 : u1 = Value.none := a1
  replace a2 : u2 = Value.bool true := a2
  replace a3 : u3 = Value.bool false := a3
  subst a1 a2 a3
  obtain ⟨⟨rs, rr, dd⟩, _⟩ := (show ObjOk X.prog X.w (upd H s.heap.objs.size (.ext (LfPhi X.prog X.w s.heap.objs.size []))) s2'.heap s.heap.objs.size (.ext (LfPhi X.prog X.w s.heap.objs.size [])) from I2.hok _ _ upd_same)
  cases rr
  refine ⟨[(Leaf.none, v1), (Leaf.num 1, v2), (Leaf.num 0, v3)], ⟨rfl, rfl, rfl, rfl, rfl, rfl, True.intro⟩, dd, fun h' dd' hs => ?_⟩
  rw [merged_nb] at dd'
  have he : ∃ q, h'.get? s.heap.objs.size = some q := let ⟨q, _, _, hq, _⟩ := dd'; ⟨q, hq⟩
  have W := d_write (a := s.heap.objs.size) (h' := h') (t' := s2'.toks + 3) (ob := .ext (LfPhi X.prog X.w s.heap.objs.size (kNB s1 s2 s3))) I2 (by rw [upd_same]; exact True.intro) hs he (lf_ok ⟨_, .cons ⟨rfl, t1, c1⟩ (.cons ⟨rfl, t2, c2⟩ (.cons ⟨rfl, t3, c3⟩ .nil)), dd'⟩)
  rw [L2.upd_upd] at W
  exact ⟨.ref s.heap.objs.size, _, W, rfl, q _ hn⟩
def rIxNB (P : Program) (w : World) (s1 s2 s3 : Str) : R2 := fun x y H Q => ∃ p, x = .ref p ∧ H p = some (.ext (LfPhi P w p (kNB s1 s2 s3))) ∧ ((y = .non ∧ Q (.str s1) H) ∨ (y = .bl true ∧ Q (.str s2) H) ∨ (y = .bl false ∧ Q (.str s3) H))
theorem ix_nb {X : Cx} {s1 s2 s3 : Str} : IxR X (rIxNB X.prog X.w s1 s2 s3) := by
  intro value slice pins s σ H x y v u Q I rx ry h hs
  obtain ⟨p, rfl, hp, hq⟩ := h
  replace rx : v = Value.ref p := rx
  subst rx
  obtain ⟨⟨rs, rr, dd⟩, _⟩ := (show ObjOk X.prog X.w H s.heap p (.ext (LfPhi X.prog X.w p (kNB s1 s2 s3))) from I.hok _ _ hp)
  cases rr with
  | @cons _ b1 _ _ r1 rr =>
  cases rr with
  | @cons _ b2 _ _ r2 rr =>
  cases rr with
  | @cons _ b3 _ _ r3 rr =>
  cases rr
  obtain ⟨u1, v1⟩ := b1
  obtain ⟨u2, v2⟩ := b2
  obtain ⟨u3, v3⟩ := b3
  obtain ⟨a1, t1, c1⟩ := r1
  obtain ⟨a2, t2, c2⟩ := r2
  obtain ⟨a3, t3, c3⟩ := r3
  replace a1 : Leaf.none = u1 := a1
  replace a2 : Leaf.num 1 = u2 := a2
  replace a3 : Leaf.num 0 = u3 := a3
  subst a1 a2 a3
  rcases hq with ⟨rfl, q⟩ | ⟨rfl, q⟩ | ⟨rfl, q⟩
  · replace ry : u = Value.none := ry
    subst ry
    exact subscriptTail_builtinR (x := v1) dd.typeIs slot_dict_getitem.lookup (wpAny_getItem_of (knd := leafKind X.prog X.w) (k := .none) (Q := fun r s' => r = v1 ∧ EP X pins σ Q r s') rfl dd.mapOf rfl ⟨rfl, .str s1, H, I.tok _, ⟨t1, c1⟩, q⟩) hs
  · replace ry : u = Value.bool true := ry
    subst ry
    exact subscriptTail_builtinR (x := v2) dd.typeIs slot_dict_getitem.lookup (wpAny_getItem_of (knd := leafKind X.prog X.w) (k := (.num 1)) (Q := fun r s' => r = v2 ∧ EP X pins σ Q r s') rfl dd.mapOf rfl ⟨rfl, .str s2, H, I.tok _, ⟨t2, c2⟩, q⟩) hs
  · replace ry : u = Value.bool false := ry
    subst ry
    exact subscriptTail_builtinR (x := v3) dd.typeIs slot_dict_getitem.lookup (wpAny_getItem_of (knd := leafKind X.prog X.w) (k := (.num 0)) (Q := fun r s' => r = v3 ∧ EP X pins σ Q r s') rfl dd.mapOf rfl ⟨rfl, .str s3, H, I.tok _, ⟨t3, c3⟩, q⟩) hs
def dNB (s1 s2 s3 : Str) : D → Option D
  | .none => some (.str s1)
  | .bool true => some (.str s2)
  | .bool false => some (.str s3)
  | _ => none
theorem ev_nb {K : PySem.W.Frag} {P : Program} {w : World} {s1 s2 s3 : Str} {te : TE} {m : En → Option D} (h : ET K te m) : ET K (tOp (rIxNB P w s1 s2 s3) (tNB P w s1 s2 s3) te) (mUn (dNB s1 s2 s3) m) := by
  refine ⟨fun {H0 T0 σ ρ H T d} G e Q q => ?_⟩
  obtain ⟨y, hy, e⟩ := bind_some e
  intro p hp
  obtain ⟨hT, hH⟩ := ov_free hp
  rw [upd_ov hT]
  have G1 := G.mono (same_new (o := .ext (LfPhi P w p (kNB s1 s2 s3))) hH) (dis_upd G.dis hT hH)
  refine h.run G1 hy _ fun v H' s dz g => ?_
  have at' : ov H' T p = some (.ext (LfPhi P w p (kNB s1 s2 s3))) := raw_ov dz _ _ (s _ _ upd_same (fun _ => HO.noConfusion))
  refine ⟨p, rfl, at', ?_⟩
  have st := Same.trans (same_new (o := .ext (LfPhi P w p (kNB s1 s2 s3))) hH) s
  cases y with
  | none => cases e; cases g; exact .inl ⟨rfl, q _ _ st dz (.str _)⟩
  | bool b =>
    cases g
    cases b with
    | true => cases e; exact .inr (.inl ⟨rfl, q _ _ st dz (.str _)⟩)
    | false => cases e; exact .inr (.inr ⟨rfl, q _ _ st dz (.str _)⟩)
  | int i => cases e
  | str z => cases e
  | list ds => cases e
  | tuple ds => cases e
  | dict ds => cases e
end DD

set_option Elab.async false
set_option linter.all false
set_option maxRecDepth 100000
set_option maxHeartbeats 4000000
/-! reckoning with mirrors -/
namespace DD
open PySem PySem.Spec PyProof.Rows L2
section
variable {ρ ρ' : En} {a b : En → Option Fl} {f : Fl} {d e : D}
theorem seq_nx (h : a ρ = some (.nx ρ')) : sSeq a b ρ = b ρ' := by unfold sSeq; rw [h]; rfl
theorem seq_rt (h : a ρ = some (.rt d)) : sSeq a b ρ = some (.rt d) := by unfold sSeq; rw [h]; rfl
theorem if_t {c : En → Option Bool} (h : c ρ = some true) : sIf c a b ρ = a ρ := by unfold sIf; rw [h]; rfl
theorem if_f {c : En → Option Bool} (h : c ρ = some false) : sIf c a b ρ = b ρ := by unfold sIf; rw [h]; rfl
theorem asg_set {m : En → Option D} {i : Nat} (h : m ρ = some d) : sAsg m (gSet i) ρ = some (.nx (ρ.set i (some (.val d)))) := by unfold sAsg; rw [h]; rfl
theorem par_set {m n : En → Option D} {i j : Nat} (h : m ρ = some d) (k : n ρ = some e) : sPar i j m n ρ = some (.nx ((ρ.set i (some (.val d))).set j (some (.val e)))) := by unfold sPar; rw [h, k]; rfl
theorem ret_of {m : En → Option D} (h : m ρ = some d) : sRet m ρ = some (.rt d) := by unfold sRet; rw [h]; rfl
theorem op_of {g : D → D → Option D} {m n : En → Option D} {x y : D} (h : m ρ = some x) (k : n ρ = some y) : mOp g m n ρ = g x y := by unfold mOp; rw [h, k]; rfl
theorem un_of {g : D → Option D} {m : En → Option D} {x : D} (h : m ρ = some x) : mUn g m ρ = g x := by unfold mUn; rw [h]; rfl
theorem call_of {g : List D → Option D} {m : En → Option (List D)} {x : List D} (h : m ρ = some x) : mCall g m ρ = g x := by unfold mCall; rw [h]; rfl
theorem cons_of {m : En → Option D} {n : En → Option (List D)} {x : D} {y : List D} (h : m ρ = some x) (k : n ρ = some y) : mCons m n ρ = some (x :: y) := by unfold mCons; rw [h, k]; rfl
theorem nil_of : mNil ρ = some [] := rfl
theorem test_of {m : En → Option D} {c : Bool} (h : m ρ = some (.bool c)) : mTest m ρ = some c := by unfold mTest; rw [h]; rfl
theorem tru_of {m : En → Option D} {x : D} (h : m ρ = some x) : mTru m ρ = tru x := by unfold mTru; rw [h]; rfl
theorem tup_of {m : En → Option (List D)} {x : List D} (h : m ρ = some x) (k : x.length ≤ cap) : mTup m ρ = some (.tuple x) := by unfold mTup; rw [h]; simp [sized, k]
theorem lst_of {m : En → Option (List D)} {x : List D} (h : m ρ = some x) (k : x.length ≤ cap) : mLst m ρ = some x := by unfold mLst; rw [h]; simp [sized, k]
theorem list_of {m : En → Option (List D)} {x : List D} (h : m ρ = some x) : mList m ρ = some (.list x) := by unfold mList; rw [h]; rfl
theorem lim_of {n : Nat} {m : List D → Option D} {x : List D} (h : x.length = n) : lim n m x = m x := by unfold lim; rw [if_pos h]
theorem lim1 {m : List D → Option D} {x : D} : lim 1 m [x] = m [x] := rfl
theorem lim2 {m : List D → Option D} {x y : D} : lim 2 m [x, y] = m [x, y] := rfl
theorem lim3 {m : List D → Option D} {x y z : D} : lim 3 m [x, y, z] = m [x, y, z] := rfl
theorem or_t {m n : En → Option Bool} (h : m ρ = some true) : mOr m n ρ = some true := by unfold mOr; rw [h]; rfl
theorem or_f {m n : En → Option Bool} (h : m ρ = some false) : mOr m n ρ = n ρ := by unfold mOr; rw [h]; rfl
theorem and_t {m n : En → Option Bool} (h : m ρ = some true) : mAnd m n ρ = n ρ := by unfold mAnd; rw [h]; rfl
theorem and_f {m n : En → Option Bool} (h : m ρ = some false) : mAnd m n ρ = some false := by unfold mAnd; rw [h]; rfl
theorem not_of {m : En → Option Bool} {c : Bool} (h : m ρ = some c) : mNot m ρ = some (!c) := by unfold mNot; rw [h]; rfl
theorem andV_t {m n : En → Option D} (h : m ρ = some (.bool true)) : mAndV m n ρ = n ρ := by unfold mAndV; rw [h]; rfl
theorem andV_f {m n : En → Option D} (h : m ρ = some (.bool false)) : mAndV m n ρ = some (.bool false) := by unfold mAndV; rw [h]; rfl
theorem notV_of {m : En → Option D} {c : Bool} (h : m ρ = some (.bool c)) : mNotV m ρ = some (.bool (!c)) := by unfold mNotV; rw [h]; rfl
theorem ifE_t {c : En → Option Bool} {m n : En → Option D} (h : c ρ = some true) : mIfE c m n ρ = m ρ := by unfold mIfE; rw [h]; rfl
theorem ifE_f {c : En → Option Bool} {m n : En → Option D} (h : c ρ = some false) : mIfE c m n ρ = n ρ := by unfold mIfE; rw [h]; rfl
theorem mDef_rt {N : Nat} {ds : List D} (h : a (start0 N ds) = some (.rt d)) : mDef N a ds = some d := by unfold mDef; rw [h]; rfl
theorem dEq_of (h : SeqAt.shaped d = true) (k : SeqAt.shaped e = true) : dEq d e = some (.bool (PyData.eqv d e)) := by unfold dEq; rw [h, k]; rfl
theorem dNe_of (h : SeqAt.shaped d = true) (k : SeqAt.shaped e = true) : dNe d e = some (.bool (!PyData.eqv d e)) := by unfold dNe; rw [h, k]; rfl
end

theorem dLen_list {ds : List D} (h : ds.length ≤ cap) : dLen [.list ds] = some (.int ds.length) := if_pos h
theorem dLen_tup {ds : List D} (h : ds.length ≤ cap) : dLen [.tuple ds] = some (.int ds.length) := if_pos h
theorem dLen_str {z : Str} (h : z.length ≤ cap) : dLen [.str z] = some (.int z.length) := if_pos h
theorem dMod_of {i j : Int} (h : 0 < j) : dMod (.int i) (.int j) = some (.int (i % j)) := if_pos h
theorem dFdiv_of {i j : Int} (h : 0 < j) (k : j.natAbs < 2 ^ 64) : dFdiv (.int i) (.int j) = some (.int (i / j)) := if_pos ⟨h, by
  have := PySem.Flt.log2_lt_of (show 0 < 64 by decide) k
  omega⟩
theorem dMul_r {i j : Int} (h : -(2 ^ 64) < j) (k : j < 2 ^ 64) : dMul (.int i) (.int j) = some (.int (i * j)) := by
  have : inW j = true := by unfold inW; rw [decide_eq_true h, decide_eq_true k]; rfl
  show (if (inW i || inW j) = true then _ else _) = _
  rw [this, Bool.or_true, if_pos rfl]
theorem whl_t {c : En → Option Bool} {b : En → Option Fl} {n : Nat} {ρ ρ2 : En} (h : c ρ = some true) (k : b ρ = some (.nx ρ2)) : whl c b (n + 1) ρ = whl c b n ρ2 := by
  have : whl c b (n + 1) ρ = (c ρ).bind fun x => if x = true then (b ρ).bind fun f => match f with
      | .nx ρ2 => whl c b n ρ2
      | .ct ρ2 => whl c b n ρ2
      | .bk ρ2 => some (.nx ρ2)
      | .rt d => some (.rt d)
    else some (.nx ρ) := rfl
  rw [this, h]
  show ((b ρ).bind fun f => _) = _
  rw [k]
  rfl
theorem whl_f {c : En → Option Bool} {b : En → Option Fl} {n : Nat} {ρ : En} (h : c ρ = some false) : whl c b (n + 1) ρ = some (.nx ρ) := by
  have : whl c b (n + 1) ρ = (c ρ).bind fun x => if x = true then (b ρ).bind fun f => match f with
      | .nx ρ2 => whl c b n ρ2
      | .ct ρ2 => whl c b n ρ2
      | .bk ρ2 => some (.nx ρ2)
      | .rt d => some (.rt d)
    else some (.nx ρ) := rfl
  rw [this, h]
  rfl

/-! ### comprehensions, loops -/
theorem coll_map {g : D → En → Option En} {e : En → Option D} {ρ : En} {f : D → D} : ∀ {ds : List D}, (∀ d ∈ ds, ∃ ρ1, g d ρ = some ρ1 ∧ e ρ1 = some (f d)) → coll g mYes e ρ ds = some (ds.map f)
  | [], _ => rfl
  | d :: ds, h => by
    obtain ⟨ρ1, h1, h2⟩ := h d List.mem_cons_self
    have ih := coll_map (g := g) (e := e) (ρ := ρ) (f := f) (ds := ds) fun x hx => h x (List.mem_cons_of_mem _ hx)
    have s1 : coll g mYes e ρ (d :: ds) = (g d ρ).bind fun ρ1 => (mYes ρ1).bind fun b => if b = true then (e ρ1).bind fun x => (coll g mYes e ρ ds).map fun r => x :: r else coll g mYes e ρ ds := rfl
    rw [s1, h1]
    show ((e ρ1).bind fun x => (coll g mYes e ρ ds).map fun r => x :: r) = _
    rw [h2, ih]
    rfl
theorem lc_of {it : En → Option (List D)} {g : D → En → Option En} {e : En → Option D} {ρ : En} {vs : List Nat} {ds : List D} {f : D → D} (hi : it ρ = some ds) (hz : ds.length ≤ cap) (h : ∀ d ∈ ds, ∃ ρ1, g d (wipeM ρ vs) = some ρ1 ∧ e ρ1 = some (f d)) :
    mLc it g mYes e vs ρ = some (ds.map f) := by
  unfold mLc
  rw [hi]
  show (if ds.length ≤ cap then _ else _) = _
  rw [if_pos hz]
  exact coll_map h
theorem bools_map (p : D → Bool) : ∀ ds : List D, bools (ds.map fun d => .bool (p d)) = some (ds.map p)
  | [] => rfl
  | d :: ds => by
    show (bools (ds.map fun d => .bool (p d))).map _ = _
    rw [bools_map p ds]
    rfl
theorem dAll_map (p : D → Bool) (ds : List D) : dAll [.list (ds.map fun d => .bool (p d))] = some (.bool (ds.all p)) := by
  show (bools (ds.map fun d => .bool (p d))).map (fun bs => PyData.bool (bs.all id)) = _
  rw [bools_map]
  show some (PyData.bool ((ds.map p).all id)) = _
  rw [List.all_map]
  rfl
theorem iter_tup {a : En → Option D} {ρ : En} {ds : List D} (h : a ρ = some (.tuple ds)) : mIter a ρ = some ds := by unfold mIter; rw [h]; rfl
theorem iter_lst {a : En → Option D} {ρ : En} {ds : List D} (h : a ρ = some (.list ds)) : mIter a ρ = some ds := by unfold mIter; rw [h]; rfl
theorem chain_of {g h : D → D → Option D} {a b c : En → Option D} {ρ : En} {x y z : D} {p q : Bool} (ha : a ρ = some x) (hb : b ρ = some y) (hc : c ρ = some z) (e1 : g x y = some (.bool p)) (e2 : h y z = some (.bool q)) : mChain g h a b c ρ = some (.bool (p && q)) := by
  unfold mChain
  rw [ha]
  show ((b ρ).bind fun y => _) = _
  rw [hb]
  show ((g x y).bind fun z => _) = _
  rw [e1]
  show (if p = true then (c ρ).bind fun w => h y w else some (.bool false)) = _
  cases p with
  | true => rw [if_pos rfl, hc]; show h y z = _; rw [e2]; rfl
  | false => rw [if_neg Bool.false_ne_true]; rfl

/-! ### a drawn number -/
def kIn (ρ : En) (i : Nat) (d : D) : Prop := ρ[i]? = some (some (.val d))
theorem var_of {ρ : En} {i : Nat} {d : D} (h : ρ[i]? = some (some (.val d))) : mVar i ρ = some d := by unfold mVar; rw [h]

def b_pick : En → Option Fl :=
  (sSeq (sAsg (mIfE (mTest (mOp dNe (mVar 0) (mList (mLst mNil)))) (mOp dIx (mVar 0) (mOp dMod (mVar 1) (mCall dLen (mCons (mVar 0) mNil)))) (mC (.int 0))) (gSet 3))
  (sSeq (sPar 4 5 (mOp dFdiv (mVar 3) (mOp dPow (mC (.int 10)) (mC (.int 18)))) (mOp dFdiv (mVar 1) (mCall dMax2 (mCons (mCall dLen (mCons (mVar 0) mNil)) (mCons (mC (.int 1)) mNil)))))
  (sSeq (sWhile (fun ρ => fuelOf 5 ρ) (mAnd (mTest (mOp dGt (mVar 4) (mC (.int 0)))) (mTest (mOp dGt (mVar 5) (mC (.int 0)))))
  (sPar 4 5 (mOp dFdiv (mVar 4) (mC (.int 840))) (mOp dSub (mVar 5) (mC (.int 1)))))
  (sSeq (sIf (mTest (mOp dGt (mVar 4) (mC (.int 0))))
  (sRet (mOp dMod (mOp dMod (mVar 4) (mC (.int 840))) (mVar 2)))
  sNext)
  (sSeq (sAsg (mOp dMod (mOp dMul (mOp dAdd (mOp dMul (mVar 3) (mC (.int 31))) (mOp dMul (mC (.int 6151)) (mOp dAdd (mVar 1) (mC (.int 1))))) (mC (.int 40692))) (mC (.int 2147483399))) (gSet 6))
  (sRet (mOp dMod (mOp dMod (mOp dAdd (mOp dMul (mVar 6) (mVar 6)) (mOp dFdiv (mVar 6) (mC (.int 31)))) (mC (.int 2147483629))) (mVar 2))))))))
def m_pick (ds : List D) : Option D := mDef 7 b_pick ds

theorem shaped_ints (ns : List Int) : SeqAt.shaped (.list (ns.map PyData.int)) = true := by
  have h1 : ∀ ns : List Int, PyData.canLayAll0 (ns.map PyData.int) = true := by
    intro ns
    induction ns with
    | nil => simp [PyData.canLayAll0]
    | cons n r ih => simp [PyData.canLayAll0, PyData.canLay0, ih]
  have h2 : ∀ ns : List Int, PyData.depthAll (ns.map PyData.int) = 0 := by
    intro ns
    induction ns with
    | nil => simp [PyData.depthAll]
    | cons n r ih => simp [PyData.depthAll, PyData.depth, ih]
  unfold SeqAt.shaped
  simp [PyData.canLay0, PyData.depth, h1, h2]
theorem shaped_nil : SeqAt.shaped (.list []) = true := shaped_ints []
theorem eqv_nil (ns : List Int) : PyData.eqv (.list (ns.map PyData.int)) (.list []) = ns.isEmpty := by
  cases ns <;> simp [PyData.eqv, PyData.eqvAll]
/-- the loop of a drawn number: rest and turn stay ints -/
theorem pick_loop : ∀ (n : Nat) (x : Int) (ρ : En) (sc k many c : D) (r t : Int) (g : Option Sl), 0 ≤ t → t.toNat + 1 = n →
    ∃ r' t' : Int, whl (mAnd (mTest (mOp dGt (mVar 4) (mC (.int 0)))) (mTest (mOp dGt (mVar 5) (mC (.int 0))))) (sPar 4 5 (mOp dFdiv (mVar 4) (mC (.int 840))) (mOp dSub (mVar 5) (mC (.int 1)))) n
      [some (.val sc), some (.val k), some (.val many), some (.val c), some (.val (.int r)), some (.val (.int t)), g] = some (.nx [some (.val sc), some (.val k), some (.val many), some (.val c), some (.val (.int r')), some (.val (.int t')), g])
  | 0, _, _, _, _, _, _, _, _, _, h, e => by omega
  | n + 1, x, ρ, sc, k, many, c, r, t, g, h, e => by
    have hc : mAnd (mTest (mOp dGt (mVar 4) (mC (.int 0)))) (mTest (mOp dGt (mVar 5) (mC (.int 0)))) [some (.val sc), some (.val k), some (.val many), some (.val c), some (.val (.int r)), some (.val (.int t)), g] = some (decide (0 < r) && decide (0 < t)) := by
      have a1 : mTest (mOp dGt (mVar 4) (mC (.int 0))) [some (.val sc), some (.val k), some (.val many), some (.val c), some (.val (.int r)), some (.val (.int t)), g] = some (decide (0 < r)) := rfl
      have a2 : mTest (mOp dGt (mVar 5) (mC (.int 0))) [some (.val sc), some (.val k), some (.val many), some (.val c), some (.val (.int r)), some (.val (.int t)), g] = some (decide (0 < t)) := rfl
      cases hq : decide (0 < r) with
      | true => rw [hq] at a1; rw [and_t a1, a2, Bool.true_and]
      | false => rw [hq] at a1; rw [and_f a1, Bool.false_and]
    cases hq : (decide (0 < r) && decide (0 < t)) with
    | true =>
      rw [hq] at hc
      rw [Bool.and_eq_true] at hq
      have ht : 0 < t := of_decide_eq_true hq.2
      have b1 : mOp dFdiv (mVar 4) (mC (.int 840)) [some (.val sc), some (.val k), some (.val many), some (.val c), some (.val (.int r)), some (.val (.int t)), g] = some (.int (r / 840)) := by
        rw [op_of (show mVar 4 _ = some (.int r) from rfl) (show mC (.int 840) _ = some (.int 840) from rfl)]
        exact dFdiv_of (by decide) (by decide)
      have b2 : mOp dSub (mVar 5) (mC (.int 1)) [some (.val sc), some (.val k), some (.val many), some (.val c), some (.val (.int r)), some (.val (.int t)), g] = some (.int (t - 1)) := rfl
      have hb := par_set (i := 4) (j := 5) b1 b2
      rw [whl_t hc hb]
      exact pick_loop n x ρ sc k many c (r / 840) (t - 1) g (by omega) (by omega)
    | false =>
      rw [hq] at hc
      rw [whl_f hc]
      exact ⟨r, t, rfl⟩
theorem log18 : ((10 : Int) ^ 18).natAbs.log2 < 9000 := by decide +kernel
theorem pick_ok (ns : List Int) (h63 : ns.length ≤ 63) (k many : Int) (hk : 0 ≤ k) (hk2 : k ≤ 100000) (hm : 1 ≤ many) (hm2 : many ≤ 2000000000) :
    ∃ r : Int, m_pick [.list (ns.map .int), .int k, .int many] = some (.int r) ∧ 0 ≤ r ∧ r < many := by
  have hlen : ((ns.map PyData.int).length : Nat) ≤ cap := by rw [List.length_map]; exact Nat.le_trans h63 (by decide)
  -- the cell
  have hcell : ∃ c : Int, mIfE (mTest (mOp dNe (mVar 0) (mList (mLst mNil)))) (mOp dIx (mVar 0) (mOp dMod (mVar 1) (mCall dLen (mCons (mVar 0) mNil)))) (mC (.int 0)) (start0 7 [.list (ns.map .int), .int k, .int many]) = some (.int c) := by
    have t0 : mTest (mOp dNe (mVar 0) (mList (mLst mNil))) (start0 7 [.list (ns.map .int), .int k, .int many]) = some (!ns.isEmpty) := by
      refine test_of ?_
      have e1 : mVar 0 (start0 7 [.list (ns.map .int), .int k, .int many]) = some (.list (ns.map .int)) := rfl
      have e2 : mList (mLst mNil) (start0 7 [.list (ns.map .int), .int k, .int many]) = some (.list []) := rfl
      rw [op_of e1 e2, dNe_of (shaped_ints ns) shaped_nil, eqv_nil]
    cases hn : ns with
    | nil =>
      subst hn
      exact ⟨0, by rw [ifE_f t0]; rfl⟩
    | cons n0 r0 =>
      have ne : 0 < ns.length := by rw [hn]; exact Nat.succ_pos _
      rw [← hn]
      rw [hn] at t0
      rw [← hn] at t0
      have t1 : mTest (mOp dNe (mVar 0) (mList (mLst mNil))) (start0 7 [.list (ns.map .int), .int k, .int many]) = some true := by
        rw [t0, hn]; rfl
      rw [ifE_t t1]
      have e1 : mVar 0 (start0 7 [.list (ns.map .int), .int k, .int many]) = some (.list (ns.map .int)) := rfl
      have e2 : mOp dMod (mVar 1) (mCall dLen (mCons (mVar 0) mNil)) (start0 7 [.list (ns.map .int), .int k, .int many]) = some (.int (k % (ns.length : Int))) := by
        have e3 : mCall dLen (mCons (mVar 0) mNil) (start0 7 [.list (ns.map .int), .int k, .int many]) = some (.int ns.length) := by
          rw [call_of (cons_of e1 nil_of), dLen_list hlen, List.length_map]
        rw [op_of (show mVar 1 _ = some (.int k) from rfl) e3]
        exact dMod_of (by omega)
      rw [op_of e1 e2]
      have b1 : 0 ≤ k % (ns.length : Int) := Int.emod_nonneg _ (by omega)
      have b2 : k % (ns.length : Int) < ns.length := Int.emod_lt_of_pos _ (by omega)
      obtain ⟨j, hj⟩ : ∃ j : Nat, k % (ns.length : Int) = (j : Int) := ⟨(k % (ns.length : Int)).toNat, by omega⟩
      rw [hj] at b2 ⊢
      have hjl : j < ns.length := by omega
      refine ⟨ns[j], ?_⟩
      show atI (ns.map PyData.int) (j : Int) = _
      exact atI_nat (by rw [List.getElem?_map, List.getElem?_eq_getElem hjl]; rfl)
  obtain ⟨c, hc⟩ := hcell
  have hmax : ∃ y : Int, mCall dMax2 (mCons (mCall dLen (mCons (mVar 0) mNil)) (mCons (mC (.int 1)) mNil)) [some (.val (.list (ns.map .int))), some (.val (.int k)), some (.val (.int many)), some (.val (.int c)), none, none, none] = some (.int y) ∧ 1 ≤ y ∧ y ≤ 63 := by
    have e1 : mVar 0 [some (.val (.list (ns.map .int))), some (.val (.int k)), some (.val (.int many)), some (.val (.int c)), none, none, none] = some (.list (ns.map .int)) := rfl
    have e3 : mCall dLen (mCons (mVar 0) mNil) [some (.val (.list (ns.map .int))), some (.val (.int k)), some (.val (.int many)), some (.val (.int c)), none, none, none] = some (.int ns.length) := by
      rw [call_of (cons_of e1 nil_of), dLen_list hlen, List.length_map]
    rw [call_of (cons_of e3 (cons_of (show mC (.int 1) _ = some (.int 1) from rfl) nil_of))]
    refine ⟨_, rfl, ?_, ?_⟩ <;> (split <;> omega)
  obtain ⟨y, hy, y1, y2⟩ := hmax
  have e2 : sPar 4 5 (mOp dFdiv (mVar 3) (mOp dPow (mC (.int 10)) (mC (.int 18)))) (mOp dFdiv (mVar 1) (mCall dMax2 (mCons (mCall dLen (mCons (mVar 0) mNil)) (mCons (mC (.int 1)) mNil))))
      [some (.val (.list (ns.map .int))), some (.val (.int k)), some (.val (.int many)), some (.val (.int c)), none, none, none] =
      some (.nx [some (.val (.list (ns.map .int))), some (.val (.int k)), some (.val (.int many)), some (.val (.int c)), some (.val (.int (c / 10 ^ 18))), some (.val (.int (k / y))), none]) := by
    have p1 : mOp dPow (mC (.int 10)) (mC (.int 18)) [some (.val (.list (ns.map .int))), some (.val (.int k)), some (.val (.int many)), some (.val (.int c)), none, none, none] = some (.int (10 ^ 18)) := by
      rw [op_of (show mC (.int 10) _ = some (.int 10) from rfl) (show mC (.int 18) _ = some (.int 18) from rfl)]
      rfl
    have p2 : mOp dFdiv (mVar 3) (mOp dPow (mC (.int 10)) (mC (.int 18))) [some (.val (.list (ns.map .int))), some (.val (.int k)), some (.val (.int many)), some (.val (.int c)), none, none, none] = some (.int (c / 10 ^ 18)) := by
      rw [op_of (show mVar 3 _ = some (.int c) from rfl) p1]
      exact dFdiv_of (by decide +kernel) (by decide +kernel)
    have p3 : mOp dFdiv (mVar 1) (mCall dMax2 (mCons (mCall dLen (mCons (mVar 0) mNil)) (mCons (mC (.int 1)) mNil))) [some (.val (.list (ns.map .int))), some (.val (.int k)), some (.val (.int many)), some (.val (.int c)), none, none, none] = some (.int (k / y)) := by
      rw [op_of (show mVar 1 _ = some (.int k) from rfl) hy]
      exact dFdiv_of (by omega) (by omega)
    rw [par_set p2 p3]
    rfl
  have hky : 0 ≤ k / y := Int.ediv_nonneg hk (by omega)
  obtain ⟨r', t', hl⟩ := pick_loop ((k / y).toNat + 1) 0 [] (.list (ns.map .int)) (.int k) (.int many) (.int c) (c / 10 ^ 18) (k / y) none hky rfl
  have fin : ∀ z : Int, ∃ r : Int, (if 0 < many then some (PyData.int (z % many)) else none) = some (.int r) ∧ 0 ≤ r ∧ r < many := fun z =>
    ⟨z % many, by rw [if_pos (by omega)], Int.emod_nonneg _ (by omega), Int.emod_lt_of_pos _ (by omega)⟩
  -- the whole
  have e0 : b_pick (start0 7 [.list (ns.map .int), .int k, .int many]) = (sSeq (sIf (mTest (mOp dGt (mVar 4) (mC (.int 0))))
      (sRet (mOp dMod (mOp dMod (mVar 4) (mC (.int 840))) (mVar 2))) sNext)
      (sSeq (sAsg (mOp dMod (mOp dMul (mOp dAdd (mOp dMul (mVar 3) (mC (.int 31))) (mOp dMul (mC (.int 6151)) (mOp dAdd (mVar 1) (mC (.int 1))))) (mC (.int 40692))) (mC (.int 2147483399))) (gSet 6))
      (sRet (mOp dMod (mOp dMod (mOp dAdd (mOp dMul (mVar 6) (mVar 6)) (mOp dFdiv (mVar 6) (mC (.int 31)))) (mC (.int 2147483629))) (mVar 2)))))
      [some (.val (.list (ns.map .int))), some (.val (.int k)), some (.val (.int many)), some (.val (.int c)), some (.val (.int r')), some (.val (.int t')), none] := by
    unfold b_pick
    rw [seq_nx (asg_set hc)]
    show sSeq _ _ [some (.val (.list (ns.map .int))), some (.val (.int k)), some (.val (.int many)), some (.val (.int c)), none, none, none] = _
    rw [seq_nx e2]
    have hw : sWhile (fun ρ => fuelOf 5 ρ) (mAnd (mTest (mOp dGt (mVar 4) (mC (.int 0)))) (mTest (mOp dGt (mVar 5) (mC (.int 0)))))
        (sPar 4 5 (mOp dFdiv (mVar 4) (mC (.int 840))) (mOp dSub (mVar 5) (mC (.int 1)))) [some (.val (.list (ns.map .int))), some (.val (.int k)), some (.val (.int many)), some (.val (.int c)), some (.val (.int (c / 10 ^ 18))), some (.val (.int (k / y))), none] = _ := hl
    rw [seq_nx hw]
  by_cases hr : 0 < r'
  · have hg : mTest (mOp dGt (mVar 4) (mC (.int 0))) [some (.val (.list (ns.map .int))), some (.val (.int k)), some (.val (.int many)), some (.val (.int c)), some (.val (.int r')), some (.val (.int t')), none] = some true := by
      refine test_of ?_
      rw [op_of (show mVar 4 _ = some (.int r') from rfl) (show mC (.int 0) _ = some (.int 0) from rfl)]
      show some (PyData.bool (decide (0 < r'))) = _
      rw [decide_eq_true hr]
    obtain ⟨r, h1, h2, h3⟩ := fin (r' % 840)
    refine ⟨r, mDef_rt ?_, h2, h3⟩
    rw [e0, seq_rt]
    rw [if_t hg]
    refine ret_of ?_
    have q1 : mOp dMod (mVar 4) (mC (.int 840)) [some (.val (.list (ns.map .int))), some (.val (.int k)), some (.val (.int many)), some (.val (.int c)), some (.val (.int r')), some (.val (.int t')), none] = some (.int (r' % 840)) := rfl
    rw [op_of q1 (show mVar 2 _ = some (.int many) from rfl)]
    exact h1
  · have hg : mTest (mOp dGt (mVar 4) (mC (.int 0))) [some (.val (.list (ns.map .int))), some (.val (.int k)), some (.val (.int many)), some (.val (.int c)), some (.val (.int r')), some (.val (.int t')), none] = some false := by
      refine test_of ?_
      rw [op_of (show mVar 4 _ = some (.int r') from rfl) (show mC (.int 0) _ = some (.int 0) from rfl)]
      show some (PyData.bool (decide (0 < r'))) = _
      rw [decide_eq_false hr]
    have hx : mOp dMod (mOp dMul (mOp dAdd (mOp dMul (mVar 3) (mC (.int 31))) (mOp dMul (mC (.int 6151)) (mOp dAdd (mVar 1) (mC (.int 1))))) (mC (.int 40692))) (mC (.int 2147483399))
        [some (.val (.list (ns.map .int))), some (.val (.int k)), some (.val (.int many)), some (.val (.int c)), some (.val (.int r')), some (.val (.int t')), none] = some (.int ((c * 31 + 6151 * (k + 1)) * 40692 % 2147483399)) := by
      have a1 : mOp dMul (mVar 3) (mC (.int 31)) [some (.val (.list (ns.map .int))), some (.val (.int k)), some (.val (.int many)), some (.val (.int c)), some (.val (.int r')), some (.val (.int t')), none] = some (.int (c * 31)) := by
        rw [op_of (show mVar 3 _ = some (.int c) from rfl) (show mC (.int 31) _ = some (.int 31) from rfl)]
        exact dMul_r (by decide) (by decide)
      have a2 : mOp dMul (mC (.int 6151)) (mOp dAdd (mVar 1) (mC (.int 1))) [some (.val (.list (ns.map .int))), some (.val (.int k)), some (.val (.int many)), some (.val (.int c)), some (.val (.int r')), some (.val (.int t')), none] = some (.int (6151 * (k + 1))) := by
        rw [op_of (show mC (.int 6151) _ = some (.int 6151) from rfl) (show mOp dAdd (mVar 1) (mC (.int 1)) _ = some (.int (k + 1)) from rfl)]
        exact dMul_r (by omega) (by omega)
      have a3 : mOp dAdd (mOp dMul (mVar 3) (mC (.int 31))) (mOp dMul (mC (.int 6151)) (mOp dAdd (mVar 1) (mC (.int 1)))) [some (.val (.list (ns.map .int))), some (.val (.int k)), some (.val (.int many)), some (.val (.int c)), some (.val (.int r')), some (.val (.int t')), none] = some (.int (c * 31 + 6151 * (k + 1))) := by
        rw [op_of a1 a2]
        rfl
      have a4 : mOp dMul (mOp dAdd (mOp dMul (mVar 3) (mC (.int 31))) (mOp dMul (mC (.int 6151)) (mOp dAdd (mVar 1) (mC (.int 1))))) (mC (.int 40692)) [some (.val (.list (ns.map .int))), some (.val (.int k)), some (.val (.int many)), some (.val (.int c)), some (.val (.int r')), some (.val (.int t')), none] = some (.int ((c * 31 + 6151 * (k + 1)) * 40692)) := by
        rw [op_of a3 (show mC (.int 40692) _ = some (.int 40692) from rfl)]
        exact dMul_r (by decide) (by decide)
      rw [op_of a4 (show mC (.int 2147483399) _ = some (.int 2147483399) from rfl)]
      rfl
    let z := (c * 31 + 6151 * (k + 1)) * 40692 % 2147483399
    have z0 : 0 ≤ z := Int.emod_nonneg _ (by decide)
    have z1 : z < 2147483399 := Int.emod_lt_of_pos _ (by decide)
    obtain ⟨r, h1, h2, h3⟩ := fin ((z * z + z / 31) % 2147483629)
    refine ⟨r, mDef_rt ?_, h2, h3⟩
    rw [e0, seq_nx (by rw [if_f hg]; rfl), seq_nx (asg_set hx)]
    refine ret_of ?_
    show mOp dMod (mOp dMod (mOp dAdd (mOp dMul (mVar 6) (mVar 6)) (mOp dFdiv (mVar 6) (mC (.int 31)))) (mC (.int 2147483629))) (mVar 2) [some (.val (.list (ns.map .int))), some (.val (.int k)), some (.val (.int many)), some (.val (.int c)), some (.val (.int r')), some (.val (.int t')), some (.val (.int z))] = _
    have b1 : mOp dMul (mVar 6) (mVar 6) [some (.val (.list (ns.map .int))), some (.val (.int k)), some (.val (.int many)), some (.val (.int c)), some (.val (.int r')), some (.val (.int t')), some (.val (.int z))] = some (.int (z * z)) := by
      rw [op_of (show mVar 6 _ = some (.int z) from rfl) (show mVar 6 _ = some (.int z) from rfl)]
      exact dMul_r (by omega) (by omega)
    have b2 : mOp dFdiv (mVar 6) (mC (.int 31)) [some (.val (.list (ns.map .int))), some (.val (.int k)), some (.val (.int many)), some (.val (.int c)), some (.val (.int r')), some (.val (.int t')), some (.val (.int z))] = some (.int (z / 31)) := by
      rw [op_of (show mVar 6 _ = some (.int z) from rfl) (show mC (.int 31) _ = some (.int 31) from rfl)]
      exact dFdiv_of (by decide) (by decide)
    have b3 : mOp dAdd (mOp dMul (mVar 6) (mVar 6)) (mOp dFdiv (mVar 6) (mC (.int 31))) [some (.val (.list (ns.map .int))), some (.val (.int k)), some (.val (.int many)), some (.val (.int c)), some (.val (.int r')), some (.val (.int t')), some (.val (.int z))] = some (.int (z * z + z / 31)) := by
      rw [op_of b1 b2]
      rfl
    have b4 : mOp dMod (mOp dAdd (mOp dMul (mVar 6) (mVar 6)) (mOp dFdiv (mVar 6) (mC (.int 31)))) (mC (.int 2147483629)) [some (.val (.list (ns.map .int))), some (.val (.int k)), some (.val (.int many)), some (.val (.int c)), some (.val (.int r')), some (.val (.int t')), some (.val (.int z))] = some (.int ((z * z + z / 31) % 2147483629)) := by
      rw [op_of b3 (show mC (.int 2147483629) _ = some (.int 2147483629) from rfl)]
      rfl
    rw [op_of b4 (show mVar 2 _ = some (.int many) from rfl)]
    exact h1
end DD

set_option Elab.async false
set_option linter.all false
set_option maxRecDepth 100000
set_option maxHeartbeats 4000000
/-! reckoning with mirrors by simp -/
namespace DD
local instance : TabQ := ⟨[]⟩
local instance : ExQ := ⟨0, 0⟩
open PySem PySem.Spec PyProof.Rows L2
theorem coll_ex {g : D → En → Option En} {e : En → Option D} {ρ : En} {P : D → Prop} : ∀ {ds : List D}, (∀ d ∈ ds, ∃ ρ1 x, g d ρ = some ρ1 ∧ e ρ1 = some x ∧ P x) → ∃ xs, coll g mYes e ρ ds = some xs ∧ xs.length = ds.length ∧ ∀ x ∈ xs, P x
  | [], _ => ⟨[], rfl, rfl, fun x h => nomatch h⟩
  | d :: ds, h => by
    obtain ⟨ρ1, x, h1, h2, h3⟩ := h d List.mem_cons_self
    obtain ⟨xs, i1, i2, i3⟩ := coll_ex (g := g) (e := e) (ρ := ρ) (P := P) (ds := ds) fun y hy => h y (List.mem_cons_of_mem _ hy)
    refine ⟨x :: xs, ?_, by simp [i2], fun y hy => ?_⟩
    · have s1 : coll g mYes e ρ (d :: ds) = (g d ρ).bind fun ρ1 => (mYes ρ1).bind fun b => if b = true then (e ρ1).bind fun x => (coll g mYes e ρ ds).map fun r => x :: r else coll g mYes e ρ ds := rfl
      rw [s1, h1]
      show ((e ρ1).bind fun x => (coll g mYes e ρ ds).map fun r => x :: r) = _
      rw [h2, i1]
      rfl
    · rcases List.mem_cons.mp hy with rfl | hy
      · exact h3
      · exact i3 y hy
theorem coll_if {g : D → En → Option En} {c : En → Option Bool} {e : En → Option D} {ρ : En} {p : D → Bool} {f : D → D} : ∀ {ds : List D}, (∀ d ∈ ds, ∃ ρ1, g d ρ = some ρ1 ∧ c ρ1 = some (p d) ∧ (p d = true → e ρ1 = some (f d))) → coll g c e ρ ds = some ((ds.filter p).map f)
  | [], _ => rfl
  | d :: ds, h => by
    obtain ⟨ρ1, h1, h2, h3⟩ := h d List.mem_cons_self
    have ih := coll_if (g := g) (c := c) (e := e) (ρ := ρ) (p := p) (f := f) (ds := ds) fun y hy => h y (List.mem_cons_of_mem _ hy)
    have s1 : coll g c e ρ (d :: ds) = (g d ρ).bind fun ρ1 => (c ρ1).bind fun b => if b = true then (e ρ1).bind fun x => (coll g c e ρ ds).map fun r => x :: r else coll g c e ρ ds := rfl
    rw [s1, h1]
    show ((c ρ1).bind fun b => _) = _
    rw [h2]
    show (if p d = true then (e ρ1).bind fun x => (coll g c e ρ ds).map fun r => x :: r else coll g c e ρ ds) = _
    cases hp : p d with
    | true =>
      rw [if_pos rfl, h3 hp, ih, List.filter_cons_of_pos hp]
      rfl
    | false =>
      rw [if_neg Bool.false_ne_true, ih, List.filter_cons_of_neg (by rw [hp]; exact Bool.false_ne_true)]
theorem lc_if {it : En → Option (List D)} {g : D → En → Option En} {c : En → Option Bool} {e : En → Option D} {ρ : En} {vs : List Nat} {ds : List D} {p : D → Bool} {f : D → D} (hi : it ρ = some ds) (hz : ds.length ≤ cap) (h : ∀ d ∈ ds, ∃ ρ1, g d (wipeM ρ vs) = some ρ1 ∧ c ρ1 = some (p d) ∧ (p d = true → e ρ1 = some (f d))) :
    mLc it g c e vs ρ = some ((ds.filter p).map f) := by
  unfold mLc
  rw [hi]
  show (if ds.length ≤ cap then _ else _) = _
  rw [if_pos hz]
  exact coll_if h
/-- texts that pass a test -/
theorem coll_strs {g : D → En → Option En} {c : En → Option Bool} {e : En → Option D} {ρ : En} {p : Str → Bool} : ∀ {l : List Str}, (∀ n ∈ l, ∃ ρ1, g (.str n) ρ = some ρ1 ∧ c ρ1 = some (p n) ∧ e ρ1 = some (.str n)) → coll g c e ρ (l.map .str) = some ((l.filter p).map .str)
  | [], _ => rfl
  | n :: r, h => by
    obtain ⟨ρ1, h1, h2, h3⟩ := h n List.mem_cons_self
    have ih := coll_strs (g := g) (c := c) (e := e) (ρ := ρ) (p := p) (l := r) fun y hy => h y (List.mem_cons_of_mem _ hy)
    have s1 : coll g c e ρ ((n :: r).map .str) = (g (.str n) ρ).bind fun ρ1 => (c ρ1).bind fun b => if b = true then (e ρ1).bind fun x => (coll g c e ρ (r.map .str)).map fun r => x :: r else coll g c e ρ (r.map .str) := rfl
    rw [s1, h1]
    show ((c ρ1).bind fun b => _) = _
    rw [h2]
    show (if p n = true then (e ρ1).bind fun x => (coll g c e ρ (r.map .str)).map fun r => x :: r else coll g c e ρ (r.map .str)) = _
    cases hp : p n with
    | true =>
      rw [if_pos rfl, h3, ih, List.filter_cons_of_pos hp]
      rfl
    | false =>
      rw [if_neg Bool.false_ne_true, ih, List.filter_cons_of_neg (by rw [hp]; exact Bool.false_ne_true)]
theorem lc_strs {it : En → Option (List D)} {g : D → En → Option En} {c : En → Option Bool} {e : En → Option D} {ρ : En} {vs : List Nat} {p : Str → Bool} {l : List Str} (hi : it ρ = some (l.map .str)) (hz : l.length ≤ cap) (h : ∀ n ∈ l, ∃ ρ1, g (.str n) (wipeM ρ vs) = some ρ1 ∧ c ρ1 = some (p n) ∧ e ρ1 = some (.str n)) :
    mLc it g c e vs ρ = some ((l.filter p).map .str) := by
  unfold mLc
  rw [hi]
  show (if (l.map PyData.str).length ≤ cap then _ else _) = _
  rw [if_pos (by rw [List.length_map]; exact hz)]
  exact coll_strs h
theorem shaped_str {a : Str} (h : PyData.strOk a = true) : SeqAt.shaped (.str a) = true := by simp [SeqAt.shaped, PyData.canLay0, PyData.depth, h]
theorem dEq_str {a b : Str} (h : PyData.strOk a = true) (k : PyData.strOk b = true) : dEq (.str a) (.str b) = some (.bool (decide (a = b))) := by rw [dEq_of (shaped_str h) (shaped_str k), eqv_str]
theorem dNe_str {a b : Str} (h : PyData.strOk a = true) (k : PyData.strOk b = true) : dNe (.str a) (.str b) = some (.bool (!decide (a = b))) := by rw [dNe_of (shaped_str h) (shaped_str k), eqv_str]
theorem sized_le {ds : List D} (h : ds.length ≤ cap) : sized ds = some ds := if_pos h
theorem cap_s {n : Nat} (h : n ≤ 1000) : n ≤ cap := Nat.le_trans h (by decide)
theorem loop_cons {g : D → En → Option En} {b : En → Option Fl} {d : D} {ds : List D} {ρ ρ1 ρ2 : En} (h1 : g d ρ = some ρ1) (h2 : b ρ1 = some (.nx ρ2)) : loop g b (d :: ds) ρ = loop g b ds ρ2 := by
  have : loop g b (d :: ds) ρ = (g d ρ).bind fun ρ1 => (b ρ1).bind fun f => match f with
    | .nx ρ2 => loop g b ds ρ2
    | .ct ρ2 => loop g b ds ρ2
    | .bk ρ2 => some (.nx ρ2)
    | .rt d => some (.rt d) := rfl
  rw [this, h1]
  show ((b ρ1).bind fun f => _) = _
  rw [h2]
  rfl
/-! what can be compared -/
def Lay (k : Nat) (d : D) : Prop := d.canLay0 = true ∧ d.depth ≤ k
theorem Lay.mono {k j : Nat} {d : D} (h : Lay k d) (l : k ≤ j) : Lay j d := ⟨h.1, Nat.le_trans h.2 l⟩
theorem lay_str {x : Str} (h : PyData.strOk x = true) : Lay 0 (.str x) := ⟨by simp [PyData.canLay0, h], by simp [PyData.depth]⟩
theorem lay_int {i : Int} : Lay 0 (.int i) := ⟨by simp [PyData.canLay0], by simp [PyData.depth]⟩
theorem lay_none : Lay 0 .none := ⟨by simp [PyData.canLay0], by simp [PyData.depth]⟩
theorem lay_bool {b : Bool} : Lay 0 (.bool b) := ⟨by simp [PyData.canLay0], by simp [PyData.depth]⟩
theorem lay_all {k : Nat} : ∀ {ds : List D}, (∀ d ∈ ds, Lay k d) → PyData.canLayAll0 ds = true ∧ PyData.depthAll ds ≤ k
  | [], _ => ⟨by simp [PyData.canLayAll0], by simp [PyData.depthAll]⟩
  | d :: ds, h => by
    obtain ⟨i1, i2⟩ := lay_all (ds := ds) fun x hx => h x (List.mem_cons_of_mem _ hx)
    obtain ⟨h1, h2⟩ := h d List.mem_cons_self
    refine ⟨by simp [PyData.canLayAll0, h1, i1], ?_⟩
    have : PyData.depthAll (d :: ds) = max d.depth (PyData.depthAll ds) := by simp [PyData.depthAll]
    rw [this]; omega
theorem lay_tup {k : Nat} {ds : List D} (h : ∀ d ∈ ds, Lay k d) : Lay (k + 1) (.tuple ds) := by
  obtain ⟨i1, i2⟩ := lay_all h
  exact ⟨by simp [PyData.canLay0, i1], by simp [PyData.depth]; omega⟩
theorem lay_list {k : Nat} {ds : List D} (h : ∀ d ∈ ds, Lay k d) : Lay (k + 1) (.list ds) := by
  obtain ⟨i1, i2⟩ := lay_all h
  exact ⟨by simp [PyData.canLay0, i1], by simp [PyData.depth]; omega⟩
theorem Lay.shaped {k : Nat} {d : D} (h : Lay k d) (l : k ≤ 64) : SeqAt.shaped d = true := by
  unfold SeqAt.shaped
  rw [h.1, decide_eq_true (Nat.le_trans h.2 l)]
  rfl
theorem dNe_self {k : Nat} {d : D} (h : Lay k d) (l : k ≤ 64) : dNe d d = some (.bool false) := by
  rw [dNe_of (h.shaped l) (h.shaped l), SeqAt.eqv_refl _ h.1]
  rfl
theorem lay_strs_t {l : List Str} (h : ∀ x ∈ l, PyData.strOk x = true) : Lay 1 (.tuple (l.map .str)) := lay_tup fun d hd => by
  obtain ⟨x, hx, rfl⟩ := List.mem_map.mp hd
  exact lay_str (h x hx)
theorem lay_strs_l {l : List Str} (h : ∀ x ∈ l, PyData.strOk x = true) : Lay 1 (.list (l.map .str)) := lay_list fun d hd => by
  obtain ⟨x, hx, rfl⟩ := List.mem_map.mp hd
  exact lay_str (h x hx)
theorem eqv_lnil {l : List D} : PyData.eqv (.list l) (.list []) = l.isEmpty := by cases l <;> simp [PyData.eqv, PyData.eqvAll]
/-- a row of texts against [] -/
theorem dNe_lnil {l : List Str} (h : ∀ x ∈ l, PyData.strOk x = true) : dNe (.list (l.map .str)) (.list []) = some (.bool (!l.isEmpty)) := by
  rw [dNe_of ((lay_strs_l h).shaped (by decide)) ((lay_list (k := 0) (ds := []) fun d hd => nomatch hd).shaped (by decide)), eqv_lnil]
  cases l <;> rfl
end DD

set_option Elab.async false
set_option linter.all false
set_option maxRecDepth 100000
set_option maxHeartbeats 4000000
namespace DD
variable [TabQ] [ExQ]
open PySem PySem.Spec PyProof.Rows L2
def topS (i : Nat) : Stmt := PySem.Challenge.pw_batchyard_k82_texts.main.body.getD i (.Pass ⟨0, 0, 0, 0⟩)
abbrev s_is_value : Stmt := topS 9
abbrev N_is_value : List Str := ["thing"]
theorem sc_is_value : FnScope N_is_value ["thing"] (defScope s_is_value) := ⟨rfl, rfl, rfl, by decide +kernel, rfl, by decide +kernel, by decide +kernel⟩
abbrev s__is_value_within : Stmt := topS 10
abbrev N__is_value_within : List Str := ["thing", "deep", "part", "sign"]
theorem sc__is_value_within : FnScope N__is_value_within ["thing", "deep"] (defScope s__is_value_within) := ⟨rfl, rfl, rfl, by decide +kernel, rfl, by decide +kernel, by decide +kernel⟩
abbrev s_value_text : Stmt := topS 17
abbrev N_value_text : List Str := ["value"]
theorem sc_value_text : FnScope N_value_text ["value"] (defScope s_value_text) := ⟨rfl, rfl, rfl, by decide +kernel, rfl, by decide +kernel, by decide +kernel⟩
abbrev s_read_value : Stmt := topS 18
abbrev N_read_value : List Str := ["text", "value", "end"]
theorem sc_read_value : FnScope N_read_value ["text"] (defScope s_read_value) := ⟨rfl, rfl, rfl, by decide +kernel, rfl, by decide +kernel, by decide +kernel⟩
abbrev s_events_text : Stmt := topS 19
abbrev N_events_text : List Str := ["events", "event"]
theorem sc_events_text : FnScope N_events_text ["events"] (defScope s_events_text) := ⟨rfl, rfl, rfl, by decide +kernel, rfl, by decide +kernel, by decide +kernel⟩
abbrev s_read_events : Stmt := topS 20
abbrev N_read_events : List Str := ["text", "line"]
theorem sc_read_events : FnScope N_read_events ["text"] (defScope s_read_events) := ⟨rfl, rfl, rfl, by decide +kernel, rfl, by decide +kernel, by decide +kernel⟩
abbrev s__text_of : Stmt := topS 21
abbrev N__text_of : List Str := ["value", "parts", "part"]
theorem sc__text_of : FnScope N__text_of ["value"] (defScope s__text_of) := ⟨rfl, rfl, rfl, by decide +kernel, rfl, by decide +kernel, by decide +kernel⟩
abbrev s__value_at : Stmt := topS 22
abbrev N__value_at : List Str := ["text", "at", "deep", "sign", "end"]
theorem sc__value_at : FnScope N__value_at ["text", "at", "deep"] (defScope s__value_at) := ⟨rfl, rfl, rfl, by decide +kernel, rfl, by decide +kernel, by decide +kernel⟩
abbrev s__tuple_at : Stmt := topS 23
abbrev N__tuple_at : List Str := ["text", "at", "deep", "parts", "part", "sign"]
theorem sc__tuple_at : FnScope N__tuple_at ["text", "at", "deep"] (defScope s__tuple_at) := ⟨rfl, rfl, rfl, by decide +kernel, rfl, by decide +kernel, by decide +kernel⟩
abbrev s__word_value : Stmt := topS 24
abbrev N__word_value : List Str := ["word", "figures", "number", "figure"]
theorem sc__word_value : FnScope N__word_value ["word"] (defScope s__word_value) := ⟨rfl, rfl, rfl, by decide +kernel, rfl, by decide +kernel, by decide +kernel⟩
abbrev s__law_drawn : Stmt := topS 26
abbrev N__law_drawn : List Str := ["_law_script", "_law_k", "_law_many", "_law_cell", "_law_turn", "_law_rest"]
theorem sc__law_drawn : FnScope N__law_drawn ["_law_script", "_law_k", "_law_many"] (defScope s__law_drawn) := ⟨rfl, rfl, rfl, by decide +kernel, rfl, by decide +kernel, by decide +kernel⟩
abbrev s__law_value : Stmt := topS 27
abbrev N__law_value : List Str := ["_law_script", "_law_at", "_law_deep", "_law_kind", "_law_number", "_law_signs", "_law_many", "_law_k", "_law_found"]
theorem sc__law_value : FnScope N__law_value ["_law_script", "_law_at", "_law_deep"] (defScope s__law_value) := ⟨rfl, rfl, rfl, by decide +kernel, rfl, by decide +kernel, by decide +kernel⟩
abbrev s__law_alike : Stmt := topS 28
abbrev N__law_alike : List Str := ["_law_one", "_law_other", "_law_a", "_law_b"]
theorem sc__law_alike : FnScope N__law_alike ["_law_one", "_law_other"] (defScope s__law_alike) := ⟨rfl, rfl, rfl, by decide +kernel, rfl, by decide +kernel, by decide +kernel⟩
abbrev s__law_plain : Stmt := topS 29
abbrev N__law_plain : List Str := ["_law_value_here", "_law_one"]
theorem sc__law_plain : FnScope N__law_plain ["_law_value_here"] (defScope s__law_plain) := ⟨rfl, rfl, rfl, by decide +kernel, rfl, by decide +kernel, by decide +kernel⟩
abbrev s__law_no : Stmt := topS 30
abbrev N__law_no : List Str := ["_law_way", "_law_thing", "e"]
theorem sc__law_no : FnScope N__law_no ["_law_way", "_law_thing"] (defScope s__law_no) := ⟨rfl, rfl, rfl, by decide +kernel, rfl, by decide +kernel, by decide +kernel⟩
abbrev s_law : Stmt := topS 31
abbrev N_law : List Str := ["_law_script", "_law_values", "_law_kept", "_law_value_here", "_law_text", "_law_bad", "_law_none", "_law_long", "_law_more", "_law_k", "_law_thing"]
theorem sc_law : FnScope N_law ["_law_script"] (defScope s_law) := ⟨rfl, rfl, rfl, by decide +kernel, rfl, by decide +kernel, by decide +kernel⟩
def kv_WORDS : List (Str × D) := [("none", .none), ("yes", (.bool true)), ("no", (.bool false))]
/-! ### mirrors -/
def b__is_value_within (rec : List D → Option D) : En → Option Fl :=
  (sSeq (sIf (mOr (mTest (mOp dIs (mVar 0) (mC .none))) (mTru (mUn (dIsi "bool") (mVar 0))))
  (sRet (mC (.bool true)))
  sNext)
  (sSeq (sIf (mTru (mUn (dIsi "int") (mVar 0)))
  (sRet (mOp dLt (mCall dAbs (mCons (mVar 0) mNil)) (mC (.int (10000000000000000000000000000000000000000000000000000000000000000000000000000000000000000000000000000000000000000000000000000000000000000000000000000000000000000000000000000000000000000000000000000000000000000000000000000000000000000000000000000000000000000000000000000000000000000000000000000000000000000000000000000000000000000000000000000000000000000000000000000000000000000000000000000000000000000)))))
  sNext)
  (sSeq (sIf (mTru (mUn (dIsi "str") (mVar 0)))
  (sRet (mAndV (mOp dLeB (mCall dLen (mCons (mVar 0) mNil)) (mC (.int (9999)))) (mCall dAll (mCons (mList (mLc (mIter (mVar 0)) (gSet 3) mYes (mOp dInS (mVar 3) (mC (.str ("abcdefghijklmnopqrstuvwxyz0123456789 -.,:;/+*=()" : Str)))) [3])) mNil))))
  sNext)
  (sSeq (sIf (mOr (mNot (mTru (mUn (dIsi "tuple") (mVar 0)))) (mOr (mTest (mOp dGt (mCall dLen (mCons (mVar 0) mNil)) (mC (.int (9999))))) (mTest (mOp dGe (mVar 1) (mC (.int (50)))))))
  (sRet (mC (.bool false)))
  sNext)
  (sRet (mCall dAll (mCons (mList (mLc (mIter (mVar 0)) (gSet 2) mYes (mCall (lim 2 rec) (mCons (mVar 2) (mCons (mOp dAdd (mVar 1) (mC (.int 1))) mNil))) [2])) mNil)))))))
def m__is_value_within : Nat → List D → Option D
  | 0 => fun _ => none
  | n + 1 => mDef 4 (b__is_value_within (m__is_value_within n))
def b_is_value : En → Option Fl :=
  (sRet (mCall (lim 2 (m__is_value_within 52)) (mCons (mVar 0) (mCons (mC (.int 0)) mNil))))
def m_is_value (ds : List D) : Option D := mDef 1 b_is_value ds
def b__text_of (rec : List D → Option D) : En → Option Fl :=
  (sSeq (sIf (mTest (mOp dIs (mVar 0) (mC .none)))
  (sRet (mC (.str ("none" : Str))))
  sNext)
  (sSeq (sIf (mTru (mUn (dIsi "bool") (mVar 0)))
  (sRet (mIfE (mTru (mVar 0)) (mC (.str ("yes" : Str))) (mC (.str ("no" : Str)))))
  sNext)
  (sSeq (sIf (mTru (mUn (dIsi "int") (mVar 0)))
  (sRet (mCall dStrA (mCons (mVar 0) mNil)))
  sNext)
  (sSeq (sIf (mTru (mUn (dIsi "str") (mVar 0)))
  (sRet (mOp dAdd (mOp dAdd (mC (.str ("\"" : Str))) (mVar 0)) (mC (.str ("\"" : Str)))))
  sNext)
  (sSeq (sAsg (mOp dJoin (mC (.str (" " : Str))) (mList (mLc (mIter (mVar 0)) (gSet 2) mYes (mCall (lim 1 rec) (mCons (mVar 2) mNil)) [2]))) (gSet 1))
  (sRet (mJoined [(mC (.str ("(" : Str))), (mFmt (mVar 1)), (mC (.str (")" : Str)))])))))))
def m__text_of : Nat → List D → Option D
  | 0 => fun _ => none
  | n + 1 => mDef 3 (b__text_of (m__text_of n))
def b_value_text : En → Option FlX :=
  (xSeq (xIf (mNot (mTru (mCall (lim 1 m_is_value) (mCons (mVar 0) mNil))))
  (xRaise 1)
  (xFl sNext))
  (xFl (sRet (mCall (lim 1 (m__text_of 52)) (mCons (mVar 0) mNil)))))
def m_value_text (ds : List D) : Option Rs := xDef 1 b_value_text ds
def b__word_value : En → Option FlX :=
  (xSeq (xFl (sIf (mTest (mUn (dInK kv_WORDS) (mVar 0)))
  (sRet (mUn (dGetK kv_WORDS) (mVar 0)))
  sNext))
  (xSeq (xFl (sAsg (mIfE (mTru (mOp dStartsT (mVar 0) (mC (.str ("-" : Str))))) (mSlY (mVar 0) (mPart (mC (.int 1))) mNoPart) (mVar 0)) (gSet 1)))
  (xSeq (xIf (mOr (mNot (mTru (mVar 1))) (mOr (mTest (mOp dGt (mCall dLen (mCons (mVar 1) mNil)) (mC (.int (400))))) (mNot (mTru (mCall dAll (mCons (mList (mLc (mIter (mVar 1)) (gSet 3) mYes (mOp dInS (mVar 3) (mC (.str ("0123456789" : Str)))) [3])) mNil))))))
  (xRaise 0)
  (xFl sNext))
  (xSeq (xFl (sAsg (mCall dIntA (mCons (mVar 0) mNil)) (gSet 2)))
  (xSeq (xIf (mTest (mOp dNe (mCall dStrA (mCons (mVar 2) mNil)) (mVar 0)))
  (xRaise 0)
  (xFl sNext))
  (xFl (sRet (mVar 2))))))))
def m__word_value (ds : List D) : Option Rs := xDef 4 b__word_value ds
def fuel__value_at_0 (ρ : En) : Nat := fuelStr 0 ρ
def b__value_at (r__value_at : List D → Option Rs) (r__tuple_at : List D → Option Rs) : En → Option FlX :=
  (xSeq (xFl (sAsg (mSlY (mVar 0) (mPart (mVar 1)) (mPart (mOp dAdd (mVar 1) (mC (.int 1))))) (gSet 3)))
  (xSeq (xIf (mTest (mOp dEq (mVar 3) (mC (.str ("\"" : Str)))))
  (xSeq (xFl (sAsg (mFind3 (mVar 0) (mCons (mC (.str ("\"" : Str))) (mCons (mOp dAdd (mVar 1) (mC (.int 1))) mNil))) (gSet 4)))
  (xSeq (xIf (mTest (mOp dLt (mVar 4) (mC (.int 0))))
  (xRaise 0)
  (xFl sNext))
  (xFl (sRet (mTup (mCons (mSlY (mVar 0) (mPart (mOp dAdd (mVar 1) (mC (.int 1)))) (mPart (mVar 4))) (mCons (mOp dAdd (mVar 4) (mC (.int 1))) mNil)))))))
  (xFl sNext))
  (xSeq (xIf (mAnd (mTest (mOp dEq (mVar 3) (mC (.str ("(" : Str))))) (mTest (mOp dLt (mVar 2) (mC (.int (50))))))
  (xRet (xCall 3 r__tuple_at (mCons (mVar 0) (mCons (mOp dAdd (mVar 1) (mC (.int 1))) (mCons (mOp dAdd (mVar 2) (mC (.int 1))) mNil)))))
  (xFl sNext))
  (xSeq (xFl (sAsg (mVar 1) (gSet 4)))
  (xSeq (xFl (sWhile fuel__value_at_0 (mAnd (mTest (mOp dLt (mVar 4) (mCall dLen (mCons (mVar 0) mNil)))) (mTest (mOp dNotInS (mOp dIx (mVar 0) (mVar 4)) (mC (.str (" )" : Str))))))
  (sAugI 4 (fun i j => i + j) (mC (.int 1)))))
  (xRet (xTupC (xCall 1 m__word_value (mCons (mSlY (mVar 0) (mPart (mVar 1)) (mPart (mVar 4))) mNil)) (mCons (mVar 4) mNil))))))))
def fuel__tuple_at_0 (ρ : En) : Nat := fuelStr 0 ρ
def b__tuple_at (r__value_at : List D → Option Rs) (r__tuple_at : List D → Option Rs) : En → Option FlX :=
  (xSeq (xFl (sIf (mTest (mOp dEq (mSlY (mVar 0) (mPart (mVar 1)) (mPart (mOp dAdd (mVar 1) (mC (.int 1))))) (mC (.str (")" : Str)))))
  (sRet (mTup (mCons (mTup mNil) (mCons (mOp dAdd (mVar 1) (mC (.int 1))) mNil))))
  sNext))
  (xSeq (xFl (sOwn 3 (mLst mNil)))
  (xWhile fuel__tuple_at_0 (mTru (mC (.bool true)))
  (xSeq (xAsgG (xCall 3 r__value_at (mCons (mVar 0) (mCons (mVar 1) (mCons (mVar 2) mNil)))) (gAnyM 2 (gConsM (gSet 4) (gConsM (gSet 1) gNilM))))
  (xSeq (xFl (sAppend 3 (mVar 4)))
  (xSeq (xFl (sAsg (mSlY (mVar 0) (mPart (mVar 1)) (mPart (mOp dAdd (mVar 1) (mC (.int 1))))) (gSet 5)))
  (xSeq (xFl (sIf (mTest (mOp dEq (mVar 5) (mC (.str (")" : Str)))))
  (sFrz 3 (sRet (mTup (mCons (mCall dTupOf (mCons (mVar 3) mNil)) (mCons (mOp dAdd (mVar 1) (mC (.int 1))) mNil)))))
  sNext))
  (xSeq (xIf (mTest (mOp dNe (mVar 5) (mC (.str (" " : Str)))))
  (xRaise 0)
  (xFl sNext))
  (xFl (sAugI 1 (fun i j => i + j) (mC (.int 1))))))))))))
def mm__value_at : Nat → (List D → Option Rs) × (List D → Option Rs)
  | 0 => (fun _ => none, fun _ => none)
  | n + 1 => (xDef 5 (b__value_at ((mm__value_at n).1) ((mm__value_at n).2)), xDef 6 (b__tuple_at ((mm__value_at n).1) ((mm__value_at n).2)))
def m__value_at (n : Nat) : List D → Option Rs := (mm__value_at n).1
def m__tuple_at (n : Nat) : List D → Option Rs := (mm__value_at n).2
def b_read_value : En → Option FlX :=
  (xSeq (xIf (mNot (mTru (mUn (dIsi "str") (mVar 0))))
  (xRaise 0)
  (xFl sNext))
  (xSeq (xAsgG (xCall 3 (m__value_at 104) (mCons (mVar 0) (mCons (mC (.int 0)) (mCons (mC (.int 0)) mNil)))) (gAnyM 2 (gConsM (gSet 1) (gConsM (gSet 2) gNilM))))
  (xSeq (xIf (mOr (mTest (mOp dNe (mVar 2) (mCall dLen (mCons (mVar 0) mNil)))) (mNot (mTru (mCall (lim 1 m_is_value) (mCons (mVar 1) mNil)))))
  (xRaise 0)
  (xFl sNext))
  (xFl (sRet (mVar 1))))))
def m_read_value (ds : List D) : Option Rs := xDef 3 b_read_value ds
def b_events_text : En → Option FlX :=
  (xSeq (xIf (mNot (mTru (mUn (dIsi "list") (mVar 0))))
  (xRaise 1)
  (xFl sNext))
  (xRet (xJoin (mC (.str ("" : Str))) (xList (mLcX (mIter (mVar 0)) (gSet 1) mYes (xOp dAdd (xCall 1 m_value_text (mCons (mVar 1) mNil)) (xLift (mC (.str ("\n" : Str))))) [1])))))
def m_events_text (ds : List D) : Option Rs := xDef 2 b_events_text ds
def b_read_events : En → Option FlX :=
  (xSeq (xIf (mOr (mNot (mTru (mUn (dIsi "str") (mVar 0)))) (mNot (mOr (mTest (mOp dEq (mVar 0) (mC (.str ("" : Str))))) (mTru (mOp dEndsT (mVar 0) (mC (.str ("\n" : Str))))))))
  (xRaise 0)
  (xFl sNext))
  (xRet (xList (mLcX (mIter (mSlY (mOp dSplit (mVar 0) (mC (.str ("\n" : Str)))) mNoPart (mPart (mUn dNeg (mC (.int 1)))))) (gSet 1) mYes (xCall 1 m_read_value (mCons (mVar 1) mNil)) [1]))))
def m_read_events (ds : List D) : Option Rs := xDef 2 b_read_events ds
def fuel__law_drawn_0 (ρ : En) : Nat := fuelOf 4 ρ
def b__law_drawn : En → Option Fl :=
  (sSeq (sAsg (mOp dMul (mC (.int 7)) (mVar 1)) (gSet 3))
  (sSeq (sIf (mTest (mOp dNe (mVar 0) (mList (mLst mNil))))
  (sSeq (sAsg (mOp dIx (mVar 0) (mOp dMod (mVar 1) (mCall dLen (mCons (mVar 0) mNil)))) (gSet 3))
  (sSeq (sAsg (mOp dFdiv (mVar 1) (mCall dLen (mCons (mVar 0) mNil))) (gSet 4))
  (sSeq (sIf (mAnd (mTest (mOp dGe (mVar 3) (mOp dPow (mC (.int 10)) (mC (.int 18))))) (mTest (mOp dLt (mVar 4) (mC (.int 60)))))
  (sSeq (sAsg (mOp dFdiv (mVar 3) (mOp dPow (mC (.int 10)) (mC (.int 18)))) (gSet 5))
  (sSeq (sWhile fuel__law_drawn_0 (mAnd (mTest (mOp dGt (mVar 5) (mC (.int 0)))) (mTest (mOp dGt (mVar 4) (mC (.int 0)))))
  (sSeq (sAsg (mOp dFdiv (mVar 5) (mC (.int 1000000))) (gSet 5))
  (sAsg (mOp dSub (mVar 4) (mC (.int 1))) (gSet 4))))
  (sIf (mTest (mOp dGt (mVar 5) (mC (.int 0))))
  (sRet (mOp dMod (mOp dMod (mVar 5) (mC (.int 1000000))) (mVar 2)))
  sNext)))
  sNext)
  (sAsg (mOp dAdd (mVar 3) (mOp dMul (mC (.int 6553)) (mOp dFdiv (mVar 1) (mCall dLen (mCons (mVar 0) mNil))))) (gSet 3)))))
  sNext)
  (sSeq (sAsg (mOp dMod (mOp dAdd (mOp dMul (mOp dMod (mVar 3) (mC (.int 2147483563))) (mC (.int 69069))) (mOp dMul (mC (.int 104723)) (mOp dAdd (mVar 1) (mC (.int 1))))) (mC (.int 2147483563))) (gSet 3))
  (sSeq (sAsg (mOp dMod (mOp dAdd (mOp dMul (mVar 3) (mVar 3)) (mOp dFdiv (mVar 3) (mC (.int 3)))) (mC (.int 2147483399))) (gSet 3))
  (sRet (mOp dMod (mOp dFdiv (mOp dMod (mOp dAdd (mOp dMul (mVar 3) (mVar 3)) (mOp dFdiv (mVar 3) (mC (.int 7)))) (mC (.int 2147483647))) (mC (.int 11))) (mVar 2)))))))
def m__law_drawn (ds : List D) : Option D := mDef 6 b__law_drawn ds
def b__law_value (rec : List D → Option D) : En → Option Fl :=
  (sSeq (sAsg (mCall (lim 3 m__law_drawn) (mCons (mVar 0) (mCons (mVar 1) (mCons (mC (.int 8)) mNil)))) (gSet 3))
  (sSeq (sIf (mTest (mOp dLt (mVar 3) (mC (.int 2))))
  (sRet (mOp dIx (mList (mLst (mCons (mC .none) (mCons (mC (.bool true)) (mCons (mC (.bool false)) mNil))))) (mCall (lim 3 m__law_drawn) (mCons (mVar 0) (mCons (mOp dAdd (mVar 1) (mC (.int 1))) (mCons (mC (.int 3)) mNil))))))
  sNext)
  (sSeq (sIf (mTest (mOp dLt (mVar 3) (mC (.int 4))))
  (sSeq (sAsg (mCall (lim 3 m__law_drawn) (mCons (mVar 0) (mCons (mOp dAdd (mVar 1) (mC (.int 2))) (mCons (mOp dIx (mList (mLst (mCons (mC (.int 10)) (mCons (mC (.int 10000)) (mCons (mC (.int 30000000000)) mNil))))) (mCall (lim 3 m__law_drawn) (mCons (mVar 0) (mCons (mOp dAdd (mVar 1) (mC (.int 3))) (mCons (mC (.int 3)) mNil))))) mNil)))) (gSet 4))
  (sRet (mIfE (mTest (mOp dEq (mCall (lim 3 m__law_drawn) (mCons (mVar 0) (mCons (mOp dAdd (mVar 1) (mC (.int 4))) (mCons (mC (.int 2)) mNil)))) (mC (.int 0)))) (mVar 4) (mUn dNeg (mVar 4)))))
  sNext)
  (sSeq (sIf (mOr (mTest (mOp dLt (mVar 3) (mC (.int 6)))) (mTest (mOp dEq (mVar 2) (mC (.int 0)))))
  (sSeq (sAsg (mTup (mCons (mC (.str ("abz09 -.,:;/+*=()" : Str))) (mCons (mCall (lim 3 m__law_drawn) (mCons (mVar 0) (mCons (mOp dAdd (mVar 1) (mC (.int 2))) (mCons (mC (.int 5)) mNil)))) mNil))) (gTupM 2 (gConsM (gSet 5) (gConsM (gSet 6) gNilM))))
  (sRet (mOp dJoin (mC (.str ("" : Str))) (mList (mLc (mRange1 (mCons (mVar 6) mNil)) (gSet 7) mYes (mOp dIx (mVar 5) (mCall (lim 3 m__law_drawn) (mCons (mVar 0) (mCons (mOp dAdd (mOp dAdd (mVar 1) (mC (.int 5))) (mVar 7)) (mCons (mC (.int 17)) mNil))))) [7])))))
  sNext)
  (sSeq (sOwn 8 (mLst mNil))
  (sSeq (sFor (mRange1 (mCons (mCall (lim 3 m__law_drawn) (mCons (mVar 0) (mCons (mOp dAdd (mVar 1) (mC (.int 1))) (mCons (mC (.int 4)) mNil)))) mNil)) (gSet 7)
  (sAppend 8 (mCall (lim 3 rec) (mCons (mVar 0) (mCons (mOp dAdd (mOp dAdd (mOp dAdd (mVar 1) (mC (.int 11))) (mOp dMul (mC (.int 40)) (mVar 7))) (mOp dMul (mC (.int 7)) (mVar 2))) (mCons (mOp dSub (mVar 2) (mC (.int 1))) mNil))))))
  (sFrz 8 (sRet (mCall dTupOf (mCons (mVar 8) mNil))))))))))
def m__law_value : Nat → List D → Option D
  | 0 => fun _ => none
  | n + 1 => mDef 9 (b__law_value (m__law_value n))
def b__law_alike (rec : List D → Option D) : En → Option Fl :=
  (sSeq (sIf (mAnd (mTru (mUn (dIsi "tuple") (mVar 0))) (mTru (mUn (dIsi "tuple") (mVar 1))))
  (sSeq (sIf (mTest (mOp dNe (mCall dLen (mCons (mVar 0) mNil)) (mCall dLen (mCons (mVar 1) mNil))))
  (sRet (mC (.bool false)))
  sNext)
  (sRet (mOp dEq (mList (mLc (mZip (mCons (mVar 0) (mCons (mVar 1) mNil))) (gTupM 2 (gConsM (gSet 2) (gConsM (gSet 3) gNilM))) (mNot (mTru (mCall (lim 2 rec) (mCons (mVar 2) (mCons (mVar 3) mNil))))) (mC (.int 1)) [2, 3])) (mList (mLst mNil)))))
  sNext)
  (sRet (mAndV (mOp dEq (mUn (dIsi "bool") (mVar 0)) (mUn (dIsi "bool") (mVar 1))) (mOp dEq (mVar 0) (mVar 1)))))
def m__law_alike : Nat → List D → Option D
  | 0 => fun _ => none
  | n + 1 => mDef 4 (b__law_alike (m__law_alike n))
def b__law_plain (rec : List D → Option D) : En → Option Fl :=
  (sSeq (sIf (mOr (mTest (mOp dIs (mVar 0) (mC .none))) (mTru (mUn (dIsi "bool") (mVar 0))))
  (sRet (mUn (dNB ("none" : Str) ("yes" : Str) ("no" : Str)) (mVar 0)))
  sNext)
  (sSeq (sIf (mTru (mUn (dIsi "int") (mVar 0)))
  (sRet (mCall dStrA (mCons (mVar 0) mNil)))
  sNext)
  (sSeq (sIf (mTru (mUn (dIsi "str") (mVar 0)))
  (sRet (mOp dAdd (mOp dAdd (mC (.str ("\"" : Str))) (mVar 0)) (mC (.str ("\"" : Str)))))
  sNext)
  (sRet (mOp dAdd (mOp dAdd (mC (.str ("(" : Str))) (mOp dJoin (mC (.str (" " : Str))) (mList (mLc (mIter (mVar 0)) (gSet 1) mYes (mCall (lim 1 rec) (mCons (mVar 1) mNil)) [1])))) (mC (.str (")" : Str))))))))
def m__law_plain : Nat → List D → Option D
  | 0 => fun _ => none
  | n + 1 => mDef 2 (b__law_plain (m__law_plain n))
def b__law_no : En → Option Fl :=
  (sSeq (sTryF 2 (fOr (fOne 0 (.list [(.bool false), (.bool true)])) (fOne 1 (.list [(.bool true), (.bool false)]))) (xIf (mTest (mOp dEq (mVar 0) (mC (.int 0))))
  (xDrop (xCall 1 m_value_text (mCons (mVar 1) mNil)))
  (xIf (mTest (mOp dEq (mVar 0) (mC (.int 1))))
  (xDrop (xCall 1 m_events_text (mCons (mVar 1) mNil)))
  (xIf (mTest (mOp dEq (mVar 0) (mC (.int 2))))
  (xDrop (xCall 1 m_read_value (mCons (mVar 1) mNil)))
  (xDrop (xCall 1 m_read_events (mCons (mVar 1) mNil)))))))
  (sRet (mList (mLst mNil))))
def m__law_no (ds : List D) : Option D := mDef 3 b__law_no ds
def b_law : En → Option Fl :=
  (sSeq (sAsg (mList (mLc (mRange1 (mCons (mCall (lim 3 m__law_drawn) (mCons (mVar 0) (mCons (mC (.int 900)) (mCons (mC (.int 4)) mNil)))) mNil)) (gSet 9) mYes (mCall (lim 3 (m__law_value 4)) (mCons (mVar 0) (mCons (mOp dMul (mC (.int 150)) (mVar 9)) (mCons (mC (.int 3)) mNil)))) [9])) (gSet 1))
  (sSeq (sAsg (mList (mCallL dLstOf (mCons (mVar 1) mNil))) (gSet 2))
  (sSeq (sFor (mIter (mVar 1)) (gSet 3)
  (sSeq (sIf (mTest (mOp dNe (mCall (limX 1 m_value_text) (mCons (mVar 3) mNil)) (mCall (lim 1 (m__law_plain 5)) (mCons (mVar 3) mNil))))
  (sRet (mC (.bool false)))
  sNext)
  (sIf (mNot (mTru (mCall (lim 2 (m__law_alike 5)) (mCons (mCall (limX 1 m_read_value) (mCons (mCall (lim 1 (m__law_plain 5)) (mCons (mVar 3) mNil)) mNil)) (mCons (mVar 3) mNil)))))
  (sRet (mC (.bool false)))
  sNext)))
  (sSeq (sAsg (mOp dJoin (mC (.str ("" : Str))) (mList (mLc (mIter (mVar 1)) (gSet 3) mYes (mOp dAdd (mCall (lim 1 (m__law_plain 5)) (mCons (mVar 3) mNil)) (mC (.str ("\n" : Str)))) [3]))) (gSet 4))
  (sSeq (sIf (mTest (mOp dNe (mCall (limX 1 m_events_text) (mCons (mVar 1) mNil)) (mVar 4)))
  (sRet (mC (.bool false)))
  sNext)
  (sSeq (sIf (mOr (mNot (mTru (mCall (lim 2 (m__law_alike 5)) (mCons (mCall dTupOf (mCons (mCall (limX 1 m_read_events) (mCons (mVar 4) mNil)) mNil)) (mCons (mCall dTupOf (mCons (mVar 1) mNil)) mNil))))) (mTest (mOp dNe (mVar 1) (mVar 2))))
  (sRet (mC (.bool false)))
  sNext)
  (sSeq (sAsg (mList (mLst (mCons (mList (mLst (mCons (mC (.int 1)) mNil))) (mCons (mC (.str ("A" : Str))) (mCons (mTup (mCons (mC (.int 1)) (mCons (mList (mLst (mCons (mC (.int 2)) mNil))) mNil))) (mCons (mTup (mCons (mC (.str ("a\n" : Str))) mNil)) (mCons (mTup (mCons (mC .none) (mCons (mTup (mCons (mC (.str ("!" : Str))) mNil)) mNil))) (mCons (mCall dIntA (mCons (mOp dAdd (mC (.str ("1" : Str))) (mOp dMulS (mC (.str ("0" : Str))) (mC (.int 400)))) mNil)) mNil)))))))) (gSet 5))
  (sSeq (sIf (mTest (mOp dNe (mList (mLc (mIter (mVar 5)) (gSet 10) (mTest (mOp dNe (mCall (lim 2 m__law_no) (mCons (mC (.int 0)) (mCons (mVar 10) mNil))) (mList (mLst (mCons (mC (.bool true)) (mCons (mC (.bool false)) mNil)))))) (mVar 10) [10])) (mList (mLst mNil))))
  (sRet (mC (.bool false)))
  sNext)
  (sSeq (sIf (mTest (mOp dNe (mList (mLc (mIter (mTup (mCons (mC .none) (mCons (mTup mNil) (mCons (mTup (mCons (mList (mLst (mCons (mC (.int 1)) mNil))) mNil)) (mCons (mList (mLst (mCons (mList (mLst (mCons (mC (.int 1)) mNil))) mNil))) (mCons (mList (mLst (mCons (mC (.str ("A" : Str))) mNil))) (mCons (mC (.int 7)) (mCons (mC (.str ("1\n" : Str))) mNil))))))))) (gSet 10) (mTest (mOp dNe (mCall (lim 2 m__law_no) (mCons (mC (.int 1)) (mCons (mVar 10) mNil))) (mList (mLst (mCons (mC (.bool true)) (mCons (mC (.bool false)) mNil)))))) (mVar 10) [10])) (mList (mLst mNil))))
  (sRet (mC (.bool false)))
  sNext)
  (sSeq (sAsg (mList (mLst (mCons (mC .none) (mCons (mC (.int 7)) (mCons (mC (.str ("" : Str))) (mCons (mC (.str (" " : Str))) (mCons (mC (.str ("1 " : Str))) (mCons (mC (.str ("01" : Str))) (mCons (mC (.str ("-0" : Str))) (mCons (mC (.str ("+1" : Str))) (mCons (mC (.str ("1.0" : Str))) (mCons (mC (.str ("None" : Str))) (mCons (mC (.str ("( )" : Str))) (mCons (mC (.str ("(1" : Str))) (mCons (mC (.str ("(1 )" : Str))) mNil))))))))))))))) (gSet 6))
  (sSeq (sAsg (mList (mCatV (mVar 6) (mLst (mCons (mC (.str ("(1  2)" : Str))) (mCons (mC (.str ("1)" : Str))) (mCons (mC (.str ("\"a" : Str))) (mCons (mC (.str ("a\"" : Str))) (mCons (mC (.str ("\"A\"" : Str))) (mCons (mC (.str ("yes no" : Str))) (mCons (mC (.str ("--1" : Str))) (mCons (mC (.str ("(1,2)" : Str))) (mCons (mC (.str ("\"\"x" : Str))) (mCons (mTup (mCons (mC (.str ("1" : Str))) mNil)) mNil))))))))))))) (gSet 6))
  (sSeq (sAsg (mList (mLst (mCons (mOp dAdd (mOp dAdd (mC (.str ("\"" : Str))) (mOp dMulS (mC (.str ("a" : Str))) (mC (.int 10000)))) (mC (.str ("\"" : Str)))) (mCons (mOp dAdd (mOp dAdd (mC (.str ("(" : Str))) (mOp dMulS (mC (.str ("1 " : Str))) (mC (.int 9999)))) (mC (.str ("1)" : Str)))) (mCons (mOp dAdd (mOp dAdd (mC (.str ("(-" : Str))) (mOp dMulS (mC (.str ("9" : Str))) (mC (.int 450)))) (mC (.str (")" : Str)))) (mCons (mOp dMulS (mC (.str ("(" : Str))) (mC (.int 200))) mNil)))))) (gSet 7))
  (sSeq (sAsg (mList (mCatV (mVar 6) (mLst (mCons (mOp dAdd (mC (.str ("1" : Str))) (mOp dMulS (mC (.str ("0" : Str))) (mC (.int 400)))) (mCons (mOp dAdd (mOp dMulS (mC (.str ("(" : Str))) (mC (.int 51))) (mOp dMulS (mC (.str (")" : Str))) (mC (.int 51)))) (mCons (mOp dIx (mVar 7) (mCall (lim 3 m__law_drawn) (mCons (mVar 0) (mCons (mC (.int 901)) (mCons (mC (.int 4)) mNil))))) mNil)))))) (gSet 6))
  (sSeq (sIf (mTest (mOp dNe (mList (mLc (mIter (mVar 6)) (gSet 10) (mTest (mOp dNe (mCall (lim 2 m__law_no) (mCons (mC (.int 2)) (mCons (mVar 10) mNil))) (mList (mLst (mCons (mC (.bool false)) (mCons (mC (.bool true)) mNil)))))) (mVar 10) [10])) (mList (mLst mNil))))
  (sRet (mC (.bool false)))
  sNext)
  (sSeq (sAsg (mList (mLst (mCons (mC .none) (mCons (mC (.int 7)) (mCons (mC (.str ("1" : Str))) (mCons (mC (.str ("\n" : Str))) (mCons (mC (.str ("1\n\n" : Str))) (mCons (mC (.str ("1\n2" : Str))) (mCons (mC (.str (" 1\n" : Str))) (mCons (mC (.str ("(1\n)\n" : Str))) (mCons (mList (mLst (mCons (mC (.str ("1\n" : Str))) mNil))) mNil))))))))))) (gSet 8))
  (sSeq (sIf (mNot (mTest (mOp dEq (mList (mLc (mIter (mVar 8)) (gSet 10) (mTest (mOp dNe (mCall (lim 2 m__law_no) (mCons (mC (.int 3)) (mCons (mVar 10) mNil))) (mList (mLst (mCons (mC (.bool false)) (mCons (mC (.bool true)) mNil)))))) (mVar 10) [10])) (mList (mLst mNil)))))
  (sRet (mC (.bool false)))
  sNext)
  (sSeq (sIf (mTest (mOp dNe (mCall (limX 1 m_read_value) (mCons (mOp dAdd (mC (.str ("-" : Str))) (mOp dMulS (mC (.str ("9" : Str))) (mC (.int 400)))) mNil)) (mOp dSub (mC (.int 1)) (mOp dMul (mC (.int 10)) (mCall dIntA (mCons (mOp dAdd (mC (.str ("1" : Str))) (mOp dMulS (mC (.str ("0" : Str))) (mC (.int 399)))) mNil))))))
  (sRet (mC (.bool false)))
  sNext)
  (sSeq (sIf (mTest (mOp dNe (mCall (limX 1 m_value_text) (mCons (mCall (limX 1 m_read_value) (mCons (mOp dAdd (mOp dMulS (mC (.str ("(" : Str))) (mC (.int 50))) (mOp dMulS (mC (.str (")" : Str))) (mC (.int 50)))) mNil)) mNil)) (mOp dAdd (mOp dMulS (mC (.str ("(" : Str))) (mC (.int 50))) (mOp dMulS (mC (.str (")" : Str))) (mC (.int 50))))))
  (sRet (mC (.bool false)))
  sNext)
  (sRet (mAndV (mOp dEq (mCall (limX 1 m_read_events) (mCons (mC (.str ("" : Str))) mNil)) (mList (mLst mNil))) (mOp dEq (mCall (limX 1 m_read_value) (mCons (mC (.str ("()" : Str))) mNil)) (mTup mNil))))))))))))))))))))))
def m_law (ds : List D) : Option D := mDef 11 b_law ds
/-! ### what the top leaves -/
structure Tx (K : PySem.W.Frag) (w : World) (mg : Str → Option Value) where
  f_is_value : Addr
  d_is_value : FuncData
  F_is_value : Fun K "is_value" "is_value" s_is_value f_is_value d_is_value
  b_is_value : Binds K d_is_value ["thing"] []
  g_is_value : mg "is_value" = some (.ref f_is_value)
  f__is_value_within : Addr
  d__is_value_within : FuncData
  F__is_value_within : Fun K "_is_value_within" "_is_value_within" s__is_value_within f__is_value_within d__is_value_within
  b__is_value_within : Binds K d__is_value_within ["thing", "deep"] []
  g__is_value_within : mg "_is_value_within" = some (.ref f__is_value_within)
  f_value_text : Addr
  d_value_text : FuncData
  F_value_text : Fun K "value_text" "value_text" s_value_text f_value_text d_value_text
  b_value_text : Binds K d_value_text ["value"] []
  g_value_text : mg "value_text" = some (.ref f_value_text)
  f_read_value : Addr
  d_read_value : FuncData
  F_read_value : Fun K "read_value" "read_value" s_read_value f_read_value d_read_value
  b_read_value : Binds K d_read_value ["text"] []
  g_read_value : mg "read_value" = some (.ref f_read_value)
  f_events_text : Addr
  d_events_text : FuncData
  F_events_text : Fun K "events_text" "events_text" s_events_text f_events_text d_events_text
  b_events_text : Binds K d_events_text ["events"] []
  g_events_text : mg "events_text" = some (.ref f_events_text)
  f_read_events : Addr
  d_read_events : FuncData
  F_read_events : Fun K "read_events" "read_events" s_read_events f_read_events d_read_events
  b_read_events : Binds K d_read_events ["text"] []
  g_read_events : mg "read_events" = some (.ref f_read_events)
  f__text_of : Addr
  d__text_of : FuncData
  F__text_of : Fun K "_text_of" "_text_of" s__text_of f__text_of d__text_of
  b__text_of : Binds K d__text_of ["value"] []
  g__text_of : mg "_text_of" = some (.ref f__text_of)
  f__value_at : Addr
  d__value_at : FuncData
  F__value_at : Fun K "_value_at" "_value_at" s__value_at f__value_at d__value_at
  b__value_at : Binds K d__value_at ["text", "at", "deep"] []
  g__value_at : mg "_value_at" = some (.ref f__value_at)
  f__tuple_at : Addr
  d__tuple_at : FuncData
  F__tuple_at : Fun K "_tuple_at" "_tuple_at" s__tuple_at f__tuple_at d__tuple_at
  b__tuple_at : Binds K d__tuple_at ["text", "at", "deep"] []
  g__tuple_at : mg "_tuple_at" = some (.ref f__tuple_at)
  f__word_value : Addr
  d__word_value : FuncData
  F__word_value : Fun K "_word_value" "_word_value" s__word_value f__word_value d__word_value
  b__word_value : Binds K d__word_value ["word"] []
  g__word_value : mg "_word_value" = some (.ref f__word_value)
  f__law_drawn : Addr
  d__law_drawn : FuncData
  F__law_drawn : Fun K "_law_drawn" "_law_drawn" s__law_drawn f__law_drawn d__law_drawn
  b__law_drawn : Binds K d__law_drawn ["_law_script", "_law_k", "_law_many"] []
  g__law_drawn : mg "_law_drawn" = some (.ref f__law_drawn)
  f__law_value : Addr
  d__law_value : FuncData
  F__law_value : Fun K "_law_value" "_law_value" s__law_value f__law_value d__law_value
  b__law_value : Binds K d__law_value ["_law_script", "_law_at", "_law_deep"] []
  g__law_value : mg "_law_value" = some (.ref f__law_value)
  f__law_alike : Addr
  d__law_alike : FuncData
  F__law_alike : Fun K "_law_alike" "_law_alike" s__law_alike f__law_alike d__law_alike
  b__law_alike : Binds K d__law_alike ["_law_one", "_law_other"] []
  g__law_alike : mg "_law_alike" = some (.ref f__law_alike)
  f__law_plain : Addr
  d__law_plain : FuncData
  F__law_plain : Fun K "_law_plain" "_law_plain" s__law_plain f__law_plain d__law_plain
  b__law_plain : Binds K d__law_plain ["_law_value_here"] []
  g__law_plain : mg "_law_plain" = some (.ref f__law_plain)
  f__law_no : Addr
  d__law_no : FuncData
  F__law_no : Fun K "_law_no" "_law_no" s__law_no f__law_no d__law_no
  b__law_no : Binds K d__law_no ["_law_way", "_law_thing"] []
  g__law_no : mg "_law_no" = some (.ref f__law_no)
  f_law : Addr
  d_law : FuncData
  F_law : Fun K "law" "law" s_law f_law d_law
  b_law : Binds K d_law ["_law_script"] []
  g_law : mg "law" = some (.ref f_law)
  t_NUMBER_BOUND : Tok
  c_NUMBER_BOUND : mg "NUMBER_BOUND" = some (.int (10000000000000000000000000000000000000000000000000000000000000000000000000000000000000000000000000000000000000000000000000000000000000000000000000000000000000000000000000000000000000000000000000000000000000000000000000000000000000000000000000000000000000000000000000000000000000000000000000000000000000000000000000000000000000000000000000000000000000000000000000000000000000000000000000000000000000000) t_NUMBER_BOUND)
  t_MOST_PARTS : Tok
  c_MOST_PARTS : mg "MOST_PARTS" = some (.int (9999) t_MOST_PARTS)
  t_SIGNS : Tok
  c_SIGNS : mg "SIGNS" = some (.str "abcdefghijklmnopqrstuvwxyz0123456789 -.,:;/+*=()" t_SIGNS)
  t_MOST_DEEP : Tok
  c_MOST_DEEP : mg "MOST_DEEP" = some (.int (50) t_MOST_DEEP)
  t_QUOTE : Tok
  c_QUOTE : mg "QUOTE" = some (.str "\"" t_QUOTE)
  t_ENDS : Tok
  c_ENDS : mg "ENDS" = some (.str " )" t_ENDS)
  k_WORDS : Addr
  C_WORDS : DictC K w k_WORDS kv_WORDS
  c_WORDS : mg "WORDS" = some (.ref k_WORDS)
  t_MOST_FIGURES : Tok
  c_MOST_FIGURES : mg "MOST_FIGURES" = some (.int (400) t_MOST_FIGURES)
  t_FIGURES : Tok
  c_FIGURES : mg "FIGURES" = some (.str "0123456789" t_FIGURES)
  n_isinstance : mg "isinstance" = none
  n_bool : mg "bool" = none
  n_int : mg "int" = none
  n_abs : mg "abs" = none
  n_str : mg "str" = none
  n_len : mg "len" = none
  n_all : mg "all" = none
  n_tuple : mg "tuple" = none
  n_list : mg "list" = none
  n_range : mg "range" = none
  n_zip : mg "zip" = none
  C_NoValue : Addr
  g_NoValue : mg "NoValue" = some (.ref C_NoValue)
  x_NoValue : PySem.W.excIn K C_NoValue [.type "ValueError", .type "Exception", .type "BaseException", .type "object"] "ValueError.__new__" = true
  k_NoValue : PySem.W.keepIn K (.ref C_NoValue) = true
  b_NoValue : PySem.W.subIn K (.ref C_NoValue) (.type "BaseException") = some true
  t_NoValue : PySem.W.typeIn K (.ref C_NoValue) = some (.type "type")
  E_NoValue : ExcC K C_NoValue
  C_NoText : Addr
  g_NoText : mg "NoText" = some (.ref C_NoText)
  x_NoText : PySem.W.excIn K C_NoText [.type "ValueError", .type "Exception", .type "BaseException", .type "object"] "ValueError.__new__" = true
  k_NoText : PySem.W.keepIn K (.ref C_NoText) = true
  b_NoText : PySem.W.subIn K (.ref C_NoText) (.type "BaseException") = some true
  t_NoText : PySem.W.typeIn K (.ref C_NoText) = some (.type "type")
  E_NoText : ExcC K C_NoText
  C_YardError : Addr
  g_YardError : mg "YardError" = some (.ref C_YardError)
  e_NoText_YardError : PySem.W.exmOne K (.ref C_NoText) (.ref C_YardError) = some true
  e_NoValue_YardError : PySem.W.exmOne K (.ref C_NoValue) (.ref C_YardError) = some true
  q_NoText_NoText : PySem.W.kitOne K (.ref C_NoText) (.ref C_NoText) = some true
  q_NoText_NoValue : PySem.W.kitOne K (.ref C_NoText) (.ref C_NoValue) = some false
  q_NoValue_NoText : PySem.W.kitOne K (.ref C_NoValue) (.ref C_NoText) = some false
  q_NoValue_NoValue : PySem.W.kitOne K (.ref C_NoValue) (.ref C_NoValue) = some true
def Tx.cl {K : PySem.W.Frag} {w : World} {mg : Str → Option Value} (T : Tx K w mg) : Nat → Addr
  | 0 => T.C_NoText
  | _ => T.C_NoValue
section
variable {P : Program} {w : World} {K : PySem.W.Frag} {mg : Str → Option Value} {base : Heap}
theorem ok__is_value_within (T : Tx K w mg) : ∀ n, FnOk P w K mg base CX0 (1 + n) T.f__is_value_within T.d__is_value_within ["thing", "deep"] (spM K 2 (m__is_value_within n)) :=
  fn_rec rfl rfl fun n ih => def_ok (N := N__is_value_within) T.F__is_value_within sc__is_value_within fun cdv A outer s H E hr => ⟨_,
  (pss_cons (ps_if (PW.pt (pw_or (pt_cmpR op_isA (pv 0) pe_non (nomark _)) (pw_or1 (pt_tr (pe_callB call_isi (by rfl) T.n_isinstance (by decide +kernel) (pa_cons (pv 0) (pa_cons (pe_bltn (v := .ty "bool") (by rfl) T.n_bool (by decide +kernel) rfl) pa_nil))) (fun _ => rfl))))) (pss_one (ps_ret pe_bl)) pss_nil)
  (pss_cons (ps_if (pt_tr (pe_callB call_isi (by rfl) T.n_isinstance (by decide +kernel) (pa_cons (pv 0) (pa_cons (pe_bltn (v := .ty "int") (by rfl) T.n_int (by decide +kernel) rfl) pa_nil))) (fun _ => rfl)) (pss_one (ps_ret (pe_cmpR op_lt (pe_callB cr_abs (by rfl) T.n_abs (by decide +kernel) (pa_cons (pv 0) pa_nil)) (pe_glob (v := .int (10000000000000000000000000000000000000000000000000000000000000000000000000000000000000000000000000000000000000000000000000000000000000000000000000000000000000000000000000000000000000000000000000000000000000000000000000000000000000000000000000000000000000000000000000000000000000000000000000000000000000000000000000000000000000000000000000000000000000000000000000000000000000000000000000000000000000000)) (by rfl) T.c_NUMBER_BOUND ⟨_, rfl⟩) (nomark _)))) pss_nil)
  (pss_cons (ps_if (pt_tr (pe_callB call_isi (by rfl) T.n_isinstance (by decide +kernel) (pa_cons (pv 0) (pa_cons (pe_bltn (v := .ty "str") (by rfl) T.n_str (by decide +kernel) rfl) pa_nil))) (fun _ => rfl)) (pss_one (ps_ret (pe_and (pe_cmpR op_leB (pe_callB cr_len (by rfl) T.n_len (by decide +kernel) (pa_cons (pv 0) pa_nil)) (pe_glob (v := .int (9999)) (by rfl) T.c_MOST_PARTS ⟨_, rfl⟩) (nomark _)) (pe_one (pe_callB (cr_all rfl) (by rfl) T.n_all (by decide +kernel) (pa_cons (pe_lc (own := [("sign", 3)]) (g := gName 3) (tt := tYes) rfl sc__is_value_within.nd (pi_any (pv 0)) (blkOk_by (N := N__is_value_within) (sc := defScope s__is_value_within) (by decide +kernel)) (fun _ _ _ _ _ => (pg_name (i := 3) sc__is_value_within.nd rfl (.inl rfl))) (fun _ _ _ _ _ => pts_nil) (fun _ _ _ _ _ => (pe_cmpR op_inS (pv 3) (pe_glob (v := .str "abcdefghijklmnopqrstuvwxyz0123456789 -.,:;/+*=()") (by rfl) T.c_SIGNS ⟨_, rfl⟩) (by with_unfolding_all rfl)))) pa_nil)))))) pss_nil)
  (pss_cons (ps_if (PW.pt (pw_or (pt_not (pt_tr (pe_callB call_isi (by rfl) T.n_isinstance (by decide +kernel) (pa_cons (pv 0) (pa_cons (pe_bltn (v := .ty "tuple") (by rfl) T.n_tuple (by decide +kernel) rfl) pa_nil))) (fun _ => rfl))) (pw_or (pt_cmpR op_gt (pe_callB cr_len (by rfl) T.n_len (by decide +kernel) (pa_cons (pv 0) pa_nil)) (pe_glob (v := .int (9999)) (by rfl) T.c_MOST_PARTS ⟨_, rfl⟩) (nomark _)) (pw_or1 (pt_cmpR op_ge (pv 1) (pe_glob (v := .int (50)) (by rfl) T.c_MOST_DEEP ⟨_, rfl⟩) (nomark _)))))) (pss_one (ps_ret pe_bl)) pss_nil)
  (pss_one (ps_ret (pe_callB (cr_all rfl) (by rfl) T.n_all (by decide +kernel) (pa_cons (pe_lc (own := [("part", 2)]) (g := gName 2) (tt := tYes) rfl sc__is_value_within.nd (pi_any (pv 0)) (blkOk_by (N := N__is_value_within) (sc := defScope s__is_value_within) (by decide +kernel)) (fun _ _ _ _ _ => (pg_name (i := 2) sc__is_value_within.nd rfl (.inl rfl))) (fun _ _ _ _ _ => pts_nil) (fun _ _ _ _ _ => (pe_call ih (hr.mono (by omega)) (by rfl) T.g__is_value_within T.F__is_value_within.kp T.b__is_value_within .nil pass0 (pa_cons (pv 2) (pa_cons (pe_op op_addA (pv 1) pe_int) pa_nil))))) pa_nil)))))))),
  ((st_seq (st_if (et_or (et_test (ev_op rd_is (ev_var 0) ev_non)) (et_tru (ev_isi cls_bool (ev_var 0))))
  (st_ret ev_bl)
  st_next)
  (st_seq (st_if (et_tru (ev_isi cls_int (ev_var 0)))
  (st_ret (ev_op rd_lt' (ev_cb cd_abs (ea_cons (ev_var 0) ea_nil)) ev_int))
  st_next)
  (st_seq (st_if (et_tru (ev_isi cls_str (ev_var 0)))
  (st_ret (ev_andV (ev_op rd_leB (ev_cb cd_len (ea_cons (ev_var 0) ea_nil)) ev_int) (ev_cb cd_all (ea_cons (ev_list (fl_lc (vs := [3]) (it_any (ev_var 0)) (tg_name 3 (by decide)) et_yes (ev_op rd_inS (ev_var 3) ev_str))) ea_nil))))
  st_next)
  (st_seq (st_if (et_or (et_not (et_tru (ev_isi cls_tuple (ev_var 0)))) (et_or (et_test (ev_op rd_gt' (ev_cb cd_len (ea_cons (ev_var 0) ea_nil)) ev_int)) (et_test (ev_op rd_ge' (ev_var 1) ev_int))))
  (st_ret ev_bl)
  st_next)
  (st_ret (ev_cb cd_all (ea_cons (ev_list (fl_lc (vs := [2]) (it_any (ev_var 0)) (tg_name 2 (by decide)) et_yes (ev_call' (ea_cons (ev_var 2) (ea_cons (ev_op rd_add (ev_var 1) ev_int) ea_nil))))) ea_nil))))))) : TSm K _ (b__is_value_within (m__is_value_within n)))⟩
theorem ok_is_value (T : Tx K w mg) : FnOk P w K mg base CX0 54 T.f_is_value T.d_is_value ["thing"] (spM K 1 m_is_value) :=
  def_ok (N := N_is_value) T.F_is_value sc_is_value fun cdv A outer s H E hr => ⟨_,
  (pss_one (ps_ret (pe_call (ok__is_value_within T 52) (hr.mono (by omega)) (by rfl) T.g__is_value_within T.F__is_value_within.kp T.b__is_value_within .nil pass0 (pa_cons (pv 0) (pa_cons pe_int pa_nil))))),
  ((st_ret (ev_call' (ea_cons (ev_var 0) (ea_cons ev_int ea_nil)))) : TSm K _ b_is_value)⟩
theorem ok__text_of (T : Tx K w mg) : ∀ n, FnOk P w K mg base CX0 (1 + n) T.f__text_of T.d__text_of ["value"] (spM K 1 (m__text_of n)) :=
  fn_rec rfl rfl fun n ih => def_ok (N := N__text_of) T.F__text_of sc__text_of fun cdv A outer s H E hr => ⟨_,
  (pss_cons (ps_if (pt_cmpR op_isA (pv 0) pe_non (nomark _)) (pss_one (ps_ret pe_str)) pss_nil)
  (pss_cons (ps_if (pt_tr (pe_callB call_isi (by rfl) T.n_isinstance (by decide +kernel) (pa_cons (pv 0) (pa_cons (pe_bltn (v := .ty "bool") (by rfl) T.n_bool (by decide +kernel) rfl) pa_nil))) (fun _ => rfl)) (pss_one (ps_ret (pe_ifExp (pt_tr (pv 0) (fun _ => rfl)) pe_str pe_str))) pss_nil)
  (pss_cons (ps_if (pt_tr (pe_callB call_isi (by rfl) T.n_isinstance (by decide +kernel) (pa_cons (pv 0) (pa_cons (pe_bltn (v := .ty "int") (by rfl) T.n_int (by decide +kernel) rfl) pa_nil))) (fun _ => rfl)) (pss_one (ps_ret (pe_callTy cr_strA (by rfl) T.n_str (by decide +kernel) (pa_cons (pv 0) pa_nil)))) pss_nil)
  (pss_cons (ps_if (pt_tr (pe_callB call_isi (by rfl) T.n_isinstance (by decide +kernel) (pa_cons (pv 0) (pa_cons (pe_bltn (v := .ty "str") (by rfl) T.n_str (by decide +kernel) rfl) pa_nil))) (fun _ => rfl)) (pss_one (ps_ret (pe_op op_addA (pe_op op_addA (pe_glob (v := .str "\"") (by rfl) T.c_QUOTE ⟨_, rfl⟩) (pv 0)) (pe_glob (v := .str "\"") (by rfl) T.c_QUOTE ⟨_, rfl⟩)))) pss_nil)
  (pss_cons (ps_set (i := 1) sc__text_of.nd rfl (.inl rfl) (pe_bm PySem.F.plainAttrs_str PySem.F.slot_str_join PySem.F.type_str_join mt_join pe_str (pa_cons (pe_lc (own := [("part", 2)]) (g := gName 2) (tt := tYes) rfl sc__text_of.nd (pi_any (pv 0)) (blkOk_by (N := N__text_of) (sc := defScope s__text_of) (by decide +kernel)) (fun _ _ _ _ _ => (pg_name (i := 2) sc__text_of.nd rfl (.inl rfl))) (fun _ _ _ _ _ => pts_nil) (fun _ _ _ _ _ => (pe_call ih (hr.mono (by omega)) (by rfl) T.g__text_of T.F__text_of.kp T.b__text_of .nil pass0 (pa_cons (pv 2) pa_nil)))) pa_nil)))
  (pss_one (ps_ret (pe_joined (PJ.cons pe_str (PJ.cons (pe_fmt (pv 1)) (PJ.cons pe_str PJ.nil))))))))))),
  ((st_seq (st_if (et_test (ev_op rd_is (ev_var 0) ev_non))
  (st_ret ev_str)
  st_next)
  (st_seq (st_if (et_tru (ev_isi cls_bool (ev_var 0)))
  (st_ret (ev_if (et_tru (ev_var 0)) ev_str ev_str))
  st_next)
  (st_seq (st_if (et_tru (ev_isi cls_int (ev_var 0)))
  (st_ret (ev_cb cd_strA (ea_cons (ev_var 0) ea_nil)))
  st_next)
  (st_seq (st_if (et_tru (ev_isi cls_str (ev_var 0)))
  (st_ret (ev_op rd_add (ev_op rd_add ev_str (ev_var 0)) ev_str))
  st_next)
  (st_seq (st_set 1 (ev_join ev_str (ev_list (fl_lc (vs := [2]) (it_any (ev_var 0)) (tg_name 2 (by decide)) et_yes (ev_call' (ea_cons (ev_var 2) ea_nil))))))
  (st_ret (ev_joined (JT.cons ev_str (JT.cons (ev_fmt (ev_var 1)) (JT.cons ev_str JT.nil)))))))))) : TSm K _ (b__text_of (m__text_of n)))⟩
theorem ok_value_text (T : Tx K w mg) : FnOk P w K mg base (L2.CX P w) 55 T.f_value_text T.d_value_text ["value"] (spX K T.cl 1 m_value_text) :=
  def_okX (cl := T.cl) (N := N_value_text) T.F_value_text sc_value_text fun cdv A outer s H E hr => ⟨_,
  (pss_cons (ps_if (pt_not (pt_tr (pe_call (ok_is_value T) (hr.mono (by decide)) (by rfl) T.g_is_value T.F_is_value.kp T.b_is_value .nil pass0 (pa_cons (pv 0) pa_nil)) (fun _ => rfl))) (pss_one (ps_raise rfl (takes_of rfl rfl rfl rfl) (pmk_own PySem.F.excBase_ValueError T.x_NoValue T.g_NoValue T.k_NoValue (raises_own T.b_NoValue T.t_NoValue) (by rfl)))) pss_nil)
  (pss_one (ps_ret (pe_call (ok__text_of T 52) (hr.mono (by omega)) (by rfl) T.g__text_of T.F__text_of.kp T.b__text_of .nil pass0 (pa_cons (pv 0) pa_nil))))),
  ((sx_seq (sx_if (et_not (et_tru (ev_call' (ea_cons (ev_var 0) ea_nil))))
  (sx_raise 1)
  (sx_lift st_next))
  (sx_lift (st_ret (ev_call' (ea_cons (ev_var 0) ea_nil))))) : SX K T.cl _ b_value_text)⟩
theorem ok__word_value (T : Tx K w mg) : FnOk P w K mg base (L2.CX P w) 1 T.f__word_value T.d__word_value ["word"] (spX K T.cl 1 m__word_value) :=
  def_okX (cl := T.cl) (N := N__word_value) T.F__word_value sc__word_value fun cdv A outer s H E hr => ⟨_,
  (pss_cons (ps_if (pt_cmpR (op_inK T.C_WORDS) (pv 0) (pe_glob (v := .ref T.k_WORDS) (by rfl) T.c_WORDS rfl) (by with_unfolding_all rfl)) (pss_one (ps_ret (pe_ix (ix_getK T.C_WORDS) (pe_glob (v := .ref T.k_WORDS) (by rfl) T.c_WORDS rfl) (pv 0) (fun _ _ => rfl)))) pss_nil)
  (pss_cons (ps_set (i := 1) sc__word_value.nd rfl (.inl rfl) (pe_ifExp (pt_tr (pe_bm PySem.F.plainAttrs_str PySem.F.slot_str_startswith PySem.F.type_str_startswith mt_startswith (pv 0) (pa_cons pe_str pa_nil)) (fun _ => rfl)) (pe_slice sl_any2 (pv 0) (po_some pe_int) po_none) (pv 0)))
  (pss_cons (ps_if (PW.pt (pw_or (pt_not (pt_tr (pv 1) (fun _ => rfl))) (pw_or (pt_cmpR op_gt (pe_callB cr_len (by rfl) T.n_len (by decide +kernel) (pa_cons (pv 1) pa_nil)) (pe_glob (v := .int (400)) (by rfl) T.c_MOST_FIGURES ⟨_, rfl⟩) (nomark _)) (pw_or1 (pt_not (pt_tr (pe_callB (cr_all rfl) (by rfl) T.n_all (by decide +kernel) (pa_cons (pe_lc (own := [("figure", 3)]) (g := gName 3) (tt := tYes) rfl sc__word_value.nd (pi_any (pv 1)) (blkOk_by (N := N__word_value) (sc := defScope s__word_value) (by decide +kernel)) (fun _ _ _ _ _ => (pg_name (i := 3) sc__word_value.nd rfl (.inl rfl))) (fun _ _ _ _ _ => pts_nil) (fun _ _ _ _ _ => (pe_cmpR op_inS (pv 3) (pe_glob (v := .str "0123456789") (by rfl) T.c_FIGURES ⟨_, rfl⟩) (by with_unfolding_all rfl)))) pa_nil)) (fun _ => rfl))))))) (pss_one (ps_raise rfl (takes_of rfl rfl rfl rfl) (pmk_own PySem.F.excBase_ValueError T.x_NoText T.g_NoText T.k_NoText (raises_own T.b_NoText T.t_NoText) (by rfl)))) pss_nil)
  (pss_cons (ps_set (i := 2) sc__word_value.nd rfl (.inl rfl) (pe_callTy cr_intA (by rfl) T.n_int (by decide +kernel) (pa_cons (pv 0) pa_nil)))
  (pss_cons (ps_if (pt_cmpR (op_neD hr.units) (pe_callTy cr_strA (by rfl) T.n_str (by decide +kernel) (pa_cons (pv 2) pa_nil)) (pv 0) (nomark _)) (pss_one (ps_raise rfl (takes_of rfl rfl rfl rfl) (pmk_own PySem.F.excBase_ValueError T.x_NoText T.g_NoText T.k_NoText (raises_own T.b_NoText T.t_NoText) (by rfl)))) pss_nil)
  (pss_one (ps_ret (pv 2)))))))),
  ((sx_seq (sx_lift (st_if (et_test (ev_inK T.C_WORDS (ev_var 0)))
  (st_ret (ev_getK T.C_WORDS (ev_var 0)))
  st_next))
  (sx_seq (sx_lift (st_set 1 (ev_if (et_tru (ev_startsT (ev_var 0) ev_str)) (ev_slY (ev_var 0) (po_part ev_int) po_no) (ev_var 0))))
  (sx_seq (sx_if (et_or (et_not (et_tru (ev_var 1))) (et_or (et_test (ev_op rd_gt' (ev_cb cd_len (ea_cons (ev_var 1) ea_nil)) ev_int)) (et_not (et_tru (ev_cb cd_all (ea_cons (ev_list (fl_lc (vs := [3]) (it_any (ev_var 1)) (tg_name 3 (by decide)) et_yes (ev_op rd_inS (ev_var 3) ev_str))) ea_nil))))))
  (sx_raise 0)
  (sx_lift st_next))
  (sx_seq (sx_lift (st_set 2 (ev_cb cd_intA (ea_cons (ev_var 0) ea_nil))))
  (sx_seq (sx_if (et_test (ev_op rd_ne (ev_cb cd_strA (ea_cons (ev_var 2) ea_nil)) (ev_var 0)))
  (sx_raise 0)
  (sx_lift st_next))
  (sx_lift (st_ret (ev_var 2)))))))) : SX K T.cl _ b__word_value)⟩
theorem okr__value_at (T : Tx K w mg) : ∀ n, FnOk P w K mg base (L2.CX P w) (2 + n) T.f__value_at T.d__value_at ["text", "at", "deep"] (spX K T.cl 3 (m__value_at n)) ∧
    FnOk P w K mg base (L2.CX P w) (2 + n) T.f__tuple_at T.d__tuple_at ["text", "at", "deep"] (spX K T.cl 3 (m__tuple_at n))
  | 0 => ⟨fn_noneX, fn_noneX⟩
  | n + 1 => by
    have ih := okr__value_at T n
    exact ⟨def_okX (cl := T.cl) (k := 2 + n) (N := N__value_at) T.F__value_at sc__value_at fun cdv A outer s H E hr => ⟨_,
  (pss_cons (ps_set (i := 3) sc__value_at.nd rfl (.inl rfl) (pe_slice sl_any2 (pv 0) (po_some (pv 1)) (po_some (pe_op op_addA (pv 1) pe_int))))
  (pss_cons (ps_if (pt_cmpR (op_eqD hr.units) (pv 3) (pe_glob (v := .str "\"") (by rfl) T.c_QUOTE ⟨_, rfl⟩) (nomark _)) (pss_cons (ps_set (i := 4) sc__value_at.nd rfl (.inl rfl) (pe_bm PySem.F.plainAttrs_str PySem.F.slot_str_find PySem.F.type_str_find mt_find3' (pv 0) (pa_cons (pe_glob (v := .str "\"") (by rfl) T.c_QUOTE ⟨_, rfl⟩) (pa_cons (pe_op op_addA (pv 1) pe_int) pa_nil))))
  (pss_cons (ps_if (pt_cmpR op_lt (pv 4) pe_int (nomark _)) (pss_one (ps_raise rfl (takes_of rfl rfl rfl rfl) (pmk_own PySem.F.excBase_ValueError T.x_NoText T.g_NoText T.k_NoText (raises_own T.b_NoText T.t_NoText) (by rfl)))) pss_nil)
  (pss_one (ps_ret (pe_tup (pa_cons (pe_slice sl_any2 (pv 0) (po_some (pe_op op_addA (pv 1) pe_int)) (po_some (pv 4))) (pa_cons (pe_op op_addA (pv 4) pe_int) pa_nil))))))) pss_nil)
  (pss_cons (ps_if (PW.pt (pw_and (pt_cmpR (op_eqD hr.units) (pv 3) pe_str (nomark _)) (pw_and1 (pt_cmpR op_lt (pv 2) (pe_glob (v := .int (50)) (by rfl) T.c_MOST_DEEP ⟨_, rfl⟩) (nomark _))))) (pss_one (ps_ret (pe_callS (ih).2 (hr.mono (by omega)) (by rfl) T.g__tuple_at T.F__tuple_at.kp T.b__tuple_at (fun σ => passAt (takes_of rfl rfl rfl rfl) σ) (pa_cons (pv 0) (pa_cons (pe_op op_addA (pv 1) pe_int) (pa_cons (pe_op op_addA (pv 2) pe_int) pa_nil)))))) pss_nil)
  (pss_cons (ps_set (i := 4) sc__value_at.nd rfl (.inl rfl) (pv 1))
  (pss_cons (ps_while (passes_of rfl) (PW.pt (pw_and (pt_cmpR op_lt (pv 4) (pe_callB cr_len (by rfl) T.n_len (by decide +kernel) (pa_cons (pv 0) pa_nil)) (nomark _)) (pw_and1 (pt_cmpR op_notInS (pe_ix ix_seq (pv 0) (pv 4) (fun _ _ => rfl)) (pe_glob (v := .str " )") (by rfl) T.c_ENDS ⟨_, rfl⟩) (by with_unfolding_all rfl))))) (pss_one (ps_aug (i := 4) sc__value_at.nd rfl (.inl rfl) pe_int ip_add)))
  (pss_one (ps_ret (pe_tup (pa_cons (pe_callS (ok__word_value T) (hr.mono (by omega)) (by rfl) T.g__word_value T.F__word_value.kp T.b__word_value (fun σ => passAt (takes_of rfl rfl rfl rfl) σ) (pa_cons (pe_slice sl_any2 (pv 0) (po_some (pv 1)) (po_some (pv 4))) pa_nil)) (pa_cons (pv 4) pa_nil)))))))))),
  ((sx_seq (sx_lift (st_set 3 (ev_slY (ev_var 0) (po_part (ev_var 1)) (po_part (ev_op rd_add (ev_var 1) ev_int)))))
  (sx_seq (sx_if (et_test (ev_op rd_eq (ev_var 3) ev_str))
  (sx_seq (sx_lift (st_set 4 (ev_find3 (ev_var 0) (ea_cons ev_str (ea_cons (ev_op rd_add (ev_var 1) ev_int) ea_nil)))))
  (sx_seq (sx_if (et_test (ev_op rd_lt' (ev_var 4) ev_int))
  (sx_raise 0)
  (sx_lift st_next))
  (sx_lift (st_ret (ev_tup (ea_cons (ev_slY (ev_var 0) (po_part (ev_op rd_add (ev_var 1) ev_int)) (po_part (ev_var 4))) (ea_cons (ev_op rd_add (ev_var 4) ev_int) ea_nil)))))))
  (sx_lift st_next))
  (sx_seq (sx_if (et_and (et_test (ev_op rd_eq (ev_var 3) ev_str)) (et_test (ev_op rd_lt' (ev_var 2) ev_int)))
  (sx_ret (ex_call (ea_cons (ev_var 0) (ea_cons (ev_op rd_add (ev_var 1) ev_int) (ea_cons (ev_op rd_add (ev_var 2) ev_int) ea_nil)))))
  (sx_lift st_next))
  (sx_seq (sx_lift (st_set 4 (ev_var 1)))
  (sx_seq (sx_lift (st_while fuel__value_at_0 (et_and (et_test (ev_op rd_lt' (ev_var 4) (ev_cb cd_len (ea_cons (ev_var 0) ea_nil)))) (et_test (ev_op rd_notInS (ev_op rd_ix (ev_var 0) (ev_var 4)) ev_str)))
  (st_augI (i := 4) ev_int)))
  (sx_ret (ex_tupC (ex_call (ea_cons (ev_slY (ev_var 0) (po_part (ev_var 1)) (po_part (ev_var 4))) ea_nil)) (ea_cons (ev_var 4) ea_nil)))))))) : SX K T.cl _ (b__value_at (m__value_at n) (m__tuple_at n)))⟩,
    def_okX (cl := T.cl) (k := 2 + n) (N := N__tuple_at) T.F__tuple_at sc__tuple_at fun cdv A outer s H E hr => ⟨_,
  (pss_cons (ps_if (pt_cmpR (op_eqD hr.units) (pe_slice sl_any2 (pv 0) (po_some (pv 1)) (po_some (pe_op op_addA (pv 1) pe_int))) pe_str (nomark _)) (pss_one (ps_ret (pe_tup (pa_cons (pe_tup pa_nil) (pa_cons (pe_op op_addA (pv 1) pe_int) pa_nil))))) pss_nil)
  (pss_cons (ps_set (i := 3) sc__tuple_at.nd rfl (.inl rfl) (pe_lst pa_nil))
  (pss_one (ps_while (passes_of rfl) (pt_tr pe_bl (fun _ => rfl)) (pss_cons (ps_asg (pe_callS (ih).1 (hr.mono (by omega)) (by rfl) T.g__value_at T.F__value_at.kp T.b__value_at (fun σ => passAt (takes_of rfl rfl rfl rfl) σ) (pa_cons (pv 0) (pa_cons (pv 1) (pa_cons (pv 2) pa_nil)))) (pg_or (pg_tup rfl (pgs_cons (pg_name (i := 4) sc__tuple_at.nd rfl (.inl rfl)) (pgs_cons (pg_name (i := 1) sc__tuple_at.nd rfl (.inl rfl)) pgs_nil))) (pg_lst rfl (pgs_cons (pg_name (i := 4) sc__tuple_at.nd rfl (.inl rfl)) (pgs_cons (pg_name (i := 1) sc__tuple_at.nd rfl (.inl rfl)) pgs_nil)))))
  (pss_cons (ps_expr (pe_bm PySem.F.plainAttrs_list PySem.F.slot_list_append PySem.F.type_list_append mt_append (pv 3) (pa_cons (pv 4) pa_nil)))
  (pss_cons (ps_set (i := 5) sc__tuple_at.nd rfl (.inl rfl) (pe_slice sl_any2 (pv 0) (po_some (pv 1)) (po_some (pe_op op_addA (pv 1) pe_int))))
  (pss_cons (ps_if (pt_cmpR (op_eqD hr.units) (pv 5) pe_str (nomark _)) (pss_one (ps_ret (pe_tup (pa_cons (pe_callTy cr_tupOf (by rfl) T.n_tuple (by decide +kernel) (pa_cons (pv 3) pa_nil)) (pa_cons (pe_op op_addA (pv 1) pe_int) pa_nil))))) pss_nil)
  (pss_cons (ps_if (pt_cmpR (op_neD hr.units) (pv 5) pe_str (nomark _)) (pss_one (ps_raise rfl (takes_of rfl rfl rfl rfl) (pmk_own PySem.F.excBase_ValueError T.x_NoText T.g_NoText T.k_NoText (raises_own T.b_NoText T.t_NoText) (by rfl)))) pss_nil)
  (pss_one (ps_aug (i := 1) sc__tuple_at.nd rfl (.inl rfl) pe_int ip_add))))))))))),
  ((sx_seq (sx_lift (st_if (et_test (ev_op rd_eq (ev_slY (ev_var 0) (po_part (ev_var 1)) (po_part (ev_op rd_add (ev_var 1) ev_int))) ev_str))
  (st_ret (ev_tup (ea_cons (ev_tup ea_nil) (ea_cons (ev_op rd_add (ev_var 1) ev_int) ea_nil))))
  st_next))
  (sx_seq (sx_lift (st_own 3 (fl_lst ea_nil)))
  (sx_while fuel__tuple_at_0 (et_tru ev_bl)
  (sx_seq (sx_asgG (vs := [4, 1]) (ex_call (ea_cons (ev_var 0) (ea_cons (ev_var 1) (ea_cons (ev_var 2) ea_nil)))) (tg_any (n := 2) (tgs_cons (tg_name 4 (by decide)) (tgs_cons (tg_name 1 (by decide)) tgs_nil))))
  (sx_seq (sx_lift (st_append (i := 3) (ev_var 4)))
  (sx_seq (sx_lift (st_set 5 (ev_slY (ev_var 0) (po_part (ev_var 1)) (po_part (ev_op rd_add (ev_var 1) ev_int)))))
  (sx_seq (sx_lift (st_if (et_test (ev_op rd_eq (ev_var 5) ev_str))
  (st_frz 3 (st_ret (ev_tup (ea_cons (ev_cb cd_tupOf (ea_cons (ev_var 3) ea_nil)) (ea_cons (ev_op rd_add (ev_var 1) ev_int) ea_nil)))))
  st_next))
  (sx_seq (sx_if (et_test (ev_op rd_ne (ev_var 5) ev_str))
  (sx_raise 0)
  (sx_lift st_next))
  (sx_lift (st_augI (i := 1) ev_int)))))))))) : SX K T.cl _ (b__tuple_at (m__value_at n) (m__tuple_at n)))⟩⟩
theorem ok__value_at (T : Tx K w mg) (n : Nat) : FnOk P w K mg base (L2.CX P w) (2 + n) T.f__value_at T.d__value_at ["text", "at", "deep"] (spX K T.cl 3 (m__value_at n)) := (okr__value_at T n).1
theorem ok__tuple_at (T : Tx K w mg) (n : Nat) : FnOk P w K mg base (L2.CX P w) (2 + n) T.f__tuple_at T.d__tuple_at ["text", "at", "deep"] (spX K T.cl 3 (m__tuple_at n)) := (okr__value_at T n).2
theorem ok_read_value (T : Tx K w mg) : FnOk P w K mg base (L2.CX P w) 107 T.f_read_value T.d_read_value ["text"] (spX K T.cl 1 m_read_value) :=
  def_okX (cl := T.cl) (N := N_read_value) T.F_read_value sc_read_value fun cdv A outer s H E hr => ⟨_,
  (pss_cons (ps_if (pt_not (pt_tr (pe_callB call_isi (by rfl) T.n_isinstance (by decide +kernel) (pa_cons (pv 0) (pa_cons (pe_bltn (v := .ty "str") (by rfl) T.n_str (by decide +kernel) rfl) pa_nil))) (fun _ => rfl))) (pss_one (ps_raise rfl (takes_of rfl rfl rfl rfl) (pmk_own PySem.F.excBase_ValueError T.x_NoText T.g_NoText T.k_NoText (raises_own T.b_NoText T.t_NoText) (by rfl)))) pss_nil)
  (pss_cons (ps_asg (pe_callS (ok__value_at T 104) (hr.mono (by omega)) (by rfl) T.g__value_at T.F__value_at.kp T.b__value_at (fun σ => passAt (takes_of rfl rfl rfl rfl) σ) (pa_cons (pv 0) (pa_cons pe_int (pa_cons pe_int pa_nil)))) (pg_or (pg_tup rfl (pgs_cons (pg_name (i := 1) sc_read_value.nd rfl (.inl rfl)) (pgs_cons (pg_name (i := 2) sc_read_value.nd rfl (.inl rfl)) pgs_nil))) (pg_lst rfl (pgs_cons (pg_name (i := 1) sc_read_value.nd rfl (.inl rfl)) (pgs_cons (pg_name (i := 2) sc_read_value.nd rfl (.inl rfl)) pgs_nil)))))
  (pss_cons (ps_if (PW.pt (pw_or (pt_cmpR (op_neD hr.units) (pv 2) (pe_callB cr_len (by rfl) T.n_len (by decide +kernel) (pa_cons (pv 0) pa_nil)) (nomark _)) (pw_or1 (pt_not (pt_tr (pe_call (ok_is_value T) (hr.mono (by decide)) (by rfl) T.g_is_value T.F_is_value.kp T.b_is_value .nil pass0 (pa_cons (pv 1) pa_nil)) (fun _ => rfl)))))) (pss_one (ps_raise rfl (takes_of rfl rfl rfl rfl) (pmk_own PySem.F.excBase_ValueError T.x_NoText T.g_NoText T.k_NoText (raises_own T.b_NoText T.t_NoText) (by rfl)))) pss_nil)
  (pss_one (ps_ret (pv 1)))))),
  ((sx_seq (sx_if (et_not (et_tru (ev_isi cls_str (ev_var 0))))
  (sx_raise 0)
  (sx_lift st_next))
  (sx_seq (sx_asgG (vs := [1, 2]) (ex_call (ea_cons (ev_var 0) (ea_cons ev_int (ea_cons ev_int ea_nil)))) (tg_any (n := 2) (tgs_cons (tg_name 1 (by decide)) (tgs_cons (tg_name 2 (by decide)) tgs_nil))))
  (sx_seq (sx_if (et_or (et_test (ev_op rd_ne (ev_var 2) (ev_cb cd_len (ea_cons (ev_var 0) ea_nil)))) (et_not (et_tru (ev_call' (ea_cons (ev_var 1) ea_nil)))))
  (sx_raise 0)
  (sx_lift st_next))
  (sx_lift (st_ret (ev_var 1)))))) : SX K T.cl _ b_read_value)⟩
theorem ok_events_text (T : Tx K w mg) : FnOk P w K mg base (L2.CX P w) 56 T.f_events_text T.d_events_text ["events"] (spX K T.cl 1 m_events_text) :=
  def_okX (cl := T.cl) (N := N_events_text) T.F_events_text sc_events_text fun cdv A outer s H E hr => ⟨_,
  (pss_cons (ps_if (pt_not (pt_tr (pe_callB call_isi (by rfl) T.n_isinstance (by decide +kernel) (pa_cons (pv 0) (pa_cons (pe_bltn (v := .ty "list") (by rfl) T.n_list (by decide +kernel) rfl) pa_nil))) (fun _ => rfl))) (pss_one (ps_raise rfl (takes_of rfl rfl rfl rfl) (pmk_own PySem.F.excBase_ValueError T.x_NoValue T.g_NoValue T.k_NoValue (raises_own T.b_NoValue T.t_NoValue) (by rfl)))) pss_nil)
  (pss_one (ps_ret (pe_bm PySem.F.plainAttrs_str PySem.F.slot_str_join PySem.F.type_str_join mt_join pe_str (pa_cons (pe_lcX (own := [("event", 1)]) (g := gName 1) (tt := _) rfl rfl (takes_of rfl rfl rfl rfl) rfl sc_events_text.nd (pi_any (pv 0)) (blkOk_by (N := N_events_text) (sc := defScope s_events_text) (by decide +kernel)) (fun _ _ _ _ _ _ => (pg_name (i := 1) sc_events_text.nd rfl (.inl rfl))) (fun _ _ _ _ _ _ => pts_nil) (fun _ _ _ _ _ _ W' ps => (pe_op op_addA (pe_callS (ok_value_text T) (hr.mono (by decide)) (by rfl) T.g_value_text T.F_value_text.kp T.b_value_text ps (pa_cons (pv 1) pa_nil)) pe_str))) pa_nil))))),
  ((sx_seq (sx_if (et_not (et_tru (ev_isi cls_list (ev_var 0))))
  (sx_raise 1)
  (sx_lift st_next))
  (sx_ret (ex_join ev_str (ex_list (xl_lc (vs := [1]) (it_any (ev_var 0)) (tg_name 1 (by decide)) et_yes (ex_op rd_add (ex_call (ea_cons (ev_var 1) ea_nil)) (ex_lift ev_str))))))) : SX K T.cl _ b_events_text)⟩
theorem ok_read_events (T : Tx K w mg) : FnOk P w K mg base (L2.CX P w) 108 T.f_read_events T.d_read_events ["text"] (spX K T.cl 1 m_read_events) :=
  def_okX (cl := T.cl) (N := N_read_events) T.F_read_events sc_read_events fun cdv A outer s H E hr => ⟨_,
  (pss_cons (ps_if (PW.pt (pw_or (pt_not (pt_tr (pe_callB call_isi (by rfl) T.n_isinstance (by decide +kernel) (pa_cons (pv 0) (pa_cons (pe_bltn (v := .ty "str") (by rfl) T.n_str (by decide +kernel) rfl) pa_nil))) (fun _ => rfl))) (pw_or1 (pt_not (PW.pt (pw_or (pt_cmpR (op_eqD hr.units) (pv 0) pe_str (nomark _)) (pw_or1 (pt_tr (pe_bm PySem.F.plainAttrs_str PySem.F.slot_str_endswith PySem.F.type_str_endswith mt_endswith (pv 0) (pa_cons pe_str pa_nil)) (fun _ => rfl))))))))) (pss_one (ps_raise rfl (takes_of rfl rfl rfl rfl) (pmk_own PySem.F.excBase_ValueError T.x_NoText T.g_NoText T.k_NoText (raises_own T.b_NoText T.t_NoText) (by rfl)))) pss_nil)
  (pss_one (ps_ret (pe_lcX (own := [("line", 1)]) (g := gName 1) (tt := _) rfl rfl (takes_of rfl rfl rfl rfl) rfl sc_read_events.nd (pi_any (pe_slice sl_any2 (pe_bm PySem.F.plainAttrs_str PySem.F.slot_str_split PySem.F.type_str_split mt_split (pv 0) (pa_cons pe_str pa_nil)) po_none (po_some (pe_un un_neg pe_int)))) (blkOk_by (N := N_read_events) (sc := defScope s_read_events) (by decide +kernel)) (fun _ _ _ _ _ _ => (pg_name (i := 1) sc_read_events.nd rfl (.inl rfl))) (fun _ _ _ _ _ _ => pts_nil) (fun _ _ _ _ _ _ W' ps => (pe_callS (ok_read_value T) (hr.mono (by decide)) (by rfl) T.g_read_value T.F_read_value.kp T.b_read_value ps (pa_cons (pv 1) pa_nil))))))),
  ((sx_seq (sx_if (et_or (et_not (et_tru (ev_isi cls_str (ev_var 0)))) (et_not (et_or (et_test (ev_op rd_eq (ev_var 0) ev_str)) (et_tru (ev_endsT (ev_var 0) ev_str)))))
  (sx_raise 0)
  (sx_lift st_next))
  (sx_ret (ex_list (xl_lc (vs := [1]) (it_any (ev_slY (ev_split (ev_var 0) ev_str) po_no (po_part (ev_un ud_neg ev_int)))) (tg_name 1 (by decide)) et_yes (ex_call (ea_cons (ev_var 1) ea_nil)))))) : SX K T.cl _ b_read_events)⟩
theorem ok__law_drawn (T : Tx K w mg) : FnOk P w K mg base CX0 1 T.f__law_drawn T.d__law_drawn ["_law_script", "_law_k", "_law_many"] (spM K 3 m__law_drawn) :=
  def_ok (N := N__law_drawn) T.F__law_drawn sc__law_drawn fun cdv A outer s H E hr => ⟨_,
  (pss_cons (ps_set (i := 3) sc__law_drawn.nd rfl (.inl rfl) (pe_op op_mulA pe_int (pv 1)))
  (pss_cons (ps_if (pt_cmpR (op_neD hr.units) (pv 0) (pe_lst pa_nil) (nomark _)) (pss_cons (ps_set (i := 3) sc__law_drawn.nd rfl (.inl rfl) (pe_ix ix_seq (pv 0) (pe_op op_mod (pv 1) (pe_callB cr_len (by rfl) T.n_len (by decide +kernel) (pa_cons (pv 0) pa_nil))) (fun _ _ => rfl)))
  (pss_cons (ps_set (i := 4) sc__law_drawn.nd rfl (.inl rfl) (pe_op op_fdivW (pv 1) (pe_callB cr_len (by rfl) T.n_len (by decide +kernel) (pa_cons (pv 0) pa_nil))))
  (pss_cons (ps_if (PW.pt (pw_and (pt_cmpR op_ge (pv 3) (pe_op op_pow pe_int pe_int) (nomark _)) (pw_and1 (pt_cmpR op_lt (pv 4) pe_int (nomark _))))) (pss_cons (ps_set (i := 5) sc__law_drawn.nd rfl (.inl rfl) (pe_op op_fdivW (pv 3) (pe_op op_pow pe_int pe_int)))
  (pss_cons (ps_while PassesOwn.never (PW.pt (pw_and (pt_cmpR op_gt (pv 5) pe_int (nomark _)) (pw_and1 (pt_cmpR op_gt (pv 4) pe_int (nomark _))))) (pss_cons (ps_set (i := 5) sc__law_drawn.nd rfl (.inl rfl) (pe_op op_fdivW (pv 5) pe_int))
  (pss_one (ps_set (i := 4) sc__law_drawn.nd rfl (.inl rfl) (pe_op op_sub (pv 4) pe_int)))))
  (pss_one (ps_if (pt_cmpR op_gt (pv 5) pe_int (nomark _)) (pss_one (ps_ret (pe_op op_mod (pe_op op_mod (pv 5) pe_int) (pv 2)))) pss_nil)))) pss_nil)
  (pss_one (ps_set (i := 3) sc__law_drawn.nd rfl (.inl rfl) (pe_op op_addA (pv 3) (pe_op op_mulA pe_int (pe_op op_fdivW (pv 1) (pe_callB cr_len (by rfl) T.n_len (by decide +kernel) (pa_cons (pv 0) pa_nil)))))))))) pss_nil)
  (pss_cons (ps_set (i := 3) sc__law_drawn.nd rfl (.inl rfl) (pe_op op_mod (pe_op op_addA (pe_op op_mulA (pe_op op_mod (pv 3) pe_int) pe_int) (pe_op op_mulA pe_int (pe_op op_addA (pv 1) pe_int))) pe_int))
  (pss_cons (ps_set (i := 3) sc__law_drawn.nd rfl (.inl rfl) (pe_op op_mod (pe_op op_addA (pe_op op_mulA (pv 3) (pv 3)) (pe_op op_fdivW (pv 3) pe_int)) pe_int))
  (pss_one (ps_ret (pe_op op_mod (pe_op op_fdivW (pe_op op_mod (pe_op op_addA (pe_op op_mulA (pv 3) (pv 3)) (pe_op op_fdivW (pv 3) pe_int)) pe_int) pe_int) (pv 2)))))))),
  ((st_seq (st_set 3 (ev_op rd_mul ev_int (ev_var 1)))
  (st_seq (st_if (et_test (ev_op rd_ne (ev_var 0) (ev_list (fl_lst ea_nil))))
  (st_seq (st_set 3 (ev_op rd_ix (ev_var 0) (ev_op rd_mod (ev_var 1) (ev_cb cd_len (ea_cons (ev_var 0) ea_nil)))))
  (st_seq (st_set 4 (ev_op rd_fdiv (ev_var 1) (ev_cb cd_len (ea_cons (ev_var 0) ea_nil))))
  (st_seq (st_if (et_and (et_test (ev_op rd_ge' (ev_var 3) (ev_op rd_pow ev_int ev_int))) (et_test (ev_op rd_lt' (ev_var 4) ev_int)))
  (st_seq (st_set 5 (ev_op rd_fdiv (ev_var 3) (ev_op rd_pow ev_int ev_int)))
  (st_seq (st_while fuel__law_drawn_0 (et_and (et_test (ev_op rd_gt' (ev_var 5) ev_int)) (et_test (ev_op rd_gt' (ev_var 4) ev_int)))
  (st_seq (st_set 5 (ev_op rd_fdiv (ev_var 5) ev_int))
  (st_set 4 (ev_op rd_sub (ev_var 4) ev_int))))
  (st_if (et_test (ev_op rd_gt' (ev_var 5) ev_int))
  (st_ret (ev_op rd_mod (ev_op rd_mod (ev_var 5) ev_int) (ev_var 2)))
  st_next)))
  st_next)
  (st_set 3 (ev_op rd_add (ev_var 3) (ev_op rd_mul ev_int (ev_op rd_fdiv (ev_var 1) (ev_cb cd_len (ea_cons (ev_var 0) ea_nil)))))))))
  st_next)
  (st_seq (st_set 3 (ev_op rd_mod (ev_op rd_add (ev_op rd_mul (ev_op rd_mod (ev_var 3) ev_int) ev_int) (ev_op rd_mul ev_int (ev_op rd_add (ev_var 1) ev_int))) ev_int))
  (st_seq (st_set 3 (ev_op rd_mod (ev_op rd_add (ev_op rd_mul (ev_var 3) (ev_var 3)) (ev_op rd_fdiv (ev_var 3) ev_int)) ev_int))
  (st_ret (ev_op rd_mod (ev_op rd_fdiv (ev_op rd_mod (ev_op rd_add (ev_op rd_mul (ev_var 3) (ev_var 3)) (ev_op rd_fdiv (ev_var 3) ev_int)) ev_int) ev_int) (ev_var 2))))))) : TSm K _ b__law_drawn)⟩
theorem ok__law_value (T : Tx K w mg) : ∀ n, FnOk P w K mg base CX0 (2 + n) T.f__law_value T.d__law_value ["_law_script", "_law_at", "_law_deep"] (spM K 3 (m__law_value n)) :=
  fn_rec rfl rfl fun n ih => def_ok (N := N__law_value) T.F__law_value sc__law_value fun cdv A outer s H E hr => ⟨_,
  (pss_cons (ps_set (i := 3) sc__law_value.nd rfl (.inl rfl) (pe_call (ok__law_drawn T) (hr.mono (by omega)) (by rfl) T.g__law_drawn T.F__law_drawn.kp T.b__law_drawn .nil pass0 (pa_cons (pv 0) (pa_cons (pv 1) (pa_cons pe_int pa_nil)))))
  (pss_cons (ps_if (pt_cmpR op_lt (pv 3) pe_int (nomark _)) (pss_one (ps_ret (pe_ix ix_seq (pe_lst (pa_cons pe_non (pa_cons pe_bl (pa_cons pe_bl pa_nil)))) (pe_call (ok__law_drawn T) (hr.mono (by omega)) (by rfl) T.g__law_drawn T.F__law_drawn.kp T.b__law_drawn .nil pass0 (pa_cons (pv 0) (pa_cons (pe_op op_addA (pv 1) pe_int) (pa_cons pe_int pa_nil)))) (fun _ _ => rfl)))) pss_nil)
  (pss_cons (ps_if (pt_cmpR op_lt (pv 3) pe_int (nomark _)) (pss_cons (ps_set (i := 4) sc__law_value.nd rfl (.inl rfl) (pe_call (ok__law_drawn T) (hr.mono (by omega)) (by rfl) T.g__law_drawn T.F__law_drawn.kp T.b__law_drawn .nil pass0 (pa_cons (pv 0) (pa_cons (pe_op op_addA (pv 1) pe_int) (pa_cons (pe_ix ix_seq (pe_lst (pa_cons pe_int (pa_cons pe_int (pa_cons pe_int pa_nil)))) (pe_call (ok__law_drawn T) (hr.mono (by omega)) (by rfl) T.g__law_drawn T.F__law_drawn.kp T.b__law_drawn .nil pass0 (pa_cons (pv 0) (pa_cons (pe_op op_addA (pv 1) pe_int) (pa_cons pe_int pa_nil)))) (fun _ _ => rfl)) pa_nil)))))
  (pss_one (ps_ret (pe_ifExp (pt_cmpR (op_eqD hr.units) (pe_call (ok__law_drawn T) (hr.mono (by omega)) (by rfl) T.g__law_drawn T.F__law_drawn.kp T.b__law_drawn .nil pass0 (pa_cons (pv 0) (pa_cons (pe_op op_addA (pv 1) pe_int) (pa_cons pe_int pa_nil)))) pe_int (nomark _)) (pv 4) (pe_un un_neg (pv 4)))))) pss_nil)
  (pss_cons (ps_if (PW.pt (pw_or (pt_cmpR op_lt (pv 3) pe_int (nomark _)) (pw_or1 (pt_cmpR (op_eqD hr.units) (pv 2) pe_int (nomark _))))) (pss_cons (ps_asg (pe_tup (pa_cons pe_str (pa_cons (pe_call (ok__law_drawn T) (hr.mono (by omega)) (by rfl) T.g__law_drawn T.F__law_drawn.kp T.b__law_drawn .nil pass0 (pa_cons (pv 0) (pa_cons (pe_op op_addA (pv 1) pe_int) (pa_cons pe_int pa_nil)))) pa_nil))) (pg_tup rfl (pgs_cons (pg_name (i := 5) sc__law_value.nd rfl (.inr rfl)) (pgs_cons (pg_name (i := 6) sc__law_value.nd rfl (.inl rfl)) pgs_nil))))
  (pss_one (ps_ret (pe_bm PySem.F.plainAttrs_str PySem.F.slot_str_join PySem.F.type_str_join mt_join pe_str (pa_cons (pe_lc (own := [("_law_k", 7)]) (g := gName 7) (tt := tYes) rfl sc__law_value.nd (pi_range1 (by rfl) T.n_range (pa_cons (pv 6) pa_nil)) (blkOk_by (N := N__law_value) (sc := defScope s__law_value) (by decide +kernel)) (fun _ _ _ _ _ => (pg_name (i := 7) sc__law_value.nd rfl (.inl rfl))) (fun _ _ _ _ _ => pts_nil) (fun _ _ _ _ _ => (pe_ix ix_seq (pv 5) (pe_call (ok__law_drawn T) (hr.mono (by omega)) (by rfl) T.g__law_drawn T.F__law_drawn.kp T.b__law_drawn .nil pass0 (pa_cons (pv 0) (pa_cons (pe_op op_addA (pe_op op_addA (pv 1) pe_int) (pv 7)) (pa_cons pe_int pa_nil)))) (fun _ _ => rfl)))) pa_nil))))) pss_nil)
  (pss_cons (ps_set (i := 8) sc__law_value.nd rfl (.inl rfl) (pe_lst pa_nil))
  (pss_cons (ps_for PassesOwn.never rfl (pi_range1 (by rfl) T.n_range (pa_cons (pe_call (ok__law_drawn T) (hr.mono (by omega)) (by rfl) T.g__law_drawn T.F__law_drawn.kp T.b__law_drawn .nil pass0 (pa_cons (pv 0) (pa_cons (pe_op op_addA (pv 1) pe_int) (pa_cons pe_int pa_nil)))) pa_nil)) (pg_name (i := 7) sc__law_value.nd rfl (.inl rfl)) (pss_one (ps_expr (pe_bm PySem.F.plainAttrs_list PySem.F.slot_list_append PySem.F.type_list_append mt_append (pv 8) (pa_cons (pe_call ih (hr.mono (by omega)) (by rfl) T.g__law_value T.F__law_value.kp T.b__law_value .nil pass0 (pa_cons (pv 0) (pa_cons (pe_op op_addA (pe_op op_addA (pe_op op_addA (pv 1) pe_int) (pe_op op_mulA pe_int (pv 7))) (pe_op op_mulA pe_int (pv 2))) (pa_cons (pe_op op_sub (pv 2) pe_int) pa_nil)))) pa_nil)))))
  (pss_one (ps_ret (pe_callTy cr_tupOf (by rfl) T.n_tuple (by decide +kernel) (pa_cons (pv 8) pa_nil)))))))))),
  ((st_seq (st_set 3 (ev_call' (ea_cons (ev_var 0) (ea_cons (ev_var 1) (ea_cons ev_int ea_nil)))))
  (st_seq (st_if (et_test (ev_op rd_lt' (ev_var 3) ev_int))
  (st_ret (ev_op rd_ix (ev_list (fl_lst (ea_cons ev_non (ea_cons ev_bl (ea_cons ev_bl ea_nil))))) (ev_call' (ea_cons (ev_var 0) (ea_cons (ev_op rd_add (ev_var 1) ev_int) (ea_cons ev_int ea_nil))))))
  st_next)
  (st_seq (st_if (et_test (ev_op rd_lt' (ev_var 3) ev_int))
  (st_seq (st_set 4 (ev_call' (ea_cons (ev_var 0) (ea_cons (ev_op rd_add (ev_var 1) ev_int) (ea_cons (ev_op rd_ix (ev_list (fl_lst (ea_cons ev_int (ea_cons ev_int (ea_cons ev_int ea_nil))))) (ev_call' (ea_cons (ev_var 0) (ea_cons (ev_op rd_add (ev_var 1) ev_int) (ea_cons ev_int ea_nil))))) ea_nil)))))
  (st_ret (ev_if (et_test (ev_op rd_eq (ev_call' (ea_cons (ev_var 0) (ea_cons (ev_op rd_add (ev_var 1) ev_int) (ea_cons ev_int ea_nil)))) ev_int)) (ev_var 4) (ev_un ud_neg (ev_var 4)))))
  st_next)
  (st_seq (st_if (et_or (et_test (ev_op rd_lt' (ev_var 3) ev_int)) (et_test (ev_op rd_eq (ev_var 2) ev_int)))
  (st_seq (st_asg (vs := [5, 6]) (ev_tup (ea_cons ev_str (ea_cons (ev_call' (ea_cons (ev_var 0) (ea_cons (ev_op rd_add (ev_var 1) ev_int) (ea_cons ev_int ea_nil)))) ea_nil))) (tg_tup (tgs_cons (tg_name 5 (by decide)) (tgs_cons (tg_name 6 (by decide)) tgs_nil))))
  (st_ret (ev_join ev_str (ev_list (fl_lc (vs := [7]) (it_range1' (ea_cons (ev_var 6) ea_nil)) (tg_name 7 (by decide)) et_yes (ev_op rd_ix (ev_var 5) (ev_call' (ea_cons (ev_var 0) (ea_cons (ev_op rd_add (ev_op rd_add (ev_var 1) ev_int) (ev_var 7)) (ea_cons ev_int ea_nil))))))))))
  st_next)
  (st_seq (st_own 8 (fl_lst ea_nil))
  (st_seq (st_for (vs := [7]) (it_range1' (ea_cons (ev_call' (ea_cons (ev_var 0) (ea_cons (ev_op rd_add (ev_var 1) ev_int) (ea_cons ev_int ea_nil)))) ea_nil)) (tg_name 7 (by decide))
  (st_append (i := 8) (ev_call' (ea_cons (ev_var 0) (ea_cons (ev_op rd_add (ev_op rd_add (ev_op rd_add (ev_var 1) ev_int) (ev_op rd_mul ev_int (ev_var 7))) (ev_op rd_mul ev_int (ev_var 2))) (ea_cons (ev_op rd_sub (ev_var 2) ev_int) ea_nil))))))
  (st_frz 8 (st_ret (ev_cb cd_tupOf (ea_cons (ev_var 8) ea_nil)))))))))) : TSm K _ (b__law_value (m__law_value n)))⟩
theorem ok__law_alike (T : Tx K w mg) : ∀ n, FnOk P w K mg base CX0 (1 + n) T.f__law_alike T.d__law_alike ["_law_one", "_law_other"] (spM K 2 (m__law_alike n)) :=
  fn_rec rfl rfl fun n ih => def_ok (N := N__law_alike) T.F__law_alike sc__law_alike fun cdv A outer s H E hr => ⟨_,
  (pss_cons (ps_if (PW.pt (pw_and (pt_tr (pe_callB call_isi (by rfl) T.n_isinstance (by decide +kernel) (pa_cons (pv 0) (pa_cons (pe_bltn (v := .ty "tuple") (by rfl) T.n_tuple (by decide +kernel) rfl) pa_nil))) (fun _ => rfl)) (pw_and1 (pt_tr (pe_callB call_isi (by rfl) T.n_isinstance (by decide +kernel) (pa_cons (pv 1) (pa_cons (pe_bltn (v := .ty "tuple") (by rfl) T.n_tuple (by decide +kernel) rfl) pa_nil))) (fun _ => rfl))))) (pss_cons (ps_if (pt_cmpR (op_neD hr.units) (pe_callB cr_len (by rfl) T.n_len (by decide +kernel) (pa_cons (pv 0) pa_nil)) (pe_callB cr_len (by rfl) T.n_len (by decide +kernel) (pa_cons (pv 1) pa_nil)) (nomark _)) (pss_one (ps_ret pe_bl)) pss_nil)
  (pss_one (ps_ret (pe_cmpR (op_eqD hr.units) (pe_lc (own := [("_law_a", 2), ("_law_b", 3)]) (g := _) (tt := _) rfl sc__law_alike.nd (pi_zipX (by rfl) T.n_zip (pa_cons (pv 0) (pa_cons (pv 1) pa_nil))) (blkOk_by (N := N__law_alike) (sc := defScope s__law_alike) (by decide +kernel)) (fun _ _ _ _ _ => (pg_tup rfl (pgs_cons (pg_name (i := 2) sc__law_alike.nd rfl (.inl rfl)) (pgs_cons (pg_name (i := 3) sc__law_alike.nd rfl (.inl rfl)) pgs_nil)))) (fun _ _ _ _ _ => pts_one (pt_not (pt_tr (pe_call ih (hr.mono (by omega)) (by rfl) T.g__law_alike T.F__law_alike.kp T.b__law_alike .nil pass0 (pa_cons (pv 2) (pa_cons (pv 3) pa_nil))) (fun _ => rfl)))) (fun _ _ _ _ _ => pe_int)) (pe_lst pa_nil) (nomark _))))) pss_nil)
  (pss_one (ps_ret (pe_and (pe_cmpR (op_eqD hr.units) (pe_callB call_isi (by rfl) T.n_isinstance (by decide +kernel) (pa_cons (pv 0) (pa_cons (pe_bltn (v := .ty "bool") (by rfl) T.n_bool (by decide +kernel) rfl) pa_nil))) (pe_callB call_isi (by rfl) T.n_isinstance (by decide +kernel) (pa_cons (pv 1) (pa_cons (pe_bltn (v := .ty "bool") (by rfl) T.n_bool (by decide +kernel) rfl) pa_nil))) (nomark _)) (pe_one (pe_cmpR (op_eqD hr.units) (pv 0) (pv 1) (nomark _))))))),
  ((st_seq (st_if (et_and (et_tru (ev_isi cls_tuple (ev_var 0))) (et_tru (ev_isi cls_tuple (ev_var 1))))
  (st_seq (st_if (et_test (ev_op rd_ne (ev_cb cd_len (ea_cons (ev_var 0) ea_nil)) (ev_cb cd_len (ea_cons (ev_var 1) ea_nil))))
  (st_ret ev_bl)
  st_next)
  (st_ret (ev_op rd_eq (ev_list (fl_lc (vs := [2, 3]) (it_zipX (ea_cons (ev_var 0) (ea_cons (ev_var 1) ea_nil))) (tg_tup (tgs_cons (tg_name 2 (by decide)) (tgs_cons (tg_name 3 (by decide)) tgs_nil))) (et_not (et_tru (ev_call' (ea_cons (ev_var 2) (ea_cons (ev_var 3) ea_nil))))) ev_int)) (ev_list (fl_lst ea_nil)))))
  st_next)
  (st_ret (ev_andV (ev_op rd_eq (ev_isi cls_bool (ev_var 0)) (ev_isi cls_bool (ev_var 1))) (ev_op rd_eq (ev_var 0) (ev_var 1))))) : TSm K _ (b__law_alike (m__law_alike n)))⟩
theorem ok__law_plain (T : Tx K w mg) : ∀ n, FnOk P w K mg base CX0 (1 + n) T.f__law_plain T.d__law_plain ["_law_value_here"] (spM K 1 (m__law_plain n)) :=
  fn_rec rfl rfl fun n ih => def_ok (N := N__law_plain) T.F__law_plain sc__law_plain fun cdv A outer s H E hr => ⟨_,
  (pss_cons (ps_if (PW.pt (pw_or (pt_cmpR op_isA (pv 0) pe_non (nomark _)) (pw_or1 (pt_tr (pe_callB call_isi (by rfl) T.n_isinstance (by decide +kernel) (pa_cons (pv 0) (pa_cons (pe_bltn (v := .ty "bool") (by rfl) T.n_bool (by decide +kernel) rfl) pa_nil))) (fun _ => rfl))))) (pss_one (ps_ret (pe_ix ix_nb (pe_nb pe_non pe_bl pe_bl pe_str pe_str pe_str) (pv 0) (fun _ _ => rfl)))) pss_nil)
  (pss_cons (ps_if (pt_tr (pe_callB call_isi (by rfl) T.n_isinstance (by decide +kernel) (pa_cons (pv 0) (pa_cons (pe_bltn (v := .ty "int") (by rfl) T.n_int (by decide +kernel) rfl) pa_nil))) (fun _ => rfl)) (pss_one (ps_ret (pe_callTy cr_strA (by rfl) T.n_str (by decide +kernel) (pa_cons (pv 0) pa_nil)))) pss_nil)
  (pss_cons (ps_if (pt_tr (pe_callB call_isi (by rfl) T.n_isinstance (by decide +kernel) (pa_cons (pv 0) (pa_cons (pe_bltn (v := .ty "str") (by rfl) T.n_str (by decide +kernel) rfl) pa_nil))) (fun _ => rfl)) (pss_one (ps_ret (pe_op op_addA (pe_op op_addA pe_str (pv 0)) pe_str))) pss_nil)
  (pss_one (ps_ret (pe_op op_addA (pe_op op_addA pe_str (pe_bm PySem.F.plainAttrs_str PySem.F.slot_str_join PySem.F.type_str_join mt_join pe_str (pa_cons (pe_lc (own := [("_law_one", 1)]) (g := gName 1) (tt := tYes) rfl sc__law_plain.nd (pi_any (pv 0)) (blkOk_by (N := N__law_plain) (sc := defScope s__law_plain) (by decide +kernel)) (fun _ _ _ _ _ => (pg_name (i := 1) sc__law_plain.nd rfl (.inl rfl))) (fun _ _ _ _ _ => pts_nil) (fun _ _ _ _ _ => (pe_call ih (hr.mono (by omega)) (by rfl) T.g__law_plain T.F__law_plain.kp T.b__law_plain .nil pass0 (pa_cons (pv 1) pa_nil)))) pa_nil))) pe_str)))))),
  ((st_seq (st_if (et_or (et_test (ev_op rd_is (ev_var 0) ev_non)) (et_tru (ev_isi cls_bool (ev_var 0))))
  (st_ret (ev_nb (ev_var 0)))
  st_next)
  (st_seq (st_if (et_tru (ev_isi cls_int (ev_var 0)))
  (st_ret (ev_cb cd_strA (ea_cons (ev_var 0) ea_nil)))
  st_next)
  (st_seq (st_if (et_tru (ev_isi cls_str (ev_var 0)))
  (st_ret (ev_op rd_add (ev_op rd_add ev_str (ev_var 0)) ev_str))
  st_next)
  (st_ret (ev_op rd_add (ev_op rd_add ev_str (ev_join ev_str (ev_list (fl_lc (vs := [1]) (it_any (ev_var 0)) (tg_name 1 (by decide)) et_yes (ev_call' (ea_cons (ev_var 1) ea_nil)))))) ev_str))))) : TSm K _ (b__law_plain (m__law_plain n)))⟩
theorem ok__law_no (T : Tx K w mg) : FnOk P w K mg base CX0 109 T.f__law_no T.d__law_no ["_law_way", "_law_thing"] (spM K 2 m__law_no) :=
  def_ok (N := N__law_no) T.F__law_no sc__law_no fun cdv A outer s H E hr => ⟨_,
  (pss_cons (ps_try_as (i := 2) (Wout := fun _ _ _ _ => False) rfl rfl sc__law_no.nd rfl rfl ⟨rfl, by decide, .inl T.g_YardError⟩ takes0 (fun W pn xe tk po => (pss_one (ps_if (pt_cmpR (op_eqD hr.units) (pv 0) pe_int (nomark _)) (pss_one (ps_expr (pe_callS (ok_value_text T) (hr.mono (by decide)) (by rfl) T.g_value_text T.F_value_text.kp T.b_value_text (fun σ => passAt tk σ) (pa_cons (pv 1) pa_nil)))) (pss_one (ps_if (pt_cmpR (op_eqD hr.units) (pv 0) pe_int (nomark _)) (pss_one (ps_expr (pe_callS (ok_events_text T) (hr.mono (by decide)) (by rfl) T.g_events_text T.F_events_text.kp T.b_events_text (fun σ => passAt tk σ) (pa_cons (pv 1) pa_nil)))) (pss_one (ps_if (pt_cmpR (op_eqD hr.units) (pv 0) pe_int (nomark _)) (pss_one (ps_expr (pe_callS (ok_read_value T) (hr.mono (by decide)) (by rfl) T.g_read_value T.F_read_value.kp T.b_read_value (fun σ => passAt tk σ) (pa_cons (pv 1) pa_nil)))) (pss_one (ps_expr (pe_callS (ok_read_events T) (hr.mono (by decide)) (by rfl) T.g_read_events T.F_read_events.kp T.b_read_events (fun σ => passAt tk σ) (pa_cons (pv 1) pa_nil))))))))))) (fun a oe cls d pn hz hf => (pss_or (pss_cls (C := T.C_NoText) hz fun hz => pss_one (ps_ret (pe_lst (pa_cons (pe_callB (call_isE T.E_NoText hz hf) (by rfl) T.n_isinstance (by decide +kernel) (pa_cons (pv 2) (pa_cons (pe_glob (v := .ref T.C_NoValue) (by rfl) T.g_NoValue rfl) pa_nil))) (pa_cons (pe_callB (call_isE T.E_NoText hz hf) (by rfl) T.n_isinstance (by decide +kernel) (pa_cons (pv 2) (pa_cons (pe_glob (v := .ref T.C_NoText) (by rfl) T.g_NoText rfl) pa_nil))) pa_nil))))) (pss_cls (C := T.C_NoValue) hz fun hz => pss_one (ps_ret (pe_lst (pa_cons (pe_callB (call_isE T.E_NoValue hz hf) (by rfl) T.n_isinstance (by decide +kernel) (pa_cons (pv 2) (pa_cons (pe_glob (v := .ref T.C_NoValue) (by rfl) T.g_NoValue rfl) pa_nil))) (pa_cons (pe_callB (call_isE T.E_NoValue hz hf) (by rfl) T.n_isinstance (by decide +kernel) (pa_cons (pv 2) (pa_cons (pe_glob (v := .ref T.C_NoText) (by rfl) T.g_NoText rfl) pa_nil))) pa_nil))))))))
  (pss_one (ps_ret (pe_lst pa_nil)))),
  ((st_seq (st_tryF (C := T.C_YardError) (sx_if (et_test (ev_op rd_eq (ev_var 0) ev_int))
  (sx_drop (ex_call (ea_cons (ev_var 1) ea_nil)))
  (sx_if (et_test (ev_op rd_eq (ev_var 0) ev_int))
  (sx_drop (ex_call (ea_cons (ev_var 1) ea_nil)))
  (sx_if (et_test (ev_op rd_eq (ev_var 0) ev_int))
  (sx_drop (ex_call (ea_cons (ev_var 1) ea_nil)))
  (sx_drop (ex_call (ea_cons (ev_var 1) ea_nil)))))) (su_or (su_one (cl := T.cl) (c0 := 0) (d0 := (.list [(.bool false), (.bool true)])) T.e_NoText_YardError (sbd_lst (sba_cons (sbd_of (sb_is T.q_NoText_NoValue) (fun _ => .bl _)) (sba_cons (sbd_of (sb_is T.q_NoText_NoText) (fun _ => .bl _)) sba_nil)) (by decide))) (su_one (cl := T.cl) (c0 := 1) (d0 := (.list [(.bool true), (.bool false)])) T.e_NoValue_YardError (sbd_lst (sba_cons (sbd_of (sb_is T.q_NoValue_NoValue) (fun _ => .bl _)) (sba_cons (sbd_of (sb_is T.q_NoValue_NoText) (fun _ => .bl _)) sba_nil)) (by decide)))))
  (st_ret (ev_list (fl_lst ea_nil)))) : TSm K _ b__law_no)⟩
theorem ok_law (T : Tx K w mg) : FnOk P w K mg base CX0 110 T.f_law T.d_law ["_law_script"] (spM K 1 m_law) :=
  def_ok (N := N_law) T.F_law sc_law fun cdv A outer s H E hr => ⟨_,
  (pss_cons (ps_setLc (i := 1) (own := [("_law_k", 9)]) (g := gName 9) (tt := tYes) rfl sc_law.nd rfl rfl (sw_true rfl rfl rfl (by decide +kernel)) (pi_range1 (by rfl) T.n_range (pa_cons (pe_call (ok__law_drawn T) (hr.mono (by decide)) (by rfl) T.g__law_drawn T.F__law_drawn.kp T.b__law_drawn .nil pass0 (pa_cons (pv 0) (pa_cons pe_int (pa_cons pe_int pa_nil)))) pa_nil)) (blkOk_by (N := N_law) (sc := defScope s_law) (by decide +kernel)) (fun _ _ _ _ _ => (pg_name (i := 9) sc_law.nd rfl (.inl rfl))) (fun _ _ _ _ _ => pts_nil) (fun _ _ _ _ _ => (pe_call (ok__law_value T 4) (hr.mono (by omega)) (by rfl) T.g__law_value T.F__law_value.kp T.b__law_value .nil pass0 (pa_cons (pv 0) (pa_cons (pe_op op_mulA pe_int (pv 9)) (pa_cons pe_int pa_nil))))))
  (pss_cons (ps_set (i := 2) sc_law.nd rfl (.inl rfl) (pe_callTy cr_lstOf (by rfl) T.n_list (by decide +kernel) (pa_cons (pv 1) pa_nil)))
  (pss_cons (ps_for PassesOwn.never rfl (pi_any (pv 1)) (pg_name (i := 3) sc_law.nd rfl (.inl rfl)) (pss_cons (ps_if (pt_cmpR (op_neD hr.units) (pe_callS (E := fun _ _ _ _ => False) (ok_value_text T) (hr.mono (by decide)) (by rfl) T.g_value_text T.F_value_text.kp T.b_value_text (fun σ => passNo σ) (pa_cons (pv 3) pa_nil)) (pe_call (ok__law_plain T 5) (hr.mono (by omega)) (by rfl) T.g__law_plain T.F__law_plain.kp T.b__law_plain .nil pass0 (pa_cons (pv 3) pa_nil)) (nomark _)) (pss_one (ps_ret pe_bl)) pss_nil)
  (pss_one (ps_if (pt_not (pt_tr (pe_call (ok__law_alike T 5) (hr.mono (by omega)) (by rfl) T.g__law_alike T.F__law_alike.kp T.b__law_alike .nil pass0 (pa_cons (pe_callS (E := fun _ _ _ _ => False) (ok_read_value T) (hr.mono (by decide)) (by rfl) T.g_read_value T.F_read_value.kp T.b_read_value (fun σ => passNo σ) (pa_cons (pe_call (ok__law_plain T 5) (hr.mono (by omega)) (by rfl) T.g__law_plain T.F__law_plain.kp T.b__law_plain .nil pass0 (pa_cons (pv 3) pa_nil)) pa_nil)) (pa_cons (pv 3) pa_nil))) (fun _ => rfl))) (pss_one (ps_ret pe_bl)) pss_nil))))
  (pss_cons (ps_set (i := 4) sc_law.nd rfl (.inl rfl) (pe_bm PySem.F.plainAttrs_str PySem.F.slot_str_join PySem.F.type_str_join mt_join pe_str (pa_cons (pe_lc (own := [("_law_value_here", 3)]) (g := gName 3) (tt := tYes) rfl sc_law.nd (pi_any (pv 1)) (blkOk_by (N := N_law) (sc := defScope s_law) (by decide +kernel)) (fun _ _ _ _ _ => (pg_name (i := 3) sc_law.nd rfl (.inl rfl))) (fun _ _ _ _ _ => pts_nil) (fun _ _ _ _ _ => (pe_op op_addA (pe_call (ok__law_plain T 5) (hr.mono (by omega)) (by rfl) T.g__law_plain T.F__law_plain.kp T.b__law_plain .nil pass0 (pa_cons (pv 3) pa_nil)) pe_str))) pa_nil)))
  (pss_cons (ps_if (pt_cmpR (op_neD hr.units) (pe_callS (E := fun _ _ _ _ => False) (ok_events_text T) (hr.mono (by decide)) (by rfl) T.g_events_text T.F_events_text.kp T.b_events_text (fun σ => passNo σ) (pa_cons (pv 1) pa_nil)) (pv 4) (nomark _)) (pss_one (ps_ret pe_bl)) pss_nil)
  (pss_cons (ps_if (PW.pt (pw_or (pt_not (pt_tr (pe_call (ok__law_alike T 5) (hr.mono (by omega)) (by rfl) T.g__law_alike T.F__law_alike.kp T.b__law_alike .nil pass0 (pa_cons (pe_callTy cr_tupOf (by rfl) T.n_tuple (by decide +kernel) (pa_cons (pe_callS (E := fun _ _ _ _ => False) (ok_read_events T) (hr.mono (by decide)) (by rfl) T.g_read_events T.F_read_events.kp T.b_read_events (fun σ => passNo σ) (pa_cons (pv 4) pa_nil)) pa_nil)) (pa_cons (pe_callTy cr_tupOf (by rfl) T.n_tuple (by decide +kernel) (pa_cons (pv 1) pa_nil)) pa_nil))) (fun _ => rfl))) (pw_or1 (pt_cmpR (op_neD hr.units) (pv 1) (pv 2) (nomark _))))) (pss_one (ps_ret pe_bl)) pss_nil)
  (pss_cons (ps_set (i := 5) sc_law.nd rfl (.inl rfl) (pe_lst (pa_cons (pe_lst (pa_cons pe_int pa_nil)) (pa_cons pe_str (pa_cons (pe_tup (pa_cons pe_int (pa_cons (pe_lst (pa_cons pe_int pa_nil)) pa_nil))) (pa_cons (pe_tup (pa_cons pe_str pa_nil)) (pa_cons (pe_tup (pa_cons pe_non (pa_cons (pe_tup (pa_cons pe_str pa_nil)) pa_nil))) (pa_cons (pe_callTy cr_intA (by rfl) T.n_int (by decide +kernel) (pa_cons (pe_op op_addA pe_str (pe_op op_mulS pe_str pe_int)) pa_nil)) pa_nil))))))))
  (pss_cons (ps_if (pt_cmpR (op_neD hr.units) (pe_lc (own := [("_law_thing", 10)]) (g := gName 10) (tt := _) rfl sc_law.nd (pi_any (pv 5)) (blkOk_by (N := N_law) (sc := defScope s_law) (by decide +kernel)) (fun _ _ _ _ _ => (pg_name (i := 10) sc_law.nd rfl (.inl rfl))) (fun _ _ _ _ _ => pts_one (pt_cmpR (op_neD hr.units) (pe_call (ok__law_no T) (hr.mono (by decide)) (by rfl) T.g__law_no T.F__law_no.kp T.b__law_no .nil pass0 (pa_cons pe_int (pa_cons (pv 10) pa_nil))) (pe_lst (pa_cons pe_bl (pa_cons pe_bl pa_nil))) (nomark _))) (fun _ _ _ _ _ => (pv 10))) (pe_lst pa_nil) (nomark _)) (pss_one (ps_ret pe_bl)) pss_nil)
  (pss_cons (ps_if (pt_cmpR (op_neD hr.units) (pe_lc (own := [("_law_thing", 10)]) (g := gName 10) (tt := _) rfl sc_law.nd (pi_any (pe_tup (pa_cons pe_non (pa_cons (pe_tup pa_nil) (pa_cons (pe_tup (pa_cons (pe_lst (pa_cons pe_int pa_nil)) pa_nil)) (pa_cons (pe_lst (pa_cons (pe_lst (pa_cons pe_int pa_nil)) pa_nil)) (pa_cons (pe_lst (pa_cons pe_str pa_nil)) (pa_cons pe_int (pa_cons pe_str pa_nil))))))))) (blkOk_by (N := N_law) (sc := defScope s_law) (by decide +kernel)) (fun _ _ _ _ _ => (pg_name (i := 10) sc_law.nd rfl (.inl rfl))) (fun _ _ _ _ _ => pts_one (pt_cmpR (op_neD hr.units) (pe_call (ok__law_no T) (hr.mono (by decide)) (by rfl) T.g__law_no T.F__law_no.kp T.b__law_no .nil pass0 (pa_cons pe_int (pa_cons (pv 10) pa_nil))) (pe_lst (pa_cons pe_bl (pa_cons pe_bl pa_nil))) (nomark _))) (fun _ _ _ _ _ => (pv 10))) (pe_lst pa_nil) (nomark _)) (pss_one (ps_ret pe_bl)) pss_nil)
  (pss_cons (ps_set (i := 6) sc_law.nd rfl (.inl rfl) (pe_lst (pa_cons pe_non (pa_cons pe_int (pa_cons pe_str (pa_cons pe_str (pa_cons pe_str (pa_cons pe_str (pa_cons pe_str (pa_cons pe_str (pa_cons pe_str (pa_cons pe_str (pa_cons pe_str (pa_cons pe_str (pa_cons pe_str pa_nil)))))))))))))))
  (pss_cons (ps_set (i := 6) sc_law.nd rfl (.inl rfl) (pe_op op_catX (pv 6) (pe_lst (pa_cons pe_str (pa_cons pe_str (pa_cons pe_str (pa_cons pe_str (pa_cons pe_str (pa_cons pe_str (pa_cons pe_str (pa_cons pe_str (pa_cons pe_str (pa_cons (pe_tup (pa_cons pe_str pa_nil)) pa_nil)))))))))))))
  (pss_cons (ps_set (i := 7) sc_law.nd rfl (.inl rfl) (pe_lst (pa_cons (pe_op op_addA (pe_op op_addA pe_str (pe_op op_mulS pe_str pe_int)) pe_str) (pa_cons (pe_op op_addA (pe_op op_addA pe_str (pe_op op_mulS pe_str pe_int)) pe_str) (pa_cons (pe_op op_addA (pe_op op_addA pe_str (pe_op op_mulS pe_str pe_int)) pe_str) (pa_cons (pe_op op_mulS pe_str pe_int) pa_nil))))))
  (pss_cons (ps_set (i := 6) sc_law.nd rfl (.inl rfl) (pe_op op_catX (pv 6) (pe_lst (pa_cons (pe_op op_addA pe_str (pe_op op_mulS pe_str pe_int)) (pa_cons (pe_op op_addA (pe_op op_mulS pe_str pe_int) (pe_op op_mulS pe_str pe_int)) (pa_cons (pe_ix ix_seq (pv 7) (pe_call (ok__law_drawn T) (hr.mono (by decide)) (by rfl) T.g__law_drawn T.F__law_drawn.kp T.b__law_drawn .nil pass0 (pa_cons (pv 0) (pa_cons pe_int (pa_cons pe_int pa_nil)))) (fun _ _ => rfl)) pa_nil))))))
  (pss_cons (ps_if (pt_cmpR (op_neD hr.units) (pe_lc (own := [("_law_thing", 10)]) (g := gName 10) (tt := _) rfl sc_law.nd (pi_any (pv 6)) (blkOk_by (N := N_law) (sc := defScope s_law) (by decide +kernel)) (fun _ _ _ _ _ => (pg_name (i := 10) sc_law.nd rfl (.inl rfl))) (fun _ _ _ _ _ => pts_one (pt_cmpR (op_neD hr.units) (pe_call (ok__law_no T) (hr.mono (by decide)) (by rfl) T.g__law_no T.F__law_no.kp T.b__law_no .nil pass0 (pa_cons pe_int (pa_cons (pv 10) pa_nil))) (pe_lst (pa_cons pe_bl (pa_cons pe_bl pa_nil))) (nomark _))) (fun _ _ _ _ _ => (pv 10))) (pe_lst pa_nil) (nomark _)) (pss_one (ps_ret pe_bl)) pss_nil)
  (pss_cons (ps_set (i := 8) sc_law.nd rfl (.inl rfl) (pe_lst (pa_cons pe_non (pa_cons pe_int (pa_cons pe_str (pa_cons pe_str (pa_cons pe_str (pa_cons pe_str (pa_cons pe_str (pa_cons pe_str (pa_cons (pe_lst (pa_cons pe_str pa_nil)) pa_nil)))))))))))
  (pss_cons (ps_if (pt_not (pt_cmpR (op_eqD hr.units) (pe_lc (own := [("_law_thing", 10)]) (g := gName 10) (tt := _) rfl sc_law.nd (pi_any (pv 8)) (blkOk_by (N := N_law) (sc := defScope s_law) (by decide +kernel)) (fun _ _ _ _ _ => (pg_name (i := 10) sc_law.nd rfl (.inl rfl))) (fun _ _ _ _ _ => pts_one (pt_cmpR (op_neD hr.units) (pe_call (ok__law_no T) (hr.mono (by decide)) (by rfl) T.g__law_no T.F__law_no.kp T.b__law_no .nil pass0 (pa_cons pe_int (pa_cons (pv 10) pa_nil))) (pe_lst (pa_cons pe_bl (pa_cons pe_bl pa_nil))) (nomark _))) (fun _ _ _ _ _ => (pv 10))) (pe_lst pa_nil) (nomark _))) (pss_one (ps_ret pe_bl)) pss_nil)
  (pss_cons (ps_if (pt_cmpR (op_neD hr.units) (pe_callS (E := fun _ _ _ _ => False) (ok_read_value T) (hr.mono (by decide)) (by rfl) T.g_read_value T.F_read_value.kp T.b_read_value (fun σ => passNo σ) (pa_cons (pe_op op_addA pe_str (pe_op op_mulS pe_str pe_int)) pa_nil)) (pe_op op_sub pe_int (pe_op op_mulA pe_int (pe_callTy cr_intA (by rfl) T.n_int (by decide +kernel) (pa_cons (pe_op op_addA pe_str (pe_op op_mulS pe_str pe_int)) pa_nil)))) (nomark _)) (pss_one (ps_ret pe_bl)) pss_nil)
  (pss_cons (ps_if (pt_cmpR (op_neD hr.units) (pe_callS (E := fun _ _ _ _ => False) (ok_value_text T) (hr.mono (by decide)) (by rfl) T.g_value_text T.F_value_text.kp T.b_value_text (fun σ => passNo σ) (pa_cons (pe_callS (E := fun _ _ _ _ => False) (ok_read_value T) (hr.mono (by decide)) (by rfl) T.g_read_value T.F_read_value.kp T.b_read_value (fun σ => passNo σ) (pa_cons (pe_op op_addA (pe_op op_mulS pe_str pe_int) (pe_op op_mulS pe_str pe_int)) pa_nil)) pa_nil)) (pe_op op_addA (pe_op op_mulS pe_str pe_int) (pe_op op_mulS pe_str pe_int)) (nomark _)) (pss_one (ps_ret pe_bl)) pss_nil)
  (pss_one (ps_ret (pe_and (pe_cmpR (op_eqD hr.units) (pe_callS (E := fun _ _ _ _ => False) (ok_read_events T) (hr.mono (by decide)) (by rfl) T.g_read_events T.F_read_events.kp T.b_read_events (fun σ => passNo σ) (pa_cons pe_str pa_nil)) (pe_lst pa_nil) (nomark _)) (pe_one (pe_cmpR (op_eqD hr.units) (pe_callS (E := fun _ _ _ _ => False) (ok_read_value T) (hr.mono (by decide)) (by rfl) T.g_read_value T.F_read_value.kp T.b_read_value (fun σ => passNo σ) (pa_cons pe_str pa_nil)) (pe_tup pa_nil) (nomark _)))))))))))))))))))))))),
  ((st_seq (st_set 1 (ev_list (fl_lc (vs := [9]) (it_range1' (ea_cons (ev_call' (ea_cons (ev_var 0) (ea_cons ev_int (ea_cons ev_int ea_nil)))) ea_nil)) (tg_name 9 (by decide)) et_yes (ev_call' (ea_cons (ev_var 0) (ea_cons (ev_op rd_mul ev_int (ev_var 9)) (ea_cons ev_int ea_nil)))))))
  (st_seq (st_set 2 (ev_list (fl_cb cl_lstOf (ea_cons (ev_var 1) ea_nil))))
  (st_seq (st_for (vs := [3]) (it_any (ev_var 1)) (tg_name 3 (by decide))
  (st_seq (st_if (et_test (ev_op rd_ne (ev_callX (ea_cons (ev_var 3) ea_nil)) (ev_call' (ea_cons (ev_var 3) ea_nil))))
  (st_ret ev_bl)
  st_next)
  (st_if (et_not (et_tru (ev_call' (ea_cons (ev_callX (ea_cons (ev_call' (ea_cons (ev_var 3) ea_nil)) ea_nil)) (ea_cons (ev_var 3) ea_nil)))))
  (st_ret ev_bl)
  st_next)))
  (st_seq (st_set 4 (ev_join ev_str (ev_list (fl_lc (vs := [3]) (it_any (ev_var 1)) (tg_name 3 (by decide)) et_yes (ev_op rd_add (ev_call' (ea_cons (ev_var 3) ea_nil)) ev_str)))))
  (st_seq (st_if (et_test (ev_op rd_ne (ev_callX (ea_cons (ev_var 1) ea_nil)) (ev_var 4)))
  (st_ret ev_bl)
  st_next)
  (st_seq (st_if (et_or (et_not (et_tru (ev_call' (ea_cons (ev_cb cd_tupOf (ea_cons (ev_callX (ea_cons (ev_var 4) ea_nil)) ea_nil)) (ea_cons (ev_cb cd_tupOf (ea_cons (ev_var 1) ea_nil)) ea_nil))))) (et_test (ev_op rd_ne (ev_var 1) (ev_var 2))))
  (st_ret ev_bl)
  st_next)
  (st_seq (st_set 5 (ev_list (fl_lst (ea_cons (ev_list (fl_lst (ea_cons ev_int ea_nil))) (ea_cons ev_str (ea_cons (ev_tup (ea_cons ev_int (ea_cons (ev_list (fl_lst (ea_cons ev_int ea_nil))) ea_nil))) (ea_cons (ev_tup (ea_cons ev_str ea_nil)) (ea_cons (ev_tup (ea_cons ev_non (ea_cons (ev_tup (ea_cons ev_str ea_nil)) ea_nil))) (ea_cons (ev_cb cd_intA (ea_cons (ev_op rd_add ev_str (ev_op rd_mulS ev_str ev_int)) ea_nil)) ea_nil)))))))))
  (st_seq (st_if (et_test (ev_op rd_ne (ev_list (fl_lc (vs := [10]) (it_any (ev_var 5)) (tg_name 10 (by decide)) (et_test (ev_op rd_ne (ev_call' (ea_cons ev_int (ea_cons (ev_var 10) ea_nil))) (ev_list (fl_lst (ea_cons ev_bl (ea_cons ev_bl ea_nil)))))) (ev_var 10))) (ev_list (fl_lst ea_nil))))
  (st_ret ev_bl)
  st_next)
  (st_seq (st_if (et_test (ev_op rd_ne (ev_list (fl_lc (vs := [10]) (it_any (ev_tup (ea_cons ev_non (ea_cons (ev_tup ea_nil) (ea_cons (ev_tup (ea_cons (ev_list (fl_lst (ea_cons ev_int ea_nil))) ea_nil)) (ea_cons (ev_list (fl_lst (ea_cons (ev_list (fl_lst (ea_cons ev_int ea_nil))) ea_nil))) (ea_cons (ev_list (fl_lst (ea_cons ev_str ea_nil))) (ea_cons ev_int (ea_cons ev_str ea_nil))))))))) (tg_name 10 (by decide)) (et_test (ev_op rd_ne (ev_call' (ea_cons ev_int (ea_cons (ev_var 10) ea_nil))) (ev_list (fl_lst (ea_cons ev_bl (ea_cons ev_bl ea_nil)))))) (ev_var 10))) (ev_list (fl_lst ea_nil))))
  (st_ret ev_bl)
  st_next)
  (st_seq (st_set 6 (ev_list (fl_lst (ea_cons ev_non (ea_cons ev_int (ea_cons ev_str (ea_cons ev_str (ea_cons ev_str (ea_cons ev_str (ea_cons ev_str (ea_cons ev_str (ea_cons ev_str (ea_cons ev_str (ea_cons ev_str (ea_cons ev_str (ea_cons ev_str ea_nil))))))))))))))))
  (st_seq (st_set 6 (ev_list (fl_catV (ev_var 6) (fl_lst (ea_cons ev_str (ea_cons ev_str (ea_cons ev_str (ea_cons ev_str (ea_cons ev_str (ea_cons ev_str (ea_cons ev_str (ea_cons ev_str (ea_cons ev_str (ea_cons (ev_tup (ea_cons ev_str ea_nil)) ea_nil))))))))))))))
  (st_seq (st_set 7 (ev_list (fl_lst (ea_cons (ev_op rd_add (ev_op rd_add ev_str (ev_op rd_mulS ev_str ev_int)) ev_str) (ea_cons (ev_op rd_add (ev_op rd_add ev_str (ev_op rd_mulS ev_str ev_int)) ev_str) (ea_cons (ev_op rd_add (ev_op rd_add ev_str (ev_op rd_mulS ev_str ev_int)) ev_str) (ea_cons (ev_op rd_mulS ev_str ev_int) ea_nil)))))))
  (st_seq (st_set 6 (ev_list (fl_catV (ev_var 6) (fl_lst (ea_cons (ev_op rd_add ev_str (ev_op rd_mulS ev_str ev_int)) (ea_cons (ev_op rd_add (ev_op rd_mulS ev_str ev_int) (ev_op rd_mulS ev_str ev_int)) (ea_cons (ev_op rd_ix (ev_var 7) (ev_call' (ea_cons (ev_var 0) (ea_cons ev_int (ea_cons ev_int ea_nil))))) ea_nil)))))))
  (st_seq (st_if (et_test (ev_op rd_ne (ev_list (fl_lc (vs := [10]) (it_any (ev_var 6)) (tg_name 10 (by decide)) (et_test (ev_op rd_ne (ev_call' (ea_cons ev_int (ea_cons (ev_var 10) ea_nil))) (ev_list (fl_lst (ea_cons ev_bl (ea_cons ev_bl ea_nil)))))) (ev_var 10))) (ev_list (fl_lst ea_nil))))
  (st_ret ev_bl)
  st_next)
  (st_seq (st_set 8 (ev_list (fl_lst (ea_cons ev_non (ea_cons ev_int (ea_cons ev_str (ea_cons ev_str (ea_cons ev_str (ea_cons ev_str (ea_cons ev_str (ea_cons ev_str (ea_cons (ev_list (fl_lst (ea_cons ev_str ea_nil))) ea_nil))))))))))))
  (st_seq (st_if (et_not (et_test (ev_op rd_eq (ev_list (fl_lc (vs := [10]) (it_any (ev_var 8)) (tg_name 10 (by decide)) (et_test (ev_op rd_ne (ev_call' (ea_cons ev_int (ea_cons (ev_var 10) ea_nil))) (ev_list (fl_lst (ea_cons ev_bl (ea_cons ev_bl ea_nil)))))) (ev_var 10))) (ev_list (fl_lst ea_nil)))))
  (st_ret ev_bl)
  st_next)
  (st_seq (st_if (et_test (ev_op rd_ne (ev_callX (ea_cons (ev_op rd_add ev_str (ev_op rd_mulS ev_str ev_int)) ea_nil)) (ev_op rd_sub ev_int (ev_op rd_mul ev_int (ev_cb cd_intA (ea_cons (ev_op rd_add ev_str (ev_op rd_mulS ev_str ev_int)) ea_nil))))))
  (st_ret ev_bl)
  st_next)
  (st_seq (st_if (et_test (ev_op rd_ne (ev_callX (ea_cons (ev_callX (ea_cons (ev_op rd_add (ev_op rd_mulS ev_str ev_int) (ev_op rd_mulS ev_str ev_int)) ea_nil)) ea_nil)) (ev_op rd_add (ev_op rd_mulS ev_str ev_int) (ev_op rd_mulS ev_str ev_int))))
  (st_ret ev_bl)
  st_next)
  (st_ret (ev_andV (ev_op rd_eq (ev_callX (ea_cons ev_str ea_nil)) (ev_list (fl_lst ea_nil))) (ev_op rd_eq (ev_callX (ea_cons ev_str ea_nil)) (ev_tup ea_nil)))))))))))))))))))))) : TSm K _ b_law)⟩
end
end DD

set_option Elab.async false
set_option linter.all false
set_option maxRecDepth 100000
set_option maxHeartbeats 4000000
namespace DD
local instance : TabQ := ⟨[]⟩
local instance : ExQ := ⟨0, 0⟩
open PySem PySem.Spec PyProof.Rows L2
/-! a drawn number -/
def tl_drawn : En → Option Fl :=
  (sSeq (sAsg (mOp dMod (mOp dAdd (mOp dMul (mOp dMod (mVar 3) (mC (.int 2147483563))) (mC (.int 69069))) (mOp dMul (mC (.int 104723)) (mOp dAdd (mVar 1) (mC (.int 1))))) (mC (.int 2147483563))) (gSet 3))
  (sSeq (sAsg (mOp dMod (mOp dAdd (mOp dMul (mVar 3) (mVar 3)) (mOp dFdiv (mVar 3) (mC (.int 3)))) (mC (.int 2147483399))) (gSet 3))
  (sRet (mOp dMod (mOp dFdiv (mOp dMod (mOp dAdd (mOp dMul (mVar 3) (mVar 3)) (mOp dFdiv (mVar 3) (mC (.int 7)))) (mC (.int 2147483647))) (mC (.int 11))) (mVar 2)))))
theorem dAdd_of (i j : Int) : dAdd (.int i) (.int j) = some (.int (i + j)) := rfl
theorem dSub_of (i j : Int) : dSub (.int i) (.int j) = some (.int (i - j)) := rfl
theorem drawn_tail (L : D) (k many z : Int) (g1 g2 : Option Sl) (hk : 0 ≤ k) (hk2 : k ≤ 100000) (hm : 1 ≤ many) :
    ∃ r : Int, tl_drawn [some (.val L), some (.val (.int k)), some (.val (.int many)), some (.val (.int z)), g1, g2] = some (.rt (.int r)) ∧ 0 ≤ r ∧ r < many := by
  have a1 := dMod_of (i := z) (j := 2147483563) (by decide)
  obtain ⟨x1, e1⟩ : ∃ x1, z % 2147483563 = x1 := ⟨_, rfl⟩
  have a2 := dMul_r (i := x1) (j := 69069) (by decide) (by decide)
  have a3 := dMul_r (i := 104723) (j := k + 1) (by omega) (by omega)
  have a4 := dMod_of (i := x1 * 69069 + 104723 * (k + 1)) (j := 2147483563) (by decide)
  have b0 := Int.emod_nonneg (x1 * 69069 + 104723 * (k + 1)) (show (2147483563 : Int) ≠ 0 by decide)
  have b1 := Int.emod_lt_of_pos (x1 * 69069 + 104723 * (k + 1)) (show (0 : Int) < 2147483563 by decide)
  obtain ⟨x2, e2⟩ : ∃ x2, (x1 * 69069 + 104723 * (k + 1)) % 2147483563 = x2 := ⟨_, rfl⟩
  rw [e2] at b0 b1
  have a5 := dMul_r (i := x2) (j := x2) (by omega) (by omega)
  have a6 := dFdiv_of (i := x2) (j := 3) (by decide) (by decide)
  have a7 := dMod_of (i := x2 * x2 + x2 / 3) (j := 2147483399) (by decide)
  have c0 := Int.emod_nonneg (x2 * x2 + x2 / 3) (show (2147483399 : Int) ≠ 0 by decide)
  have c1 := Int.emod_lt_of_pos (x2 * x2 + x2 / 3) (show (0 : Int) < 2147483399 by decide)
  obtain ⟨x3, e3⟩ : ∃ x3, (x2 * x2 + x2 / 3) % 2147483399 = x3 := ⟨_, rfl⟩
  rw [e3] at c0 c1
  have a8 := dMul_r (i := x3) (j := x3) (by omega) (by omega)
  have a9 := dFdiv_of (i := x3) (j := 7) (by decide) (by decide)
  have a10 := dMod_of (i := x3 * x3 + x3 / 7) (j := 2147483647) (by decide)
  have a11 := dFdiv_of (i := (x3 * x3 + x3 / 7) % 2147483647) (j := 11) (by decide) (by decide)
  have a12 := dMod_of (i := (x3 * x3 + x3 / 7) % 2147483647 / 11) (j := many) (by omega)
  refine ⟨_, ?_, Int.emod_nonneg ((x3 * x3 + x3 / 7) % 2147483647 / 11) (show many ≠ 0 by omega), Int.emod_lt_of_pos _ (show (0 : Int) < many by omega)⟩
  simp only [tl_drawn, sSeq, sAsg, sIf, sRet, sNext, sOwn, sFrz, sDrop, sPar, sPar3, sParOV, sParOO, sParOOO, sStop, mOp, mUn, mVar, mC, mTest, mTru, mIfE, mList, mLst, mStar, mCons, mNil, mTup, mCall, mCallL, mAnd, mOr, mNot, mAndV, mOrV, mNotV, mIter, mSl, mSlL, mPart, mNoPart, mIfL, mCatL, mCatV, gSet, gTupM, gConsM, gNilM, isI, frz, wipeM, lim, isB, its, List.map_cons, List.map_nil, List.length_cons, List.length_nil, List.replicate, List.replicate_zero, List.cons_append, List.nil_append, List.getElem?_cons_zero, List.getElem?_cons_succ, List.set_cons_zero, List.set_cons_succ, Option.bind_some, Option.bind_none, Option.map_some, Option.map_none, if_true, if_false, if_pos, Bool.not_true, Bool.not_false, Bool.false_eq_true, reduceCtorEq, a1, e1, a2, a3, dAdd_of, a4, e2, a5, a6, a7, e3, a8, a9, a10, a11, a12]
/-- the loop of a drawn number -/
theorem drawn_loop : ∀ (n : Nat) (L k many c : D) (r t : Int), 0 ≤ t → t.toNat + 1 = n →
    ∃ r' t' : Int, whl (mAnd (mTest (mOp dGt (mVar 5) (mC (.int 0)))) (mTest (mOp dGt (mVar 4) (mC (.int 0)))))
      (sSeq (sAsg (mOp dFdiv (mVar 5) (mC (.int 1000000))) (gSet 5)) (sAsg (mOp dSub (mVar 4) (mC (.int 1))) (gSet 4))) n
      [some (.val L), some (.val k), some (.val many), some (.val c), some (.val (.int t)), some (.val (.int r))] = some (.nx [some (.val L), some (.val k), some (.val many), some (.val c), some (.val (.int t')), some (.val (.int r'))])
  | 0, _, _, _, _, _, _, h, e => by omega
  | n + 1, L, k, many, c, r, t, h, e => by
    have hc : mAnd (mTest (mOp dGt (mVar 5) (mC (.int 0)))) (mTest (mOp dGt (mVar 4) (mC (.int 0)))) [some (.val L), some (.val k), some (.val many), some (.val c), some (.val (.int t)), some (.val (.int r))] = some (decide (0 < r) && decide (0 < t)) := by
      have g1 : dGt (.int r) (.int 0) = some (.bool (decide (0 < r))) := rfl
      have g2 : dGt (.int t) (.int 0) = some (.bool (decide (0 < t))) := rfl
      simp only [sSeq, sAsg, sIf, sRet, sNext, sOwn, sFrz, sDrop, sPar, sPar3, sParOV, sParOO, sParOOO, sStop, mOp, mUn, mVar, mC, mTest, mTru, mIfE, mList, mLst, mStar, mCons, mNil, mTup, mCall, mCallL, mAnd, mOr, mNot, mAndV, mOrV, mNotV, mIter, mSl, mSlL, mPart, mNoPart, mIfL, mCatL, mCatV, gSet, gTupM, gConsM, gNilM, isI, frz, wipeM, lim, isB, its, List.map_cons, List.map_nil, List.length_cons, List.length_nil, List.replicate, List.replicate_zero, List.cons_append, List.nil_append, List.getElem?_cons_zero, List.getElem?_cons_succ, List.set_cons_zero, List.set_cons_succ, Option.bind_some, Option.bind_none, Option.map_some, Option.map_none, if_true, if_false, if_pos, Bool.not_true, Bool.not_false, Bool.false_eq_true, reduceCtorEq, g1, g2]
      cases decide (0 < r) <;> rfl
    cases hq : (decide (0 < r) && decide (0 < t)) with
    | true =>
      rw [hq] at hc
      rw [Bool.and_eq_true] at hq
      have ht : 0 < t := of_decide_eq_true hq.2
      have a1 := dFdiv_of (i := r) (j := 1000000) (by decide) (by decide)
      have hb : (sSeq (sAsg (mOp dFdiv (mVar 5) (mC (.int 1000000))) (gSet 5)) (sAsg (mOp dSub (mVar 4) (mC (.int 1))) (gSet 4))) [some (.val L), some (.val k), some (.val many), some (.val c), some (.val (.int t)), some (.val (.int r))] =
          some (.nx [some (.val L), some (.val k), some (.val many), some (.val c), some (.val (.int (t - 1))), some (.val (.int (r / 1000000)))]) := by
        simp only [sSeq, sAsg, sIf, sRet, sNext, sOwn, sFrz, sDrop, sPar, sPar3, sParOV, sParOO, sParOOO, sStop, mOp, mUn, mVar, mC, mTest, mTru, mIfE, mList, mLst, mStar, mCons, mNil, mTup, mCall, mCallL, mAnd, mOr, mNot, mAndV, mOrV, mNotV, mIter, mSl, mSlL, mPart, mNoPart, mIfL, mCatL, mCatV, gSet, gTupM, gConsM, gNilM, isI, frz, wipeM, lim, isB, its, List.map_cons, List.map_nil, List.length_cons, List.length_nil, List.replicate, List.replicate_zero, List.cons_append, List.nil_append, List.getElem?_cons_zero, List.getElem?_cons_succ, List.set_cons_zero, List.set_cons_succ, Option.bind_some, Option.bind_none, Option.map_some, Option.map_none, if_true, if_false, if_pos, Bool.not_true, Bool.not_false, Bool.false_eq_true, reduceCtorEq, a1, dSub_of]
      rw [whl_t hc hb]
      exact drawn_loop n L k many c (r / 1000000) (t - 1) (by omega) (by omega)
    | false =>
      rw [hq] at hc
      rw [whl_f hc]
      exact ⟨r, t, rfl⟩
theorem drawn_ok (ns : List Int) (h63 : ns.length ≤ 63) (k many : Int) (hk : 0 ≤ k) (hk2 : k ≤ 100000) (hm : 1 ≤ many) (hm2 : many ≤ 30000000000) :
    ∃ r : Int, m__law_drawn [.list (ns.map .int), .int k, .int many] = some (.int r) ∧ 0 ≤ r ∧ r < many := by
  have a1 := dMul_r (i := 7) (j := k) (by omega) (by omega)
  cases ns with
  | nil =>
    obtain ⟨r, t1, t2, t3⟩ := drawn_tail (.list []) k many (7 * k) none none hk hk2 hm
    refine ⟨r, mDef_rt ?_, t2, t3⟩
    have b1 : dNe (.list []) (.list []) = some (.bool false) := dNe_self (k := 1) (lay_list fun d hd => nomatch hd) (by decide)
    have e : b__law_drawn (start0 6 [.list [], .int k, .int many]) = tl_drawn [some (.val (.list [])), some (.val (.int k)), some (.val (.int many)), some (.val (.int (7 * k))), none, none] := by
      unfold b__law_drawn
      simp only [start0, List.length_cons, List.length_nil, List.map_cons, List.map_nil]
      have z : sAsg (mOp dMul (mC (.int 7)) (mVar 1)) (gSet 3) [some (Sl.val (.list [])), some (.val (.int k)), some (.val (.int many)), none, none, none] = some (.nx [some (.val (.list [])), some (.val (.int k)), some (.val (.int many)), some (.val (.int (7 * k))), none, none]) := by
        simp only [sSeq, sAsg, sIf, sRet, sNext, sOwn, sFrz, sDrop, sPar, sPar3, sParOV, sParOO, sParOOO, sStop, mOp, mUn, mVar, mC, mTest, mTru, mIfE, mList, mLst, mStar, mCons, mNil, mTup, mCall, mCallL, mAnd, mOr, mNot, mAndV, mOrV, mNotV, mIter, mSl, mSlL, mPart, mNoPart, mIfL, mCatL, mCatV, gSet, gTupM, gConsM, gNilM, isI, frz, wipeM, lim, isB, its, List.map_cons, List.map_nil, List.length_cons, List.length_nil, List.replicate, List.replicate_zero, List.cons_append, List.nil_append, List.getElem?_cons_zero, List.getElem?_cons_succ, List.set_cons_zero, List.set_cons_succ, Option.bind_some, Option.bind_none, Option.map_some, Option.map_none, if_true, if_false, if_pos, Bool.not_true, Bool.not_false, Bool.false_eq_true, reduceCtorEq, a1]
      refine (seq_nx z).trans ?_
      refine (seq_nx (ρ' := [some (.val (.list [])), some (.val (.int k)), some (.val (.int many)), some (.val (.int (7 * k))), none, none]) ?_).trans rfl
      refine (if_f ?_).trans rfl
      simp only [sSeq, sAsg, sIf, sRet, sNext, sOwn, sFrz, sDrop, sPar, sPar3, sParOV, sParOO, sParOOO, sStop, mOp, mUn, mVar, mC, mTest, mTru, mIfE, mList, mLst, mStar, mCons, mNil, mTup, mCall, mCallL, mAnd, mOr, mNot, mAndV, mOrV, mNotV, mIter, mSl, mSlL, mPart, mNoPart, mIfL, mCatL, mCatV, gSet, gTupM, gConsM, gNilM, isI, frz, wipeM, lim, isB, its, List.map_cons, List.map_nil, List.length_cons, List.length_nil, List.replicate, List.replicate_zero, List.cons_append, List.nil_append, List.getElem?_cons_zero, List.getElem?_cons_succ, List.set_cons_zero, List.set_cons_succ, Option.bind_some, Option.bind_none, Option.map_some, Option.map_none, if_true, if_false, if_pos, Bool.not_true, Bool.not_false, Bool.false_eq_true, reduceCtorEq, b1, sized]
      rfl
    exact e.trans t1
  | cons n0 nr =>
    generalize hn : n0 :: nr = ns at h63 ⊢
    have ne : 0 < ns.length := by rw [← hn]; exact Nat.succ_pos _
    have hlen : ((ns.map PyData.int).length : Nat) ≤ cap := by rw [List.length_map]; exact Nat.le_trans h63 (by decide)
    have b1 : dNe (.list (ns.map .int)) (.list []) = some (.bool true) := by
      rw [dNe_of (shaped_ints ns) shaped_nil, eqv_nil, ← hn]
      rfl
    have b2 : dLen [.list (ns.map PyData.int)] = some (.int ns.length) := by rw [dLen_list hlen, List.length_map]
    have b3 := dMod_of (i := k) (j := ns.length) (by omega)
    have b4 := dFdiv_of (i := k) (j := ns.length) (by omega) (by omega)
    have q1 : 0 ≤ k % (ns.length : Int) := Int.emod_nonneg _ (by omega)
    have q2 : k % (ns.length : Int) < ns.length := Int.emod_lt_of_pos _ (by omega)
    obtain ⟨j, hj⟩ : ∃ j : Nat, k % (ns.length : Int) = (j : Int) := ⟨(k % (ns.length : Int)).toNat, by omega⟩
    have hjl : j < ns.length := by omega
    have b5 : dIx (.list (ns.map .int)) (.int (k % ns.length)) = some (.int ns[j]) := by
      rw [hj]
      exact atI_nat (by rw [List.getElem?_map, List.getElem?_eq_getElem hjl]; rfl)
    generalize ns[j] = c at b5
    have u0 : 0 ≤ k / (ns.length : Int) := Int.ediv_nonneg hk (by omega)
    have u1 : k / (ns.length : Int) ≤ k := Int.ediv_le_self _ hk
    obtain ⟨u, hu⟩ : ∃ u, k / (ns.length : Int) = u := ⟨_, rfl⟩
    rw [hu] at u0 u1 b4
    have b6 := dMul_r (i := 6553) (j := u) (by omega) (by omega)
    generalize PyData.list (ns.map .int) = L at *
    obtain ⟨p, c18, b7, b10⟩ : ∃ p c18 : Int, dPow (.int 10) (.int 18) = some (.int p) ∧ dFdiv (.int c) (.int p) = some (.int c18) := ⟨10 ^ 18, _, rfl, dFdiv_of (i := c) (j := 10 ^ 18) (by decide +kernel) (by decide +kernel)⟩
    have b8 : dGe (.int c) (.int p) = some (.bool (decide (p ≤ c))) := rfl
    have b9 : dLt (.int u) (.int 60) = some (.bool (decide (u < 60))) := rfl
    have start : b__law_drawn (start0 6 [L, .int k, .int many]) = b__law_drawn [some (.val L), some (.val (.int k)), some (.val (.int many)), none, none, none] := rfl
    -- where the cell is not large, or nothing is left of it
    have hend : ∀ g : Option Sl, sAsg (mOp dAdd (mVar 3) (mOp dMul (mC (.int 6553)) (mOp dFdiv (mVar 1) (mCall dLen (mCons (mVar 0) mNil))))) (gSet 3) [some (.val L), some (.val (.int k)), some (.val (.int many)), some (.val (.int c)), some (.val (.int u)), g] =
        some (.nx [some (.val L), some (.val (.int k)), some (.val (.int many)), some (.val (.int (c + 6553 * u))), some (.val (.int u)), g]) := fun g => by
      simp only [sSeq, sAsg, sIf, sRet, sNext, sOwn, sFrz, sDrop, sPar, sPar3, sParOV, sParOO, sParOOO, sStop, mOp, mUn, mVar, mC, mTest, mTru, mIfE, mList, mLst, mStar, mCons, mNil, mTup, mCall, mCallL, mAnd, mOr, mNot, mAndV, mOrV, mNotV, mIter, mSl, mSlL, mPart, mNoPart, mIfL, mCatL, mCatV, gSet, gTupM, gConsM, gNilM, isI, frz, wipeM, lim, isB, its, List.map_cons, List.map_nil, List.length_cons, List.length_nil, List.replicate, List.replicate_zero, List.cons_append, List.nil_append, List.getElem?_cons_zero, List.getElem?_cons_succ, List.set_cons_zero, List.set_cons_succ, Option.bind_some, Option.bind_none, Option.map_some, Option.map_none, if_true, if_false, if_pos, Bool.not_true, Bool.not_false, Bool.false_eq_true, reduceCtorEq, b2, b4, b6, dAdd_of]
    have hend2 : ∀ (t : Int) (g : Option Sl), sAsg (mOp dAdd (mVar 3) (mOp dMul (mC (.int 6553)) (mOp dFdiv (mVar 1) (mCall dLen (mCons (mVar 0) mNil))))) (gSet 3) [some (.val L), some (.val (.int k)), some (.val (.int many)), some (.val (.int c)), some (.val (.int t)), g] =
        some (.nx [some (.val L), some (.val (.int k)), some (.val (.int many)), some (.val (.int (c + 6553 * u))), some (.val (.int t)), g]) := fun t g => by
      simp only [sSeq, sAsg, sIf, sRet, sNext, sOwn, sFrz, sDrop, sPar, sPar3, sParOV, sParOO, sParOOO, sStop, mOp, mUn, mVar, mC, mTest, mTru, mIfE, mList, mLst, mStar, mCons, mNil, mTup, mCall, mCallL, mAnd, mOr, mNot, mAndV, mOrV, mNotV, mIter, mSl, mSlL, mPart, mNoPart, mIfL, mCatL, mCatV, gSet, gTupM, gConsM, gNilM, isI, frz, wipeM, lim, isB, its, List.map_cons, List.map_nil, List.length_cons, List.length_nil, List.replicate, List.replicate_zero, List.cons_append, List.nil_append, List.getElem?_cons_zero, List.getElem?_cons_succ, List.set_cons_zero, List.set_cons_succ, Option.bind_some, Option.bind_none, Option.map_some, Option.map_none, if_true, if_false, if_pos, Bool.not_true, Bool.not_false, Bool.false_eq_true, reduceCtorEq, b2, b4, b6, dAdd_of]
    have s1 : sAsg (mOp dMul (mC (.int 7)) (mVar 1)) (gSet 3) [some (.val L), some (.val (.int k)), some (.val (.int many)), none, none, none] = some (.nx [some (.val L), some (.val (.int k)), some (.val (.int many)), some (.val (.int (7 * k))), none, none]) := by
      simp only [sSeq, sAsg, sIf, sRet, sNext, sOwn, sFrz, sDrop, sPar, sPar3, sParOV, sParOO, sParOOO, sStop, mOp, mUn, mVar, mC, mTest, mTru, mIfE, mList, mLst, mStar, mCons, mNil, mTup, mCall, mCallL, mAnd, mOr, mNot, mAndV, mOrV, mNotV, mIter, mSl, mSlL, mPart, mNoPart, mIfL, mCatL, mCatV, gSet, gTupM, gConsM, gNilM, isI, frz, wipeM, lim, isB, its, List.map_cons, List.map_nil, List.length_cons, List.length_nil, List.replicate, List.replicate_zero, List.cons_append, List.nil_append, List.getElem?_cons_zero, List.getElem?_cons_succ, List.set_cons_zero, List.set_cons_succ, Option.bind_some, Option.bind_none, Option.map_some, Option.map_none, if_true, if_false, if_pos, Bool.not_true, Bool.not_false, Bool.false_eq_true, reduceCtorEq, a1]
    have s2 : mTest (mOp dNe (mVar 0) (mList (mLst mNil))) [some (.val L), some (.val (.int k)), some (.val (.int many)), some (.val (.int (7 * k))), none, none] = some true := by
      have z : sized ([] : List D) = some [] := rfl
      simp only [sSeq, sAsg, sIf, sRet, sNext, sOwn, sFrz, sDrop, sPar, sPar3, sParOV, sParOO, sParOOO, sStop, mOp, mUn, mVar, mC, mTest, mTru, mIfE, mList, mLst, mStar, mCons, mNil, mTup, mCall, mCallL, mAnd, mOr, mNot, mAndV, mOrV, mNotV, mIter, mSl, mSlL, mPart, mNoPart, mIfL, mCatL, mCatV, gSet, gTupM, gConsM, gNilM, isI, frz, wipeM, lim, isB, its, List.map_cons, List.map_nil, List.length_cons, List.length_nil, List.replicate, List.replicate_zero, List.cons_append, List.nil_append, List.getElem?_cons_zero, List.getElem?_cons_succ, List.set_cons_zero, List.set_cons_succ, Option.bind_some, Option.bind_none, Option.map_some, Option.map_none, if_true, if_false, if_pos, Bool.not_true, Bool.not_false, Bool.false_eq_true, reduceCtorEq, z, b1]
    have s3 : sAsg (mOp dIx (mVar 0) (mOp dMod (mVar 1) (mCall dLen (mCons (mVar 0) mNil)))) (gSet 3) [some (.val L), some (.val (.int k)), some (.val (.int many)), some (.val (.int (7 * k))), none, none] = some (.nx [some (.val L), some (.val (.int k)), some (.val (.int many)), some (.val (.int c)), none, none]) := by
      simp only [sSeq, sAsg, sIf, sRet, sNext, sOwn, sFrz, sDrop, sPar, sPar3, sParOV, sParOO, sParOOO, sStop, mOp, mUn, mVar, mC, mTest, mTru, mIfE, mList, mLst, mStar, mCons, mNil, mTup, mCall, mCallL, mAnd, mOr, mNot, mAndV, mOrV, mNotV, mIter, mSl, mSlL, mPart, mNoPart, mIfL, mCatL, mCatV, gSet, gTupM, gConsM, gNilM, isI, frz, wipeM, lim, isB, its, List.map_cons, List.map_nil, List.length_cons, List.length_nil, List.replicate, List.replicate_zero, List.cons_append, List.nil_append, List.getElem?_cons_zero, List.getElem?_cons_succ, List.set_cons_zero, List.set_cons_succ, Option.bind_some, Option.bind_none, Option.map_some, Option.map_none, if_true, if_false, if_pos, Bool.not_true, Bool.not_false, Bool.false_eq_true, reduceCtorEq, b2, b3, b5]
    have s4 : sAsg (mOp dFdiv (mVar 1) (mCall dLen (mCons (mVar 0) mNil))) (gSet 4) [some (.val L), some (.val (.int k)), some (.val (.int many)), some (.val (.int c)), none, none] = some (.nx [some (.val L), some (.val (.int k)), some (.val (.int many)), some (.val (.int c)), some (.val (.int u)), none]) := by
      simp only [sSeq, sAsg, sIf, sRet, sNext, sOwn, sFrz, sDrop, sPar, sPar3, sParOV, sParOO, sParOOO, sStop, mOp, mUn, mVar, mC, mTest, mTru, mIfE, mList, mLst, mStar, mCons, mNil, mTup, mCall, mCallL, mAnd, mOr, mNot, mAndV, mOrV, mNotV, mIter, mSl, mSlL, mPart, mNoPart, mIfL, mCatL, mCatV, gSet, gTupM, gConsM, gNilM, isI, frz, wipeM, lim, isB, its, List.map_cons, List.map_nil, List.length_cons, List.length_nil, List.replicate, List.replicate_zero, List.cons_append, List.nil_append, List.getElem?_cons_zero, List.getElem?_cons_succ, List.set_cons_zero, List.set_cons_succ, Option.bind_some, Option.bind_none, Option.map_some, Option.map_none, if_true, if_false, if_pos, Bool.not_true, Bool.not_false, Bool.false_eq_true, reduceCtorEq, b2, b4]
    have s5 : mAnd (mTest (mOp dGe (mVar 3) (mOp dPow (mC (.int 10)) (mC (.int 18))))) (mTest (mOp dLt (mVar 4) (mC (.int 60)))) [some (.val L), some (.val (.int k)), some (.val (.int many)), some (.val (.int c)), some (.val (.int u)), none] = some (decide (p ≤ c) && decide (u < 60)) := by
      simp only [sSeq, sAsg, sIf, sRet, sNext, sOwn, sFrz, sDrop, sPar, sPar3, sParOV, sParOO, sParOOO, sStop, mOp, mUn, mVar, mC, mTest, mTru, mIfE, mList, mLst, mStar, mCons, mNil, mTup, mCall, mCallL, mAnd, mOr, mNot, mAndV, mOrV, mNotV, mIter, mSl, mSlL, mPart, mNoPart, mIfL, mCatL, mCatV, gSet, gTupM, gConsM, gNilM, isI, frz, wipeM, lim, isB, its, List.map_cons, List.map_nil, List.length_cons, List.length_nil, List.replicate, List.replicate_zero, List.cons_append, List.nil_append, List.getElem?_cons_zero, List.getElem?_cons_succ, List.set_cons_zero, List.set_cons_succ, Option.bind_some, Option.bind_none, Option.map_some, Option.map_none, if_true, if_false, if_pos, Bool.not_true, Bool.not_false, Bool.false_eq_true, reduceCtorEq, b7, b8, b9]
      cases decide (p ≤ c) <;> rfl
    cases hq : (decide (p ≤ c) && decide (u < 60)) with
    | false =>
      rw [hq] at s5
      obtain ⟨r, t1, t2, t3⟩ := drawn_tail L k many (c + 6553 * u) (some (.val (.int u))) none hk hk2 hm
      refine ⟨r, mDef_rt ?_, t2, t3⟩
      rw [start]
      unfold b__law_drawn
      refine (seq_nx s1).trans ((seq_nx ((if_t s2).trans ((seq_nx s3).trans ((seq_nx s4).trans ((seq_nx (if_f s5)).trans (hend none)))))).trans t1)
    | true =>
      rw [hq] at s5
      have s6 : sAsg (mOp dFdiv (mVar 3) (mOp dPow (mC (.int 10)) (mC (.int 18)))) (gSet 5) [some (.val L), some (.val (.int k)), some (.val (.int many)), some (.val (.int c)), some (.val (.int u)), none] = some (.nx [some (.val L), some (.val (.int k)), some (.val (.int many)), some (.val (.int c)), some (.val (.int u)), some (.val (.int c18))]) := by
        simp only [sSeq, sAsg, sIf, sRet, sNext, sOwn, sFrz, sDrop, sPar, sPar3, sParOV, sParOO, sParOOO, sStop, mOp, mUn, mVar, mC, mTest, mTru, mIfE, mList, mLst, mStar, mCons, mNil, mTup, mCall, mCallL, mAnd, mOr, mNot, mAndV, mOrV, mNotV, mIter, mSl, mSlL, mPart, mNoPart, mIfL, mCatL, mCatV, gSet, gTupM, gConsM, gNilM, isI, frz, wipeM, lim, isB, its, List.map_cons, List.map_nil, List.length_cons, List.length_nil, List.replicate, List.replicate_zero, List.cons_append, List.nil_append, List.getElem?_cons_zero, List.getElem?_cons_succ, List.set_cons_zero, List.set_cons_succ, Option.bind_some, Option.bind_none, Option.map_some, Option.map_none, if_true, if_false, if_pos, Bool.not_true, Bool.not_false, Bool.false_eq_true, reduceCtorEq, b7, b10]
      obtain ⟨r', t', hl⟩ := drawn_loop (u.toNat + 1) L (.int k) (.int many) (.int c) c18 u u0 rfl
      have hw : sWhile fuel__law_drawn_0 (mAnd (mTest (mOp dGt (mVar 5) (mC (.int 0)))) (mTest (mOp dGt (mVar 4) (mC (.int 0)))))
          (sSeq (sAsg (mOp dFdiv (mVar 5) (mC (.int 1000000))) (gSet 5)) (sAsg (mOp dSub (mVar 4) (mC (.int 1))) (gSet 4)))
          [some (.val L), some (.val (.int k)), some (.val (.int many)), some (.val (.int c)), some (.val (.int u)), some (.val (.int c18))] = some (.nx [some (.val L), some (.val (.int k)), some (.val (.int many)), some (.val (.int c)), some (.val (.int t')), some (.val (.int r'))]) := hl
      have hg : ∀ t'' : Int, mTest (mOp dGt (mVar 5) (mC (.int 0))) [some (.val L), some (.val (.int k)), some (.val (.int many)), some (.val (.int c)), some (.val (.int t'')), some (.val (.int r'))] = some (decide (0 < r')) := fun t'' => rfl
      cases hr : decide (0 < r') with
      | true =>
        have d1 := dMod_of (i := r') (j := 1000000) (by decide)
        have d2 := dMod_of (i := r' % 1000000) (j := many) (by omega)
        refine ⟨_, mDef_rt ?_, Int.emod_nonneg (r' % 1000000) (show many ≠ 0 by omega), Int.emod_lt_of_pos _ (show (0 : Int) < many by omega)⟩
        rw [start]
        unfold b__law_drawn
        have hret : sRet (mOp dMod (mOp dMod (mVar 5) (mC (.int 1000000))) (mVar 2)) [some (.val L), some (.val (.int k)), some (.val (.int many)), some (.val (.int c)), some (.val (.int t')), some (.val (.int r'))] = some (.rt (.int (r' % 1000000 % many))) := by
          simp only [sSeq, sAsg, sIf, sRet, sNext, sOwn, sFrz, sDrop, sPar, sPar3, sParOV, sParOO, sParOOO, sStop, mOp, mUn, mVar, mC, mTest, mTru, mIfE, mList, mLst, mStar, mCons, mNil, mTup, mCall, mCallL, mAnd, mOr, mNot, mAndV, mOrV, mNotV, mIter, mSl, mSlL, mPart, mNoPart, mIfL, mCatL, mCatV, gSet, gTupM, gConsM, gNilM, isI, frz, wipeM, lim, isB, its, List.map_cons, List.map_nil, List.length_cons, List.length_nil, List.replicate, List.replicate_zero, List.cons_append, List.nil_append, List.getElem?_cons_zero, List.getElem?_cons_succ, List.set_cons_zero, List.set_cons_succ, Option.bind_some, Option.bind_none, Option.map_some, Option.map_none, if_true, if_false, if_pos, Bool.not_true, Bool.not_false, Bool.false_eq_true, reduceCtorEq, d1, d2]
        refine (seq_nx s1).trans (seq_rt ((if_t s2).trans ((seq_nx s3).trans ((seq_nx s4).trans (seq_rt ((if_t s5).trans ((seq_nx s6).trans ((seq_nx hw).trans ((if_t ((hg t').trans (by rw [hr]))).trans hret)))))))))
      | false =>
        obtain ⟨r, t1, t2, t3⟩ := drawn_tail L k many (c + 6553 * u) (some (.val (.int t'))) (some (.val (.int r'))) hk hk2 hm
        refine ⟨r, mDef_rt ?_, t2, t3⟩
        rw [start]
        unfold b__law_drawn
        have s8 : sIf (mTest (mOp dGt (mVar 5) (mC (.int 0)))) (sRet (mOp dMod (mOp dMod (mVar 5) (mC (.int 1000000))) (mVar 2))) sNext [some (.val L), some (.val (.int k)), some (.val (.int many)), some (.val (.int c)), some (.val (.int t')), some (.val (.int r'))] =
            some (.nx [some (.val L), some (.val (.int k)), some (.val (.int many)), some (.val (.int c)), some (.val (.int t')), some (.val (.int r'))]) := by
          rw [if_f ((hg t').trans (by rw [hr]))]
          rfl
        refine (seq_nx s1).trans ((seq_nx ((if_t s2).trans ((seq_nx s3).trans ((seq_nx s4).trans ((seq_nx ((if_t s5).trans ((seq_nx s6).trans ((seq_nx hw).trans s8)))).trans (hend2 t' _)))))).trans t1)
end DD

set_option Elab.async false
set_option linter.all false
set_option maxRecDepth 100000
set_option maxHeartbeats 4000000
namespace DD
local instance : TabQ := ⟨[]⟩
local instance : ExQ := ⟨0, 0⟩
open PySem PySem.Spec PyProof.Rows L2
/-! values by drawn cells -/
def sgs : Str := "abz09 -.,:;/+*=()"
/-- a value as it is drawn, so deep at most -/
def VOk : Nat → D → Prop
  | _, .none => True
  | _, .bool _ => True
  | _, .int i => i.natAbs < 30000000000
  | _, .str z => z.length ≤ 4 ∧ ∀ c ∈ z.cps.toList, c ∈ sgs.cps.toList
  | k + 1, .tuple ds => ds.length ≤ 3 ∧ ∀ d ∈ ds, VOk k d
  | _, _ => False
theorem vok_none (k : Nat) : VOk k .none := by cases k <;> trivial
theorem vok_bool (k : Nat) (b : Bool) : VOk k (.bool b) := by cases k <;> trivial
theorem vok_int {k : Nat} {i : Int} (h : i.natAbs < 30000000000) : VOk k (.int i) := by cases k <;> exact h
theorem vok_str {k : Nat} {z : Str} (h : z.length ≤ 4) (s : ∀ c ∈ z.cps.toList, c ∈ sgs.cps.toList) : VOk k (.str z) := by cases k <;> exact ⟨h, s⟩
def inL (c : Nat) : Str := ⟨#[c]⟩
theorem sign_at (j : Nat) (h : j < 17) : ∃ c, dIx (.str sgs) (.int (j : Nat)) = some (.str (inL c)) ∧ c ∈ sgs.cps.toList := by
  have : ((List.range 17).all fun j => match dIx (.str sgs) (.int (j : Nat)) with
    | some (.str z) => decide (z.cps.size = 1) && z.cps.toList.all (fun c => decide (c ∈ sgs.cps.toList))
    | _ => false) = true := by kernel_rfl
  have := List.all_eq_true.mp this j (List.mem_range.mpr h)
  split at this
  · rename_i z e
    obtain ⟨h1, h2⟩ := Bool.and_eq_true_iff.mp this
    have h1 := of_decide_eq_true h1
    obtain ⟨⟨l⟩⟩ := z
    match l, h1 with
    | [c], _ => exact ⟨c, e, of_decide_eq_true (List.all_eq_true.mp h2 c List.mem_cons_self)⟩
  · cases this
theorem strs_of (cs : List Nat) : strsD (cs.map fun c => .str (inL c)) = some (cs.map inL) := by
  induction cs with
  | nil => rfl
  | cons c r ih =>
    show (strsD (r.map fun c => .str (inL c))).map (inL c :: ·) = _
    rw [ih]
    rfl
theorem join_signs (cs : List Nat) : (Txt.join "" (cs.map inL)).cps.toList = cs := by
  have g : Txt.join "" (cs.map inL) = Str.join "" (cs.map inL) := StrLaws.glued_eq_join _ _
  rw [g]
  induction cs with
  | nil => rfl
  | cons c r ih =>
    cases r with
    | nil => rfl
    | cons c2 r2 =>
      show ((#[c] ++ ("" : Str).cps) ++ (Str.join "" ((c2 :: r2).map inL)).cps).toList = _
      rw [Array.toList_append, Array.toList_append, ih (StrLaws.glued_eq_join _ _)]
      rfl
/-! the draw -/
def mk9 (L : D) (a k : Int) (s3 s4 s5 s6 s7 s8 : Option Sl) : En := [some (.val L), some (.val (.int a)), some (.val (.int k)), s3, s4, s5, s6, s7, s8]
theorem three (x : Int) (h : 0 ≤ x ∧ x < 3) {k : Nat} : ∃ d, dIx (.list [.none, .bool true, .bool false]) (.int x) = some d ∧ VOk k d := by
  have : x = 0 ∨ x = 1 ∨ x = 2 := by omega
  rcases this with rfl | rfl | rfl
  · exact ⟨.none, rfl, vok_none k⟩
  · exact ⟨.bool true, rfl, vok_bool k true⟩
  · exact ⟨.bool false, rfl, vok_bool k false⟩
theorem three_n (x : Int) (h : 0 ≤ x ∧ x < 3) : ∃ n : Int, dIx (.list [.int 10, .int 10000, .int 30000000000]) (.int x) = some (.int n) ∧ 1 ≤ n ∧ n ≤ 30000000000 := by
  have : x = 0 ∨ x = 1 ∨ x = 2 := by omega
  rcases this with rfl | rfl | rfl
  · exact ⟨10, rfl, by decide, by decide⟩
  · exact ⟨10000, rfl, by decide, by decide⟩
  · exact ⟨30000000000, rfl, by decide, by decide⟩
end DD

set_option Elab.async false
set_option linter.all false
set_option maxRecDepth 100000
set_option maxHeartbeats 4000000
namespace DD
local instance : TabQ := ⟨[]⟩
local instance : ExQ := ⟨0, 0⟩
open PySem PySem.Spec PyProof.Rows L2
theorem lt_true {i j : Int} (h : i < j) : dLt (.int i) (.int j) = some (.bool true) := by
  show some (PyData.bool (decide (i < j))) = _
  rw [decide_eq_true h]
theorem lt_false {i j : Int} (h : ¬ i < j) : dLt (.int i) (.int j) = some (.bool false) := by
  show some (PyData.bool (decide (i < j))) = _
  rw [decide_eq_false h]
theorem lay_i (i : Int) : Lay 0 (.int i) := lay_int
theorem dEq_int (i j : Int) : dEq (.int i) (.int j) = some (.bool (decide (i = j))) := by
  rw [dEq_of ((lay_i i).shaped (by decide)) ((lay_i j).shaped (by decide))]
  simp [PyData.eqv]
  rfl
theorem range1_of {m : En → Option D} {ρ : En} {j : Nat} (h : m ρ = some (.int (j : Nat))) (hj : j ≤ 4) : mRange1 (mCons m mNil) ρ = some (upto 0 j) := by
  have c : mCons m mNil ρ = some [.int (j : Nat)] := cons_of h nil_of
  have e : ((mCons m mNil ρ).bind fun ds => if ds.length = 1 then some ds else none) = some [.int (j : Nat)] := by rw [c]; rfl
  have k : mRange1 (mCons m mNil) ρ = mRange (fun _ => some [.int (j : Nat)]) ρ := by
    unfold mRange1 mRange
    exact congrArg (fun z => Option.bind z _) e
  rw [k]
  have : j = 0 ∨ j = 1 ∨ j = 2 ∨ j = 3 ∨ j = 4 := by omega
  rcases this with rfl | rfl | rfl | rfl | rfl <;> rfl
theorem sub1 {P : D → Prop} {g : D → En → Option En} {e : En → Option D} {ρ : En} : ∀ {ds : List D}, (∀ d ∈ ds, ∃ ρ1 x, g d ρ = some ρ1 ∧ e ρ1 = some x ∧ P x) → ∃ xs, coll g mYes e ρ ds = some xs ∧ xs.length = ds.length ∧ ∀ x ∈ xs, P x := fun h => coll_ex h
theorem signs_map : ∀ {xs : List D}, (∀ x ∈ xs, ∃ c, x = .str (inL c) ∧ c ∈ sgs.cps.toList) → ∃ cs : List Nat, xs = cs.map (fun c => .str (inL c)) ∧ ∀ c ∈ cs, c ∈ sgs.cps.toList
  | [], _ => ⟨[], rfl, fun c h => nomatch h⟩
  | x :: xs, h => by
    obtain ⟨c, e, hc⟩ := h x List.mem_cons_self
    obtain ⟨cs, e2, h2⟩ := signs_map (xs := xs) fun y hy => h y (List.mem_cons_of_mem _ hy)
    refine ⟨c :: cs, by rw [e, e2]; rfl, fun z hz => ?_⟩
    rcases List.mem_cons.mp hz with rfl | hz
    · exact hc
    · exact h2 z hz
theorem sum_ones (cs : List Nat) : ((cs.map inL).map (·.length)).sum = cs.length := by
  induction cs with
  | nil => rfl
  | cons c r ih =>
    rw [List.map_cons, List.map_cons, List.sum_cons, ih, List.length_cons]
    show 1 + r.length = r.length + 1
    omega
theorem value_ok (ns : List Int) (h63 : ns.length ≤ 63) : ∀ (n k : Nat) (a : Int), k < n → k ≤ 3 → 0 ≤ a → a + 200 * (k + 1) ≤ 100000 → ∃ d, m__law_value n [.list (ns.map .int), .int a, .int (k : Nat)] = some d ∧ VOk k d
  | 0, k, a, h, _, _, _ => by omega
  | n + 1, k, a, hk, h3, h0, h1 => by
    have ih := fun (k' : Nat) (a' : Int) (x : k' < n) (y : k' ≤ 3) (z : 0 ≤ a') (w : a' + 200 * (k' + 1) ≤ 100000) => value_ok ns h63 n k' a' x y z w
    obtain ⟨kd, p0, a0, b0⟩ := drawn_ok ns h63 a 8 h0 (by omega) (by decide) (by decide)
    have dr := fun (j : Int) (m : Int) (x : 0 ≤ j) (y : j ≤ 150) (z : 1 ≤ m) (w : m ≤ 30000000000) => drawn_ok ns h63 (a + j) m (by omega) (by omega) z w
    generalize PyData.list (ns.map .int) = L at *
    have goal : ∃ d, b__law_value (m__law_value n) (start0 9 [L, .int a, .int (k : Nat)]) = some (.rt d) ∧ VOk k d := by
      unfold b__law_value
      have e0 : mCall (lim 3 m__law_drawn) (mCons (mVar 0) (mCons (mVar 1) (mCons (mC (.int 8)) mNil))) (start0 9 [L, .int a, .int (k : Nat)]) = some (.int kd) := p0
      rw [seq_nx (asg_set e0)]
      show ∃ d, sSeq _ _ (mk9 L a k (some (.val (.int kd))) none none none none none) = some (.rt d) ∧ VOk k d
      by_cases c1 : kd < 2
      · obtain ⟨x, px, x0, x1⟩ := dr 1 3 (by decide) (by decide) (by decide) (by decide)
        obtain ⟨d, hd, vd⟩ := three x ⟨x0, x1⟩ (k := k)
        refine ⟨d, seq_rt ?_, vd⟩
        rw [if_t (test_of ((op_of (x := .int kd) (y := .int 2) rfl rfl).trans (lt_true c1)))]
        refine ret_of ((op_of (x := .list [.none, .bool true, .bool false]) (y := .int x) rfl ?_).trans hd)
        exact px
      rw [seq_nx (ρ' := mk9 L a k (some (.val (.int kd))) none none none none none) ((if_f (test_of ((op_of (x := .int kd) (y := .int 2) rfl rfl).trans (lt_false c1)))).trans rfl)]
      by_cases c2 : kd < 4
      · obtain ⟨x, px, x0, x1⟩ := dr 3 3 (by decide) (by decide) (by decide) (by decide)
        obtain ⟨m, hm, m0, m1⟩ := three_n x ⟨x0, x1⟩
        obtain ⟨v, pv, v0, v1⟩ := dr 2 m (by decide) (by decide) m0 m1
        obtain ⟨s, ps, s0, s1⟩ := dr 4 2 (by decide) (by decide) (by decide) (by decide)
        refine ⟨if s = 0 then .int v else .int (-v), seq_rt ?_, ?_⟩
        · rw [if_t (test_of ((op_of (x := .int kd) (y := .int 4) rfl rfl).trans (lt_true c2)))]
          have q1 : mOp dIx (mList (mLst (mCons (mC (.int 10)) (mCons (mC (.int 10000)) (mCons (mC (.int 30000000000)) mNil))))) (mCall (lim 3 m__law_drawn) (mCons (mVar 0) (mCons (mOp dAdd (mVar 1) (mC (.int 3))) (mCons (mC (.int 3)) mNil)))) (mk9 L a k (some (.val (.int kd))) none none none none none) = some (.int m) := by
            refine (op_of (x := .list [.int 10, .int 10000, .int 30000000000]) (y := .int x) rfl ?_).trans hm
            exact px
          have q2 : mCall (lim 3 m__law_drawn) (mCons (mVar 0) (mCons (mOp dAdd (mVar 1) (mC (.int 2))) (mCons (mOp dIx (mList (mLst (mCons (mC (.int 10)) (mCons (mC (.int 10000)) (mCons (mC (.int 30000000000)) mNil))))) (mCall (lim 3 m__law_drawn) (mCons (mVar 0) (mCons (mOp dAdd (mVar 1) (mC (.int 3))) (mCons (mC (.int 3)) mNil))))) mNil))) (mk9 L a k (some (.val (.int kd))) none none none none none) = some (.int v) :=
            (call_of (cons_of (show mVar 0 _ = some L from rfl) (cons_of (show mOp dAdd (mVar 1) (mC (.int 2)) _ = some (.int (a + 2)) from rfl) (cons_of q1 nil_of)))).trans pv
          rw [seq_nx (asg_set q2)]
          show sRet _ (mk9 L a k (some (.val (.int kd))) (some (.val (.int v))) none none none none) = _
          refine ret_of ?_
          have q3 : mTest (mOp dEq (mCall (lim 3 m__law_drawn) (mCons (mVar 0) (mCons (mOp dAdd (mVar 1) (mC (.int 4))) (mCons (mC (.int 2)) mNil)))) (mC (.int 0))) (mk9 L a k (some (.val (.int kd))) (some (.val (.int v))) none none none none) = some (decide (s = 0)) := by
            refine test_of ((op_of (x := .int s) (y := .int 0) ?_ rfl).trans (dEq_int s 0))
            exact ps
          by_cases z : s = 0
          · rw [decide_eq_true z] at q3
            rw [ifE_t q3, if_pos z]
            rfl
          · rw [decide_eq_false z] at q3
            rw [ifE_f q3, if_neg z]
            rfl
        · split
          · exact vok_int (by omega)
          · exact vok_int (by omega)
      rw [seq_nx (ρ' := mk9 L a k (some (.val (.int kd))) none none none none none) ((if_f (test_of ((op_of (x := .int kd) (y := .int 4) rfl rfl).trans (lt_false c2)))).trans rfl)]
      have tk : mTest (mOp dEq (mVar 2) (mC (.int 0))) (mk9 L a k (some (.val (.int kd))) none none none none none) = some (decide ((k : Int) = 0)) := test_of ((op_of (x := .int (k : Nat)) (y := .int 0) rfl rfl).trans (dEq_int _ 0))
      by_cases c3 : kd < 6 ∨ k = 0
      · obtain ⟨m, pm, m0, m1⟩ := dr 2 5 (by decide) (by decide) (by decide) (by decide)
        have c : mOr (mTest (mOp dLt (mVar 3) (mC (.int 6)))) (mTest (mOp dEq (mVar 2) (mC (.int 0)))) (mk9 L a k (some (.val (.int kd))) none none none none none) = some true := by
          by_cases c4 : kd < 6
          · exact or_t (test_of ((op_of (x := .int kd) (y := .int 6) rfl rfl).trans (lt_true c4)))
          · rw [or_f (test_of ((op_of (x := .int kd) (y := .int 6) rfl rfl).trans (lt_false c4))), tk, decide_eq_true (by omega)]
        obtain ⟨mn, rfl⟩ : ∃ mn : Nat, m = (mn : Int) := ⟨m.toNat, by omega⟩
        have lc : ∃ xs, mLc (mRange1 (mCons (mVar 6) mNil)) (gSet 7) mYes (mOp dIx (mVar 5) (mCall (lim 3 m__law_drawn) (mCons (mVar 0) (mCons (mOp dAdd (mOp dAdd (mVar 1) (mC (.int 5))) (mVar 7)) (mCons (mC (.int 17)) mNil))))) [7] (mk9 L a k (some (.val (.int kd))) none (some (.val (.str sgs))) (some (.val (.int (mn : Nat)))) none none) = some xs ∧ xs.length = mn ∧ ∀ x ∈ xs, ∃ c, x = .str (inL c) ∧ c ∈ sgs.cps.toList := by
          have r1 : mRange1 (mCons (mVar 6) mNil) (mk9 L a k (some (.val (.int kd))) none (some (.val (.str sgs))) (some (.val (.int (mn : Nat)))) none none) = some (upto 0 mn) := by
            have : mn = 0 ∨ mn = 1 ∨ mn = 2 ∨ mn = 3 ∨ mn = 4 := by omega
            rcases this with rfl | rfl | rfl | rfl | rfl <;> rfl
          have ul : (upto 0 mn).length = mn := by simp [upto]
          obtain ⟨xs, i1, i2, i3⟩ := sub1 (g := gSet 7) (e := mOp dIx (mVar 5) (mCall (lim 3 m__law_drawn) (mCons (mVar 0) (mCons (mOp dAdd (mOp dAdd (mVar 1) (mC (.int 5))) (mVar 7)) (mCons (mC (.int 17)) mNil)))))
            (ρ := wipeM (mk9 L a k (some (.val (.int kd))) none (some (.val (.str sgs))) (some (.val (.int (mn : Nat)))) none none) [7]) (P := fun x => ∃ c, x = .str (inL c) ∧ c ∈ sgs.cps.toList) (ds := upto 0 mn) fun d hd => by
              obtain ⟨i, hi, rfl⟩ := List.mem_map.mp hd
              have hi2 := List.mem_range.mp hi
              obtain ⟨y, py, y0, y1⟩ := dr (5 + (0 + (i : Int))) 17 (by omega) (by omega) (by decide) (by decide)
              obtain ⟨yn, rfl⟩ : ∃ yn : Nat, y = (yn : Int) := ⟨y.toNat, by omega⟩
              obtain ⟨c, hc, hm⟩ := sign_at yn (by omega)
              refine ⟨_, .str (inL c), rfl, ?_, c, rfl, hm⟩
              refine (op_of (x := .str sgs) (y := .int (yn : Nat)) rfl ?_).trans hc
              have e : a + (5 + (0 + (i : Int))) = a + 5 + (0 + (i : Int)) := by omega
              rw [e] at py
              exact py
          refine ⟨xs, ?_, by rw [i2, ul], i3⟩
          unfold mLc
          rw [r1]
          show (if (upto 0 mn).length ≤ cap then _ else _) = _
          rw [if_pos (by rw [ul]; exact Nat.le_trans (show mn ≤ 4 by omega) (by decide))]
          exact i1
        obtain ⟨xs, w1, w2, w3⟩ := lc
        obtain ⟨cs, rfl, hcs⟩ := signs_map w3
        have lcs : cs.length = mn := by rw [← w2, List.length_map]
        refine ⟨.str (Txt.join "" (cs.map inL)), seq_rt ?_, vok_str ?_ ?_⟩
        · rw [if_t c]
          have q1 : sAsg (mTup (mCons (mC (.str ("abz09 -.,:;/+*=()" : Str))) (mCons (mCall (lim 3 m__law_drawn) (mCons (mVar 0) (mCons (mOp dAdd (mVar 1) (mC (.int 2))) (mCons (mC (.int 5)) mNil)))) mNil))) (gTupM 2 (gConsM (gSet 5) (gConsM (gSet 6) gNilM))) (mk9 L a k (some (.val (.int kd))) none none none none none) = some (.nx (mk9 L a k (some (.val (.int kd))) none (some (.val (.str sgs))) (some (.val (.int (mn : Nat)))) none none)) := by
            have t := tup_of (cons_of (show mC (.str ("abz09 -.,:;/+*=()" : Str)) (mk9 L a k (some (.val (.int kd))) none none none none none) = some (.str sgs) from rfl) (cons_of (show mCall (lim 3 m__law_drawn) (mCons (mVar 0) (mCons (mOp dAdd (mVar 1) (mC (.int 2))) (mCons (mC (.int 5)) mNil))) (mk9 L a k (some (.val (.int kd))) none none none none none) = some (.int (mn : Nat)) from pm) nil_of)) (show 2 ≤ cap by decide)
            unfold sAsg
            rw [t]
            rfl
          rw [seq_nx q1]
          refine ret_of ?_
          rw [op_of (x := .str "") (y := .list (cs.map fun c => .str (inL c))) rfl (list_of w1)]
          show ((strsD (cs.map fun c => .str (inL c))).bind fun ns => if (ns.map (·.length)).sum + ns.length * ("" : Str).length ≤ 16777216 then some (PyData.str (Txt.join "" ns)) else none) = _
          rw [strs_of]
          show (if ((cs.map inL).map (·.length)).sum + (cs.map inL).length * 0 ≤ 16777216 then some (PyData.str (Txt.join "" (cs.map inL))) else none) = _
          rw [if_pos (by rw [sum_ones, lcs]; omega)]
        · have e : (Txt.join "" (cs.map inL)).length = cs.length := by
            show (Txt.join "" (cs.map inL)).cps.size = _
            rw [← Array.length_toList, join_signs]
          rw [e, lcs]
          omega
        · rw [join_signs]
          exact hcs
      have c4 : ¬ kd < 6 := fun z => c3 (.inl z)
      have c5 : k ≠ 0 := fun z => c3 (.inr z)
      have c : mOr (mTest (mOp dLt (mVar 3) (mC (.int 6)))) (mTest (mOp dEq (mVar 2) (mC (.int 0)))) (mk9 L a k (some (.val (.int kd))) none none none none none) = some false := by
        rw [or_f (test_of ((op_of (x := .int kd) (y := .int 6) rfl rfl).trans (lt_false c4))), tk, decide_eq_false (by omega)]
      rw [seq_nx (ρ' := mk9 L a k (some (.val (.int kd))) none none none none none) ((if_f c).trans rfl)]
      rw [seq_nx (ρ' := mk9 L a k (some (.val (.int kd))) none none none none (some (.own []))) (by kernel_rfl)]
      obtain ⟨m, pm, m0, m1⟩ := dr 1 4 (by decide) (by decide) (by decide) (by decide)
      obtain ⟨mn, rfl⟩ : ∃ mn : Nat, m = (mn : Int) := ⟨m.toNat, by omega⟩
      obtain ⟨kp, rfl⟩ : ∃ kp, k = kp + 1 := ⟨k - 1, by omega⟩
      have turn : ∀ (i : Nat) (s7 : Option Sl) (ds : List D), i ≤ 2 → ds.length ≤ 3 → ∃ d, VOk kp d ∧ sAppend 8 (mCall (lim 3 (m__law_value n)) (mCons (mVar 0) (mCons (mOp dAdd (mOp dAdd (mOp dAdd (mVar 1) (mC (.int 11))) (mOp dMul (mC (.int 40)) (mVar 7))) (mOp dMul (mC (.int 7)) (mVar 2))) (mCons (mOp dSub (mVar 2) (mC (.int 1))) mNil)))) (mk9 L a ((kp + 1 : Nat) : Int) (some (.val (.int kd))) none none none (some (.val (.int (0 + (i : Int))))) (some (.own ds))) =
          some (.nx (mk9 L a ((kp + 1 : Nat) : Int) (some (.val (.int kd))) none none none (some (.val (.int (0 + (i : Int))))) (some (.own (ds ++ [d]))))) := by
        intro i s7 ds hi hl
        obtain ⟨d, pd, vd⟩ := ih kp (a + 11 + 40 * (0 + (i : Int)) + 7 * ((kp + 1 : Nat) : Int)) (by omega) (by omega) (by omega) (by omega)
        refine ⟨d, vd, ?_⟩
        have m1 := dMul_r (i := 40) (j := 0 + (i : Int)) (by omega) (by omega)
        have m2 := dMul_r (i := 7) (j := ((kp + 1 : Nat) : Int)) (by omega) (by omega)
        have g1 : mOp dAdd (mOp dAdd (mOp dAdd (mVar 1) (mC (.int 11))) (mOp dMul (mC (.int 40)) (mVar 7))) (mOp dMul (mC (.int 7)) (mVar 2)) (mk9 L a ((kp + 1 : Nat) : Int) (some (.val (.int kd))) none none none (some (.val (.int (0 + (i : Int))))) (some (.own ds))) = some (.int (a + 11 + 40 * (0 + (i : Int)) + 7 * ((kp + 1 : Nat) : Int))) :=
          op_of (x := .int (a + 11 + 40 * (0 + (i : Int)))) (y := .int (7 * ((kp + 1 : Nat) : Int))) (op_of (x := .int (a + 11)) (y := .int (40 * (0 + (i : Int)))) rfl ((op_of (x := .int 40) (y := .int (0 + (i : Int))) rfl rfl).trans m1)) ((op_of (x := .int 7) (y := .int ((kp + 1 : Nat) : Int)) rfl rfl).trans m2)
        have g2 : mOp dSub (mVar 2) (mC (.int 1)) (mk9 L a ((kp + 1 : Nat) : Int) (some (.val (.int kd))) none none none (some (.val (.int (0 + (i : Int))))) (some (.own ds))) = some (.int (kp : Nat)) := by
          show some (PyData.int (((kp + 1 : Nat) : Int) - 1)) = _
          rw [show (((kp + 1 : Nat) : Int) - 1) = (kp : Int) by omega]
        have g3 := (call_of (g := lim 3 (m__law_value n)) (cons_of (show mVar 0 (mk9 L a ((kp + 1 : Nat) : Int) (some (.val (.int kd))) none none none (some (.val (.int (0 + (i : Int))))) (some (.own ds))) = some L from rfl) (cons_of g1 (cons_of g2 nil_of)))).trans pd
        unfold sAppend
        rw [g3]
        show (if ds.length < cap then _ else _) = _
        rw [if_pos (Nat.lt_of_le_of_lt hl (by decide))]
        rfl
      have lp : ∀ (j i : Nat) (s7 : Option Sl) (ds : List D), i + j = mn → ds.length = i → (∀ d ∈ ds, VOk kp d) → ∃ s7' es, es.length = mn ∧ (∀ d ∈ es, VOk kp d) ∧
          loop (gSet 7) (sAppend 8 (mCall (lim 3 (m__law_value n)) (mCons (mVar 0) (mCons (mOp dAdd (mOp dAdd (mOp dAdd (mVar 1) (mC (.int 11))) (mOp dMul (mC (.int 40)) (mVar 7))) (mOp dMul (mC (.int 7)) (mVar 2))) (mCons (mOp dSub (mVar 2) (mC (.int 1))) mNil))))) ((upto 0 mn).drop i) (mk9 L a ((kp + 1 : Nat) : Int) (some (.val (.int kd))) none none none s7 (some (.own ds))) = some (.nx (mk9 L a ((kp + 1 : Nat) : Int) (some (.val (.int kd))) none none none s7' (some (.own es)))) := by
        intro j
        have ul : (upto 0 mn).length = mn := by simp [upto]
        induction j with
        | zero =>
          intro i s7 ds hi hl hd
          refine ⟨s7, ds, by omega, hd, ?_⟩
          rw [List.drop_of_length_le (by rw [ul]; omega)]
          rfl
        | succ j ihj =>
          intro i s7 ds hi hl hd
          have hlt : i < (upto 0 mn).length := by rw [ul]; omega
          obtain ⟨d, vd, td⟩ := turn i s7 ds (by omega) (by omega)
          obtain ⟨s7', es, e1, e2, e3⟩ := ihj (i + 1) (some (.val (.int (0 + (i : Int))))) (ds ++ [d]) (by omega) (by rw [List.length_append, List.length_singleton]; omega) fun x hx => by
            rcases List.mem_append.mp hx with h | h
            · exact hd x h
            · rw [List.mem_singleton.mp h]
              exact vd
          refine ⟨s7', es, e1, e2, ?_⟩
          rw [List.drop_eq_getElem_cons hlt]
          have ge : (upto 0 mn)[i] = .int (0 + (i : Int)) := by simp [upto]
          rw [ge, loop_cons (ρ1 := mk9 L a ((kp + 1 : Nat) : Int) (some (.val (.int kd))) none none none (some (.val (.int (0 + (i : Int))))) (some (.own ds))) rfl td]
          exact e3
      obtain ⟨s7', es, e1, e2, e3⟩ := lp mn 0 none [] (by omega) rfl (fun d h => nomatch h)
      refine ⟨.tuple es, ?_, by omega, e2⟩
      have r1 : mRange1 (mCons (mCall (lim 3 m__law_drawn) (mCons (mVar 0) (mCons (mOp dAdd (mVar 1) (mC (.int 1))) (mCons (mC (.int 4)) mNil)))) mNil) (mk9 L a ((kp + 1 : Nat) : Int) (some (.val (.int kd))) none none none none (some (.own []))) = some (upto 0 mn) := by
        have e : mCall (lim 3 m__law_drawn) (mCons (mVar 0) (mCons (mOp dAdd (mVar 1) (mC (.int 1))) (mCons (mC (.int 4)) mNil))) (mk9 L a ((kp + 1 : Nat) : Int) (some (.val (.int kd))) none none none none (some (.own []))) = some (.int (mn : Nat)) := pm
        exact range1_of e (by omega)
      have sf := show sFor (mRange1 (mCons (mCall (lim 3 m__law_drawn) (mCons (mVar 0) (mCons (mOp dAdd (mVar 1) (mC (.int 1))) (mCons (mC (.int 4)) mNil)))) mNil)) (gSet 7) (sAppend 8 (mCall (lim 3 (m__law_value n)) (mCons (mVar 0) (mCons (mOp dAdd (mOp dAdd (mOp dAdd (mVar 1) (mC (.int 11))) (mOp dMul (mC (.int 40)) (mVar 7))) (mOp dMul (mC (.int 7)) (mVar 2))) (mCons (mOp dSub (mVar 2) (mC (.int 1))) mNil))))) (mk9 L a ((kp + 1 : Nat) : Int) (some (.val (.int kd))) none none none none (some (.own []))) = some (.nx (mk9 L a ((kp + 1 : Nat) : Int) (some (.val (.int kd))) none none none s7' (some (.own es)))) from by
        unfold sFor
        rw [r1]
        exact e3
      rw [seq_nx sf]
      rfl
    obtain ⟨d, h, v⟩ := goal
    exact ⟨d, mDef_rt h, v⟩
end DD

set_option Elab.async false
set_option linter.all false
set_option maxRecDepth 100000
set_option maxHeartbeats 4000000
namespace DD
local instance : TabQ := ⟨[]⟩
local instance : ExQ := ⟨0, 0⟩
open PySem PySem.Spec PyProof.Rows L2
/-! the law's own writing -/
/-- digits to the base 10000, the lowest first -/
def dg : Nat → Nat → List Int
  | 0, _ => []
  | f + 1, n => if n = 0 then [] else ((n % 10000 : Nat) : Int) :: dg f (n / 10000)
def dgs (n : Nat) : List Int := dg (n + 1) n
def rowS : Str := "abcdefghijklmnopqrstuvwxyz0123456789 -.,:;/+*=()"
def place (c : Nat) : Int := ((rowS.cps.toList.idxOf c : Nat) : Int)
def wdk : Nat → D → List Int
  | _, .none => [0]
  | _, .bool b => [1 + if b then 1 else 0]
  | _, .int i => (if i < 0 then 4 else 3) :: ((dgs i.natAbs).length : Int) :: dgs i.natAbs
  | _, .str z => 5 :: (z.length : Int) :: z.cps.toList.map place
  | k + 1, .tuple ds => 6 :: (ds.length : Int) :: ds.flatMap (wdk k)
  | _, _ => []
theorem dg_len : ∀ (k f n : Nat), n < 10000 ^ k → (dg f n).length ≤ k
  | _, 0, _, _ => Nat.zero_le _
  | 0, f + 1, n, h => by
    have : n = 0 := by rw [Nat.pow_zero] at h; omega
    subst this
    exact Nat.zero_le _
  | k + 1, f + 1, n, h => by
    show (if n = 0 then [] else ((n % 10000 : Nat) : Int) :: dg f (n / 10000)).length ≤ k + 1
    split
    · exact Nat.zero_le _
    · rw [List.length_cons]
      have := dg_len k f (n / 10000) (Nat.div_lt_of_lt_mul (by rw [Nat.mul_comm, ← Nat.pow_succ]; exact h))
      omega
theorem dgs_le {i : Int} (h : i.natAbs < 30000000000) : (dgs i.natAbs).length ≤ 3 := dg_len 3 _ _ (Nat.lt_trans h (by decide))
theorem signs_row : ∀ c ∈ sgs.cps.toList, c ∈ rowS.cps.toList := by
  have : (sgs.cps.toList.all fun c => decide (c ∈ rowS.cps.toList)) = true := by kernel_rfl
  intro c hc
  exact of_decide_eq_true (List.all_eq_true.mp this c hc)
theorem sindex_row {c : Nat} (h : c ∈ rowS.cps.toList) : dSIndex (.str rowS) (.str (inL c)) = some (.int (place c)) := by
  have : (rowS.cps.toList.all fun c => match dSIndex (.str rowS) (.str (inL c)) with
    | some (.int i) => decide (i = place c)
    | _ => false) = true := by kernel_rfl
  have := List.all_eq_true.mp this c h
  split at this
  · rename_i i e
    rw [e, of_decide_eq_true this]
  · cases this
theorem wd_len : ∀ (k : Nat) (d : D), VOk k d → (wdk k d).length ≤ 6 * 4 ^ k
  | k, d, h => by
    have p : 0 < 4 ^ k := Nat.pow_pos (by decide)
    match k, d, h with
    | k, .none, _ => cases k <;> (show 1 ≤ _; omega)
    | k, .bool _, _ => cases k <;> (show 1 ≤ _; omega)
    | k, .int i, h =>
      have h : i.natAbs < 30000000000 := by cases k <;> exact h
      have := dgs_le h
      have e : (wdk k (.int i)).length = (dgs i.natAbs).length + 2 := by cases k <;> rfl
      omega
    | k, .str z, h =>
      have h : z.length ≤ 4 := by cases k <;> exact h.1
      have e : (wdk k (.str z)).length = z.length + 2 := by
        have : (wdk k (.str z)) = 5 :: (z.length : Int) :: z.cps.toList.map place := by cases k <;> rfl
        rw [this, List.length_cons, List.length_cons, List.length_map]
        rfl
      omega
    | k + 1, .tuple ds, h =>
      obtain ⟨h1, h2⟩ : ds.length ≤ 3 ∧ ∀ d ∈ ds, VOk k d := h
      have s : ∀ es : List D, (∀ d ∈ es, VOk k d) → (es.flatMap (wdk k)).length ≤ es.length * (6 * 4 ^ k) := by
        intro es
        induction es with
        | nil => intro _; exact Nat.zero_le _
        | cons d r ih =>
          intro hh
          have a := ih fun x hx => hh x (List.mem_cons_of_mem _ hx)
          have b := wd_len k d (hh d List.mem_cons_self)
          rw [List.flatMap_cons, List.length_append, List.length_cons, Nat.add_mul]
          omega
      have s1 := s ds h2
      have s2 : ds.length * (6 * 4 ^ k) ≤ 3 * (6 * 4 ^ k) := Nat.mul_le_mul_right _ h1
      have p2 : 0 < 4 ^ k := Nat.pow_pos (by decide)
      show (ds.flatMap (wdk k)).length + 1 + 1 ≤ 6 * 4 ^ (k + 1)
      rw [Nat.pow_succ]
      omega
    | 0, .tuple _, h => exact h.elim
    | 0, .list _, h => exact h.elim
    | k + 1, .list _, h => exact h.elim
    | 0, .dict _, h => exact h.elim
    | k + 1, .dict _, h => exact h.elim
/-! the loop of digits -/
def mk6 (v : D) (s1 s2 s3 s4 s5 : Option Sl) : En := [some (.val v), s1, s2, s3, s4, s5]
theorem cat_one {acc : List Int} {x : Int} (h : acc.length < cap) {ρ : En} {m : En → Option D} {i : Nat} (hv : mVar i ρ = some (.list (acc.map .int))) (hm : m ρ = some (.int x)) : mList (mCatV (mVar i) (mLst (mCons m mNil))) ρ = some (.list ((acc ++ [x]).map .int)) := by
  unfold mList mCatV
  rw [hv, lst_of (cons_of hm nil_of) (show 1 ≤ cap by decide)]
  show ((if (acc.map PyData.int).length + 1 ≤ cap then some (acc.map PyData.int ++ [.int x]) else none).map PyData.list) = _
  rw [if_pos (by rw [List.length_map]; exact h), List.map_append]
  rfl
theorem dig_loop (v : D) (s3 s4 s5 : Option Sl) : ∀ (f n : Nat) (acc : List Int), n < f → acc.length + (dg f n).length ≤ cap →
    whl (mTest (mOp dGt (mVar 2) (mC (.int 0)))) (sPar 1 2 (mList (mCatV (mVar 1) (mLst (mCons (mOp dMod (mVar 2) (mC (.int 10000))) mNil)))) (mOp dFdiv (mVar 2) (mC (.int 10000)))) f
      (mk6 v (some (.val (.list (acc.map .int)))) (some (.val (.int (n : Nat)))) s3 s4 s5) =
      some (.nx (mk6 v (some (.val (.list ((acc ++ dg f n).map .int)))) (some (.val (.int 0))) s3 s4 s5))
  | 0, n, acc, h, _ => by omega
  | f + 1, n, acc, h, l => by
    have c : mTest (mOp dGt (mVar 2) (mC (.int 0))) (mk6 v (some (.val (.list (acc.map .int)))) (some (.val (.int (n : Nat)))) s3 s4 s5) = some (decide (0 < (n : Int))) := rfl
    have e : dg (f + 1) n = if n = 0 then [] else ((n % 10000 : Nat) : Int) :: dg f (n / 10000) := rfl
    by_cases z : n = 0
    · subst z
      rw [whl_f (c.trans rfl), e, if_pos rfl, List.append_nil]
      rfl
    · rw [e, if_neg z] at l ⊢
      rw [List.length_cons] at l
      have q1 := cat_one (acc := acc) (x := ((n % 10000 : Nat) : Int)) (by omega) (ρ := mk6 v (some (.val (.list (acc.map .int)))) (some (.val (.int (n : Nat)))) s3 s4 s5) (i := 1) (m := mOp dMod (mVar 2) (mC (.int 10000))) rfl rfl
      have q2 : mOp dFdiv (mVar 2) (mC (.int 10000)) (mk6 v (some (.val (.list (acc.map .int)))) (some (.val (.int (n : Nat)))) s3 s4 s5) = some (.int ((n / 10000 : Nat) : Int)) := by
        refine (op_of (x := .int (n : Nat)) (y := .int 10000) rfl rfl).trans ((dFdiv_of (by decide) (by decide)).trans rfl)
      rw [whl_t (c.trans (by rw [decide_eq_true (show 0 < (n : Int) by omega)])) (par_set q1 q2)]
      have := dig_loop v s3 s4 s5 f (n / 10000) (acc ++ [((n % 10000 : Nat) : Int)]) (by omega) (by rw [List.length_append, List.length_singleton]; omega)
      rw [List.append_assoc] at this
      exact this
end DD

set_option Elab.async false
set_option linter.all false
set_option maxRecDepth 100000
set_option maxHeartbeats 4000000
namespace DD
local instance : TabQ := ⟨[]⟩
local instance : ExQ := ⟨0, 0⟩
open PySem PySem.Spec PyProof.Rows L2
theorem wdk_int (k : Nat) (i : Int) : wdk k (.int i) = wdk 0 (.int i) := by cases k <;> rfl
theorem wdk_str (k : Nat) (z : Str) : wdk k (.str z) = wdk 0 (.str z) := by cases k <;> rfl
theorem pow_4 {k : Nat} (h : k ≤ 3) : 4 ^ k ≤ 64 := by
  have : k = 0 ∨ k = 1 ∨ k = 2 ∨ k = 3 := by omega
  rcases this with rfl | rfl | rfl | rfl <;> decide
end DD

set_option Elab.async false
set_option linter.all false
set_option maxRecDepth 100000
set_option maxHeartbeats 4000000
namespace DD
local instance : TabQ := ⟨[]⟩
local instance : ExQ := ⟨0, 0⟩
open PySem PySem.Spec PyProof.Rows L2
theorem sgs_ok : ∀ c ∈ sgs.cps.toList, c < 128 := by
  have : (sgs.cps.toList.all fun c => decide (c < 128)) = true := by kernel_rfl
  intro c hc
  exact of_decide_eq_true (List.all_eq_true.mp this c hc)
theorem lay_vok : ∀ (k : Nat) (d : D), VOk k d → Lay k d
  | k, .none, _ => lay_none.mono (Nat.zero_le _)
  | k, .bool _, _ => lay_bool.mono (Nat.zero_le _)
  | k, .int _, _ => lay_int.mono (Nat.zero_le _)
  | k, .str z, v => by
    have v : z.length ≤ 4 ∧ ∀ c ∈ z.cps.toList, c ∈ sgs.cps.toList := by cases k <;> exact v
    refine (lay_str ?_).mono (Nat.zero_le _)
    unfold PyData.strOk
    rw [← Array.all_toList]
    exact List.all_eq_true.mpr fun c hc => decide_eq_true (Nat.lt_trans (sgs_ok c (v.2 c hc)) (by decide))
  | k + 1, .tuple ds, v => lay_tup fun d hd => lay_vok k d (v.2 d hd)
  | 0, .tuple _, h => h.elim
  | 0, .list _, h => h.elim
  | k + 1, .list _, h => h.elim
  | 0, .dict _, h => h.elim
  | k + 1, .dict _, h => h.elim
theorem dEq_self {k : Nat} {d : D} (h : Lay k d) (l : k ≤ 64) : dEq d d = some (.bool true) := by
  rw [dEq_of (h.shaped l) (h.shaped l), SeqAt.eqv_refl _ h.1]
theorem zip_tt {xs ys : List D} {m1 m2 : En → Option D} {ρ : En} (h1 : m1 ρ = some (.tuple xs)) (h2 : m2 ρ = some (.tuple ys)) : mZip (mCons m1 (mCons m2 mNil)) ρ = some (pairs xs ys) := by
  unfold mZip
  rw [cons_of h1 (cons_of h2 nil_of)]
  rfl
theorem pairs_same : ∀ xs : List D, ∀ p ∈ pairs xs xs, ∃ d ∈ xs, p = .tuple [d, d]
  | [], p, h => nomatch h
  | x :: xs, p, h => by
    rcases List.mem_cons.mp (show p ∈ PyData.tuple [x, x] :: pairs xs xs from h) with rfl | h
    · exact ⟨x, List.mem_cons_self, rfl⟩
    · obtain ⟨d, h1, h2⟩ := pairs_same xs p h
      exact ⟨d, List.mem_cons_of_mem _ h1, h2⟩
def mk4 (v u : D) (s2 s3 : Option Sl) : En := [some (.val v), some (.val u), s2, s3]
theorem alike_one (n : Nat) (d : D) (nt : isIt "tuple" d = false) (h : ∃ k, k ≤ 64 ∧ Lay k d) : m__law_alike (n + 1) [d, d] = some (.bool true) := by
  obtain ⟨k, hk, hl⟩ := h
  refine mDef_rt (?_ : b__law_alike (m__law_alike n) (mk4 d d none none) = _)
  unfold b__law_alike
  have c : mAnd (mTru (mUn (dIsi "tuple") (mVar 0))) (mTru (mUn (dIsi "tuple") (mVar 1))) (mk4 d d none none) = some false := by
    refine and_f ?_
    show tru (.bool (isIt "tuple" d)) = _
    rw [nt]
    rfl
  rw [seq_nx (ρ' := mk4 d d none none) ((if_f c).trans rfl)]
  refine ret_of ?_
  have t : mOp dEq (mUn (dIsi "bool") (mVar 0)) (mUn (dIsi "bool") (mVar 1)) (mk4 d d none none) = some (.bool true) := by
    refine (op_of (x := .bool (isIt "bool" d)) (y := .bool (isIt "bool" d)) rfl rfl).trans (dEq_self (k := 0) lay_bool (by decide))
  rw [andV_t t]
  exact (op_of (x := d) (y := d) rfl rfl).trans (dEq_self hl hk)
theorem alike_tup (n : Nat) (ds : List D) (hl : ds.length ≤ 9999) (h : ∀ d ∈ ds, m__law_alike n [d, d] = some (.bool true)) : m__law_alike (n + 1) [.tuple ds, .tuple ds] = some (.bool true) := by
  refine mDef_rt (?_ : b__law_alike (m__law_alike n) (mk4 (.tuple ds) (.tuple ds) none none) = _)
  unfold b__law_alike
  have c : mAnd (mTru (mUn (dIsi "tuple") (mVar 0))) (mTru (mUn (dIsi "tuple") (mVar 1))) (mk4 (.tuple ds) (.tuple ds) none none) = some true := by kernel_rfl
  refine seq_rt ((if_t c).trans ?_)
  have e1 : mCall dLen (mCons (mVar 0) mNil) (mk4 (.tuple ds) (.tuple ds) none none) = some (.int (ds.length : Nat)) := (call_of (cons_of (x := .tuple ds) rfl nil_of)).trans (dLen_tup (Nat.le_trans hl (by decide)))
  have e2 : mCall dLen (mCons (mVar 1) mNil) (mk4 (.tuple ds) (.tuple ds) none none) = some (.int (ds.length : Nat)) := (call_of (cons_of (x := .tuple ds) rfl nil_of)).trans (dLen_tup (Nat.le_trans hl (by decide)))
  have t1 : mTest (mOp dNe (mCall dLen (mCons (mVar 0) mNil)) (mCall dLen (mCons (mVar 1) mNil))) (mk4 (.tuple ds) (.tuple ds) none none) = some false := test_of ((op_of e1 e2).trans (dNe_self (k := 0) lay_int (by decide)))
  rw [seq_nx (ρ' := mk4 (.tuple ds) (.tuple ds) none none) ((if_f t1).trans rfl)]
  refine ret_of ?_
  have z := lc_if (it := mZip (mCons (mVar 0) (mCons (mVar 1) mNil))) (g := gTupM 2 (gConsM (gSet 2) (gConsM (gSet 3) gNilM))) (c := mNot (mTru (mCall (lim 2 (m__law_alike n)) (mCons (mVar 2) (mCons (mVar 3) mNil))))) (e := mC (.int 1)) (ρ := mk4 (.tuple ds) (.tuple ds) none none) (vs := [2, 3]) (ds := pairs ds ds) (p := fun _ => false) (f := fun _ => .int 1)
    (zip_tt rfl rfl) (by rw [pairs_len]; exact Nat.le_trans (Nat.min_le_left _ _) (Nat.le_trans hl (by decide))) fun p hp => by
      obtain ⟨d, hd, rfl⟩ := pairs_same ds p hp
      refine ⟨mk4 (.tuple ds) (.tuple ds) (some (.val d)) (some (.val d)), rfl, ?_, fun x => nomatch x⟩
      have q : mCall (lim 2 (m__law_alike n)) (mCons (mVar 2) (mCons (mVar 3) mNil)) (mk4 (.tuple ds) (.tuple ds) (some (.val d)) (some (.val d))) = some (.bool true) := (call_of (cons_of (x := d) rfl (cons_of (x := d) rfl nil_of))).trans (lim2.trans (h d hd))
      exact not_of (c := true) ((tru_of q).trans rfl)
  have z2 : ((pairs ds ds).filter fun _ => false).map (fun _ => PyData.int 1) = [] := by rw [List.filter_eq_nil_iff.mpr (by simp)]; rfl
  rw [z2] at z
  refine (op_of (list_of z) (list_of (lst_of nil_of (by decide)))).trans ?_
  exact dEq_self (k := 1) (lay_list fun d hd => nomatch hd) (by decide)
/-- what is drawn is alike to itself -/
theorem alike_ok : ∀ (k n : Nat) (d : D), k ≤ 3 → VOk k d → k < n → m__law_alike n [d, d] = some (.bool true)
  | k, 0, _, _, _, h => by omega
  | k, n + 1, d, h3, v, h => by
    have l := lay_vok k d v
    match k, d, v with
    | k, .none, _ => exact alike_one n _ (by kernel_rfl) ⟨k, by omega, l⟩
    | k, .bool b, _ => exact alike_one n _ (by kernel_rfl) ⟨k, by omega, l⟩
    | k, .int i, v => exact alike_one n _ (by kernel_rfl) ⟨k, by omega, l⟩
    | k, .str z, v => exact alike_one n _ (by kernel_rfl) ⟨k, by omega, l⟩
    | k + 1, .tuple ds, v => exact alike_tup n ds (Nat.le_trans v.1 (by decide)) fun d hd => alike_ok k n d (by omega) (v.2 d hd) (by omega)
    | 0, .tuple _, v => exact v.elim
    | 0, .list _, v => exact v.elim
    | k + 1, .list _, v => exact v.elim
    | 0, .dict _, v => exact v.elim
    | k + 1, .dict _, v => exact v.elim
end DD

set_option Elab.async false
set_option linter.all false
set_option maxRecDepth 100000
set_option maxHeartbeats 4000000
namespace DD
local instance : TabQ := ⟨[]⟩
local instance : ExQ := ⟨0, 0⟩
open PySem PySem.Spec PyProof.Rows L2
/-! digits -/
def num : List Int → Nat
  | [] => 0
  | w :: r => w.toNat + 10000 * num r
def topOk : List Int → Bool
  | [] => true
  | [w] => decide (w ≠ 0)
  | _ :: w :: r => topOk (w :: r)
def isW (w : Int) : Prop := 0 ≤ w ∧ w ≤ 9999
instance (w : Int) : Decidable (isW w) := inferInstanceAs (Decidable (_ ∧ _))
theorem topOk_tail {w : Int} : ∀ {r : List Int}, topOk (w :: r) = true → topOk r = true
  | [], _ => rfl
  | _ :: _, h => h
theorem num_pos : ∀ {ds : List Int}, ds ≠ [] → topOk ds = true → (∀ w ∈ ds, isW w) → 0 < num ds
  | [], h, _, _ => absurd rfl h
  | [w], _, t, a => by
    have t : w ≠ 0 := of_decide_eq_true t
    have := (a w List.mem_cons_self).1
    show 0 < w.toNat + 10000 * 0
    omega
  | w :: v :: r, _, t, a => by
    have := num_pos (ds := v :: r) (by simp) t fun x hx => a x (List.mem_cons_of_mem _ hx)
    show 0 < w.toNat + 10000 * num (v :: r)
    omega
theorem dg_num : ∀ (ds : List Int) (f : Nat), num ds < f → topOk ds = true → (∀ w ∈ ds, isW w) → dg f (num ds) = ds
  | _, 0, h, _, _ => by omega
  | [], f + 1, _, _, _ => rfl
  | w :: r, f + 1, h, t, a => by
    have p := num_pos (ds := w :: r) (by simp) t a
    have q := a w List.mem_cons_self
    have h : w.toNat + 10000 * num r < f + 1 := h
    have p : 0 < w.toNat + 10000 * num r := p
    have i := dg_num r f (by omega) (topOk_tail t) fun x hx => a x (List.mem_cons_of_mem _ hx)
    show (if w.toNat + 10000 * num r = 0 then [] else (((w.toNat + 10000 * num r) % 10000 : Nat) : Int) :: dg f ((w.toNat + 10000 * num r) / 10000)) = w :: r
    have q1 := q.1
    have q2 := q.2
    rw [if_neg (by omega), show (w.toNat + 10000 * num r) / 10000 = num r by omega, i, show (w.toNat + 10000 * num r) % 10000 = w.toNat by omega, Int.toNat_of_nonneg q1]
theorem num_dg : ∀ (f n : Nat), n < f → num (dg f n) = n ∧ topOk (dg f n) = true ∧ ∀ w ∈ dg f n, isW w
  | 0, n, h => by omega
  | f + 1, n, h => by
    have e : dg (f + 1) n = if n = 0 then [] else ((n % 10000 : Nat) : Int) :: dg f (n / 10000) := rfl
    rw [e]
    by_cases z : n = 0
    · rw [if_pos z]
      exact ⟨z.symm, rfl, fun w hw => nomatch hw⟩
    · rw [if_neg z]
      obtain ⟨h1, h2, h3⟩ := num_dg f (n / 10000) (by omega)
      refine ⟨?_, ?_, ?_⟩
      · show ((n % 10000 : Nat) : Int).toNat + 10000 * num (dg f (n / 10000)) = n
        rw [h1]
        omega
      · cases hd : dg f (n / 10000) with
        | nil =>
          rw [hd] at h1
          have h1 : 0 = n / 10000 := h1
          show decide (((n % 10000 : Nat) : Int) ≠ 0) = true
          exact decide_eq_true (by omega)
        | cons v r => rw [hd] at h2; exact h2
      · intro w hw
        rcases List.mem_cons.mp hw with rfl | hw
        · exact ⟨by omega, by omega⟩
        · exact h3 w hw
theorem dgs_num {ds : List Int} (t : topOk ds = true) (a : ∀ w ∈ ds, isW w) : dgs (num ds) = ds := dg_num ds _ (Nat.lt_succ_self _) t a
theorem num_dgs (n : Nat) : num (dgs n) = n ∧ topOk (dgs n) = true ∧ ∀ w ∈ dgs n, isW w := num_dg _ n (Nat.lt_succ_self _)
/-! all values, so deep at most -/
def Val : Nat → D → Prop
  | _, .none => True
  | _, .bool _ => True
  | _, .int i => i.natAbs < 10 ^ 400
  | _, .str z => z.length ≤ 9999 ∧ ∀ c ∈ z.cps.toList, c ∈ rowS.cps.toList
  | k + 1, .tuple ds => ds.length ≤ 9999 ∧ ∀ d ∈ ds, Val k d
  | _, _ => False
theorem val_int {k : Nat} {i : Int} : Val k (.int i) ↔ i.natAbs < 10 ^ 400 := by cases k <;> exact Iff.rfl
theorem val_str {k : Nat} {z : Str} : Val k (.str z) ↔ z.length ≤ 9999 ∧ ∀ c ∈ z.cps.toList, c ∈ rowS.cps.toList := by cases k <;> exact Iff.rfl
theorem val_vok : ∀ (k : Nat) (d : D), VOk k d → Val k d
  | k, .none, _ => by cases k <;> trivial
  | k, .bool _, _ => by cases k <;> trivial
  | k, .int i, v => by
    have v : i.natAbs < 30000000000 := by cases k <;> exact v
    exact val_int.mpr (Nat.lt_trans v (by decide +kernel))
  | k, .str z, v => by
    have v : z.length ≤ 4 ∧ ∀ c ∈ z.cps.toList, c ∈ sgs.cps.toList := by cases k <;> exact v
    exact val_str.mpr ⟨Nat.le_trans v.1 (by decide), fun c hc => signs_row c (v.2 c hc)⟩
  | k + 1, .tuple ds, v => ⟨Nat.le_trans v.1 (by decide), fun d hd => val_vok k d (v.2 d hd)⟩
  | 0, .tuple _, h => h.elim
  | 0, .list _, h => h.elim
  | k + 1, .list _, h => h.elim
  | 0, .dict _, h => h.elim
  | k + 1, .dict _, h => h.elim
theorem Val.succ : ∀ {k : Nat} {d : D}, Val k d → Val (k + 1) d ∧ wdk (k + 1) d = wdk k d
  | k, .none, _ => ⟨by cases k <;> trivial, by cases k <;> rfl⟩
  | k, .bool _, _ => ⟨by cases k <;> trivial, by cases k <;> rfl⟩
  | k, .int i, v => ⟨val_int.mpr (val_int.mp v), (wdk_int (k + 1) i).trans (wdk_int k i).symm⟩
  | k, .str z, v => ⟨val_str.mpr (val_str.mp v), (wdk_str (k + 1) z).trans (wdk_str k z).symm⟩
  | k + 1, .tuple ds, v => by
    refine ⟨⟨v.1, fun d hd => (Val.succ (v.2 d hd)).1⟩, ?_⟩
    show 6 :: (ds.length : Int) :: ds.flatMap (wdk (k + 1)) = 6 :: (ds.length : Int) :: ds.flatMap (wdk k)
    have : ∀ es : List D, (∀ d ∈ es, Val k d) → es.flatMap (wdk (k + 1)) = es.flatMap (wdk k) := by
      intro es
      induction es with
      | nil => intro _; rfl
      | cons d r ih =>
        intro h
        rw [List.flatMap_cons, List.flatMap_cons, ih fun x hx => h x (List.mem_cons_of_mem _ hx), (Val.succ (h d List.mem_cons_self)).2]
    rw [this ds v.2]
  | 0, .tuple _, h => h.elim
  | 0, .list _, h => h.elim
  | k + 1, .list _, h => h.elim
  | 0, .dict _, h => h.elim
  | k + 1, .dict _, h => h.elim
theorem Val.mono {k : Nat} {d : D} (h : Val k d) : ∀ j : Nat, Val (k + j) d ∧ wdk (k + j) d = wdk k d
  | 0 => ⟨h, rfl⟩
  | j + 1 => by
    obtain ⟨h1, h2⟩ := Val.mono h j
    exact ⟨(h1.succ).1, (h1.succ).2.trans h2⟩
/-! reading -/
def numOk (w : Int) (ds : List Int) : Bool := ds.all (fun w => decide (isW w)) && topOk ds && decide (num ds < 10 ^ 400) && (decide (w = 3) || !ds.isEmpty)
def signOk (p : Int) : Bool := decide (0 ≤ p ∧ p < 48)
def signOf (p : Int) : Nat := rowS.cps.toList.getD p.toNat 0
def rdRow (f : List Int → Option (D × List Int)) : Nat → List Int → Option (List D × List Int)
  | 0, r => some ([], r)
  | m + 1, r => (f r).bind fun x => (rdRow f m x.2).map fun y => (x.1 :: y.1, y.2)
def rdTup : Nat → (Nat → List Int → Option (List D × List Int)) → List Int → Option (D × List Int)
  | _, f, m :: r => if isW m then (f m.toNat r).map fun x => (.tuple x.1, x.2) else none
  | _, _, [] => none
def rdInt (w : Int) : List Int → Option (D × List Int)
  | m :: r => if 0 ≤ m ∧ m.toNat ≤ r.length ∧ numOk w (r.take m.toNat) = true then some (.int (if w = 3 then (num (r.take m.toNat) : Int) else -(num (r.take m.toNat) : Int)), r.drop m.toNat) else none
  | [] => none
def rdStr : List Int → Option (D × List Int)
  | m :: r => if isW m ∧ m.toNat ≤ r.length ∧ (r.take m.toNat).all signOk = true then some (.str ⟨((r.take m.toNat).map signOf).toArray⟩, r.drop m.toNat) else none
  | [] => none
def rdk : Nat → List Int → Option (D × List Int)
  | _, [] => none
  | k, w :: ws =>
    if w = 0 then some (.none, ws)
    else if w = 1 then some (.bool false, ws)
    else if w = 2 then some (.bool true, ws)
    else if w = 3 ∨ w = 4 then rdInt w ws
    else if w = 5 then rdStr ws
    else if w = 6 then match k with
      | 0 => none
      | k + 1 => rdTup k (rdRow (rdk k)) ws
    else none
theorem rdk_6 (k : Nat) (ws : List Int) : rdk (k + 1) (6 :: ws) = rdTup k (rdRow (rdk k)) ws := rfl
theorem sign_place : ∀ c ∈ rowS.cps.toList, signOk (place c) = true ∧ signOf (place c) = c := by
  have : (rowS.cps.toList.all fun c => signOk (place c) && decide (signOf (place c) = c)) = true := by kernel_rfl
  intro c hc
  have := List.all_eq_true.mp this c hc
  rw [Bool.and_eq_true] at this
  exact ⟨this.1, of_decide_eq_true this.2⟩
theorem place_sign (p : Int) (h : signOk p = true) : signOf p ∈ rowS.cps.toList ∧ place (signOf p) = p := by
  have h := of_decide_eq_true h
  have : ((List.range 48).all fun (p : Nat) => decide (signOf (p : Int) ∈ rowS.cps.toList) && decide (place (signOf (p : Int)) = (p : Int))) = true := by kernel_rfl
  have := List.all_eq_true.mp this p.toNat (List.mem_range.mpr (by omega))
  rw [Bool.and_eq_true, Int.toNat_of_nonneg h.1] at this
  exact ⟨of_decide_eq_true this.1, of_decide_eq_true this.2⟩
theorem take_app {xs r : List Int} : (xs ++ r).take xs.length = xs := List.take_left' rfl
theorem drop_app {xs r : List Int} : (xs ++ r).drop xs.length = r := List.drop_left' rfl
/-- what is written is read -/
theorem rd_wd : ∀ (k : Nat) (d : D) (r : List Int), Val k d → rdk k (wdk k d ++ r) = some (d, r)
  | k, .none, r, _ => by cases k <;> rfl
  | k, .bool b, r, _ => by cases k <;> cases b <;> rfl
  | k, .int i, r, v => by
    have v := val_int.mp v
    obtain ⟨n1, n2, n3⟩ := num_dgs i.natAbs
    have e : wdk k (.int i) ++ r = (if i < 0 then 4 else 3) :: ((dgs i.natAbs).length : Int) :: (dgs i.natAbs ++ r) := by cases k <;> rfl
    have q : ∀ w : Int, (w = 4 ∨ w = 3) → rdk k (w :: ((dgs i.natAbs).length : Int) :: (dgs i.natAbs ++ r)) = rdInt w (((dgs i.natAbs).length : Int) :: (dgs i.natAbs ++ r)) := by
      intro w hw
      rcases hw with rfl | rfl <;> cases k <;> rfl
    rw [e, q _ (by split <;> simp)]
    have ok : numOk (if i < 0 then 4 else 3) (dgs i.natAbs) = true := by
      unfold numOk
      rw [n2, n1, decide_eq_true v, List.all_eq_true.mpr fun w hw => decide_eq_true (n3 w hw)]
      by_cases z : i < 0
      · have : dgs i.natAbs ≠ [] := fun h => by
          rw [h] at n1
          have : 0 = i.natAbs := n1
          omega
        cases hd : dgs i.natAbs with
        | nil => exact absurd hd this
        | cons a b => simp
      · rw [if_neg z]
        rfl
    show (if 0 ≤ ((dgs i.natAbs).length : Int) ∧ ((dgs i.natAbs).length : Int).toNat ≤ (dgs i.natAbs ++ r).length ∧ numOk (if i < 0 then 4 else 3) ((dgs i.natAbs ++ r).take ((dgs i.natAbs).length : Int).toNat) = true then some (PyData.int (if (if i < 0 then (4 : Int) else 3) = 3 then (num ((dgs i.natAbs ++ r).take ((dgs i.natAbs).length : Int).toNat) : Int) else -(num ((dgs i.natAbs ++ r).take ((dgs i.natAbs).length : Int).toNat) : Int)), (dgs i.natAbs ++ r).drop ((dgs i.natAbs).length : Int).toNat) else none) = _
    rw [Int.toNat_natCast, take_app, drop_app, if_pos ⟨by omega, by rw [List.length_append]; omega, ok⟩, n1]
    by_cases z : i < 0
    · rw [if_pos z, if_neg (by decide), show -((i.natAbs : Nat) : Int) = i by omega]
    · rw [if_neg z, if_pos rfl, show ((i.natAbs : Nat) : Int) = i by omega]
  | k, .str z, r, v => by
    obtain ⟨v1, v2⟩ := val_str.mp v
    have zl : z.cps.toList.length = z.length := rfl
    have e : wdk k (.str z) ++ r = 5 :: (z.length : Int) :: (z.cps.toList.map place ++ r) := by cases k <;> rfl
    have q : rdk k (5 :: (z.length : Int) :: (z.cps.toList.map place ++ r)) = rdStr ((z.length : Int) :: (z.cps.toList.map place ++ r)) := by cases k <;> rfl
    rw [e, q]
    have ln : z.length = (z.cps.toList.map place).length := by rw [List.length_map]; rfl
    show (if isW (z.length : Int) ∧ (z.length : Int).toNat ≤ (z.cps.toList.map place ++ r).length ∧ ((z.cps.toList.map place ++ r).take (z.length : Int).toNat).all signOk = true then some (PyData.str ⟨(((z.cps.toList.map place ++ r).take (z.length : Int).toNat).map signOf).toArray⟩, (z.cps.toList.map place ++ r).drop (z.length : Int).toNat) else none) = _
    rw [Int.toNat_natCast]
    have w1 : isW (z.length : Int) := ⟨by omega, by omega⟩
    rw [ln] at w1 ⊢
    rw [take_app, drop_app, if_pos ⟨w1, by rw [List.length_append]; omega, List.all_eq_true.mpr fun p hp => by
      obtain ⟨c, hc, rfl⟩ := List.mem_map.mp hp
      exact (sign_place c (v2 c hc)).1⟩]
    have m : (z.cps.toList.map place).map signOf = z.cps.toList := by
      rw [List.map_map]
      have : ∀ cs : List Nat, (∀ c ∈ cs, c ∈ rowS.cps.toList) → cs.map (signOf ∘ place) = cs := by
        intro cs
        induction cs with
        | nil => intro _; rfl
        | cons c r ih =>
          intro h
          rw [List.map_cons, ih fun x hx => h x (List.mem_cons_of_mem _ hx)]
          show signOf (place c) :: r = _
          rw [(sign_place c (h c List.mem_cons_self)).2]
      exact this _ v2
    rw [m]
  | k + 1, .tuple ds, r, v => by
    obtain ⟨v1, v2⟩ : ds.length ≤ 9999 ∧ ∀ d ∈ ds, Val k d := v
    have e : wdk (k + 1) (.tuple ds) ++ r = 6 :: (ds.length : Int) :: (ds.flatMap (wdk k) ++ r) := rfl
    rw [e, rdk_6]
    have row : ∀ es : List D, (∀ d ∈ es, Val k d) → rdRow (rdk k) es.length (es.flatMap (wdk k) ++ r) = some (es, r) := by
      intro es
      induction es with
      | nil => intro _; rfl
      | cons d s ih =>
        intro h
        rw [List.flatMap_cons, List.append_assoc, List.length_cons]
        show (rdk k (wdk k d ++ (s.flatMap (wdk k) ++ r))).bind _ = _
        rw [rd_wd k d _ (h d List.mem_cons_self)]
        show (rdRow (rdk k) s.length (s.flatMap (wdk k) ++ r)).map _ = _
        rw [ih fun x hx => h x (List.mem_cons_of_mem _ hx)]
        rfl
    show (if isW (ds.length : Int) then (rdRow (rdk k) (ds.length : Int).toNat (ds.flatMap (wdk k) ++ r)).map (fun x => (PyData.tuple x.1, x.2)) else none) = _
    rw [if_pos ⟨by omega, by omega⟩, Int.toNat_natCast, row ds v2]
    rfl
  | 0, .tuple _, _, h => h.elim
  | 0, .list _, _, h => h.elim
  | k + 1, .list _, _, h => h.elim
  | 0, .dict _, _, h => h.elim
  | k + 1, .dict _, _, h => h.elim
end DD

set_option Elab.async false
set_option linter.all false
set_option maxRecDepth 100000
set_option maxHeartbeats 4000000
namespace DD
local instance : TabQ := ⟨[]⟩
local instance : ExQ := ⟨0, 0⟩
open PySem PySem.Spec PyProof.Rows L2
theorem rdInt_wd {w : Int} {ws r : List Int} {d : D} {k : Nat} (hw : w = 3 ∨ w = 4) (h : rdInt w ws = some (d, r)) : w :: ws = wdk k d ++ r ∧ Val k d := by
  match ws, h with
  | m :: t, h =>
    have h : (if 0 ≤ m ∧ m.toNat ≤ t.length ∧ numOk w (t.take m.toNat) = true then some (PyData.int (if w = 3 then (num (t.take m.toNat) : Int) else -(num (t.take m.toNat) : Int)), t.drop m.toNat) else none) = some (d, r) := h
    split at h
    · rename_i c
      obtain ⟨c1, c2, c3⟩ := c
      cases h
      unfold numOk at c3
      simp only [Bool.and_eq_true, Bool.or_eq_true, decide_eq_true_eq, List.all_eq_true] at c3
      obtain ⟨⟨⟨a1, a2⟩, a3⟩, a4⟩ := c3
      have ln : (t.take m.toNat).length = m.toNat := by rw [List.length_take]; omega
      obtain ⟨ds, hds⟩ : ∃ ds, t.take m.toNat = ds := ⟨_, rfl⟩
      have td : t = ds ++ t.drop m.toNat := by rw [← hds, List.take_append_drop]
      rw [hds] at a1 a2 a3 a4 ln ⊢
      have dn := dgs_num a2 a1
      have key : ∀ i : Int, i.natAbs = num ds → (if i < 0 then (4 : Int) else 3) = w → w :: m :: t = wdk k (.int i) ++ t.drop m.toNat ∧ Val k (.int i) := by
        intro i hi hs
        refine ⟨?_, val_int.mpr (by rw [hi]; exact a3)⟩
        have e : wdk k (.int i) = (if i < 0 then 4 else 3) :: ((dgs i.natAbs).length : Int) :: dgs i.natAbs := by cases k <;> rfl
        rw [e, hi, dn, hs, ln, Int.toNat_of_nonneg c1]
        exact congrArg (fun z => w :: m :: z) td
      rcases hw with rfl | rfl
      · rw [if_pos rfl]
        exact key _ (by omega) (by rw [if_neg (by omega)])
      · rw [if_neg (by decide)]
        have ne : ds ≠ [] := by
          rcases a4 with h | h
          · exact absurd h (by decide)
          · intro z
            rw [z] at h
            exact nomatch h
        have p := num_pos ne a2 a1
        exact key _ (by omega) (by rw [if_pos (by omega)])
    · cases h
theorem rdStr_wd {ws r : List Int} {d : D} {k : Nat} (h : rdStr ws = some (d, r)) : 5 :: ws = wdk k d ++ r ∧ Val k d := by
  match ws, h with
  | m :: t, h =>
    have h : (if isW m ∧ m.toNat ≤ t.length ∧ (t.take m.toNat).all signOk = true then some (PyData.str ⟨((t.take m.toNat).map signOf).toArray⟩, t.drop m.toNat) else none) = some (d, r) := h
    split at h
    · rename_i c
      obtain ⟨⟨c0, c1⟩, c2, c3⟩ := c
      cases h
      have ln : (t.take m.toNat).length = m.toNat := by rw [List.length_take]; omega
      obtain ⟨ds, hds⟩ : ∃ ds, t.take m.toNat = ds := ⟨_, rfl⟩
      have td : t = ds ++ t.drop m.toNat := by rw [← hds, List.take_append_drop]
      rw [hds] at c3 ln ⊢
      have c3 := List.all_eq_true.mp c3
      have zc : (⟨(ds.map signOf).toArray⟩ : Str).cps.toList = ds.map signOf := rfl
      have zl : (⟨(ds.map signOf).toArray⟩ : Str).length = ds.length := by
        show (ds.map signOf).toArray.size = _
        rw [List.size_toArray, List.length_map]
      have pl : (ds.map signOf).map place = ds := by
        rw [List.map_map]
        have : ∀ ps : List Int, (∀ p ∈ ps, signOk p = true) → ps.map (place ∘ signOf) = ps := by
          intro ps
          induction ps with
          | nil => intro _; rfl
          | cons p s ih =>
            intro h
            rw [List.map_cons, ih fun x hx => h x (List.mem_cons_of_mem _ hx)]
            show place (signOf p) :: s = _
            rw [(place_sign p (h p List.mem_cons_self)).2]
        exact this _ c3
      have e : ∀ z : Str, wdk k (.str z) = 5 :: (z.length : Int) :: z.cps.toList.map place := fun z => by cases k <;> rfl
      refine ⟨?_, val_str.mpr ⟨by rw [zl]; omega, fun c hc => ?_⟩⟩
      · rw [e, zl, zc, pl, ln, Int.toNat_of_nonneg c0]
        exact congrArg (fun z => 5 :: m :: z) td
      · rw [zc] at hc
        obtain ⟨p, hp, rfl⟩ := List.mem_map.mp hc
        exact (place_sign p (c3 p hp)).1
    · cases h
theorem rdk_cons (k : Nat) (w : Int) (ws : List Int) : rdk k (w :: ws) = if w = 0 then some (.none, ws)
      else if w = 1 then some (.bool false, ws)
      else if w = 2 then some (.bool true, ws)
      else if w = 3 ∨ w = 4 then rdInt w ws
      else if w = 5 then rdStr ws
      else if w = 6 then (match k with
        | 0 => none
        | k + 1 => rdTup k (rdRow (rdk k)) ws)
      else none := by cases k <;> rfl
/-- what is read was written -/
theorem wd_rd : ∀ (k : Nat) (ws r : List Int) (d : D), rdk k ws = some (d, r) → ws = wdk k d ++ r ∧ Val k d
  | k, [], _, _, h => by cases k <;> cases h
  | k, w :: ws, r, d, h => by
    have g := (rdk_cons k w ws).symm.trans h
    clear h
    split at g
    · rename_i z
      subst z
      cases g
      exact ⟨by cases k <;> rfl, by cases k <;> trivial⟩
    split at g
    · rename_i z
      subst z
      cases g
      exact ⟨by cases k <;> rfl, by cases k <;> trivial⟩
    split at g
    · rename_i z
      subst z
      cases g
      exact ⟨by cases k <;> rfl, by cases k <;> trivial⟩
    split at g
    · rename_i z
      exact rdInt_wd z g
    split at g
    · rename_i z
      subst z
      exact rdStr_wd g
    split at g
    · rename_i z
      subst z
      match k, g with
      | k + 1, g =>
        match ws, g with
        | m :: t, g =>
          have h : (if isW m then (rdRow (rdk k) m.toNat t).map (fun x => (PyData.tuple x.1, x.2)) else none) = some (d, r) := g
          split at h
          · rename_i c
            obtain ⟨c0, c1⟩ := c
            have row : ∀ (n : Nat) (t r : List Int) (ds : List D), rdRow (rdk k) n t = some (ds, r) → t = ds.flatMap (wdk k) ++ r ∧ ds.length = n ∧ ∀ d ∈ ds, Val k d := by
              intro n
              induction n with
              | zero =>
                intro t r ds h
                cases h
                exact ⟨rfl, rfl, fun d hd => nomatch hd⟩
              | succ n ih =>
                intro t r ds h
                have h : ((rdk k t).bind fun x => (rdRow (rdk k) n x.2).map fun y => (x.1 :: y.1, y.2)) = some (ds, r) := h
                cases h1 : rdk k t with
                | none => rw [h1] at h; cases h
                | some x =>
                  rw [h1] at h
                  have h : ((rdRow (rdk k) n x.2).map fun y => (x.1 :: y.1, y.2)) = some (ds, r) := h
                  cases h2 : rdRow (rdk k) n x.2 with
                  | none => rw [h2] at h; cases h
                  | some y =>
                    rw [h2] at h
                    cases h
                    obtain ⟨i1, i2⟩ := wd_rd k t x.2 x.1 h1
                    obtain ⟨j1, j2, j3⟩ := ih x.2 y.2 y.1 h2
                    refine ⟨?_, by rw [List.length_cons, j2], fun d hd => ?_⟩
                    · rw [List.flatMap_cons, List.append_assoc, ← j1]
                      exact i1
                    · rcases List.mem_cons.mp hd with rfl | hd
                      · exact i2
                      · exact j3 d hd
            cases hr : rdRow (rdk k) m.toNat t with
            | none => rw [hr] at h; cases h
            | some x =>
              rw [hr] at h
              cases h
              obtain ⟨i1, i2, i3⟩ := row _ _ _ _ hr
              refine ⟨?_, by omega, i3⟩
              show 6 :: m :: t = 6 :: (x.1.length : Int) :: (x.1.flatMap (wdk k) ++ x.2)
              rw [i2, Int.toNat_of_nonneg c0]
              exact congrArg (fun z => 6 :: m :: z) i1
          · cases h
    · cases g
/-! what follows -/
theorem wd_ne (k : Nat) (d : D) (h : Val k d) : wdk k d ≠ [] := by
  intro e
  have := rd_wd k d [] h
  rw [e] at this
  cases k <;> cases this
theorem wd_inj {k : Nat} {d e : D} {r s : List Int} (hd : Val k d) (he : Val k e) (h : wdk k d ++ r = wdk k e ++ s) : d = e ∧ r = s := by
  have a := rd_wd k d r hd
  rw [h, rd_wd k e s he] at a
  cases a
  exact ⟨rfl, rfl⟩
/-- the value of which a row of words is the writing -/
def rdAll (k : Nat) (ws : List Int) : Option D := match rdk k ws with
  | some (d, []) => some d
  | _ => none
theorem rdAll_wd {k : Nat} {d : D} (h : Val k d) : rdAll k (wdk k d) = some d := by
  have := rd_wd k d [] h
  rw [List.append_nil] at this
  unfold rdAll
  rw [this]
theorem wd_rdAll {k : Nat} {d : D} {ws : List Int} (h : rdAll k ws = some d) : ws = wdk k d ∧ Val k d := by
  unfold rdAll at h
  split at h
  · rename_i e he
    cases h
    obtain ⟨a, b⟩ := wd_rd k ws [] _ he
    rw [List.append_nil] at a
    exact ⟨a, b⟩
  · cases h
/-- a writing with words behind it is none -/
theorem rdAll_more {k : Nat} {d : D} {r : List Int} (h : Val k d) (hr : r ≠ []) : rdAll k (wdk k d ++ r) = none := by
  cases e : rdAll k (wdk k d ++ r) with
  | none => rfl
  | some x =>
    obtain ⟨a, b⟩ := wd_rdAll e
    have := (wd_inj (r := r) (s := []) h b (by rw [List.append_nil]; exact a)).2
    exact absurd this hr
end DD

set_option Elab.async false
set_option linter.all false
set_option maxRecDepth 100000
set_option maxHeartbeats 4000000
namespace DD
local instance : TabQ := ⟨[]⟩
local instance : ExQ := ⟨0, 0⟩
open PySem PySem.Spec PyProof.Rows L2
/-! likeness tells whether they are the same -/
theorem flat_iff : ∀ (d e : D), (isIt "tuple" d && isIt "tuple" e) = false → isIt "list" d = false → isIt "dict" d = false → isIt "list" e = false → isIt "dict" e = false →
    (((isIt "bool" d == isIt "bool" e) && PyData.eqv d e) = true ↔ d = e) := by
  intro d e
  cases d <;> cases e <;> intro h1 h2 h3 h4 h5 <;> first
    | (simp [isIt, isName, tyName] at h1; done)
    | (simp [isIt, isName, tyName] at h2; done)
    | (simp [isIt, isName, tyName] at h3; done)
    | (simp [isIt, isName, tyName] at h4; done)
    | (simp [isIt, isName, tyName] at h5; done)
    | (rw [eqv_str]; simp [isIt, isName, tyName]; done)
    | (simp [isIt, isName, tyName, PyData.eqv]; done)
theorem alike_flat (n : Nat) (d e : D) (nt : (isIt "tuple" d && isIt "tuple" e) = false) (hd : ∃ k, k ≤ 64 ∧ Lay k d) (he : ∃ k, k ≤ 64 ∧ Lay k e) : m__law_alike (n + 1) [d, e] = some (.bool ((isIt "bool" d == isIt "bool" e) && PyData.eqv d e)) := by
  obtain ⟨k, hk, hl⟩ := hd
  obtain ⟨j, hj, hm⟩ := he
  refine mDef_rt (?_ : b__law_alike (m__law_alike n) (mk4 d e none none) = _)
  unfold b__law_alike
  have c : mAnd (mTru (mUn (dIsi "tuple") (mVar 0))) (mTru (mUn (dIsi "tuple") (mVar 1))) (mk4 d e none none) = some false := by
    rw [← nt]
    show (some (isIt "tuple" d)).bind (fun x => if x = true then some (isIt "tuple" e) else some false) = _
    cases isIt "tuple" d <;> rfl
  rw [seq_nx (ρ' := mk4 d e none none) ((if_f c).trans rfl)]
  refine ret_of ?_
  have t : mOp dEq (mUn (dIsi "bool") (mVar 0)) (mUn (dIsi "bool") (mVar 1)) (mk4 d e none none) = some (.bool (isIt "bool" d == isIt "bool" e)) := by
    refine (op_of (x := .bool (isIt "bool" d)) (y := .bool (isIt "bool" e)) rfl rfl).trans ?_
    rw [dEq_of (lay_bool.shaped (by decide)) (lay_bool.shaped (by decide)), PyData.eqv.eq_2]
  cases hb : (isIt "bool" d == isIt "bool" e) with
  | false =>
    rw [hb] at t
    rw [andV_f t]
    rfl
  | true =>
    rw [hb] at t
    rw [andV_t t]
    exact (op_of (x := d) (y := e) rfl rfl).trans (dEq_of (hl.shaped hk) (hm.shaped hj))
def pairB (p : D → D → Bool) : D → Bool
  | .tuple [d, e] => p d e
  | _ => true
theorem alike_tups (n : Nat) (ds es : List D) (hl : ds.length ≤ 9999) (hm : es.length ≤ 9999) (p : D → D → Bool) (h : ∀ d ∈ ds, ∀ e ∈ es, m__law_alike n [d, e] = some (.bool (p d e))) :
    m__law_alike (n + 1) [.tuple ds, .tuple es] = some (.bool (decide (ds.length = es.length) && (pairs ds es).all (pairB p))) := by
  refine mDef_rt (?_ : b__law_alike (m__law_alike n) (mk4 (.tuple ds) (.tuple es) none none) = _)
  unfold b__law_alike
  have c : mAnd (mTru (mUn (dIsi "tuple") (mVar 0))) (mTru (mUn (dIsi "tuple") (mVar 1))) (mk4 (.tuple ds) (.tuple es) none none) = some true := by kernel_rfl
  refine seq_rt ((if_t c).trans ?_)
  have e1 : mCall dLen (mCons (mVar 0) mNil) (mk4 (.tuple ds) (.tuple es) none none) = some (.int (ds.length : Nat)) := (call_of (cons_of (x := .tuple ds) rfl nil_of)).trans (dLen_tup (Nat.le_trans hl (by decide)))
  have e2 : mCall dLen (mCons (mVar 1) mNil) (mk4 (.tuple ds) (.tuple es) none none) = some (.int (es.length : Nat)) := (call_of (cons_of (x := .tuple es) rfl nil_of)).trans (dLen_tup (Nat.le_trans hm (by decide)))
  have t1 : mTest (mOp dNe (mCall dLen (mCons (mVar 0) mNil)) (mCall dLen (mCons (mVar 1) mNil))) (mk4 (.tuple ds) (.tuple es) none none) = some (!decide (ds.length = es.length)) := by
    refine test_of ((op_of e1 e2).trans ?_)
    rw [dNe_of (lay_int.shaped (by decide)) (lay_int.shaped (by decide)), PyData.eqv.eq_5]
    congr 3
    by_cases z : ds.length = es.length
    · rw [decide_eq_true z, z, beq_self_eq_true]
    · rw [decide_eq_false z, beq_eq_false_iff_ne]
      omega
  by_cases z : ds.length = es.length
  · rw [decide_eq_true z] at t1 ⊢
    rw [seq_nx (ρ' := mk4 (.tuple ds) (.tuple es) none none) ((if_f t1).trans rfl)]
    refine ret_of ?_
    let q : D → Bool := pairB p
    have zz := lc_if (it := mZip (mCons (mVar 0) (mCons (mVar 1) mNil))) (g := gTupM 2 (gConsM (gSet 2) (gConsM (gSet 3) gNilM))) (c := mNot (mTru (mCall (lim 2 (m__law_alike n)) (mCons (mVar 2) (mCons (mVar 3) mNil))))) (e := mC (.int 1)) (ρ := mk4 (.tuple ds) (.tuple es) none none) (vs := [2, 3]) (ds := pairs ds es) (p := fun x => !q x) (f := fun _ => .int 1)
      (zip_tt rfl rfl) (by rw [pairs_len]; exact Nat.le_trans (Nat.min_le_left _ _) (Nat.le_trans hl (by decide))) fun x hx => by
        obtain ⟨i, hi, he⟩ := List.mem_iff_getElem.mp hx
        obtain ⟨d, e, g1, g2, rfl⟩ := pairs_get (i := i) (List.getElem?_eq_some_iff.mpr ⟨hi, he⟩)
        refine ⟨mk4 (.tuple ds) (.tuple es) (some (.val d)) (some (.val e)), rfl, ?_, fun _ => rfl⟩
        have w : mCall (lim 2 (m__law_alike n)) (mCons (mVar 2) (mCons (mVar 3) mNil)) (mk4 (.tuple ds) (.tuple es) (some (.val d)) (some (.val e))) = some (.bool (p d e)) := (call_of (cons_of (x := d) rfl (cons_of (x := e) rfl nil_of))).trans (lim2.trans (h d (List.mem_of_getElem? g1) e (List.mem_of_getElem? g2)))
        exact not_of (c := p d e) ((tru_of w).trans rfl)
    refine (op_of (list_of zz) (list_of (lst_of nil_of (by decide)))).trans ?_
    have ly : Lay 1 (.list (((pairs ds es).filter fun x => !q x).map fun _ => PyData.int 1)) := lay_list fun d hd => by
      obtain ⟨x, _, rfl⟩ := List.mem_map.mp hd
      exact lay_int
    rw [dEq_of (ly.shaped (by decide)) ((lay_list (k := 0) (ds := []) fun d hd => nomatch hd).shaped (by decide)), eqv_lnil]
    congr 2
    show _ = (true && (pairs ds es).all q)
    rw [Bool.true_and]
    induction pairs ds es with
    | nil => rfl
    | cons x r ih =>
      rw [List.all_cons]
      cases hq : q x with
      | true => rw [List.filter_cons_of_neg (by rw [hq]; decide), ih, Bool.true_and]
      | false =>
        rw [List.filter_cons_of_pos (by rw [hq]; rfl)]
        rfl
  · rw [decide_eq_false z] at t1 ⊢
    rw [seq_rt ((if_t t1).trans (ret_of rfl))]
    rfl
noncomputable def same (d e : D) : Bool := @decide (d = e) (Classical.propDecidable _)
theorem same_iff {d e : D} : same d e = true ↔ d = e := ⟨fun h => @of_decide_eq_true _ (Classical.propDecidable _) h, fun h => @decide_eq_true _ (Classical.propDecidable _) h⟩
theorem bool_same {b : Bool} {d e : D} (h : b = true ↔ d = e) : b = same d e := by
  cases b with
  | true => exact (same_iff.mpr (h.mp rfl)).symm
  | false =>
    cases z : same d e with
    | false => rfl
    | true => exact absurd (h.mpr (same_iff.mp z)) (by decide)
theorem pairs_all : ∀ ds es : List D, ds.length = es.length → ((pairs ds es).all (pairB same) = true ↔ ds = es)
  | [], [], _ => ⟨fun _ => rfl, fun _ => rfl⟩
  | [], _ :: _, h => nomatch h
  | _ :: _, [], h => nomatch h
  | d :: ds, e :: es, h => by
    have ih := pairs_all ds es (Nat.succ.inj h)
    show ((same d e && (pairs ds es).all (pairB same)) = true ↔ d :: ds = e :: es)
    rw [Bool.and_eq_true, same_iff, ih]
    constructor
    · rintro ⟨rfl, rfl⟩
      rfl
    · intro h
      cases h
      exact ⟨rfl, rfl⟩
theorem not_ld : ∀ {k : Nat} {d : D}, VOk k d → isIt "list" d = false ∧ isIt "dict" d = false
  | k, .none, _ => ⟨by kernel_rfl, by kernel_rfl⟩
  | k, .bool b, _ => ⟨by kernel_rfl, by kernel_rfl⟩
  | k, .int i, _ => ⟨by kernel_rfl, by kernel_rfl⟩
  | k, .str z, _ => ⟨by kernel_rfl, by kernel_rfl⟩
  | k, .tuple z, _ => ⟨by kernel_rfl, by kernel_rfl⟩
  | 0, .list _, v => v.elim
  | k + 1, .list _, v => v.elim
  | 0, .dict _, v => v.elim
  | k + 1, .dict _, v => v.elim
theorem tup_of_is : ∀ {d : D}, isIt "tuple" d = true → ∃ ds, d = .tuple ds
  | .tuple ds, _ => ⟨ds, rfl⟩
  | .none, h => absurd h (by simp [isIt, isName, tyName])
  | .bool _, h => absurd h (by simp [isIt, isName, tyName])
  | .int _, h => absurd h (by simp [isIt, isName, tyName])
  | .str _, h => absurd h (by simp [isIt, isName, tyName])
  | .list _, h => absurd h (by simp [isIt, isName, tyName])
  | .dict _, h => absurd h (by simp [isIt, isName, tyName])
/-- likeness of what is drawn -/
theorem alike_same : ∀ (k n : Nat) (d e : D), k ≤ 3 → VOk k d → VOk k e → k < n → m__law_alike n [d, e] = some (.bool (same d e))
  | k, 0, _, _, _, _, _, h => by omega
  | k, n + 1, d, e, h3, v, u, h => by
    have l := lay_vok k d v
    have m := lay_vok k e u
    cases t : (isIt "tuple" d && isIt "tuple" e) with
    | false =>
      rw [alike_flat n d e t ⟨k, by omega, l⟩ ⟨k, by omega, m⟩]
      rw [bool_same (flat_iff d e t (not_ld v).1 (not_ld v).2 (not_ld u).1 (not_ld u).2)]
    | true =>
      rw [Bool.and_eq_true] at t
      obtain ⟨ds, rfl⟩ := tup_of_is t.1
      obtain ⟨es, rfl⟩ := tup_of_is t.2
      match k, v, u with
      | 0, v, _ => exact v.elim
      | k + 1, v, u =>
        rw [alike_tups n ds es (Nat.le_trans v.1 (by decide)) (Nat.le_trans u.1 (by decide)) same fun x hx y hy => alike_same k n x y (by omega) (v.2 x hx) (u.2 y hy) (by omega)]
        refine congrArg (fun z => some (PyData.bool z)) (bool_same ?_)
        rw [Bool.and_eq_true, decide_eq_true_eq]
        constructor
        · rintro ⟨h1, h2⟩
          rw [(pairs_all ds es h1).mp h2]
        · intro h
          cases h
          exact ⟨rfl, (pairs_all ds ds rfl).mpr rfl⟩
end DD

set_option Elab.async false
set_option linter.all false
set_option maxRecDepth 100000
set_option maxHeartbeats 4000000
/-! values as texts: a pure writing and a pure reading -/
namespace DD
local instance : TabQ := ⟨[]⟩
local instance : ExQ := ⟨0, 0⟩
open PySem PySem.Spec PyProof.Rows L2
def joinB : List (List Nat) → List Nat
  | [] => []
  | [x] => x
  | x :: y :: r => x ++ 32 :: joinB (y :: r)
def txk : Nat → D → List Nat
  | _, .none => [110, 111, 110, 101]
  | _, .bool true => [121, 101, 115]
  | _, .bool false => [110, 111]
  | _, .int i => if i < 0 then 45 :: TL.numL i.natAbs else TL.numL i.natAbs
  | _, .str z => 34 :: (z.cps.toList ++ [34])
  | k + 1, .tuple ds => 40 :: (joinB (ds.map (txk k)) ++ [41])
  | _, _ => []
def isD (c : Nat) : Bool := decide (48 ≤ c) && decide (c ≤ 57)
def canon : Bool → List Nat → Bool
  | _, [] => false
  | neg, [48] => !neg
  | _, c :: _ => decide (c ≠ 48)
def rtNum (neg : Bool) (l : List Nat) : Option (D × List Nat) :=
  if canon neg (l.takeWhile isD) = true ∧ NumText.digitsVal (l.takeWhile isD) < 10 ^ 400 then some (.int (if neg = true then -(NumText.digitsVal (l.takeWhile isD) : Int) else (NumText.digitsVal (l.takeWhile isD) : Int)), l.dropWhile isD) else none
def rtStr (l : List Nat) : Option (D × List Nat) :=
  match l.dropWhile (fun c => decide (c ≠ 34)) with
  | 34 :: r => if (l.takeWhile (fun c => decide (c ≠ 34))).length ≤ 9999 ∧ (l.takeWhile (fun c => decide (c ≠ 34))).all (fun c => decide (c ∈ rowS.cps.toList)) = true then some (.str ⟨(l.takeWhile (fun c => decide (c ≠ 34))).toArray⟩, r) else none
  | _ => none
/-- so many values at most, blanks between, then a bracket -/
def rtRow (f : List Nat → Option (D × List Nat)) : Nat → List Nat → Option (List D × List Nat)
  | 0, _ => none
  | n + 1, l => (f l).bind fun x => match x.2 with
    | 41 :: r => some ([x.1], r)
    | 32 :: r => (rtRow f n r).map fun y => (x.1 :: y.1, y.2)
    | _ => none
def rtTup (f : List Nat → Option (D × List Nat)) : List Nat → Option (D × List Nat)
  | 41 :: r => some (.tuple [], r)
  | l => (rtRow f 30000 l).map fun x => (.tuple x.1, x.2)
def rtk : Nat → List Nat → Option (D × List Nat)
  | _, [] => none
  | k, c :: l =>
    if c = 110 then match l with
      | 111 :: 110 :: 101 :: r => some (.none, r)
      | 111 :: r => some (.bool false, r)
      | _ => none
    else if c = 121 then match l with
      | 101 :: 115 :: r => some (.bool true, r)
      | _ => none
    else if c = 34 then rtStr l
    else if c = 45 then rtNum true l
    else if c = 40 then match k with
      | 0 => none
      | k + 1 => rtTup (rtk k) l
    else rtNum false (c :: l)
/-- what may stand behind a value -/
def Sep (r : List Nat) : Prop := r = [] ∨ (∃ s, r = 32 :: s) ∨ ∃ s, r = 41 :: s
theorem sep_isD {r : List Nat} (h : Sep r) : r.takeWhile isD = [] ∧ r.dropWhile isD = r := by
  rcases h with rfl | ⟨s, rfl⟩ | ⟨s, rfl⟩ <;> exact ⟨rfl, rfl⟩
theorem numL_eq (n : Nat) : TL.numL n = (Nat.toDigits 10 n).map Char.toNat := by
  unfold TL.numL
  first
    | rfl
    | simp [TL.tl_ofString, Nat.repr]
end DD

set_option Elab.async false
set_option linter.all false
set_option maxRecDepth 100000
set_option maxHeartbeats 4000000
namespace DD
local instance : TabQ := ⟨[]⟩
local instance : ExQ := ⟨0, 0⟩
open PySem PySem.Spec PyProof.Rows L2
/-! what is a value is told so -/
def mkv (v : D) (j : Int) (s2 s3 : Option Sl) : En := [some (.val v), some (.val (.int j)), s2, s3]
theorem absn (i : Int) : (if i < 0 then -i else i) = (i.natAbs : Int) := by split <;> omega
theorem iterS {a : En → Option D} {ρ : En} {z : Str} (h : a ρ = some (.str z)) : mIter a ρ = some (z.cps.toList.map fun c => .str (inL c)) := by
  unfold mIter
  rw [h]
  rfl
theorem coll_gen {α : Type} {g : D → En → Option En} {e : En → Option D} {ρ : En} {f h : α → D} : ∀ {l : List α}, (∀ x ∈ l, ∃ ρ1, g (f x) ρ = some ρ1 ∧ e ρ1 = some (h x)) → coll g mYes e ρ (l.map f) = some (l.map h)
  | [], _ => rfl
  | x :: r, k => by
    obtain ⟨ρ1, h1, h2⟩ := k x List.mem_cons_self
    have i := coll_gen (g := g) (e := e) (ρ := ρ) (f := f) (h := h) (l := r) fun y hy => k y (List.mem_cons_of_mem _ hy)
    show ((g (f x) ρ).bind fun ρ1 => (mYes ρ1).bind fun b => if b = true then (e ρ1).bind fun x => (coll g mYes e ρ (r.map f)).map fun r => x :: r else coll g mYes e ρ (r.map f)) = _
    rw [h1, i]
    show ((e ρ1).bind fun x => (some (r.map h)).map fun r => x :: r) = _
    rw [h2]
    rfl
theorem lc_all {α : Type} {it : En → Option (List D)} {g : D → En → Option En} {e : En → Option D} {ρ : En} {vs : List Nat} {f h : α → D} {l : List α} (hi : it ρ = some (l.map f)) (hz : l.length ≤ cap) (k : ∀ x ∈ l, ∃ ρ1, g (f x) (wipeM ρ vs) = some ρ1 ∧ e ρ1 = some (h x)) : mLc it g mYes e vs ρ = some (l.map h) := by
  unfold mLc
  rw [hi]
  show (if (l.map f).length ≤ cap then _ else _) = _
  rw [if_pos (by rw [List.length_map]; exact hz)]
  exact coll_gen k
theorem all_tt {α : Type} (l : List α) : dAll [.list (l.map fun _ => PyData.bool true)] = some (.bool true) := by
  have h : bools (l.map fun _ => PyData.bool true) = some (l.map fun _ => true) := by
    induction l with
    | nil => rfl
    | cons x r ih =>
      show (bools (r.map fun _ => PyData.bool true)).map (true :: ·) = _
      rw [ih]; rfl
  show (bools (l.map fun _ => PyData.bool true)).map (fun bs => PyData.bool (bs.all id)) = _
  rw [h]
  show some (PyData.bool ((l.map fun _ => true).all id)) = _
  congr 2
  rw [List.all_eq_true]
  intro b hb
  obtain ⟨_, _, e⟩ := List.mem_map.mp hb
  rw [← e]; rfl
theorem inS_row {c : Nat} (h : c ∈ rowS.cps.toList) : dInS (.str (inL c)) (.str rowS) = some (.bool true) := by
  have : ∀ c ∈ rowS.cps.toList, dInS (.str (inL c)) (.str rowS) = some (.bool true) := by
    have h2 : rowS.cps.toList.map (fun c => dInS (.str (inL c)) (.str rowS)) = rowS.cps.toList.map (fun _ => some (PyData.bool true)) := by kernel_rfl
    intro c hc
    obtain ⟨i, hi, e⟩ := List.getElem_of_mem hc
    have := congrArg (fun l => l[i]?) h2
    simp only [List.getElem?_map, List.getElem?_eq_getElem hi, Option.map_some, e] at this
    exact Option.some.inj this
  exact this c h
set_option exponentiation.threshold 600 in
theorem int_bound {j N : Int} {s2 s3 : Option Sl} (hN : ((10 ^ 400 : Nat) : Int) = N) (i : Int) (h : i.natAbs < 10 ^ 400) : mOp dLt (mCall dAbs (mCons (mVar 0) mNil)) (mC (.int N)) (mkv (.int i) j s2 s3) = some (.bool true) := by
  refine (op_of (x := .int (if i < 0 then -i else i)) rfl rfl).trans (lt_true ?_)
  rw [absn]
  rw [← hN]
  exact Int.ofNat_lt.mpr h
theorem isval_flat (m : Nat) (d : D) (j : Nat) (k : Nat) (nt : isIt "tuple" d = false) (hv : Val k d) : m__is_value_within (m + 1) [d, .int (j : Nat)] = some (.bool true) := by
  refine mDef_rt (?_ : b__is_value_within (m__is_value_within m) (mkv d (j : Nat) none none) = _)
  unfold b__is_value_within
  cases d with
  | none => exact seq_rt ((if_t (by kernel_rfl)).trans (ret_of rfl))
  | bool b => exact seq_rt ((if_t (by kernel_rfl)).trans (ret_of rfl))
  | int i =>
    rw [seq_nx (ρ' := mkv (.int i) (j : Nat) none none) ((if_f (by kernel_rfl)).trans rfl)]
    exact seq_rt ((if_t (by kernel_rfl)).trans (ret_of (int_bound (by decide +kernel) i (val_int.mp hv))))
  | str z =>
    obtain ⟨hl, hs⟩ := val_str.mp hv
    rw [seq_nx (ρ' := mkv (.str z) (j : Nat) none none) ((if_f (by kernel_rfl)).trans rfl)]
    rw [seq_nx (ρ' := mkv (.str z) (j : Nat) none none) ((if_f (by kernel_rfl)).trans rfl)]
    refine seq_rt ((if_t (by kernel_rfl)).trans (ret_of ?_))
    have g1 : mOp dLeB (mCall dLen (mCons (mVar 0) mNil)) (mC (.int (9999))) (mkv (.str z) (j : Nat) none none) = some (.bool true) := by
      refine (op_of (x := .int (z.length : Nat)) (y := .int 9999) ((call_of (cons_of (x := .str z) rfl nil_of)).trans (dLen_str (Nat.le_trans hl (by decide)))) rfl).trans ?_
      show some (PyData.bool (decide ((z.length : Int) ≤ 9999))) = _
      rw [decide_eq_true (by omega)]
    refine (andV_t g1).trans ?_
    refine (call_of (x := [.list (z.cps.toList.map fun _ => .bool true)]) (cons_of (list_of (lc_all (l := z.cps.toList) (f := fun c => .str (inL c)) (h := fun _ => .bool true) (iterS (z := z) rfl) (Nat.le_trans hl (by decide)) fun c hc => ⟨_, rfl, ?_⟩)) nil_of)).trans (all_tt _)
    exact (op_of (x := .str (inL c)) (y := .str rowS) rfl rfl).trans (inS_row (hs c hc))
  | tuple ds => cases nt
  | list ds => cases k <;> cases hv
  | dict ds => cases k <;> cases hv
theorem isval_ok : ∀ (k n : Nat) (d : D) (j : Nat), Val k d → k < n → j + k ≤ 50 → m__is_value_within n [d, .int (j : Nat)] = some (.bool true) := by
  intro k
  induction k with
  | zero =>
    intro n d j hv hn hj
    obtain ⟨m, rfl⟩ : ∃ m, n = m + 1 := ⟨n - 1, by omega⟩
    refine isval_flat m d j 0 ?_ hv
    cases d <;> first | rfl | exact hv.elim
  | succ k ih =>
    intro n d j hv hn hj
    obtain ⟨m, rfl⟩ : ∃ m, n = m + 1 := ⟨n - 1, by omega⟩
    by_cases nt : isIt "tuple" d = false
    · exact isval_flat m d j (k + 1) nt hv
    · obtain ⟨ds, rfl⟩ := tup_of_is (by simpa using nt)
      obtain ⟨hl, hd⟩ := (show ds.length ≤ 9999 ∧ ∀ d ∈ ds, Val k d from hv)
      refine mDef_rt (?_ : b__is_value_within (m__is_value_within m) (mkv (.tuple ds) (j : Nat) none none) = _)
      unfold b__is_value_within
      rw [seq_nx (ρ' := mkv (.tuple ds) (j : Nat) none none) ((if_f (by kernel_rfl)).trans rfl)]
      rw [seq_nx (ρ' := mkv (.tuple ds) (j : Nat) none none) ((if_f (by kernel_rfl)).trans rfl)]
      rw [seq_nx (ρ' := mkv (.tuple ds) (j : Nat) none none) ((if_f (by kernel_rfl)).trans rfl)]
      have c1 : mNot (mTru (mUn (dIsi "tuple") (mVar 0))) (mkv (.tuple ds) (j : Nat) none none) = some false := by kernel_rfl
      have c2 : mTest (mOp dGt (mCall dLen (mCons (mVar 0) mNil)) (mC (.int (9999)))) (mkv (.tuple ds) (j : Nat) none none) = some false := by
        refine test_of ((op_of (x := .int (ds.length : Nat)) (y := .int 9999) ((call_of (cons_of (x := .tuple ds) rfl nil_of)).trans (dLen_tup (Nat.le_trans hl (by decide)))) rfl).trans ?_)
        show some (PyData.bool (decide ((9999 : Int) < (ds.length : Int)))) = _
        rw [decide_eq_false (by omega)]
      have c3 : mTest (mOp dGe (mVar 1) (mC (.int (50)))) (mkv (.tuple ds) (j : Nat) none none) = some false := by
        refine test_of ((op_of (x := .int (j : Nat)) (y := .int 50) rfl rfl).trans ?_)
        show some (PyData.bool (decide ((50 : Int) ≤ (j : Int)))) = _
        rw [decide_eq_false (by omega)]
      rw [seq_nx (ρ' := mkv (.tuple ds) (j : Nat) none none) ((if_f ((or_f c1).trans ((or_f c2).trans c3))).trans rfl)]
      refine ret_of ?_
      refine (call_of (x := [.list (ds.map fun _ => .bool true)]) (cons_of (list_of ?_) nil_of)).trans (all_tt _)
      refine lc_all (l := ds) (f := fun d => d) (h := fun _ => .bool true) ?_ (Nat.le_trans hl (by decide)) fun d hm => ⟨_, rfl, ?_⟩
      · rw [List.map_id']; rfl
      refine (call_of (x := [d, .int ((j + 1 : Nat) : Int)]) (cons_of rfl (cons_of ?_ nil_of))).trans (lim2.trans (ih m d (j + 1) (hd d hm) (by omega) (by omega)))
      exact (op_of (x := .int (j : Nat)) (y := .int 1) rfl rfl).trans rfl
theorem is_value_ok {k : Nat} {d : D} (h : Val k d) (hk : k ≤ 50) : m_is_value [d] = some (.bool true) := by
  refine mDef_rt (?_ : b_is_value [some (.val d)] = _)
  unfold b_is_value
  exact ret_of ((call_of (x := [d, .int ((0 : Nat) : Int)]) (cons_of rfl (cons_of rfl nil_of))).trans (lim2.trans (isval_ok k 52 d 0 h (by omega) (by omega))))
end DD

set_option Elab.async false
set_option linter.all false
set_option maxRecDepth 100000
set_option maxHeartbeats 4000000
/-! values as texts: a pure reading -/
namespace DD
local instance : TabQ := ⟨[]⟩
local instance : ExQ := ⟨0, 0⟩
open PySem PySem.Spec PyProof.Rows L2
def isEnd (c : Nat) : Bool := decide (c = 32) || decide (c = 41)
def figs : List Nat → List Nat
  | 45 :: r => r
  | l => l
def txI (i : Int) : List Nat := if i < 0 then 45 :: TL.numL i.natAbs else TL.numL i.natAbs
def wi : List Nat → Int
  | 45 :: r => -(NumText.digitsVal r : Int)
  | l => (NumText.digitsVal l : Int)
def wv (w : List Nat) : Option D :=
  if w = [110, 111, 110, 101] then some .none else if w = [121, 101, 115] then some (.bool true) else if w = [110, 111] then some (.bool false)
  else if figs w ≠ [] ∧ (figs w).length ≤ 400 ∧ (figs w).all isD = true ∧ txI (wi w) = w then some (.int (wi w)) else none
def pvWord (l : List Nat) : Option (D × List Nat) := (wv (l.takeWhile fun c => !isEnd c)).map fun d => (d, l.dropWhile fun c => !isEnd c)
def pvStr (l : List Nat) : Option (D × List Nat) := match l.dropWhile (fun c => decide (c ≠ 34)) with
  | _ :: r => some (PyData.str ⟨(l.takeWhile (fun c => decide (c ≠ 34))).toArray⟩, r)
  | [] => none
def pvk : Nat → List Nat → Option (D × List Nat)
  | 0, l => if l.head? = some 34 then pvStr l.tail else pvWord l
  | k + 1, l => if l.head? = some 34 then pvStr l.tail else if l.head? = some 40 then rtTup (pvk k) l.tail else pvWord l
def Tre : Nat → D → Prop
  | _, .none => True
  | _, .bool _ => True
  | _, .int i => i.natAbs < 10 ^ 400
  | _, .str z => z.length ≤ 30000
  | k + 1, .tuple ds => ds.length ≤ 30000 ∧ ∀ d ∈ ds, Tre k d
  | _, _ => False
theorem tre_int {k : Nat} {i : Int} : Tre k (.int i) ↔ i.natAbs < 10 ^ 400 := by cases k <;> exact Iff.rfl
theorem tre_str {k : Nat} {z : Str} : Tre k (.str z) ↔ z.length ≤ 30000 := by cases k <;> exact Iff.rfl
theorem tx_i (k : Nat) (i : Int) : txk k (.int i) = txI i := by cases k <;> rfl
theorem dv_lt : ∀ (n : Nat) (cs : List Nat), cs.length = n → NumText.AllDigits cs → NumText.digitsVal cs < 10 ^ n := by
  intro n
  induction n with
  | zero => intro cs h _; rw [List.length_eq_zero_iff.mp h]; decide
  | succ n ih =>
    intro cs h a
    have ne : cs ≠ [] := by intro z; rw [z] at h; cases h
    rw [← List.dropLast_concat_getLast ne] at a ⊢
    have i := ih cs.dropLast (by rw [List.length_dropLast, h]; rfl) fun c hc => a c (List.mem_append_left _ hc)
    have b := a (cs.getLast ne) (List.mem_append_right _ (List.mem_singleton.mpr rfl))
    rw [NumText.digitsVal_snoc, Nat.pow_succ]
    omega
theorem dv_400 {cs : List Nat} (h : cs.length ≤ 400) (a : cs.all isD = true) : NumText.digitsVal cs < 10 ^ 400 :=
  Nat.lt_of_lt_of_le (dv_lt _ cs rfl fun c hc => by
    have := List.all_eq_true.mp a c hc
    unfold isD at this
    rw [Bool.and_eq_true] at this
    exact ⟨of_decide_eq_true this.1, of_decide_eq_true this.2⟩) (Nat.pow_le_pow_right (by decide) h)
theorem wi_abs (w : List Nat) : (wi w).natAbs = NumText.digitsVal (figs w) := by
  unfold wi figs
  split <;> omega
theorem wv_tx {w : List Nat} {d : D} {k : Nat} (h : wv w = some d) : w = txk k d ∧ Tre k d := by
  unfold wv at h
  split at h
  · rename_i e; cases h; exact ⟨e.trans (by cases k <;> rfl), by cases k <;> trivial⟩
  split at h
  · rename_i e; cases h; exact ⟨e.trans (by cases k <;> rfl), by cases k <;> trivial⟩
  split at h
  · rename_i e; cases h; exact ⟨e.trans (by cases k <;> rfl), by cases k <;> trivial⟩
  split at h
  · rename_i c
    obtain ⟨c1, c2, c3, c4⟩ := c
    cases h
    refine ⟨by rw [tx_i, c4], tre_int.mpr ?_⟩
    rw [wi_abs]
    exact dv_400 c2 c3
  · cases h
theorem pvWord_tx {l r : List Nat} {d : D} {k : Nat} (h : pvWord l = some (d, r)) : l = txk k d ++ r ∧ Tre k d := by
  obtain ⟨x, hx, e⟩ := map_some h
  cases e
  obtain ⟨a, b⟩ := wv_tx (k := k) hx
  refine ⟨?_, b⟩
  rw [← a, List.takeWhile_append_dropWhile]
theorem pvStr_tx {l r : List Nat} {d : D} {k : Nat} (hl : l.length ≤ 30000) (h : pvStr l = some (d, r)) : 34 :: l = txk k d ++ r ∧ Tre k d := by
  unfold pvStr at h
  split at h
  · rename_i c s e
    cases h
    have hc : c = 34 := by
      have := List.head_dropWhile_not (p := fun c => decide (c ≠ 34)) (l := l) (by rw [e]; simp)
      simp only [e, List.head_cons] at this
      simpa using this
    subst hc
    obtain ⟨ds, hds⟩ : ∃ ds, l.takeWhile (fun c => decide (c ≠ 34)) = ds := ⟨_, rfl⟩
    have td : l = ds ++ 34 :: r := by rw [← hds, ← e, List.takeWhile_append_dropWhile]
    rw [hds]
    have ex : ∀ z : Str, txk k (.str z) = 34 :: (z.cps.toList ++ [34]) := fun z => by cases k <;> rfl
    refine ⟨?_, tre_str.mpr ?_⟩
    · rw [ex, td, List.cons_append, List.append_assoc]
      rfl
    · show ds.toArray.size ≤ 30000
      rw [List.size_toArray]
      rw [td, List.length_append] at hl
      omega
  · cases h
def rowTail (g : List Nat → Option (List D × List Nat)) (d : D) : List Nat → Option (List D × List Nat)
  | 41 :: r => some ([d], r)
  | 32 :: r => (g r).map fun y => (d :: y.1, y.2)
  | _ => none
theorem rtRow_succ (f : List Nat → Option (D × List Nat)) (n : Nat) (l : List Nat) : rtRow f (n + 1) l = (f l).bind fun x => rowTail (rtRow f n) x.1 x.2 := rfl
theorem head_cons {l : List Nat} {c : Nat} (h : l.head? = some c) : l = c :: l.tail := by
  cases l with
  | nil => cases h
  | cons x r => cases h; rfl
/-- what is read was written -/
theorem tx_pv : ∀ (k : Nat) (l r : List Nat) (d : D), l.length ≤ 30000 → pvk k l = some (d, r) → l = txk k d ++ r ∧ Tre k d
  | 0, l, r, d, hl, h => by
    have h : (if l.head? = some 34 then pvStr l.tail else pvWord l) = some (d, r) := h
    split at h
    · rename_i e
      have := pvStr_tx (k := 0) (by rw [List.length_tail]; omega) h
      rw [← head_cons e] at this
      exact this
    · exact pvWord_tx h
  | k + 1, l, r, d, hl, h => by
    have g : (if l.head? = some 34 then pvStr l.tail else if l.head? = some 40 then rtTup (pvk k) l.tail else pvWord l) = some (d, r) := h
    clear h
    split at g
    · rename_i e
      have := pvStr_tx (k := k + 1) (by rw [List.length_tail]; omega) g
      rw [← head_cons e] at this
      exact this
    split at g
    · rename_i e
      have e := head_cons e
      have hl2 : l.tail.length ≤ 30000 := by rw [List.length_tail]; omega
      generalize l.tail = l2 at *
      subst e
      have row : ∀ (n : Nat) (l r : List Nat) (ds : List D), l.length ≤ 30000 → rtRow (pvk k) n l = some (ds, r) → l = joinB (ds.map (txk k)) ++ 41 :: r ∧ ds.length ≤ n ∧ ds ≠ [] ∧ ∀ d ∈ ds, Tre k d := by
        intro n
        induction n with
        | zero => intro l r ds _ h; cases h
        | succ n ih =>
          intro l r ds hl h
          rw [rtRow_succ] at h
          cases h1 : pvk k l with
          | none => rw [h1] at h; cases h
          | some x =>
            obtain ⟨d, s⟩ := x
            rw [h1] at h
            obtain ⟨i1, i2⟩ := tx_pv k l s d hl h1
            replace h : rowTail (rtRow (pvk k) n) d s = some (ds, r) := h
            unfold rowTail at h
            split at h
            · cases h
              refine ⟨i1, by rw [List.length_singleton]; omega, by simp, fun x hx => ?_⟩
              rw [List.mem_singleton.mp hx]
              exact i2
            · rename_i s2
              obtain ⟨y, h2, e⟩ := map_some h
              cases e
              obtain ⟨j1, j2, j3, j4⟩ := ih s2 y.2 y.1 (by rw [i1, List.length_append, List.length_cons] at hl; omega) h2
              refine ⟨?_, by rw [List.length_cons]; omega, by simp, fun x hx => ?_⟩
              · obtain ⟨y1, y2⟩ := y
                cases y1 with
                | nil => exact absurd rfl j3
                | cons d2 es =>
                  show l = (txk k d ++ 32 :: joinB ((d2 :: es).map (txk k))) ++ 41 :: y2
                  rw [i1, j1, List.append_assoc]
                  rfl
              · rcases List.mem_cons.mp hx with rfl | hx
                · exact i2
                · exact j4 x hx
            · cases h
      unfold rtTup at g
      split at g
      · cases g
        exact ⟨rfl, by decide, fun d hd => nomatch hd⟩
      · obtain ⟨y, h2, e⟩ := map_some g
        cases e
        obtain ⟨j1, j2, j3, j4⟩ := row 30000 l2 y.2 y.1 hl2 h2
        refine ⟨?_, j2, j4⟩
        show 40 :: l2 = 40 :: (joinB (y.1.map (txk k)) ++ [41]) ++ y.2
        rw [j1, List.cons_append, List.append_assoc]
        rfl
    · exact pvWord_tx g
end DD

set_option Elab.async false
set_option linter.all false
set_option maxRecDepth 100000
set_option maxHeartbeats 4000000
namespace DD
local instance : TabQ := ⟨[]⟩
local instance : ExQ := ⟨0, 0⟩
open PySem PySem.Spec PyProof.Rows L2
theorem sep_end {r : List Nat} (h : Sep r) : (r.takeWhile fun c => !isEnd c) = [] ∧ (r.dropWhile fun c => !isEnd c) = r := by
  rcases h with rfl | ⟨s, rfl⟩ | ⟨s, rfl⟩ <;> exact ⟨rfl, rfl⟩
theorem pvWord_of {w r : List Nat} {d : D} (h : wv w = some d) (n : ∀ c ∈ w, isEnd c = false) (s : Sep r) : pvWord (w ++ r) = some (d, r) := by
  have a : ∀ c ∈ w, (fun c => !isEnd c) c = true := fun c hc => by show (!isEnd c) = true; rw [n c hc]; rfl
  unfold pvWord
  rw [List.takeWhile_append_of_pos a, List.dropWhile_append_of_pos a, (sep_end s).1, (sep_end s).2, List.append_nil, h]
  rfl
theorem numL_hd (n : Nat) : ∃ c t, TL.numL n = c :: t ∧ 48 ≤ c ∧ c ≤ 57 := by
  cases h : TL.numL n with
  | nil => exact absurd h (TL.numL_ne _)
  | cons c t =>
    have := TL.numL_digits n c (by rw [h]; exact List.mem_cons_self)
    exact ⟨c, t, rfl, this.1, this.2⟩
theorem figs_num (n : Nat) : figs (TL.numL n) = TL.numL n := by
  obtain ⟨c, t, e, h1, h2⟩ := numL_hd n
  rw [e]
  unfold figs
  split
  · rename_i q; cases q; omega
  · rfl
theorem wi_num (n : Nat) : wi (TL.numL n) = (n : Int) := by
  have v := TL.numL_val n
  obtain ⟨c, t, e, h1, h2⟩ := numL_hd n
  rw [e] at v ⊢
  unfold wi
  split
  · rename_i q; cases q; omega
  · rw [v]
theorem all_num (n : Nat) : (TL.numL n).all isD = true := List.all_eq_true.mpr fun c hc => by
  have := TL.numL_digits n c hc
  unfold isD
  rw [decide_eq_true this.1, decide_eq_true this.2]
  rfl
theorem wv_int {i : Int} (h : i.natAbs < 10 ^ 400) : wv (txI i) = some (.int i) := by
  have ln : (TL.numL i.natAbs).length ≤ 400 := TL.numL_len (by decide) h
  have hd : ∃ c t, txI i = c :: t ∧ (c = 45 ∨ 48 ≤ c ∧ c ≤ 57) := by
    unfold txI
    split
    · exact ⟨_, _, rfl, .inl rfl⟩
    · obtain ⟨c, t, e, h1, h2⟩ := numL_hd i.natAbs
      exact ⟨c, t, e, .inr ⟨h1, h2⟩⟩
  have f : figs (txI i) = TL.numL i.natAbs := by
    unfold txI
    split
    · rfl
    · exact figs_num _
  have w : wi (txI i) = i := by
    unfold txI
    split
    · show -((NumText.digitsVal (TL.numL i.natAbs) : Nat) : Int) = i
      rw [TL.numL_val]; omega
    · rw [wi_num]; omega
  obtain ⟨c, t, e, hc⟩ := hd
  unfold wv
  rw [if_neg (by rw [e]; intro q; cases q; omega), if_neg (by rw [e]; intro q; cases q; omega), if_neg (by rw [e]; intro q; cases q; omega), f, w, if_pos ⟨TL.numL_ne _, ln, all_num _, rfl⟩]
theorem tx_sign (i : Int) : ∀ c ∈ txI i, c = 45 ∨ 48 ≤ c ∧ c ≤ 57 := by
  intro c hc
  unfold txI at hc
  split at hc
  · rcases List.mem_cons.mp hc with rfl | hc
    · exact .inl rfl
    · exact .inr (TL.numL_digits _ c hc)
  · exact .inr (TL.numL_digits _ c hc)
theorem pvk_word {k : Nat} {l : List Nat} (h1 : l.head? ≠ some 34) (h2 : l.head? ≠ some 40) : pvk k l = pvWord l := by
  cases k with
  | zero => show (if l.head? = some 34 then pvStr l.tail else pvWord l) = _; rw [if_neg h1]
  | succ k => show (if l.head? = some 34 then pvStr l.tail else if l.head? = some 40 then rtTup (pvk k) l.tail else pvWord l) = _; rw [if_neg h1, if_neg h2]
theorem pvk_str (k : Nat) (l : List Nat) : pvk k (34 :: l) = pvStr l := by cases k <;> rfl
theorem row_no : ∀ c ∈ rowS.cps.toList, c ≠ 34 := by
  have : (rowS.cps.toList.all fun c => decide (c ≠ 34)) = true := by kernel_rfl
  intro c hc
  exact of_decide_eq_true (List.all_eq_true.mp this c hc)
theorem tx_head : ∀ (k : Nat) (d : D), Val k d → ∃ c t, txk k d = c :: t ∧ c ≠ 41
  | k, .none, _ => ⟨110, [111, 110, 101], by cases k <;> rfl, by decide⟩
  | k, .bool true, _ => ⟨121, [101, 115], by cases k <;> rfl, by decide⟩
  | k, .bool false, _ => ⟨110, [111], by cases k <;> rfl, by decide⟩
  | k, .int i, _ => by
    rw [tx_i]
    unfold txI
    split
    · exact ⟨_, _, rfl, by decide⟩
    · obtain ⟨c, t, e, h1, h2⟩ := numL_hd i.natAbs
      exact ⟨c, t, e, by omega⟩
  | k, .str z, _ => ⟨34, z.cps.toList ++ [34], by cases k <;> rfl, by decide⟩
  | k + 1, .tuple ds, _ => ⟨40, _, rfl, by decide⟩
  | 0, .tuple _, h => h.elim
  | 0, .list _, h => h.elim
  | k + 1, .list _, h => h.elim
  | 0, .dict _, h => h.elim
  | k + 1, .dict _, h => h.elim
theorem rtTup_ne {f : List Nat → Option (D × List Nat)} {c : Nat} {t : List Nat} (h : c ≠ 41) : rtTup f (c :: t) = (rtRow f 30000 (c :: t)).map fun x => (.tuple x.1, x.2) := by
  unfold rtTup
  split
  · rename_i e
    cases e
    exact absurd rfl h
  · rfl
/-- what is written is read -/
theorem pv_tx : ∀ (k : Nat) (d : D) (r : List Nat), Val k d → Sep r → pvk k (txk k d ++ r) = some (d, r)
  | k, .none, r, _, s => by
    have e : txk k .none = [110, 111, 110, 101] := by cases k <;> rfl
    rw [e, pvk_word (by show some 110 ≠ some 34; decide) (by show some 110 ≠ some 40; decide)]
    exact pvWord_of rfl (by decide) s
  | k, .bool true, r, _, s => by
    have e : txk k (.bool true) = [121, 101, 115] := by cases k <;> rfl
    rw [e, pvk_word (by show some 121 ≠ some 34; decide) (by show some 121 ≠ some 40; decide)]
    exact pvWord_of rfl (by decide) s
  | k, .bool false, r, _, s => by
    have e : txk k (.bool false) = [110, 111] := by cases k <;> rfl
    rw [e, pvk_word (by show some 110 ≠ some 34; decide) (by show some 110 ≠ some 40; decide)]
    exact pvWord_of rfl (by decide) s
  | k, .int i, r, v, s => by
    have v := val_int.mp v
    have w := wv_int v
    have g := tx_sign i
    rw [tx_i]
    have ne : ∃ c t, txI i = c :: t := by
      unfold txI
      split
      · exact ⟨_, _, rfl⟩
      · obtain ⟨c, t, e, _⟩ := numL_hd i.natAbs
        exact ⟨c, t, e⟩
    obtain ⟨c, t, e⟩ := ne
    have hc := g c (by rw [e]; exact List.mem_cons_self)
    rw [pvk_word (by rw [e]; show some c ≠ some 34; intro q; cases q; omega) (by rw [e]; show some c ≠ some 40; intro q; cases q; omega)]
    refine pvWord_of w (fun c hc => ?_) s
    have := g c hc
    unfold isEnd
    rw [decide_eq_false (by omega), decide_eq_false (by omega)]
    rfl
  | k, .str z, r, v, _ => by
    obtain ⟨v1, v2⟩ := val_str.mp v
    have e : txk k (.str z) ++ r = 34 :: (z.cps.toList ++ (34 :: r)) := by
      have : txk k (.str z) = 34 :: (z.cps.toList ++ [34]) := by cases k <;> rfl
      rw [this, List.cons_append, List.append_assoc]
      rfl
    rw [e, pvk_str]
    have a : ∀ c ∈ z.cps.toList, (fun c => decide (c ≠ 34)) c = true := fun c hc => decide_eq_true (row_no c (v2 c hc))
    unfold pvStr
    rw [List.takeWhile_append_of_pos a, List.dropWhile_append_of_pos a]
    have t1 : (34 :: r).takeWhile (fun c => decide (c ≠ 34)) = [] := rfl
    have t2 : (34 :: r).dropWhile (fun c => decide (c ≠ 34)) = 34 :: r := rfl
    rw [t1, t2, List.append_nil]
  | k + 1, .tuple ds, r, v, s => by
    obtain ⟨v1, v2⟩ : ds.length ≤ 9999 ∧ ∀ d ∈ ds, Val k d := v
    have e : txk (k + 1) (.tuple ds) ++ r = 40 :: (joinB (ds.map (txk k)) ++ 41 :: r) := by
      show 40 :: (joinB (ds.map (txk k)) ++ [41]) ++ r = _
      rw [List.cons_append, List.append_assoc]
      rfl
    rw [e]
    have q : pvk (k + 1) (40 :: (joinB (ds.map (txk k)) ++ 41 :: r)) = rtTup (pvk k) (joinB (ds.map (txk k)) ++ 41 :: r) := rfl
    rw [q]
    have row : ∀ (n : Nat) (d : D) (es : List D), es.length + 1 ≤ n → (∀ x ∈ d :: es, Val k x) → rtRow (pvk k) n (joinB ((d :: es).map (txk k)) ++ 41 :: r) = some (d :: es, r) := by
      intro n d es
      induction es generalizing n d with
      | nil =>
        intro hn hv
        match n, hn with
        | n + 1, _ =>
          show (pvk k (txk k d ++ 41 :: r)).bind _ = _
          rw [pv_tx k d (41 :: r) (hv d List.mem_cons_self) (.inr (.inr ⟨r, rfl⟩))]
          rfl
      | cons d2 es ih =>
        intro hn hv
        match n, hn with
        | n + 1, hn =>
          have j : joinB ((d :: d2 :: es).map (txk k)) ++ 41 :: r = txk k d ++ (32 :: (joinB ((d2 :: es).map (txk k)) ++ 41 :: r)) := by
            show (txk k d ++ 32 :: joinB ((d2 :: es).map (txk k))) ++ 41 :: r = _
            rw [List.append_assoc]
            rfl
          rw [j]
          show (pvk k (txk k d ++ (32 :: (joinB ((d2 :: es).map (txk k)) ++ 41 :: r)))).bind _ = _
          rw [pv_tx k d _ (hv d List.mem_cons_self) (.inr (.inl ⟨_, rfl⟩))]
          show (rtRow (pvk k) n (joinB ((d2 :: es).map (txk k)) ++ 41 :: r)).map _ = _
          rw [ih n d2 (by rw [List.length_cons] at hn; omega) fun x hx => hv x (List.mem_cons_of_mem _ hx)]
          rfl
    match ds, v1, v2 with
    | [], _, _ => rfl
    | d :: es, v1, v2 =>
      have w := row 30000 d es (by rw [List.length_cons] at v1; omega) v2
      obtain ⟨c, t, hc, ne⟩ := tx_head k d (v2 d List.mem_cons_self)
      obtain ⟨u, hu⟩ : ∃ u, joinB ((d :: es).map (txk k)) ++ 41 :: r = c :: u := by
        cases es with
        | nil => exact ⟨t ++ 41 :: r, by show txk k d ++ 41 :: r = _; rw [hc]; rfl⟩
        | cons d2 es => exact ⟨_, by show (txk k d ++ 32 :: joinB ((d2 :: es).map (txk k))) ++ 41 :: r = _; rw [hc]; rfl⟩
      rw [hu] at w ⊢
      rw [rtTup_ne ne, w]
      rfl
  | 0, .tuple _, _, h, _ => h.elim
  | 0, .list _, _, h, _ => h.elim
  | k + 1, .list _, _, h, _ => h.elim
  | 0, .dict _, _, h, _ => h.elim
  | k + 1, .dict _, _, h, _ => h.elim
def pvAll (l : List Nat) : Option D := match pvk 50 l with
  | some (d, []) => some d
  | _ => none
/-- a row of values, written and read -/
theorem pv_row (k : Nat) (r : List Nat) : ∀ (n : Nat) (d : D) (es : List D), es.length + 1 ≤ n → (∀ x ∈ d :: es, Val k x) → rtRow (pvk k) n (joinB ((d :: es).map (txk k)) ++ 41 :: r) = some (d :: es, r) := by
    intro n d es
    induction es generalizing n d with
    | nil =>
      intro hn hv
      match n, hn with
      | n + 1, _ =>
        show (pvk k (txk k d ++ 41 :: r)).bind _ = _
        rw [pv_tx k d (41 :: r) (hv d List.mem_cons_self) (.inr (.inr ⟨r, rfl⟩))]
        rfl
    | cons d2 es ih =>
      intro hn hv
      match n, hn with
      | n + 1, hn =>
        have j : joinB ((d :: d2 :: es).map (txk k)) ++ 41 :: r = txk k d ++ (32 :: (joinB ((d2 :: es).map (txk k)) ++ 41 :: r)) := by
          show (txk k d ++ 32 :: joinB ((d2 :: es).map (txk k))) ++ 41 :: r = _
          rw [List.append_assoc]
          rfl
        rw [j]
        show (pvk k (txk k d ++ (32 :: (joinB ((d2 :: es).map (txk k)) ++ 41 :: r)))).bind _ = _
        rw [pv_tx k d _ (hv d List.mem_cons_self) (.inr (.inl ⟨_, rfl⟩))]
        show (rtRow (pvk k) n (joinB ((d2 :: es).map (txk k)) ++ 41 :: r)).map _ = _
        rw [ih n d2 (by rw [List.length_cons] at hn; omega) fun x hx => hv x (List.mem_cons_of_mem _ hx)]
        rfl
end DD

set_option Elab.async false
set_option linter.all false
set_option maxRecDepth 100000
set_option maxHeartbeats 4000000
namespace DD
local instance : TabQ := ⟨[]⟩
local instance : ExQ := ⟨0, 0⟩
open PySem PySem.Spec PyProof.Rows L2
/-! k83: words -/
section
variable {ρ ρ' : En} {a b : En → Option FlX} {d : D} {c : Nat}
theorem xs_nx (h : a ρ = some (.fl (.nx ρ'))) : xSeq a b ρ = b ρ' := by unfold xSeq; rw [h]; rfl
theorem xs_rt (h : a ρ = some (.fl (.rt d))) : xSeq a b ρ = some (.fl (.rt d)) := by unfold xSeq; rw [h]; rfl
theorem xs_ex (h : a ρ = some (.ex c ρ')) : xSeq a b ρ = some (.ex c ρ') := by unfold xSeq; rw [h]; rfl
theorem xi_t {m : En → Option Bool} (h : m ρ = some true) : xIf m a b ρ = a ρ := by unfold xIf; rw [h]; rfl
theorem xi_f {m : En → Option Bool} (h : m ρ = some false) : xIf m a b ρ = b ρ := by unfold xIf; rw [h]; rfl
theorem xd_rt {N : Nat} {ds : List D} (h : a (start0 N ds) = some (.fl (.rt d))) : xDef N a ds = some (.ok d) := by unfold xDef; rw [h]; rfl
theorem xd_ex {N : Nat} {ds : List D} (h : a (start0 N ds) = some (.ex c ρ')) : xDef N a ds = some (.ex c) := by unfold xDef; rw [h]; rfl
theorem xf_of {m : En → Option Fl} {f : Fl} (h : m ρ = some f) : xFl m ρ = some (.fl f) := by unfold xFl; rw [h]; rfl
theorem xset_ok {m : En → Option Rs} {i : Nat} (h : m ρ = some (.ok d)) : xSet i m ρ = some (.fl (.nx (ρ.set i (some (.val d))))) := by unfold xSet; rw [h]; rfl
theorem xset_ex {m : En → Option Rs} {i : Nat} (h : m ρ = some (.ex c)) : xSet i m ρ = some (.ex c ρ) := by unfold xSet; rw [h]; rfl
theorem xret_ok {m : En → Option Rs} (h : m ρ = some (.ok d)) : xRet m ρ = some (.fl (.rt d)) := by unfold xRet; rw [h]; rfl
theorem xret_ex {m : En → Option Rs} (h : m ρ = some (.ex c)) : xRet m ρ = some (.ex c ρ) := by unfold xRet; rw [h]; rfl
theorem xcall_of {n : Nat} {mf : List D → Option Rs} {m : En → Option (List D)} {ds : List D} (h : m ρ = some ds) (l : ds.length = n) : xCall n mf m ρ = mf ds := by unfold xCall; rw [h]; show (if ds.length = n then mf ds else none) = _; rw [if_pos l]
theorem xthen_ok {mf : List D → Option Rs} {m : En → Option Rs} (h : m ρ = some (.ok d)) : xThenX mf m ρ = mf [d] := by unfold xThenX; rw [h]; rfl
theorem xthen_ex {mf : List D → Option Rs} {m : En → Option Rs} (h : m ρ = some (.ex c)) : xThenX mf m ρ = some (.ex c) := by unfold xThenX; rw [h]; rfl
theorem xtup_ok {m : En → Option Rs} {mr : En → Option (List D)} {ds : List D} (h : m ρ = some (.ok d)) (k : mr ρ = some ds) (l : (d :: ds).length ≤ cap) : xTupC m mr ρ = some (.ok (.tuple (d :: ds))) := by unfold xTupC; rw [h]; show ((mr ρ).bind fun ds => (sized (d :: ds)).map fun x => Rs.ok (.tuple x)) = _; rw [k]; show ((sized (d :: ds)).map fun x => Rs.ok (.tuple x)) = _; rw [sized_le l]; rfl
theorem xtup_ex {m : En → Option Rs} {mr : En → Option (List D)} (h : m ρ = some (.ex c)) : xTupC m mr ρ = some (.ex c) := by unfold xTupC; rw [h]; rfl
end
def sl (l : List Nat) : Str := ⟨l.toArray⟩
def DS (l : List Nat) : D := .str (sl l)
theorem sl_len (l : List Nat) : (sl l).length = l.length := by show l.toArray.size = _; simp
theorem sl_tl (l : List Nat) : (sl l).cps.toList = l := rfl
theorem sl_inj {a b : List Nat} (h : sl a = sl b) : a = b := congrArg (fun z : Str => z.cps.toList) h
theorem sl_iff {a b : List Nat} : sl a = sl b ↔ a = b := ⟨sl_inj, fun h => by rw [h]⟩
theorem sl_of (z : Str) : sl z.cps.toList = z := TL.mk_tl z
def chk (l : List Nat) : Prop := ∀ c ∈ l, c < 1114112
theorem sl_ok {l : List Nat} (h : chk l) : PyData.strOk (sl l) = true := by
  show l.toArray.all (fun c => decide (c < 0x110000)) = true
  rw [List.all_toArray, List.all_eq_true]
  exact fun c hc => decide_eq_true (h c hc)
theorem chk_drop {l : List Nat} (h : chk l) (n : Nat) : chk (l.drop n) := fun c hc => h c (List.mem_of_mem_drop hc)
theorem chk_take {l : List Nat} (h : chk l) (n : Nat) : chk (l.take n) := fun c hc => h c (List.mem_of_mem_take hc)
theorem cut_ab (l : List Nat) (a b : Nat) : cutS (sl l) (some (a : Int)) (some (b : Int)) = sl ((l.drop a).take (b - a)) := by
  unfold cutS
  rw [HT.sIx_nat, HT.sIx_nat, sl_len, sl_tl]
  show sl _ = _
  congr 1
  by_cases h : a ≤ l.length
  · rw [Nat.min_eq_left h]
    by_cases k : b ≤ l.length
    · rw [Nat.min_eq_left k]
    · rw [Nat.min_eq_right (by omega), List.take_of_length_le (by rw [List.length_drop]; omega), List.take_of_length_le (by rw [List.length_drop]; omega)]
  · have e : min a l.length = l.length := Nat.min_eq_right (by omega)
    rw [e, List.drop_length, List.drop_eq_nil_of_le (show l.length ≤ a by omega), List.take_nil, List.take_nil]
theorem cut_a (l : List Nat) (a : Nat) : cutS (sl l) (some (a : Int)) none = sl (l.drop a) := by
  unfold cutS
  rw [HT.sIx_nat, HT.sIx_none, sl_len, sl_tl]
  show sl _ = _
  congr 1
  by_cases h : a ≤ l.length
  · rw [Nat.min_eq_left h, List.take_of_length_le (by rw [List.length_drop]; omega)]
  · rw [Nat.min_eq_right (by omega), List.drop_length, List.take_nil, List.drop_eq_nil_of_le (by omega)]
theorem cut_b (l : List Nat) (b : Nat) : cutS (sl l) none (some (b : Int)) = sl (l.take b) := by
  unfold cutS
  rw [HT.sIx_nat, HT.sIx_none, sl_len, sl_tl]
  show sl _ = _
  congr 1
  rw [List.drop_zero, Nat.sub_zero]
  by_cases h : b ≤ l.length
  · rw [Nat.min_eq_left h]
  · rw [Nat.min_eq_right (by omega), List.take_length, List.take_of_length_le (by omega)]
section
variable {ρ : En} {m a b : En → Option D} {l : List Nat} {i j : Nat}
theorem ss_ab (h : m ρ = some (DS l)) (ha : a ρ = some (.int (i : Nat))) (hb : b ρ = some (.int (j : Nat))) (hl : l.length ≤ cap) : mSlY m (mPart a) (mPart b) ρ = some (DS ((l.drop i).take (j - i))) := by
  unfold mSlY mPart
  rw [h, ha, hb]
  show (if (sl l).length ≤ cap then some (PyData.str (cutS (sl l) (some (i : Int)) (some (j : Int)))) else none) = _
  rw [sl_len, if_pos hl, cut_ab]
  rfl
theorem ss_a (h : m ρ = some (DS l)) (ha : a ρ = some (.int (i : Nat))) (hl : l.length ≤ cap) : mSlY m (mPart a) mNoPart ρ = some (DS (l.drop i)) := by
  unfold mSlY mPart
  rw [h, ha]
  show (if (sl l).length ≤ cap then some (PyData.str (cutS (sl l) (some (i : Int)) none)) else none) = _
  rw [sl_len, if_pos hl, cut_a]
  rfl
theorem ss_b (h : m ρ = some (DS l)) (hb : b ρ = some (.int (j : Nat))) (hl : l.length ≤ cap) : mSlY m mNoPart (mPart b) ρ = some (DS (l.take j)) := by
  unfold mSlY mPart
  rw [h, hb]
  show (if (sl l).length ≤ cap then some (PyData.str (cutS (sl l) none (some (j : Int)))) else none) = _
  rw [sl_len, if_pos hl, cut_b]
  rfl
theorem len_S (h : m ρ = some (DS l)) (hl : l.length ≤ cap) : mCall dLen (mCons m mNil) ρ = some (.int (l.length : Nat)) := by
  refine (call_of (cons_of h nil_of)).trans ?_
  show (if (sl l).length ≤ cap then some (PyData.int ((sl l).length : Nat)) else none) = _
  rw [sl_len, if_pos hl]
end
theorem eq_S {a b : List Nat} (h : chk a) (k : chk b) : dEq (DS a) (DS b) = some (.bool (decide (a = b))) :=
  (dEq_str (sl_ok h) (sl_ok k)).trans (by rw [decide_eq_decide.mpr sl_iff])
theorem ne_S {a b : List Nat} (h : chk a) (k : chk b) : dNe (DS a) (DS b) = some (.bool (!decide (a = b))) :=
  (dNe_str (sl_ok h) (sl_ok k)).trans (by rw [decide_eq_decide.mpr sl_iff])
theorem sl_app (a b : List Nat) : sl a ++ sl b = sl (a ++ b) := TL.ext_tl (TL.tl_append _ _)
theorem add_S {a b : List Nat} (h : a.length + b.length ≤ cap) : dAdd (DS a) (DS b) = some (DS (a ++ b)) := by
  show (if (sl a).length + (sl b).length ≤ cap then some (PyData.str (sl a ++ sl b)) else none) = _
  rw [sl_len, sl_len, if_pos h, sl_app]
  rfl
theorem starts1 (w : List Nat) : Txt.startswith (sl w) "-" = decide (w.head? = some 45) := by
  unfold Txt.startswith
  rw [StrLaws.subAt_eq, sl_len, sl_tl]
  show (decide (0 + 1 ≤ w.length) && ((w.drop 0).take 1 == [45])) = _
  cases w with
  | nil => rfl
  | cons c t =>
    show (decide (0 + 1 ≤ t.length + 1) && ([c] == [45])) = decide (some c = some 45)
    rw [decide_eq_true (by omega), Bool.true_and]
    by_cases h : c = 45
    · subst h; rfl
    · rw [decide_eq_false (by simpa using h)]
      simpa using h
theorem figs_eq (w : List Nat) : figs w = if w.head? = some 45 then w.drop 1 else w := by
  cases w with
  | nil => rfl
  | cons c t =>
    by_cases h : c = 45
    · subst h; rfl
    · rw [if_neg (by simpa using h)]
      unfold figs
      split
      · rename_i e; cases e; exact absurd rfl h
      · rfl
theorem wi_eq (w : List Nat) : wi w = if w.head? = some 45 then -(NumText.digitsVal (w.drop 1) : Int) else (NumText.digitsVal w : Int) := by
  cases w with
  | nil => rfl
  | cons c t =>
    by_cases h : c = 45
    · subst h; rfl
    · rw [if_neg (by simpa using h)]
      unfold wi
      split
      · rename_i e; cases e; exact absurd rfl h
      · rfl
theorem kget_no {kvs : List (Str × D)} {z : Str} (h : ∀ kv ∈ kvs, kv.1 ≠ z) : kget kvs z = none := by
  unfold kget
  have : kvs.find? (fun kv => kv.1 == z) = none := List.find?_eq_none.mpr fun kv hk => by
    have := h kv hk
    intro e
    exact this (eq_of_beq e)
  rw [this]
theorem dig_in (c : Nat) : dInS (.str (inL c)) (.str ("0123456789" : Str)) = some (.bool (isD c)) := by
  show some (PyData.bool (decide (c ∈ [48, 49, 50, 51, 52, 53, 54, 55, 56, 57]))) = _
  congr 2
  unfold isD
  rw [← Bool.decide_and]
  refine decide_eq_decide.mpr ?_
  simp only [List.mem_cons, List.not_mem_nil, or_false]
  omega
theorem all_bs {α : Type} (q : α → Bool) (l : List α) : dAll [.list (l.map fun x => PyData.bool (q x))] = some (.bool (l.all q)) := by
  have h : bools (l.map fun x => PyData.bool (q x)) = some (l.map q) := by
    induction l with
    | nil => rfl
    | cons x r ih =>
      show (bools (r.map fun x => PyData.bool (q x))).map (q x :: ·) = _
      rw [ih]; rfl
  show (bools (l.map fun x => PyData.bool (q x))).map (fun bs => PyData.bool (bs.all id)) = _
  rw [h]
  show some (PyData.bool ((l.map q).all id)) = _
  congr 2
  rw [List.all_map]
  rfl
theorem tl_strI (i : Int) : strI i = sl (txI i) := by
  refine TL.ext_tl ?_
  show TL.tl (Str.ofString (toString i)) = txI i
  unfold txI
  cases i with
  | ofNat n =>
    rw [if_neg (by show ¬ ((n : Nat) : Int) < 0; omega)]
    exact TL.tl_num n
  | negSucc n =>
    rw [if_pos (Int.negSucc_lt_zero n)]
    have e : toString (Int.negSucc n) = "-" ++ toString ((((n + 1 : Nat)) : Int)) := rfl
    rw [TL.tl_ofString, e, String.toList_append, List.map_append, ← TL.tl_ofString (toString (((n + 1 : Nat)) : Int)), TL.tl_num]
    rfl
theorem log_ok {i : Int} (h : i.natAbs < 10 ^ 400) : i.natAbs.log2 < 1920 := by
  by_cases z : i.natAbs = 0
  · rw [z]; decide
  · refine (Nat.log2_lt z).mpr (Nat.lt_trans h ?_)
    decide +kernel
theorem alld {cs : List Nat} (a : cs.all isD = true) : NumText.AllDigits cs := fun c hc => by
  have := List.all_eq_true.mp a c hc
  unfold isD at this
  rw [Bool.and_eq_true] at this
  exact ⟨of_decide_eq_true this.1, of_decide_eq_true this.2⟩
theorem int_w {w : List Nat} (h1 : figs w ≠ []) (h2 : (figs w).length ≤ 400) (h3 : (figs w).all isD = true) : dIntA [DS w] = some (.int (wi w)) := by
  rw [figs_eq] at h1 h2 h3
  have lw : w.length ≤ 640 := by
    split at h2
    · rw [List.length_drop] at h2; omega
    · omega
  show (if (sl w).length ≤ 640 then (intText? (sl w)).map PyData.int else none) = _
  rw [sl_len, if_pos lw, wi_eq]
  by_cases c : w.head? = some 45
  · rw [if_pos c] at h1 h2 h3 ⊢
    have e := head_cons c
    rw [PySem.intText_neg (x := sl w) (cs := w.drop 1) (by rw [sl_tl, List.drop_one]; exact e) (alld h3) h1 (by rw [sl_len]; omega)]
    rfl
  · rw [if_neg c] at h1 h2 h3 ⊢
    rw [PySem.intText_digits (x := sl w) (alld h3) h1 (by rw [sl_len]; omega)]
    rfl
def rsW : Option D → Rs
  | some d => .ok d
  | none => .ex 0
theorem kv_none (w : List Nat) (h1 : w ≠ [110, 111, 110, 101]) (h2 : w ≠ [121, 101, 115]) (h3 : w ≠ [110, 111]) : kget kv_WORDS (sl w) = none := by
  refine kget_no fun kv hk => ?_
  unfold kv_WORDS at hk
  rcases List.mem_cons.mp hk with rfl | hk
  · exact fun e => h1 (congrArg (fun z : Str => z.cps.toList) e).symm
  rcases List.mem_cons.mp hk with rfl | hk
  · exact fun e => h2 (congrArg (fun z : Str => z.cps.toList) e).symm
  rcases List.mem_cons.mp hk with rfl | hk
  · exact fun e => h3 (congrArg (fun z : Str => z.cps.toList) e).symm
  cases hk
theorem txI_chk (i : Int) : chk (txI i) := fun c hc => by
  have := tx_sign i c hc
  omega
theorem word_ok (w : List Nat) (hl : w.length ≤ 29000) (hc : chk w) : m__word_value [DS w] = some (rsW (wv w)) := by
  unfold wv
  by_cases z1 : w = [110, 111, 110, 101]
  · subst z1; rw [if_pos rfl]; exact xd_rt (xs_rt rfl)
  rw [if_neg z1]
  by_cases z2 : w = [121, 101, 115]
  · subst z2; rw [if_pos rfl]; exact xd_rt (xs_rt rfl)
  rw [if_neg z2]
  by_cases z3 : w = [110, 111]
  · subst z3; rw [if_pos rfl]; exact xd_rt (xs_rt rfl)
  rw [if_neg z3]
  have kn := kv_none w z1 z2 z3
  have lc : w.length ≤ cap := Nat.le_trans hl (by decide)
  have s1 : xFl (sIf (mTest (mUn (dInK kv_WORDS) (mVar 0))) (sRet (mUn (dGetK kv_WORDS) (mVar 0))) sNext) [some (.val (DS w)), none, none, none] = some (.fl (.nx [some (.val (DS w)), none, none, none])) := by
    refine xf_of ((if_f (test_of ((un_of (x := DS w) rfl).trans ?_))).trans rfl)
    show some (PyData.bool (kget kv_WORDS (sl w)).isSome) = _
    rw [kn]; rfl
  have s2 : xFl (sAsg (mIfE (mTru (mOp dStartsT (mVar 0) (mC (.str ("-" : Str))))) (mSlY (mVar 0) (mPart (mC (.int 1))) mNoPart) (mVar 0)) (gSet 1)) [some (.val (DS w)), none, none, none] = some (.fl (.nx [some (.val (DS w)), some (.val (DS (figs w))), none, none])) := by
    refine xf_of ((asg_set (d := DS (figs w)) ?_).trans rfl)
    have t : mTru (mOp dStartsT (mVar 0) (mC (.str ("-" : Str)))) [some (.val (DS w)), none, none, none] = some (decide (w.head? = some 45)) := by
      refine (tru_of (x := .bool (decide (w.head? = some 45))) ((op_of (x := DS w) (y := .str "-") rfl rfl).trans ?_)).trans rfl
      show some (PyData.bool (Txt.startswith (sl w) "-")) = _
      rw [starts1]
    rw [figs_eq]
    by_cases c : w.head? = some 45
    · rw [decide_eq_true c] at t
      rw [if_pos c]
      exact (ifE_t t).trans (ss_a (i := 1) rfl rfl lc)
    · rw [decide_eq_false c] at t
      rw [if_neg c]
      exact (ifE_f t).trans rfl
  have lf : (figs w).length ≤ w.length := by
    rw [figs_eq]
    split
    · rw [List.length_drop]; omega
    · exact Nat.le_refl _
  refine (?_ : xDef 4 b__word_value [DS w] = _)
  have e0 : start0 4 [DS w] = [some (.val (DS w)), none, none, none] := rfl
  generalize hρ : ([some (.val (DS w)), some (.val (DS (figs w))), none, none] : En) = ρ at s2
  have v1 : mVar 1 ρ = some (DS (figs w)) := by rw [← hρ]; rfl
  have t3 : mOr (mNot (mTru (mVar 1))) (mOr (mTest (mOp dGt (mCall dLen (mCons (mVar 1) mNil)) (mC (.int (400))))) (mNot (mTru (mCall dAll (mCons (mList (mLc (mIter (mVar 1)) (gSet 3) mYes (mOp dInS (mVar 3) (mC (.str ("0123456789" : Str)))) [3])) mNil))))) ρ = some (!decide (figs w ≠ [] ∧ (figs w).length ≤ 400 ∧ (figs w).all isD = true)) := by
    have a1 : mTru (mVar 1) ρ = some (decide (figs w ≠ [])) := by
      refine (tru_of v1).trans ?_
      show (if (sl (figs w)).length ≤ cap then some (((sl (figs w)).length : Int) != 0) else none) = _
      rw [sl_len, if_pos (Nat.le_trans lf lc)]
      congr 1
      cases figs w with
      | nil => rfl
      | cons c t =>
        rw [decide_eq_true (by simp)]
        exact bne_iff_ne.mpr (by rw [List.length_cons]; omega)
    have a2 : mTest (mOp dGt (mCall dLen (mCons (mVar 1) mNil)) (mC (.int (400)))) ρ = some (decide ((400 : Int) < ((figs w).length : Nat))) := test_of ((op_of (y := .int 400) (len_S v1 (Nat.le_trans lf lc)) rfl).trans rfl)
    have a3 : mTru (mCall dAll (mCons (mList (mLc (mIter (mVar 1)) (gSet 3) mYes (mOp dInS (mVar 3) (mC (.str ("0123456789" : Str)))) [3])) mNil)) ρ = some ((figs w).all isD) := by
      refine (tru_of (x := .bool ((figs w).all isD)) ((call_of (cons_of (list_of (lc_all (l := figs w) (f := fun c => .str (inL c)) (h := fun c => .bool (isD c)) (iterS v1) (Nat.le_trans lf lc) fun c hc => ⟨_, rfl, ?_⟩)) nil_of)).trans (all_bs isD _))).trans rfl
      exact (op_of (x := .str (inL c)) (y := .str "0123456789") (by rw [← hρ]; rfl) rfl).trans (dig_in c)
    by_cases c1 : figs w ≠ []
    · rw [decide_eq_true c1] at a1
      rw [or_f ((not_of a1).trans rfl)]
      by_cases c2 : (figs w).length ≤ 400
      · rw [decide_eq_false (by omega)] at a2
        rw [or_f a2, not_of a3]
        by_cases c3 : (figs w).all isD = true
        · rw [c3, decide_eq_true ⟨c1, c2, rfl⟩]
        · rw [decide_eq_false (fun h => c3 h.2.2)]
          rw [Bool.not_eq_true] at c3
          rw [c3]
      · rw [decide_eq_true (by omega)] at a2
        rw [or_t a2, decide_eq_false (fun h => c2 h.2.1)]
        rfl
    · rw [decide_eq_false c1] at a1
      rw [or_t ((not_of a1).trans rfl), decide_eq_false (fun h => c1 h.1)]
      rfl
  by_cases c : figs w ≠ [] ∧ (figs w).length ≤ 400 ∧ (figs w).all isD = true
  · obtain ⟨c1, c2, c3⟩ := c
    rw [decide_eq_true ⟨c1, c2, c3⟩] at t3
    have ab : (wi w).natAbs < 10 ^ 400 := by rw [wi_abs]; exact dv_400 c2 c3
    have s4 : xFl (sAsg (mCall dIntA (mCons (mVar 0) mNil)) (gSet 2)) ρ = some (.fl (.nx [some (.val (DS w)), some (.val (DS (figs w))), some (.val (.int (wi w))), none])) := by
      refine xf_of ((asg_set (d := .int (wi w)) ?_).trans (by rw [← hρ]; rfl))
      exact (call_of (cons_of (x := DS w) (by rw [← hρ]; rfl) nil_of)).trans (int_w c1 c2 c3)
    have t5 : mTest (mOp dNe (mCall dStrA (mCons (mVar 2) mNil)) (mVar 0)) [some (.val (DS w)), some (.val (DS (figs w))), some (.val (.int (wi w))), none] = some (!decide (txI (wi w) = w)) := by
      refine test_of ((op_of (x := DS (txI (wi w))) (y := DS w) ((call_of (cons_of (x := .int (wi w)) rfl nil_of)).trans ?_) rfl).trans (ne_S (txI_chk _) hc))
      show (if (wi w).natAbs.log2 < 1920 then some (PyData.str (strI (wi w))) else none) = _
      rw [if_pos (log_ok ab), tl_strI]
      rfl
    by_cases d : txI (wi w) = w
    · rw [if_pos ⟨c1, c2, c3, d⟩]
      rw [decide_eq_true d] at t5
      refine xd_rt ?_
      rw [e0]
      unfold b__word_value
      rw [xs_nx s1, xs_nx s2, xs_nx ((xi_f t3).trans (xf_of rfl)), xs_nx s4, xs_nx ((xi_f t5).trans (xf_of rfl))]
      exact xf_of (ret_of rfl)
    · rw [if_neg fun h => d h.2.2.2]
      rw [decide_eq_false d] at t5
      refine xd_ex (ρ' := [some (.val (DS w)), some (.val (DS (figs w))), some (.val (.int (wi w))), none]) ?_
      rw [e0]
      unfold b__word_value
      rw [xs_nx s1, xs_nx s2, xs_nx ((xi_f t3).trans (xf_of rfl)), xs_nx s4]
      exact xs_ex ((xi_t t5).trans rfl)
  · rw [if_neg fun h => c ⟨h.1, h.2.1, h.2.2.1⟩]
    rw [decide_eq_false c] at t3
    refine xd_ex (ρ' := ρ) ?_
    rw [e0]
    unfold b__word_value
    rw [xs_nx s1, xs_nx s2]
    exact xs_ex ((xi_t t3).trans rfl)
end DD

set_option Elab.async false
set_option linter.all false
set_option maxRecDepth 100000
set_option maxHeartbeats 4000000
namespace DD
local instance : TabQ := ⟨[]⟩
local instance : ExQ := ⟨0, 0⟩
open PySem PySem.Spec PyProof.Rows L2
/-! k83: the value at a place -/
def rvE (n : Nat) : Option (D × List Nat) → Rs
  | some (d, r) => .ok (.tuple [d, .int ((n - r.length : Nat) : Int)])
  | none => .ex 0
theorem chk1 {c : Nat} (h : c < 1114112) : chk [c] := fun x hx => by rw [List.mem_singleton.mp hx]; exact h
theorem take1_iff {l : List Nat} {c : Nat} : l.take 1 = [c] ↔ l.head? = some c := by
  cases l with
  | nil => simp
  | cons x r => simp
theorem tw_at (p : Nat → Bool) : ∀ (m : Nat) (l : List Nat), (∀ v, v < m → ∀ c, l[v]? = some c → p c = true) → (∃ c, l[m]? = some c ∧ p c = false) → l.takeWhile p = l.take m ∧ l.dropWhile p = l.drop m := by
  intro m
  induction m with
  | zero =>
    intro l _ h
    obtain ⟨c, h1, h2⟩ := h
    cases l with
    | nil => cases h1
    | cons x r =>
      have : x = c := by simpa using h1
      subst this
      rw [List.takeWhile_cons, List.dropWhile_cons, h2]
      exact ⟨rfl, rfl⟩
  | succ m ih =>
    intro l h k
    cases l with
    | nil => obtain ⟨c, h1, _⟩ := k; cases h1
    | cons x r =>
      have hx : p x = true := h 0 (Nat.succ_pos _) x rfl
      obtain ⟨i1, i2⟩ := ih r (fun v hv c hc => h (v + 1) (Nat.succ_lt_succ hv) c (by simpa using hc)) (by obtain ⟨c, h1, h2⟩ := k; exact ⟨c, by simpa using h1, h2⟩)
      rw [List.takeWhile_cons, List.dropWhile_cons, hx, if_pos rfl, if_pos rfl, i1, i2]
      exact ⟨rfl, rfl⟩
theorem dw_nil (p : Nat → Bool) : ∀ (l : List Nat), (∀ c ∈ l, p c = true) → l.dropWhile p = []
  | [], _ => rfl
  | x :: r, h => by
    rw [List.dropWhile_cons, h x List.mem_cons_self, if_pos rfl]
    exact dw_nil p r fun c hc => h c (List.mem_cons_of_mem _ hc)
theorem tw_take (p : Nat → Bool) (l : List Nat) : l.take (l.takeWhile p).length = l.takeWhile p := by
  have h := List.takeWhile_append_dropWhile (p := p) (l := l)
  calc l.take (l.takeWhile p).length = (l.takeWhile p ++ l.dropWhile p).take (l.takeWhile p).length := by rw [h]
    _ = _ := List.take_left
theorem tw_len (p : Nat → Bool) (l : List Nat) : (l.takeWhile p).length + (l.dropWhile p).length = l.length := by
  have h := congrArg List.length (List.takeWhile_append_dropWhile (p := p) (l := l))
  rw [List.length_append] at h
  exact h
theorem from_nat (n k : Nat) : PySem.fromIndex n ((k : Nat) : Int) = k := by
  unfold PySem.fromIndex
  rw [if_neg (by omega)]
  omega
theorem quS : ("\"" : Str) = sl [34] := by kernel_rfl
theorem opS : ("(" : Str) = sl [40] := by kernel_rfl
theorem clS : (")" : Str) = sl [41] := by kernel_rfl
theorem blS : (" " : Str) = sl [32] := by kernel_rfl
theorem endsS : (" )" : Str) = sl [32, 41] := by kernel_rfl
def mkV (T : List Nat) (i j : Nat) (s3 s4 : Option Sl) : En := [some (.val (DS T)), some (.val (.int (i : Nat))), some (.val (.int (j : Nat))), s3, s4]
abbrev cnd : En → Option Bool := mAnd (mTest (mOp dLt (mVar 4) (mCall dLen (mCons (mVar 0) mNil)))) (mTest (mOp dNotInS (mOp dIx (mVar 0) (mVar 4)) (mC (.str (" )" : Str)))))
abbrev bdy : En → Option Fl := sAugI 4 (fun i j => i + j) (mC (.int 1))
def endAt (T : List Nat) (e : Nat) : Nat := e + ((T.drop e).takeWhile fun c => !isEnd c).length
theorem notin_end (c : Nat) : dNotInS (.str (inL c)) (.str (" )" : Str)) = some (.bool (!isEnd c)) := by
  rw [endsS]
  show some (PyData.bool (!decide (c ∈ [32, 41]))) = _
  congr 3
  unfold isEnd
  rw [← Bool.decide_or]
  refine decide_eq_decide.mpr ?_
  simp only [List.mem_cons, List.not_mem_nil, or_false]
theorem end_loop (T : List Nat) (hl : T.length ≤ 29000) (i j : Nat) (s3 : Option Sl) : ∀ (f e : Nat), e ≤ T.length → T.length - e < f →
    whl cnd bdy f (mkV T i j s3 (some (.val (.int (e : Nat))))) = some (.nx (mkV T i j s3 (some (.val (.int (endAt T e : Nat))))))
  | 0, e, _, h => by omega
  | f + 1, e, he, h => by
    have lc : T.length ≤ cap := Nat.le_trans hl (by decide)
    have c1 : mTest (mOp dLt (mVar 4) (mCall dLen (mCons (mVar 0) mNil))) (mkV T i j s3 (some (.val (.int (e : Nat))))) = some (decide ((e : Int) < (T.length : Nat))) :=
      test_of ((op_of (x := .int (e : Nat)) rfl (len_S (l := T) rfl lc)).trans rfl)
    by_cases z : e = T.length
    · rw [decide_eq_false (by omega)] at c1
      rw [whl_f (and_f c1)]
      have : endAt T e = e := by unfold endAt; rw [z, List.drop_length]; rfl
      rw [this]
    · rw [decide_eq_true (by omega)] at c1
      have lt : e < T.length := by omega
      have hd : T.drop e = T[e] :: T.drop (e + 1) := List.drop_eq_getElem_cons lt
      generalize hc : T[e] = c at hd
      have ge : T[e]? = some c := by rw [List.getElem?_eq_getElem lt, hc]
      have c2 : mTest (mOp dNotInS (mOp dIx (mVar 0) (mVar 4)) (mC (.str (" )" : Str)))) (mkV T i j s3 (some (.val (.int (e : Nat))))) = some (!isEnd c) := by
        refine test_of ((op_of (x := .str (inL c)) ((op_of (x := DS T) (y := .int (e : Nat)) rfl rfl).trans ?_) rfl).trans (notin_end c))
        show (if (sl T).length ≤ cap then (atI T (e : Int)).map (fun c => PyData.str ⟨#[c]⟩) else none) = _
        rw [sl_len, if_pos lc, atI_nat ge]
        rfl
      by_cases q : isEnd c = true
      · rw [q] at c2
        rw [whl_f ((and_t c1).trans c2)]
        have : endAt T e = e := by
          unfold endAt
          rw [hd, List.takeWhile_cons, q]
          rfl
        rw [this]
      · rw [Bool.not_eq_true] at q
        rw [q] at c2
        have b : bdy (mkV T i j s3 (some (.val (.int (e : Nat))))) = some (.nx (mkV T i j s3 (some (.val (.int ((e + 1 : Nat) : Int)))))) := rfl
        rw [whl_t ((and_t c1).trans c2) b, end_loop T hl i j s3 f (e + 1) (by omega) (by omega)]
        have : endAt T (e + 1) = endAt T e := by
          unfold endAt
          rw [hd, List.takeWhile_cons, q]
          show e + 1 + _ = e + (_ + 1)
          omega
        rw [this]
theorem find_ok (T : List Nat) (i : Nat) : (Txt.find3 (sl T) ("\"" : Str) ((i : Nat) : Int) = -1 ∧ pvStr (T.drop i) = none) ∨
    ∃ k : Nat, Txt.find3 (sl T) ("\"" : Str) ((i : Nat) : Int) = (k : Int) ∧ i ≤ k ∧ k < T.length ∧ pvStr (T.drop i) = some (DS ((T.drop i).take (k - i)), T.drop (k + 1)) := by
  rw [quS]
  rcases StrLaws.find3_spec (sl T) 34 ((i : Nat) : Int) with ⟨h1, h2⟩ | ⟨k, h1, h2, h3, h4, h5⟩
  · refine .inl ⟨h1, ?_⟩
    rw [from_nat, sl_len] at h2
    unfold pvStr
    rw [dw_nil (fun c => decide (c ≠ 34)) (T.drop i) fun c hc => ?_]
    refine decide_eq_true fun e => ?_
    subst e
    obtain ⟨v, hv, e⟩ := List.getElem_of_mem hc
    rw [List.length_drop] at hv
    rw [List.getElem_drop] at e
    refine h2 (i + v) (by omega) (by omega) (StrLaws.getD_of_getElem? ?_)
    rw [sl_tl, List.getElem?_eq_getElem (by omega), e]
  · rw [from_nat] at h2 h5
    rw [sl_len] at h3
    refine .inr ⟨k, h1, h2, h3, ?_⟩
    have gk := StrLaws.getElem?_of_getD (x := sl T) (by rw [sl_len]; exact h3) h4
    rw [sl_tl] at gk
    obtain ⟨e1, e2⟩ := tw_at (fun c => decide (c ≠ 34)) (k - i) (T.drop i) (fun v hv c hc => by
      rw [List.getElem?_drop] at hc
      refine decide_eq_true fun e => ?_
      subst e
      exact h5 (i + v) (by omega) (by omega) (StrLaws.getD_of_getElem? hc)) ⟨34, by rw [List.getElem?_drop, show i + (k - i) = k by omega]; exact gk, rfl⟩
    unfold pvStr
    rw [e1, e2, List.drop_drop, show i + (k - i) = k by omega]
    have hd : T.drop k = T[k] :: T.drop (k + 1) := List.drop_eq_getElem_cons h3
    rw [hd]
    rfl
theorem pv_word0 {k : Nat} {l : List Nat} (h1 : l.head? ≠ some 34) (h2 : l.head? ≠ some 40 ∨ k = 0) : pvk k l = pvWord l := by
  rcases h2 with h2 | rfl
  · exact pvk_word h1 h2
  · show (if l.head? = some 34 then pvStr l.tail else pvWord l) = _
    rw [if_neg h1]
theorem val_at_ok (T : List Nat) (hl : T.length ≤ 29000) (hc : chk T) (k j i : Nat) (hj : j + k = 50) (hi : i ≤ T.length) (r1 r2 : List D → Option Rs)
    (hr : ∀ k', k = k' + 1 → i + 1 ≤ T.length → r2 [DS T, .int ((i + 1 : Nat) : Int), .int ((j + 1 : Nat) : Int)] = some (rvE T.length (rtTup (pvk k') (T.drop (i + 1))))) :
    xDef 5 (b__value_at r1 r2) [DS T, .int (i : Nat), .int (j : Nat)] = some (rvE T.length (pvk k (T.drop i))) := by
  have lc : T.length ≤ cap := Nat.le_trans hl (by decide)
  have e0 : start0 5 [DS T, .int (i : Nat), .int (j : Nat)] = mkV T i j none none := rfl
  have p1 : ∀ s3 s4, mOp dAdd (mVar 1) (mC (.int 1)) (mkV T i j s3 s4) = some (.int ((i + 1 : Nat) : Int)) := fun s3 s4 => rfl
  have s1 : xFl (sAsg (mSlY (mVar 0) (mPart (mVar 1)) (mPart (mOp dAdd (mVar 1) (mC (.int 1))))) (gSet 3)) (mkV T i j none none) = some (.fl (.nx (mkV T i j (some (.val (DS ((T.drop i).take 1)))) none))) := by
    refine xf_of ((asg_set (ss_ab (i := i) (j := i + 1) (l := T) rfl rfl (p1 _ _) lc)).trans ?_)
    rw [show i + 1 - i = 1 by omega]
    rfl
  have ck := chk_take (chk_drop hc i) 1
  have t1 : ∀ s4, mTest (mOp dEq (mVar 3) (mC (.str ("\"" : Str)))) (mkV T i j (some (.val (DS ((T.drop i).take 1)))) s4) = some (decide ((T.drop i).head? = some 34)) := fun s4 => by
    refine test_of ((op_of (x := DS ((T.drop i).take 1)) (y := DS [34]) rfl (by rw [quS]; rfl)).trans ((eq_S ck (chk1 (by decide))).trans ?_))
    rw [decide_eq_decide.mpr take1_iff]
  have t2 : ∀ s4, mTest (mOp dEq (mVar 3) (mC (.str ("(" : Str)))) (mkV T i j (some (.val (DS ((T.drop i).take 1)))) s4) = some (decide ((T.drop i).head? = some 40)) := fun s4 => by
    refine test_of ((op_of (x := DS ((T.drop i).take 1)) (y := DS [40]) rfl (by rw [opS]; rfl)).trans ((eq_S ck (chk1 (by decide))).trans ?_))
    rw [decide_eq_decide.mpr take1_iff]
  have t3 : ∀ s3 s4, mTest (mOp dLt (mVar 2) (mC (.int (50)))) (mkV T i j s3 s4) = some (decide ((j : Int) < 50)) := fun s3 s4 => rfl
  have tl : (T.drop i).tail = T.drop (i + 1) := by rw [List.tail_drop]
  have ne : ∀ c, (T.drop i).head? = some c → i + 1 ≤ T.length := fun c h => by
    by_cases z : i + 1 ≤ T.length
    · exact z
    · rw [List.drop_eq_nil_of_le (by omega)] at h; cases h
  by_cases q : (T.drop i).head? = some 34
  · have pe : pvk k (T.drop i) = pvStr (T.drop (i + 1)) := by
      rw [head_cons q, pvk_str, tl]
    rw [pe]
    have t1 := t1 none
    rw [decide_eq_true q] at t1
    rcases find_ok T (i + 1) with ⟨f1, f2⟩ | ⟨m, f1, f2, f3, f4⟩
    · rw [f2]
      have s2 : xFl (sAsg (mFind3 (mVar 0) (mCons (mC (.str ("\"" : Str))) (mCons (mOp dAdd (mVar 1) (mC (.int 1))) mNil))) (gSet 4)) (mkV T i j (some (.val (DS ((T.drop i).take 1)))) none) = some (.fl (.nx (mkV T i j (some (.val (DS ((T.drop i).take 1)))) (some (.val (.int (-1))))))) := by
        refine xf_of ((asg_set (d := .int (-1)) ?_).trans rfl)
        show some (PyData.int (Txt.find3 (sl T) ("\"" : Str) ((i + 1 : Nat) : Int))) = _
        rw [f1]
      refine xd_ex (ρ' := mkV T i j (some (.val (DS ((T.drop i).take 1)))) (some (.val (.int (-1))))) ?_
      rw [e0]
      unfold b__value_at
      rw [xs_nx s1]
      refine xs_ex ((xi_t t1).trans ?_)
      rw [xs_nx s2]
      exact xs_ex ((xi_t rfl).trans rfl)
    · rw [f4]
      have s2 : xFl (sAsg (mFind3 (mVar 0) (mCons (mC (.str ("\"" : Str))) (mCons (mOp dAdd (mVar 1) (mC (.int 1))) mNil))) (gSet 4)) (mkV T i j (some (.val (DS ((T.drop i).take 1)))) none) = some (.fl (.nx (mkV T i j (some (.val (DS ((T.drop i).take 1)))) (some (.val (.int (m : Nat))))))) := by
        refine xf_of ((asg_set (d := .int (m : Nat)) ?_).trans rfl)
        show some (PyData.int (Txt.find3 (sl T) ("\"" : Str) ((i + 1 : Nat) : Int))) = _
        rw [f1]
      have t4 : mTest (mOp dLt (mVar 4) (mC (.int 0))) (mkV T i j (some (.val (DS ((T.drop i).take 1)))) (some (.val (.int (m : Nat))))) = some false := by
        show some (decide ((m : Int) < 0)) = _
        rw [decide_eq_false (by omega)]
      refine xd_rt ?_
      rw [e0]
      unfold b__value_at
      rw [xs_nx s1]
      refine xs_rt ((xi_t t1).trans ?_)
      rw [xs_nx s2, xs_nx ((xi_f t4).trans (xf_of rfl))]
      refine xf_of (ret_of (tup_of (cons_of (ss_ab (i := i + 1) (j := m) (l := T) rfl (p1 _ _) rfl lc) (cons_of (x := .int ((m + 1 : Nat) : Int)) rfl nil_of)) (show 2 ≤ cap by decide)) |>.trans ?_)
      rw [List.length_drop, show T.length - (T.length - (m + 1)) = m + 1 by omega]
  · have t1 := t1 none
    rw [decide_eq_false q] at t1
    by_cases w : (T.drop i).head? = some 40 ∧ j < 50
    · obtain ⟨w1, w2⟩ := w
      obtain ⟨k', rfl⟩ : ∃ k', k = k' + 1 := ⟨k - 1, by omega⟩
      have ii := ne _ w1
      have hr := hr k' rfl ii
      have pe : pvk (k' + 1) (T.drop i) = rtTup (pvk k') (T.drop (i + 1)) := by
        show (if (T.drop i).head? = some 34 then pvStr (T.drop i).tail else if (T.drop i).head? = some 40 then rtTup (pvk k') (T.drop i).tail else pvWord (T.drop i)) = _
        rw [if_neg q, if_pos w1, tl]
      rw [pe]
      have t2 := t2 none
      rw [decide_eq_true w1] at t2
      have t3 := t3 (some (.val (DS ((T.drop i).take 1)))) none
      rw [decide_eq_true (by omega)] at t3
      have ca : xCall 3 r2 (mCons (mVar 0) (mCons (mOp dAdd (mVar 1) (mC (.int 1))) (mCons (mOp dAdd (mVar 2) (mC (.int 1))) mNil))) (mkV T i j (some (.val (DS ((T.drop i).take 1)))) none) = some (rvE T.length (rtTup (pvk k') (T.drop (i + 1)))) :=
        (xcall_of (ds := [DS T, .int ((i + 1 : Nat) : Int), .int ((j + 1 : Nat) : Int)]) rfl rfl).trans hr
      cases h : rtTup (pvk k') (T.drop (i + 1)) with
      | none =>
        rw [h] at ca
        refine xd_ex (ρ' := mkV T i j (some (.val (DS ((T.drop i).take 1)))) none) ?_
        rw [e0]
        unfold b__value_at
        rw [xs_nx s1, xs_nx ((xi_f t1).trans (xf_of rfl))]
        exact xs_ex ((xi_t ((and_t t2).trans t3)).trans (xret_ex ca))
      | some x =>
        obtain ⟨d, r⟩ := x
        rw [h] at ca
        refine xd_rt ?_
        rw [e0]
        unfold b__value_at
        rw [xs_nx s1, xs_nx ((xi_f t1).trans (xf_of rfl))]
        exact xs_rt ((xi_t ((and_t t2).trans t3)).trans (xret_ok ca))
    · have pe : pvk k (T.drop i) = pvWord (T.drop i) := by
        by_cases w1 : (T.drop i).head? = some 40
        · have : ¬ j < 50 := fun h => w ⟨w1, h⟩
          exact pv_word0 q (.inr (by omega))
        · exact pv_word0 q (.inl w1)
      rw [pe]
      have t4 : mAnd (mTest (mOp dEq (mVar 3) (mC (.str ("(" : Str))))) (mTest (mOp dLt (mVar 2) (mC (.int (50))))) (mkV T i j (some (.val (DS ((T.drop i).take 1)))) none) = some false := by
        by_cases w1 : (T.drop i).head? = some 40
        · have : ¬ j < 50 := fun h => w ⟨w1, h⟩
          have t2 := t2 none
          rw [decide_eq_true w1] at t2
          refine (and_t t2).trans ((t3 _ _).trans ?_)
          rw [decide_eq_false (by omega)]
        · have t2 := t2 none
          rw [decide_eq_false w1] at t2
          exact and_f t2
      have s5 : xFl (sAsg (mVar 1) (gSet 4)) (mkV T i j (some (.val (DS ((T.drop i).take 1)))) none) = some (.fl (.nx (mkV T i j (some (.val (DS ((T.drop i).take 1)))) (some (.val (.int (i : Nat))))))) := xf_of ((asg_set (d := .int (i : Nat)) rfl).trans rfl)
      have s6 : xFl (sWhile fuel__value_at_0 cnd bdy) (mkV T i j (some (.val (DS ((T.drop i).take 1)))) (some (.val (.int (i : Nat))))) = some (.fl (.nx (mkV T i j (some (.val (DS ((T.drop i).take 1)))) (some (.val (.int (endAt T i : Nat))))))) := by
        refine xf_of ?_
        unfold sWhile
        have f : fuel__value_at_0 (mkV T i j (some (.val (DS ((T.drop i).take 1)))) (some (.val (.int (i : Nat))))) = T.length + 2 := by
          show (sl T).length + 2 = _
          rw [sl_len]
        rw [f]
        exact end_loop T hl i j _ (T.length + 2) i hi (by omega)
      have wd : (T.drop i).take (endAt T i - i) = (T.drop i).takeWhile fun c => !isEnd c := by
        unfold endAt
        rw [show i + ((T.drop i).takeWhile fun c => !isEnd c).length - i = ((T.drop i).takeWhile fun c => !isEnd c).length by omega]
        exact tw_take _ _
      have ln := tw_len (fun c => !isEnd c) (T.drop i)
      rw [List.length_drop] at ln
      have wk : m__word_value [DS ((T.drop i).takeWhile fun c => !isEnd c)] = some (rsW (wv ((T.drop i).takeWhile fun c => !isEnd c))) := by
        refine word_ok _ (by omega) ?_
        rw [← wd]
        exact chk_take (chk_drop hc i) _
      have ca : xCall 1 m__word_value (mCons (mSlY (mVar 0) (mPart (mVar 1)) (mPart (mVar 4))) mNil) (mkV T i j (some (.val (DS ((T.drop i).take 1)))) (some (.val (.int (endAt T i : Nat))))) = some (rsW (wv ((T.drop i).takeWhile fun c => !isEnd c))) := by
        refine (xcall_of (cons_of (ss_ab (i := i) (j := endAt T i) (l := T) rfl rfl rfl lc) nil_of) rfl).trans ?_
        rw [wd]
        exact wk
      unfold pvWord
      cases h : wv ((T.drop i).takeWhile fun c => !isEnd c) with
      | none =>
        rw [h] at ca
        refine xd_ex (ρ' := mkV T i j (some (.val (DS ((T.drop i).take 1)))) (some (.val (.int (endAt T i : Nat))))) ?_
        rw [e0]
        unfold b__value_at
        rw [xs_nx s1, xs_nx ((xi_f t1).trans (xf_of rfl)), xs_nx ((xi_f t4).trans (xf_of rfl)), xs_nx s5, xs_nx s6]
        exact xret_ex (xtup_ex ca)
      | some d =>
        rw [h] at ca
        refine xd_rt ?_
        rw [e0]
        unfold b__value_at
        rw [xs_nx s1, xs_nx ((xi_f t1).trans (xf_of rfl)), xs_nx ((xi_f t4).trans (xf_of rfl)), xs_nx s5, xs_nx s6]
        refine (xret_ok (xtup_ok (ds := [.int (endAt T i : Nat)]) ca rfl (show 2 ≤ cap by decide))).trans ?_
        show some (FlX.fl (.rt (.tuple [d, .int (endAt T i : Nat)]))) = some (FlX.fl (.rt (.tuple [d, .int ((T.length - ((T.drop i).dropWhile fun c => !isEnd c).length : Nat) : Int)])))
        rw [show T.length - ((T.drop i).dropWhile fun c => !isEnd c).length = endAt T i by unfold endAt; omega]
end DD

set_option Elab.async false
set_option linter.all false
set_option maxRecDepth 100000
set_option maxHeartbeats 4000000
namespace DD
local instance : TabQ := ⟨[]⟩
local instance : ExQ := ⟨0, 0⟩
open PySem PySem.Spec PyProof.Rows L2
/-! k83: the tuple at a place -/
section
variable {c : En → Option Bool} {b : En → Option FlX} {n k : Nat} {ρ ρ2 : En} {d : D}
theorem wx_nx (h : c ρ = some true) (q : b ρ = some (.fl (.nx ρ2))) : whlX c b (n + 1) ρ = whlX c b n ρ2 := by
  show ((c ρ).bind _) = _
  rw [h]
  show ((b ρ).bind _) = _
  rw [q]; rfl
theorem wx_rt (h : c ρ = some true) (q : b ρ = some (.fl (.rt d))) : whlX c b (n + 1) ρ = some (.fl (.rt d)) := by
  show ((c ρ).bind _) = _
  rw [h]
  show ((b ρ).bind _) = _
  rw [q]; rfl
theorem wx_ex (h : c ρ = some true) (q : b ρ = some (.ex k ρ2)) : whlX c b (n + 1) ρ = some (.ex k ρ2) := by
  show ((c ρ).bind _) = _
  rw [h]
  show ((b ρ).bind _) = _
  rw [q]; rfl
theorem xag_ok {m : En → Option Rs} {g : D → En → Option En} (h : m ρ = some (.ok d)) (q : g d ρ = some ρ2) : xAsgG m g ρ = some (.fl (.nx ρ2)) := by
  unfold xAsgG; rw [h]
  show (g d ρ).map _ = _
  rw [q]; rfl
theorem xag_ex {m : En → Option Rs} {g : D → En → Option En} (h : m ρ = some (.ex k)) : xAsgG m g ρ = some (.ex k ρ) := by unfold xAsgG; rw [h]; rfl
end
def mkT (T : List Nat) (i j : Nat) (ds : List D) (s4 s5 : Option Sl) : En := [some (.val (DS T)), some (.val (.int (i : Nat))), some (.val (.int (j : Nat))), some (.own ds), s4, s5]
def rowB (r1 : List D → Option Rs) : En → Option FlX :=
  (xSeq (xAsgG (xCall 3 r1 (mCons (mVar 0) (mCons (mVar 1) (mCons (mVar 2) mNil)))) (gAnyM 2 (gConsM (gSet 4) (gConsM (gSet 1) gNilM))))
  (xSeq (xFl (sAppend 3 (mVar 4)))
  (xSeq (xFl (sAsg (mSlY (mVar 0) (mPart (mVar 1)) (mPart (mOp dAdd (mVar 1) (mC (.int 1))))) (gSet 5)))
  (xSeq (xFl (sIf (mTest (mOp dEq (mVar 5) (mC (.str (")" : Str)))))
  (sFrz 3 (sRet (mTup (mCons (mCall dTupOf (mCons (mVar 3) mNil)) (mCons (mOp dAdd (mVar 1) (mC (.int 1))) mNil)))))
  sNext))
  (xSeq (xIf (mTest (mOp dNe (mVar 5) (mC (.str (" " : Str)))))
  (xRaise 0)
  (xFl sNext))
  (xFl (sAugI 1 (fun i j => i + j) (mC (.int 1)))))))))
theorem pv_drop {T r : List Nat} {k a : Nat} {d : D} (hl : T.length ≤ 29000) (ha : a ≤ T.length) (h : pvk k (T.drop a) = some (d, r)) : a ≤ T.length - r.length ∧ r.length ≤ T.length ∧ T.drop (T.length - r.length) = r := by
  obtain ⟨e, _⟩ := tx_pv k (T.drop a) r d (by rw [List.length_drop]; omega) h
  have el := congrArg List.length e
  rw [List.length_drop, List.length_append] at el
  refine ⟨by omega, by omega, ?_⟩
  have : T.length - r.length = a + (txk k d).length := by omega
  rw [this, ← List.drop_drop, e, List.drop_left]
theorem row_loop (T : List Nat) (hl : T.length ≤ 29000) (hc : chk T) (k j : Nat) (r1 : List D → Option Rs)
    (hv : ∀ a : Nat, a ≤ T.length → r1 [DS T, .int (a : Nat), .int (j : Nat)] = some (rvE T.length (pvk k (T.drop a)))) :
    ∀ (n f a : Nat) (acc : List D) (s4 s5 : Option Sl), a ≤ T.length → T.length - a < n → T.length - a < f → acc.length + (T.length - a) + 1 ≤ cap →
      (∃ ds r, rtRow (pvk k) n (T.drop a) = some (ds, r) ∧ whlX (mTru (mC (.bool true))) (rowB r1) f (mkT T a j acc s4 s5) = some (.fl (.rt (.tuple [.tuple (acc ++ ds), .int ((T.length - r.length : Nat) : Int)])))) ∨
      (rtRow (pvk k) n (T.drop a) = none ∧ ∃ ρ', whlX (mTru (mC (.bool true))) (rowB r1) f (mkT T a j acc s4 s5) = some (.ex 0 ρ'))
  | 0, _, _, _, _, _, _, h, _, _ => by omega
  | _ + 1, 0, _, _, _, _, _, _, h, _ => by omega
  | n + 1, f + 1, a, acc, s4, s5, ha, hn, hf, hacc => by
    have lc : T.length ≤ cap := Nat.le_trans hl (by decide)
    have tt : ∀ ρ : En, mTru (mC (.bool true)) ρ = some true := fun ρ => rfl
    have ca : xCall 3 r1 (mCons (mVar 0) (mCons (mVar 1) (mCons (mVar 2) mNil))) (mkT T a j acc s4 s5) = some (rvE T.length (pvk k (T.drop a))) := (xcall_of (ds := [DS T, .int (a : Nat), .int (j : Nat)]) rfl rfl).trans (hv a ha)
    rw [rtRow_succ]
    cases h : pvk k (T.drop a) with
    | none =>
      rw [h] at ca
      refine .inr ⟨rfl, mkT T a j acc s4 s5, wx_ex (tt _) ?_⟩
      unfold rowB
      exact xs_ex (xag_ex ca)
    | some x =>
      obtain ⟨d, s⟩ := x
      rw [h] at ca
      obtain ⟨p1, p2, p3⟩ := pv_drop hl ha h
      generalize hb : T.length - s.length = b at p1 p3
      have hb2 : b ≤ T.length := by omega
      have e1 : xAsgG (xCall 3 r1 (mCons (mVar 0) (mCons (mVar 1) (mCons (mVar 2) mNil)))) (gAnyM 2 (gConsM (gSet 4) (gConsM (gSet 1) gNilM))) (mkT T a j acc s4 s5) = some (.fl (.nx (mkT T b j acc (some (.val d)) s5))) := by
        refine xag_ok (ca.trans rfl) ?_
        rw [hb]
        rfl
      have e2 : xFl (sAppend 3 (mVar 4)) (mkT T b j acc (some (.val d)) s5) = some (.fl (.nx (mkT T b j (acc ++ [d]) (some (.val d)) s5))) := by
        refine xf_of ?_
        show (if acc.length < cap then some (Fl.nx (mkT T b j (acc ++ [d]) (some (.val d)) s5)) else none) = _
        rw [if_pos (by omega)]
      have e3 : xFl (sAsg (mSlY (mVar 0) (mPart (mVar 1)) (mPart (mOp dAdd (mVar 1) (mC (.int 1))))) (gSet 5)) (mkT T b j (acc ++ [d]) (some (.val d)) s5) = some (.fl (.nx (mkT T b j (acc ++ [d]) (some (.val d)) (some (.val (DS (s.take 1))))))) := by
        refine xf_of ((asg_set (ss_ab (i := b) (j := b + 1) (l := T) rfl rfl rfl lc)).trans ?_)
        rw [show b + 1 - b = 1 by omega, p3]
        rfl
      have ck : chk (s.take 1) := by rw [← p3]; exact chk_take (chk_drop hc b) 1
      have t4 : mTest (mOp dEq (mVar 5) (mC (.str (")" : Str)))) (mkT T b j (acc ++ [d]) (some (.val d)) (some (.val (DS (s.take 1))))) = some (decide (s.head? = some 41)) := by
        refine test_of ((op_of (x := DS (s.take 1)) (y := DS [41]) rfl (by rw [clS]; rfl)).trans ((eq_S ck (chk1 (by decide))).trans ?_))
        rw [decide_eq_decide.mpr take1_iff]
      have t5 : mTest (mOp dNe (mVar 5) (mC (.str (" " : Str)))) (mkT T b j (acc ++ [d]) (some (.val d)) (some (.val (DS (s.take 1))))) = some (!decide (s.head? = some 32)) := by
        refine test_of ((op_of (x := DS (s.take 1)) (y := DS [32]) rfl (by rw [blS]; rfl)).trans ((ne_S ck (chk1 (by decide))).trans ?_))
        rw [decide_eq_decide.mpr take1_iff]
      have sl1 : s.length = T.length - b := by omega
      by_cases q : s.head? = some 41
      · rw [decide_eq_true q] at t4
        have hs := head_cons q
        generalize s.tail = r at hs
        subst hs
        rw [List.length_cons] at sl1
        refine .inl ⟨[d], r, rfl, wx_rt (tt _) ?_⟩
        unfold rowB
        rw [xs_nx e1, xs_nx e2, xs_nx e3]
        refine xs_rt (xf_of ((if_t t4).trans ?_))
        show some (Fl.rt (.tuple [.tuple (acc ++ [d]), .int ((b + 1 : Nat) : Int)])) = _
        rw [show T.length - r.length = b + 1 by omega]
      · rw [decide_eq_false q] at t4
        by_cases w : s.head? = some 32
        · rw [decide_eq_true w] at t5
          have hs := head_cons w
          generalize s.tail = r at hs
          subst hs
          rw [List.length_cons] at sl1
          have hr : T.drop (b + 1) = r := by rw [← List.drop_drop, p3]; rfl
          have st : rowB r1 (mkT T a j acc s4 s5) = some (.fl (.nx (mkT T (b + 1) j (acc ++ [d]) (some (.val d)) (some (.val (DS ((32 :: r).take 1))))))) := by
            unfold rowB
            rw [xs_nx e1, xs_nx e2, xs_nx e3, xs_nx (xf_of ((if_f t4).trans rfl)), xs_nx ((xi_f t5).trans (xf_of rfl))]
            exact xf_of rfl
          rw [wx_nx (tt _) st]
          have ih := row_loop T hl hc k j r1 hv n f (b + 1) (acc ++ [d]) (some (.val d)) (some (.val (DS ((32 :: r).take 1)))) (by omega) (by omega) (by omega) (by rw [List.length_append, List.length_singleton]; omega)
          rw [hr] at ih
          have rt : (some (d, 32 :: r)).bind (fun x => rowTail (rtRow (pvk k) n) x.1 x.2) = (rtRow (pvk k) n r).map fun y => (d :: y.1, y.2) := rfl
          rw [rt]
          rcases ih with ⟨ds, r', i1, i2⟩ | ⟨i1, i2⟩
          · refine .inl ⟨d :: ds, r', by rw [i1]; rfl, ?_⟩
            rw [i2, List.append_assoc]
            rfl
          · exact .inr ⟨by rw [i1]; rfl, i2⟩
        · rw [decide_eq_false w] at t5
          refine .inr ⟨?_, mkT T b j (acc ++ [d]) (some (.val d)) (some (.val (DS (s.take 1)))), wx_ex (tt _) ?_⟩
          · show rowTail (rtRow (pvk k) n) d s = none
            unfold rowTail
            split
            · exact absurd rfl q
            · exact absurd rfl w
            · rfl
          · unfold rowB
            rw [xs_nx e1, xs_nx e2, xs_nx e3, xs_nx (xf_of ((if_f t4).trans rfl))]
            exact xs_ex ((xi_t t5).trans rfl)
theorem rtTup_of {f : List Nat → Option (D × List Nat)} {l : List Nat} (h : l.head? ≠ some 41) : rtTup f l = (rtRow f 30000 l).map fun x => (.tuple x.1, x.2) := by
  unfold rtTup
  split
  · exact absurd rfl h
  · rfl
theorem tup_at_ok (T : List Nat) (hl : T.length ≤ 29000) (hc : chk T) (k j i : Nat) (hi : i ≤ T.length) (r1 r2 : List D → Option Rs)
    (hv : ∀ a : Nat, a ≤ T.length → r1 [DS T, .int (a : Nat), .int (j : Nat)] = some (rvE T.length (pvk k (T.drop a)))) :
    xDef 6 (b__tuple_at r1 r2) [DS T, .int (i : Nat), .int (j : Nat)] = some (rvE T.length (rtTup (pvk k) (T.drop i))) := by
  have lc : T.length ≤ cap := Nat.le_trans hl (by decide)
  let e6 : En := [some (.val (DS T)), some (.val (.int (i : Nat))), some (.val (.int (j : Nat))), none, none, none]
  have e0 : start0 6 [DS T, .int (i : Nat), .int (j : Nat)] = e6 := rfl
  have t1 : mTest (mOp dEq (mSlY (mVar 0) (mPart (mVar 1)) (mPart (mOp dAdd (mVar 1) (mC (.int 1))))) (mC (.str (")" : Str)))) e6 = some (decide ((T.drop i).head? = some 41)) := by
    refine test_of ((op_of (x := DS ((T.drop i).take (i + 1 - i))) (y := DS [41]) (ss_ab (i := i) (j := i + 1) (l := T) rfl rfl rfl lc) (by rw [clS]; rfl)).trans ?_)
    rw [show i + 1 - i = 1 by omega]
    refine (eq_S (chk_take (chk_drop hc i) 1) (chk1 (by decide))).trans ?_
    rw [decide_eq_decide.mpr take1_iff]
  by_cases q : (T.drop i).head? = some 41
  · rw [decide_eq_true q] at t1
    have hs := head_cons q
    have hd : (T.drop i).tail = T.drop (i + 1) := by rw [List.tail_drop]
    rw [hd] at hs
    have hlt : i + 1 ≤ T.length := by
      have := congrArg List.length hs
      rw [List.length_drop, List.length_cons] at this
      omega
    rw [hs]
    refine xd_rt ?_
    rw [e0]
    unfold b__tuple_at
    refine (xs_rt (xf_of ((if_t t1).trans ?_)))
    show some (Fl.rt (.tuple [.tuple [], .int ((i + 1 : Nat) : Int)])) = some (Fl.rt (.tuple [.tuple [], .int ((T.length - (T.drop (i + 1)).length : Nat) : Int)]))
    rw [List.length_drop, show T.length - (T.length - (i + 1)) = i + 1 by omega]
  · rw [decide_eq_false q] at t1
    rw [rtTup_of q]
    have fu : fuel__tuple_at_0 (mkT T i j [] none none) = T.length + 2 := by
      show (sl T).length + 2 = _
      rw [sl_len]
    have go : b__tuple_at r1 r2 e6 = whlX (mTru (mC (.bool true))) (rowB r1) (T.length + 2) (mkT T i j [] none none) := by
      unfold b__tuple_at
      rw [xs_nx (xf_of ((if_f t1).trans rfl)), xs_nx (xf_of (rfl : sOwn 3 (mLst mNil) e6 = some (.nx (mkT T i j [] none none))))]
      show whlX (mTru (mC (.bool true))) (rowB r1) (fuel__tuple_at_0 (mkT T i j [] none none)) (mkT T i j [] none none) = _
      rw [fu]
    rcases row_loop T hl hc k j r1 hv 30000 (T.length + 2) i [] none none hi (by omega) (by omega) (by show 0 + (T.length - i) + 1 ≤ cap; have : cap = 100000 := rfl; omega) with ⟨ds, r, i1, i2⟩ | ⟨i1, ρ', i2⟩
    · rw [i1]
      refine xd_rt ?_
      rw [e0, go]
      exact i2
    · rw [i1]
      refine xd_ex (ρ' := ρ') ?_
      rw [e0, go]
      exact i2
theorem at_ok (T : List Nat) (hl : T.length ≤ 29000) (hc : chk T) : ∀ (k n i j : Nat), j + k = 50 → 2 * k < n → i ≤ T.length → (mm__value_at n).1 [DS T, .int (i : Nat), .int (j : Nat)] = some (rvE T.length (pvk k (T.drop i)))
  | k, 0, _, _, _, h, _ => by omega
  | 0, n + 1, i, j, hj, hn, hi => val_at_ok T hl hc 0 j i hj hi _ _ fun k' e => nomatch e
  | k + 1, 1, _, _, _, h, _ => by omega
  | k + 1, n + 2, i, j, hj, hn, hi => by
    refine val_at_ok T hl hc (k + 1) j i hj hi _ _ fun k' e h1 => ?_
    cases e
    exact tup_at_ok T hl hc k (j + 1) (i + 1) h1 _ _ fun a ha => at_ok T hl hc k n a (j + 1) (by omega) (by omega) ha
end DD

set_option Elab.async false
set_option linter.all false
set_option maxRecDepth 100000
set_option maxHeartbeats 4000000
namespace DD
local instance : TabQ := ⟨[]⟩
local instance : ExQ := ⟨0, 0⟩
open PySem PySem.Spec PyProof.Rows L2
/-! k83: what is read is a value, or it is not -/
def vb : Nat → D → Bool
  | _, .none => true
  | _, .bool _ => true
  | _, .int _ => true
  | _, .str z => decide (z.length ≤ 9999) && z.cps.toList.all fun c => decide (c ∈ rowS.cps.toList)
  | k + 1, .tuple ds => decide (ds.length ≤ 9999) && ds.all (vb k)
  | _, _ => false
theorem vb_none (k : Nat) : vb k .none = true := by cases k <;> rfl
theorem vb_bool (k : Nat) (b : Bool) : vb k (.bool b) = true := by cases k <;> rfl
theorem vb_int (k : Nat) (i : Int) : vb k (.int i) = true := by cases k <;> rfl
theorem vb_str (k : Nat) (z : Str) : vb k (.str z) = (decide (z.length ≤ 9999) && z.cps.toList.all fun c => decide (c ∈ rowS.cps.toList)) := by cases k <;> rfl
theorem vb_tup (k : Nat) (ds : List D) : vb (k + 1) (.tuple ds) = (decide (ds.length ≤ 9999) && ds.all (vb k)) := rfl
theorem vb_val : ∀ (k : Nat) (d : D), Tre k d → vb k d = true → Val k d
  | k, .none, _, _ => by cases k <;> trivial
  | k, .bool _, _, _ => by cases k <;> trivial
  | k, .int i, h, _ => val_int.mpr (tre_int.mp h)
  | k, .str z, h, q => by
    rw [vb_str, Bool.and_eq_true] at q
    exact val_str.mpr ⟨of_decide_eq_true q.1, fun c hc => of_decide_eq_true (List.all_eq_true.mp q.2 c hc)⟩
  | k + 1, .tuple ds, h, q => by
    rw [vb_tup, Bool.and_eq_true] at q
    exact ⟨of_decide_eq_true q.1, fun d hd => vb_val k d (h.2 d hd) (List.all_eq_true.mp q.2 d hd)⟩
  | 0, .tuple _, h, _ => h.elim
  | 0, .list _, h, _ => h.elim
  | k + 1, .list _, h, _ => h.elim
  | 0, .dict _, h, _ => h.elim
  | k + 1, .dict _, h, _ => h.elim
theorem val_vb : ∀ (k : Nat) (d : D), Val k d → vb k d = true
  | k, .none, _ => vb_none k
  | k, .bool b, _ => vb_bool k b
  | k, .int i, _ => vb_int k i
  | k, .str z, h => by
    rw [vb_str, Bool.and_eq_true]
    exact ⟨decide_eq_true (val_str.mp h).1, List.all_eq_true.mpr fun c hc => decide_eq_true ((val_str.mp h).2 c hc)⟩
  | k + 1, .tuple ds, h => by
    rw [vb_tup, Bool.and_eq_true]
    exact ⟨decide_eq_true h.1, List.all_eq_true.mpr fun d hd => val_vb k d (h.2 d hd)⟩
  | 0, .tuple _, h => h.elim
  | 0, .list _, h => h.elim
  | k + 1, .list _, h => h.elim
  | 0, .dict _, h => h.elim
  | k + 1, .dict _, h => h.elim
theorem isvb_flat (m : Nat) (d : D) (j : Nat) (k : Nat) (nt : isIt "tuple" d = false) (hv : Tre k d) : m__is_value_within (m + 1) [d, .int (j : Nat)] = some (.bool (vb k d)) := by
  refine mDef_rt (?_ : b__is_value_within (m__is_value_within m) (mkv d (j : Nat) none none) = _)
  unfold b__is_value_within
  cases d with
  | none => rw [vb_none]; exact seq_rt ((if_t (by kernel_rfl)).trans (ret_of rfl))
  | bool b => rw [vb_bool]; exact seq_rt ((if_t (by kernel_rfl)).trans (ret_of rfl))
  | int i =>
    rw [vb_int, seq_nx (ρ' := mkv (.int i) (j : Nat) none none) ((if_f (by kernel_rfl)).trans rfl)]
    exact seq_rt ((if_t (by kernel_rfl)).trans (ret_of (int_bound (by decide +kernel) i (tre_int.mp hv))))
  | str z =>
    have hl := tre_str.mp hv
    rw [vb_str]
    rw [seq_nx (ρ' := mkv (.str z) (j : Nat) none none) ((if_f (by kernel_rfl)).trans rfl)]
    rw [seq_nx (ρ' := mkv (.str z) (j : Nat) none none) ((if_f (by kernel_rfl)).trans rfl)]
    refine seq_rt ((if_t (by kernel_rfl)).trans (ret_of ?_))
    have g1 : mOp dLeB (mCall dLen (mCons (mVar 0) mNil)) (mC (.int (9999))) (mkv (.str z) (j : Nat) none none) = some (.bool (decide (z.length ≤ 9999))) := by
      refine (op_of (x := .int (z.length : Nat)) (y := .int 9999) ((call_of (cons_of (x := .str z) rfl nil_of)).trans (dLen_str (Nat.le_trans hl (by decide)))) rfl).trans ?_
      show some (PyData.bool (decide ((z.length : Int) ≤ 9999))) = _
      congr 2
      exact decide_eq_decide.mpr (by omega)
    by_cases lz : z.length ≤ 9999
    rotate_left
    · rw [decide_eq_false lz] at g1 ⊢
      exact (andV_f g1).trans rfl
    rw [decide_eq_true lz] at g1 ⊢
    refine (andV_t g1).trans ?_
    rw [Bool.true_and]
    refine (call_of (cons_of (list_of (lc_all (l := z.cps.toList) (f := fun c => .str (inL c)) (h := fun c => .bool (decide (c ∈ rowS.cps.toList))) (iterS (z := z) rfl) (Nat.le_trans hl (by decide)) fun c hc => ⟨_, rfl, ?_⟩)) nil_of)).trans (all_bs _ _)
    exact (op_of (x := .str (inL c)) (y := .str rowS) rfl rfl).trans rfl
  | tuple ds => cases nt
  | list ds => cases k <;> cases hv
  | dict ds => cases k <;> cases hv
theorem isvb_ok : ∀ (k n : Nat) (d : D) (j : Nat), Tre k d → k < n → j + k ≤ 50 → m__is_value_within n [d, .int (j : Nat)] = some (.bool (vb k d)) := by
  intro k
  induction k with
  | zero =>
    intro n d j hv hn hj
    obtain ⟨m, rfl⟩ : ∃ m, n = m + 1 := ⟨n - 1, by omega⟩
    refine isvb_flat m d j 0 ?_ hv
    cases d <;> first | rfl | exact hv.elim
  | succ k ih =>
    intro n d j hv hn hj
    obtain ⟨m, rfl⟩ : ∃ m, n = m + 1 := ⟨n - 1, by omega⟩
    by_cases nt : isIt "tuple" d = false
    · exact isvb_flat m d j (k + 1) nt hv
    · obtain ⟨ds, rfl⟩ := tup_of_is (by simpa using nt)
      obtain ⟨hl, hd⟩ := (show ds.length ≤ 30000 ∧ ∀ d ∈ ds, Tre k d from hv)
      rw [vb_tup]
      refine mDef_rt (?_ : b__is_value_within (m__is_value_within m) (mkv (.tuple ds) (j : Nat) none none) = _)
      unfold b__is_value_within
      rw [seq_nx (ρ' := mkv (.tuple ds) (j : Nat) none none) ((if_f (by kernel_rfl)).trans rfl)]
      rw [seq_nx (ρ' := mkv (.tuple ds) (j : Nat) none none) ((if_f (by kernel_rfl)).trans rfl)]
      rw [seq_nx (ρ' := mkv (.tuple ds) (j : Nat) none none) ((if_f (by kernel_rfl)).trans rfl)]
      have c1 : mNot (mTru (mUn (dIsi "tuple") (mVar 0))) (mkv (.tuple ds) (j : Nat) none none) = some false := by kernel_rfl
      have c2 : mTest (mOp dGt (mCall dLen (mCons (mVar 0) mNil)) (mC (.int (9999)))) (mkv (.tuple ds) (j : Nat) none none) = some (!decide (ds.length ≤ 9999)) := by
        refine test_of ((op_of (x := .int (ds.length : Nat)) (y := .int 9999) ((call_of (cons_of (x := .tuple ds) rfl nil_of)).trans (dLen_tup (Nat.le_trans hl (by decide)))) rfl).trans ?_)
        show some (PyData.bool (decide ((9999 : Int) < (ds.length : Int)))) = _
        by_cases lz : ds.length ≤ 9999
        · rw [decide_eq_true lz, decide_eq_false (by omega)]; rfl
        · rw [decide_eq_false lz, decide_eq_true (by omega)]; rfl
      by_cases lz : ds.length ≤ 9999
      rotate_left
      · rw [decide_eq_false lz] at c2 ⊢
        exact seq_rt ((if_t ((or_f c1).trans (or_t c2))).trans (ret_of rfl))
      rw [decide_eq_true lz] at c2 ⊢
      rw [Bool.true_and]
      have c3 : mTest (mOp dGe (mVar 1) (mC (.int (50)))) (mkv (.tuple ds) (j : Nat) none none) = some false := by
        refine test_of ((op_of (x := .int (j : Nat)) (y := .int 50) rfl rfl).trans ?_)
        show some (PyData.bool (decide ((50 : Int) ≤ (j : Int)))) = _
        rw [decide_eq_false (by omega)]
      rw [seq_nx (ρ' := mkv (.tuple ds) (j : Nat) none none) ((if_f ((or_f c1).trans ((or_f c2).trans c3))).trans rfl)]
      refine ret_of ?_
      refine (call_of (x := [.list (ds.map fun d => .bool (vb k d))]) (cons_of (list_of ?_) nil_of)).trans (all_bs (vb k) ds)
      refine lc_all (l := ds) (f := fun d => d) (h := fun d => .bool (vb k d)) ?_ (Nat.le_trans hl (by decide)) fun d hm => ⟨_, rfl, ?_⟩
      · rw [List.map_id']; rfl
      refine (call_of (x := [d, .int ((j + 1 : Nat) : Int)]) (cons_of rfl (cons_of ?_ nil_of))).trans (lim2.trans (ih m d (j + 1) (hd d hm) (by omega) (by omega)))
      exact (op_of (x := .int (j : Nat)) (y := .int 1) rfl rfl).trans rfl
theorem is_value_vb {d : D} (h : Tre 50 d) : m_is_value [d] = some (.bool (vb 50 d)) := by
  refine mDef_rt (?_ : b_is_value [some (.val d)] = _)
  unfold b_is_value
  exact ret_of ((call_of (x := [d, .int ((0 : Nat) : Int)]) (cons_of rfl (cons_of rfl nil_of))).trans (lim2.trans (isvb_ok 50 52 d 0 h (by omega) (by omega))))
def rdT (T : List Nat) : Option D := match pvk 50 T with
  | some (d, []) => if vb 50 d = true then some d else none
  | _ => none
theorem rdT_tx {T : List Nat} {d : D} (hl : T.length ≤ 29000) (h : rdT T = some d) : T = txk 50 d ∧ Val 50 d := by
  unfold rdT at h
  split at h
  · rename_i e x
    split at h
    · rename_i v
      cases h
      obtain ⟨a, b⟩ := tx_pv 50 T [] _ (by omega) x
      rw [List.append_nil] at a
      exact ⟨a, vb_val 50 _ b v⟩
    · cases h
  · cases h
theorem tx_rdT {d : D} (h : Val 50 d) : rdT (txk 50 d) = some d := by
  have := pv_tx 50 d [] h (.inl rfl)
  rw [List.append_nil] at this
  unfold rdT
  rw [this]
  exact if_pos (val_vb 50 d h)
theorem eqv_int (i j : Int) : PyData.eqv (.int i) (.int j) = decide (i = j) := by
  by_cases h : i = j
  · subst h; simp [PyData.eqv]
  · simp [PyData.eqv, h]
theorem read_ok (T : List Nat) (hl : T.length ≤ 29000) (hc : chk T) : m_read_value [DS T] = some (rsW (rdT T)) := by
  have lc : T.length ≤ cap := Nat.le_trans hl (by decide)
  have e0 : start0 3 [DS T] = [some (.val (DS T)), none, none] := rfl
  have i1 : mNot (mTru (mUn (dIsi "str") (mVar 0))) [some (.val (DS T)), none, none] = some false := by kernel_rfl
  have va := at_ok T hl hc 50 104 0 0 rfl (by omega) (Nat.zero_le _)
  rw [List.drop_zero] at va
  have ca : xCall 3 (m__value_at 104) (mCons (mVar 0) (mCons (mC (.int 0)) (mCons (mC (.int 0)) mNil))) [some (.val (DS T)), none, none] = some (rvE T.length (pvk 50 T)) :=
    (xcall_of (ds := [DS T, .int ((0 : Nat) : Int), .int ((0 : Nat) : Int)]) rfl rfl).trans va
  unfold rdT
  cases h : pvk 50 T with
  | none =>
    rw [h] at ca
    refine xd_ex (ρ' := [some (.val (DS T)), none, none]) ?_
    rw [e0]
    unfold b_read_value
    rw [xs_nx ((xi_f i1).trans (xf_of rfl))]
    exact xs_ex (xag_ex ca)
  | some x =>
    obtain ⟨d, r⟩ := x
    rw [h] at ca
    obtain ⟨a, b⟩ := tx_pv 50 T r d (by omega) h
    have lr : r.length ≤ T.length := by rw [a, List.length_append]; omega
    let ρ : En := [some (.val (DS T)), some (.val d), some (.val (.int ((T.length - r.length : Nat) : Int)))]
    have s2 : xAsgG (xCall 3 (m__value_at 104) (mCons (mVar 0) (mCons (mC (.int 0)) (mCons (mC (.int 0)) mNil)))) (gAnyM 2 (gConsM (gSet 1) (gConsM (gSet 2) gNilM))) [some (.val (DS T)), none, none] = some (.fl (.nx ρ)) := xag_ok ca rfl
    have t1 : mTest (mOp dNe (mVar 2) (mCall dLen (mCons (mVar 0) mNil))) ρ = some (!decide (r = [])) := by
      refine test_of ((op_of (x := .int ((T.length - r.length : Nat) : Int)) rfl (len_S (l := T) rfl lc)).trans ?_)
      rw [dNe_of (lay_int.shaped (by decide)) (lay_int.shaped (by decide))]
      have : PyData.eqv (.int ((T.length - r.length : Nat) : Int)) (.int (T.length : Nat)) = decide (((T.length - r.length : Nat) : Int) = (T.length : Nat)) := eqv_int _ _
      rw [this]
      have q : (((T.length - r.length : Nat) : Int) = (T.length : Nat)) ↔ r = [] := by
        constructor
        · intro e
          exact List.length_eq_zero_iff.mp (by omega)
        · intro e
          rw [e]; rfl
      rw [decide_eq_decide.mpr q]
    have t2 : mNot (mTru (mCall (lim 1 m_is_value) (mCons (mVar 1) mNil))) ρ = some (!vb 50 d) := not_of ((tru_of (x := .bool (vb 50 d)) ((call_of (cons_of (x := d) rfl nil_of)).trans (lim1.trans (is_value_vb b)))).trans rfl)
    cases r with
    | nil =>
      have t1 : mTest (mOp dNe (mVar 2) (mCall dLen (mCons (mVar 0) mNil))) ρ = some false := t1
      by_cases v : vb 50 d = true
      · rw [v] at t2
        show _ = some (rsW (if vb 50 d = true then some d else none))
        rw [if_pos v]
        refine xd_rt ?_
        rw [e0]
        unfold b_read_value
        rw [xs_nx ((xi_f i1).trans (xf_of rfl)), xs_nx s2, xs_nx ((xi_f ((or_f t1).trans t2)).trans (xf_of rfl))]
        exact xf_of (ret_of rfl)
      · show _ = some (rsW (if vb 50 d = true then some d else none))
        rw [if_neg v]
        rw [Bool.not_eq_true] at v
        rw [v] at t2
        refine xd_ex (ρ' := ρ) ?_
        rw [e0]
        unfold b_read_value
        rw [xs_nx ((xi_f i1).trans (xf_of rfl)), xs_nx s2]
        exact xs_ex ((xi_t ((or_f t1).trans t2)).trans rfl)
    | cons c s =>
      have t1 : mTest (mOp dNe (mVar 2) (mCall dLen (mCons (mVar 0) mNil))) ρ = some true := t1
      refine xd_ex (ρ' := ρ) ?_
      rw [e0]
      unfold b_read_value
      rw [xs_nx ((xi_f i1).trans (xf_of rfl)), xs_nx s2]
      exact xs_ex ((xi_t (or_t t1)).trans rfl)
end DD

set_option Elab.async false
set_option linter.all false
set_option maxRecDepth 100000
set_option maxHeartbeats 4000000
namespace DD
local instance : TabQ := ⟨[]⟩
local instance : ExQ := ⟨0, 0⟩
open PySem PySem.Spec PyProof.Rows L2
/-! k83: the text of a value, and of a list of them -/
theorem joinB_eq : ∀ ps : List (List Nat), TL.joinL [32] ps = joinB ps
  | [] => rfl
  | [_] => rfl
  | x :: y :: r => by
    show x ++ ([32] ++ TL.joinL [32] (y :: r)) = x ++ 32 :: joinB (y :: r)
    rw [joinB_eq (y :: r)]
    rfl
theorem joinB_len : ∀ (p : List Nat) (ps : List (List Nat)), (joinB (p :: ps)).length + 1 = ((p :: ps).map (·.length)).sum + (p :: ps).length
  | p, [] => by simp [joinB]
  | p, q :: r => by
    have := joinB_len q r
    show (p ++ 32 :: joinB (q :: r)).length + 1 = _
    rw [List.length_append, List.length_cons, List.map_cons, List.sum_cons, List.length_cons]
    omega
theorem sum_ge : ∀ {l : List Nat} {x : Nat}, x ∈ l → x ≤ l.sum
  | y :: r, x, h => by
    rw [List.sum_cons]
    rcases List.mem_cons.mp h with rfl | h
    · omega
    · have := sum_ge h; omega
theorem joinB_mem {ps : List (List Nat)} {p : List Nat} (h : p ∈ ps) : p.length ≤ (joinB ps).length := by
  cases ps with
  | nil => cases h
  | cons q r =>
    have e := joinB_len q r
    have : p.length ≤ ((q :: r).map (·.length)).sum := sum_ge (List.mem_map.mpr ⟨p, h, rfl⟩)
    rw [List.length_cons] at e
    have h1 : ((q :: r).map (·.length)).sum = q.length + (r.map (·.length)).sum := by rw [List.map_cons, List.sum_cons]
    cases r with
    | nil =>
      rw [List.mem_singleton] at h
      rw [h]
      exact Nat.le_refl _
    | cons z r =>
      rw [List.length_cons] at e
      omega
theorem joinB_sum (ps : List (List Nat)) : (ps.map (·.length)).sum + ps.length ≤ (joinB ps).length + 1 := by
  cases ps with
  | nil => simp [joinB]
  | cons q r => rw [joinB_len]; exact Nat.le_refl _
theorem strs_sl {α : Type} (g : α → List Nat) (l : List α) : strsD (l.map fun d => DS (g d)) = some (l.map fun d => sl (g d)) := by
  induction l with
  | nil => rfl
  | cons d r ih =>
    show (strsD (r.map fun d => DS (g d))).map (sl (g d) :: ·) = _
    rw [ih]; rfl
theorem lens_sl {α : Type} (g : α → List Nat) (l : List α) : (l.map fun d => sl (g d)).map (·.length) = (l.map g).map (·.length) := by
  rw [List.map_map, List.map_map]
  exact List.map_congr_left fun d _ => sl_len (g d)
theorem join_S {α : Type} (g : α → List Nat) (l : List α) (h : (joinB (l.map g)).length ≤ 10000) : dJoin (.str (" " : Str)) (.list (l.map fun d => DS (g d))) = some (DS (joinB (l.map g))) := by
  show (strsD (l.map fun d => DS (g d))).bind _ = _
  rw [strs_sl]
  show (if ((l.map fun d => sl (g d)).map (·.length)).sum + (l.map fun d => sl (g d)).length * (" " : Str).length ≤ 16777216 then some (PyData.str (Txt.join " " (l.map fun d => sl (g d)))) else none) = _
  have e1 : (" " : Str).length = 1 := by rw [blS, sl_len]; rfl
  have := joinB_sum (l.map g)
  rw [lens_sl, e1, if_pos (by rw [List.length_map] at this ⊢; omega)]
  congr 2
  refine TL.ext_tl ?_
  rw [TL.join_eq, TL.tl_join, List.map_map]
  have e2 : TL.tl (" " : Str) = [32] := by rw [blS]; rfl
  rw [e2, joinB_eq]
  rfl
theorem noneS : ("none" : Str) = sl [110, 111, 110, 101] := by kernel_rfl
theorem yesS : ("yes" : Str) = sl [121, 101, 115] := by kernel_rfl
theorem noS : ("no" : Str) = sl [110, 111] := by kernel_rfl
theorem tof_flat (m : Nat) (d : D) (k : Nat) (nt : isIt "tuple" d = false) (hv : Val k d) : m__text_of (m + 1) [d] = some (DS (txk k d)) := by
  refine mDef_rt (?_ : b__text_of (m__text_of m) [some (.val d), none, none] = _)
  unfold b__text_of
  cases d with
  | none =>
    have : txk k .none = [110, 111, 110, 101] := by cases k <;> rfl
    rw [this]
    exact seq_rt ((if_t (by kernel_rfl)).trans (ret_of (by rw [noneS]; rfl)))
  | bool b =>
    rw [seq_nx (ρ' := [some (.val (.bool b)), none, none]) ((if_f (by cases b <;> kernel_rfl)).trans rfl)]
    refine seq_rt ((if_t (by cases b <;> kernel_rfl)).trans (ret_of ?_))
    cases b with
    | true =>
      have : txk k (.bool true) = [121, 101, 115] := by cases k <;> rfl
      rw [this]
      exact (ifE_t rfl).trans (by rw [yesS]; rfl)
    | false =>
      have : txk k (.bool false) = [110, 111] := by cases k <;> rfl
      rw [this]
      exact (ifE_f rfl).trans (by rw [noS]; rfl)
  | int i =>
    have hb := val_int.mp hv
    rw [seq_nx (ρ' := [some (.val (.int i)), none, none]) ((if_f rfl).trans rfl)]
    rw [seq_nx (ρ' := [some (.val (.int i)), none, none]) ((if_f (by kernel_rfl)).trans rfl)]
    refine seq_rt ((if_t (by kernel_rfl)).trans (ret_of ?_))
    rw [tx_i]
    refine (call_of (x := [.int i]) (cons_of rfl nil_of)).trans ?_
    show (if i.natAbs.log2 < 1920 then some (PyData.str (strI i)) else none) = _
    rw [if_pos (log_ok hb), tl_strI]
    rfl
  | str z =>
    obtain ⟨hl, _⟩ := val_str.mp hv
    have e : txk k (.str z) = ([34] ++ z.cps.toList) ++ [34] := by cases k <;> rfl
    have zl : z.cps.toList.length = z.length := Array.length_toList
    have cp : cap = 100000 := rfl
    rw [seq_nx (ρ' := [some (.val (.str z)), none, none]) ((if_f rfl).trans rfl)]
    rw [seq_nx (ρ' := [some (.val (.str z)), none, none]) ((if_f (by kernel_rfl)).trans rfl)]
    rw [seq_nx (ρ' := [some (.val (.str z)), none, none]) ((if_f (by kernel_rfl)).trans rfl)]
    refine seq_rt ((if_t (by kernel_rfl)).trans (ret_of ?_))
    rw [e]
    have q : ∀ ρ : En, mC (.str ("\"" : Str)) ρ = some (DS [34]) := fun ρ => by rw [quS]; rfl
    have zz : DS z.cps.toList = .str z := by unfold DS; rw [sl_of]
    refine (op_of (x := DS ([34] ++ z.cps.toList)) (y := DS [34]) ((op_of (x := DS [34]) (y := DS z.cps.toList) (q _) (by rw [zz]; rfl)).trans (add_S ?_)) (q _)).trans (add_S ?_)
    · rw [zl]; show 1 + z.length ≤ cap; omega
    · rw [List.length_append, zl]; show 1 + z.length + 1 ≤ cap; omega
  | tuple ds => cases nt
  | list ds => cases k <;> cases hv
  | dict ds => cases k <;> cases hv
theorem tof_ok : ∀ (k n : Nat) (d : D), Val k d → k < n → (txk k d).length ≤ 9500 → m__text_of n [d] = some (DS (txk k d)) := by
  intro k
  induction k with
  | zero =>
    intro n d hv hn hz
    obtain ⟨m, rfl⟩ : ∃ m, n = m + 1 := ⟨n - 1, by omega⟩
    refine tof_flat m d 0 ?_ hv
    cases d <;> first | rfl | exact hv.elim
  | succ k ih =>
    intro n d hv hn hz
    obtain ⟨m, rfl⟩ : ∃ m, n = m + 1 := ⟨n - 1, by omega⟩
    by_cases nt : isIt "tuple" d = false
    · exact tof_flat m d (k + 1) nt hv
    · obtain ⟨ds, rfl⟩ := tup_of_is (by simpa using nt)
      obtain ⟨hl, hd⟩ := (show ds.length ≤ 9999 ∧ ∀ d ∈ ds, Val k d from hv)
      have et : txk (k + 1) (.tuple ds) = 40 :: (joinB (ds.map (txk k)) ++ [41]) := rfl
      rw [et] at hz ⊢
      rw [List.length_cons, List.length_append, List.length_singleton] at hz
      refine mDef_rt (?_ : b__text_of (m__text_of m) [some (.val (.tuple ds)), none, none] = _)
      unfold b__text_of
      rw [seq_nx (ρ' := [some (.val (.tuple ds)), none, none]) ((if_f rfl).trans rfl)]
      rw [seq_nx (ρ' := [some (.val (.tuple ds)), none, none]) ((if_f (by kernel_rfl)).trans rfl)]
      rw [seq_nx (ρ' := [some (.val (.tuple ds)), none, none]) ((if_f (by kernel_rfl)).trans rfl)]
      rw [seq_nx (ρ' := [some (.val (.tuple ds)), none, none]) ((if_f (by kernel_rfl)).trans rfl)]
      have j : mOp dJoin (mC (.str (" " : Str))) (mList (mLc (mIter (mVar 0)) (gSet 2) mYes (mCall (lim 1 (m__text_of m)) (mCons (mVar 2) mNil)) [2])) [some (.val (.tuple ds)), none, none] = some (DS (joinB (ds.map (txk k)))) := by
        refine (op_of (x := .str " ") (y := .list (ds.map fun d => DS (txk k d))) rfl (list_of ?_)).trans (join_S (txk k) ds (by omega))
        refine lc_all (l := ds) (f := fun d => d) (h := fun d => DS (txk k d)) ?_ (Nat.le_trans hl (by decide)) fun d hm => ⟨_, rfl, ?_⟩
        · rw [List.map_id']; rfl
        have := joinB_mem (List.mem_map.mpr ⟨d, hm, rfl⟩ : txk k d ∈ ds.map (txk k))
        exact (call_of (x := [d]) (cons_of rfl nil_of)).trans (lim1.trans (ih m d (hd d hm) (by omega) (by omega)))
      rw [seq_nx (ρ' := [some (.val (.tuple ds)), some (.val (DS (joinB (ds.map (txk k))))), none]) ((asg_set j).trans rfl)]
      refine ret_of ?_
      generalize joinB (ds.map (txk k)) = B at hz
      have f : mFmt (mVar 1) [some (.val (.tuple ds)), some (.val (DS B)), none] = some (DS B) := by
        show (if (sl B).length ≤ 16777216 then some (PyData.str (sl B)) else none) = _
        rw [sl_len, if_pos (by omega)]
        rfl
      unfold mJoined
      have l1 : ∀ (ms : List (En → Option D)) (a : List Nat) (b : List Nat) (m1 : En → Option D) (ρ : En), m1 ρ = some (DS b) → a.length + b.length ≤ 10000 → mJs (m1 :: ms) (sl a) ρ = mJs ms (sl (a ++ b)) ρ := by
        intro ms a b m1 ρ h l
        show (m1 ρ).bind _ = _
        rw [h]
        show (if (sl a ++ sl b).length ≤ 16777216 then mJs ms (sl a ++ sl b) ρ else none) = _
        rw [sl_app, sl_len, if_pos (by rw [List.length_append]; omega)]
      have em : (Str.empty : Str) = sl [] := rfl
      rw [em, l1 _ [] [40] (mC (.str ("(" : Str))) _ (by rw [opS]; rfl) (by decide), l1 _ _ B (mFmt (mVar 1)) _ f (by show 1 + B.length ≤ 10000; omega), l1 _ _ [41] (mC (.str (")" : Str))) _ (by rw [clS]; rfl) (by rw [List.length_append]; show 1 + B.length + 1 ≤ 10000; omega)]
      rfl
theorem value_text_ok {d : D} (h : Val 50 d) (hl : (txk 50 d).length ≤ 9500) : m_value_text [d] = some (.ok (DS (txk 50 d))) := by
  have t : mNot (mTru (mCall (lim 1 m_is_value) (mCons (mVar 0) mNil))) [some (.val d)] = some false := (not_of ((tru_of (x := .bool true) ((call_of (cons_of (x := d) rfl nil_of)).trans (lim1.trans (is_value_ok h (by decide))))).trans rfl)).trans rfl
  refine xd_rt (?_ : b_value_text [some (.val d)] = _)
  unfold b_value_text
  rw [xs_nx ((xi_f t).trans (xf_of rfl))]
  exact xf_of (ret_of ((call_of (cons_of (x := d) rfl nil_of)).trans (lim1.trans (tof_ok 50 52 d h (by decide) hl))))
theorem collX_ok {α : Type} {g : D → En → Option En} {e : En → Option Rs} {ρ : En} {f h : α → D} : ∀ {l : List α}, (∀ x ∈ l, ∃ ρ1, g (f x) ρ = some ρ1 ∧ e ρ1 = some (.ok (h x))) → collX g mYes e ρ (l.map f) = some (.ok (l.map h))
  | [], _ => rfl
  | x :: r, k => by
    obtain ⟨ρ1, h1, h2⟩ := k x List.mem_cons_self
    have i := collX_ok (g := g) (e := e) (ρ := ρ) (f := f) (h := h) (l := r) fun y hy => k y (List.mem_cons_of_mem _ hy)
    show ((g (f x) ρ).bind fun ρ1 => (mYes ρ1).bind fun b => if b = true then (e ρ1).bind fun r' => (match r' with
      | .ok x => (collX g mYes e ρ (r.map f)).map (consL x)
      | .ex k => some (.ex k)) else collX g mYes e ρ (r.map f)) = _
    rw [h1, i]
    show ((e ρ1).bind fun r' => (match r' with
      | .ok x => (some (RsL.ok (r.map h))).map (consL x)
      | .ex k => some (.ex k))) = _
    rw [h2]
    rfl
def evT (ds : List D) : List Nat := (ds.map fun d => txk 50 d ++ [10]).flatten
theorem nlS : ("\n" : Str) = sl [10] := by kernel_rfl
theorem joinE : ∀ ps : List (List Nat), TL.joinL [] ps = ps.flatten
  | [] => rfl
  | [p] => by show p = p ++ []; rw [List.append_nil]
  | x :: y :: r => by
    show x ++ ([] ++ TL.joinL [] (y :: r)) = x ++ (y :: r).flatten
    rw [List.nil_append, joinE (y :: r)]
theorem join_E {α : Type} (g : α → List Nat) (l : List α) (h : (l.map g).flatten.length ≤ 10000) : dJoin (.str ("" : Str)) (.list (l.map fun d => DS (g d))) = some (DS (l.map g).flatten) := by
  show (strsD (l.map fun d => DS (g d))).bind _ = _
  rw [strs_sl]
  show (if ((l.map fun d => sl (g d)).map (·.length)).sum + (l.map fun d => sl (g d)).length * ("" : Str).length ≤ 16777216 then some (PyData.str (Txt.join "" (l.map fun d => sl (g d)))) else none) = _
  have e1 : ("" : Str).length = 0 := rfl
  rw [List.length_flatten] at h
  have h : ((l.map g).map (fun x => x.length)).sum ≤ 10000 := h
  rw [lens_sl, e1, Nat.mul_zero, if_pos (by omega)]
  congr 2
  refine TL.ext_tl ?_
  rw [TL.join_eq, TL.tl_join, List.map_map]
  have e2 : TL.tl ("" : Str) = [] := rfl
  rw [e2, joinE]
  rfl
theorem events_text_ok {ds : List D} (h : ∀ d ∈ ds, Val 50 d) (hl : (evT ds).length ≤ 9500) (hn : ds.length ≤ 9500) : m_events_text [.list ds] = some (.ok (DS (evT ds))) := by
  have cp : cap = 100000 := rfl
  have t : mNot (mTru (mUn (dIsi "list") (mVar 0))) [some (.val (.list ds)), none] = some false := by kernel_rfl
  refine xd_rt (?_ : b_events_text [some (.val (.list ds)), none] = _)
  unfold b_events_text
  rw [xs_nx ((xi_f t).trans (xf_of rfl))]
  refine xret_ok ?_
  have c : xList (mLcX (mIter (mVar 0)) (gSet 1) mYes (xOp dAdd (xCall 1 m_value_text (mCons (mVar 1) mNil)) (xLift (mC (.str ("\n" : Str))))) [1]) [some (.val (.list ds)), none] = some (.ok (.list (ds.map fun d => DS (txk 50 d ++ [10])))) := by
    unfold xList mLcX
    have it : mIter (mVar 0) [some (.val (.list ds)), none] = some (ds.map fun d => d) := by rw [List.map_id']; rfl
    rw [it]
    show ((if (ds.map fun d => d).length ≤ cap then _ else _) : Option RsL).map _ = _
    rw [if_pos (by rw [List.length_map]; omega), collX_ok (h := fun d => DS (txk 50 d ++ [10])) fun d hd => ⟨_, rfl, ?_⟩]
    · rfl
    · have ld : (txk 50 d ++ [10]).length ≤ (evT ds).length := by
        unfold evT
        rw [List.length_flatten]
        exact sum_ge (List.mem_map.mpr ⟨_, List.mem_map.mpr ⟨d, hd, rfl⟩, rfl⟩)
      rw [List.length_append, List.length_singleton] at ld
      have v := value_text_ok (h d hd) (by omega)
      unfold xOp
      have ca : xCall 1 m_value_text (mCons (mVar 1) mNil) (List.set (wipeM [some (.val (.list ds)), none] [1]) 1 (some (.val d))) = some (.ok (DS (txk 50 d))) := (xcall_of (ds := [d]) rfl rfl).trans v
      rw [ca]
      show (dAdd (DS (txk 50 d)) (.str ("\n" : Str))).map Rs.ok = _
      have : (PyData.str ("\n" : Str)) = DS [10] := by rw [nlS]; rfl
      rw [this, add_S (by rw [List.length_singleton]; omega)]
      rfl
  unfold xJoin
  rw [c]
  show (dJoin (.str ("" : Str)) (.list (ds.map fun d => DS (txk 50 d ++ [10])))).map Rs.ok = _
  rw [join_E (fun d => txk 50 d ++ [10]) ds (by unfold evT at hl; omega)]
  rfl
end DD

set_option Elab.async false
set_option linter.all false
set_option maxRecDepth 100000
set_option maxHeartbeats 4000000
namespace DD
local instance : TabQ := ⟨[]⟩
local instance : ExQ := ⟨0, 0⟩
open PySem PySem.Spec PyProof.Rows L2
/-! k83: lines -/
def lnp : List Nat → List Nat → List (List Nat) × List Nat
  | acc, [] => ([], acc)
  | acc, c :: r => if c = 10 then (acc :: (lnp [] r).1, (lnp [] r).2) else lnp (acc ++ [c]) r
theorem spl_lnp : ∀ (l acc : List Nat), TL.spl [10] 0 acc l = (lnp acc l).1 ++ [(lnp acc l).2]
  | [], acc => TL.spl_nil _ _ _
  | c :: r, acc => by
    by_cases h : c = 10
    · subst h
      rw [TL.spl_hit (show TL.pre [10] (10 :: r) = true from rfl)]
      show acc :: TL.spl [10] 0 [] r = _
      rw [spl_lnp r []]
      rfl
    · rw [TL.spl_miss (TL.pre_of_head [] r h), spl_lnp r (acc ++ [c])]
      have : lnp acc (c :: r) = lnp (acc ++ [c]) r := if_neg h
      rw [this]
theorem lnp_back : ∀ (l acc : List Nat), (((lnp acc l).1).map (· ++ [10])).flatten ++ (lnp acc l).2 = acc ++ l
  | [], acc => by show [] ++ acc = acc ++ []; rw [List.append_nil, List.nil_append]
  | c :: r, acc => by
    by_cases h : c = 10
    · subst h
      have : lnp acc (10 :: r) = (acc :: (lnp [] r).1, (lnp [] r).2) := if_pos rfl
      rw [this]
      show ((acc ++ [10]) ++ (((lnp [] r).1).map (· ++ [10])).flatten) ++ (lnp [] r).2 = _
      rw [List.append_assoc, lnp_back r [], List.append_assoc]
      rfl
    · have : lnp acc (c :: r) = lnp (acc ++ [c]) r := if_neg h
      rw [this, lnp_back r (acc ++ [c]), List.append_assoc]
      rfl
theorem lnp_end : ∀ (p acc : List Nat), (lnp acc (p ++ [10])).2 = []
  | [], acc => rfl
  | c :: r, acc => by
    by_cases h : c = 10
    · subst h
      have : lnp acc (10 :: r ++ [10]) = (acc :: (lnp [] (r ++ [10])).1, (lnp [] (r ++ [10])).2) := if_pos rfl
      rw [this]
      exact lnp_end r []
    · have : lnp acc (c :: r ++ [10]) = lnp (acc ++ [c]) (r ++ [10]) := if_neg h
      rw [this]
      exact lnp_end r _
theorem lnp_run : ∀ (p acc l : List Nat), 10 ∉ p → lnp acc (p ++ l) = lnp (acc ++ p) l
  | [], acc, l, _ => by rw [List.append_nil]; rfl
  | c :: r, acc, l, h => by
    have hc : c ≠ 10 := fun e => h (by rw [e]; exact List.mem_cons_self)
    have : lnp acc (c :: r ++ l) = lnp (acc ++ [c]) (r ++ l) := if_neg hc
    rw [this, lnp_run r _ l fun e => h (List.mem_cons_of_mem _ e), List.append_assoc]
    rfl
theorem lnp_lines : ∀ ps : List (List Nat), (∀ p ∈ ps, 10 ∉ p) → lnp [] ((ps.map (· ++ [10])).flatten) = (ps, [])
  | [], _ => rfl
  | p :: ps, h => by
    show lnp [] ((p ++ [10]) ++ (ps.map (· ++ [10])).flatten) = _
    rw [List.append_assoc, lnp_run p [] _ (h p List.mem_cons_self), List.nil_append]
    have : lnp p ([10] ++ (ps.map (· ++ [10])).flatten) = (p :: (lnp [] ((ps.map (· ++ [10])).flatten)).1, (lnp [] ((ps.map (· ++ [10])).flatten)).2) := if_pos rfl
    rw [this, lnp_lines ps fun q hq => h q (List.mem_cons_of_mem _ hq)]
theorem flat_mem {ps : List (List Nat)} {p q : List Nat} (h : p ∈ ps) : ∀ c ∈ p, c ∈ ((ps.map (· ++ [10])).flatten) ++ q := fun c hc =>
  List.mem_append_left _ (List.mem_flatten.mpr ⟨p ++ [10], List.mem_map.mpr ⟨p, h, rfl⟩, List.mem_append_left _ hc⟩)
theorem flat_len {ps : List (List Nat)} {p q : List Nat} (h : p ∈ ps) : p.length ≤ (((ps.map (· ++ [10])).flatten) ++ q).length := by
  have : (p ++ [10]).length ≤ ((ps.map (· ++ [10])).flatten).length := by
    rw [List.length_flatten]
    exact sum_ge (List.mem_map.mpr ⟨p ++ [10], List.mem_map.mpr ⟨p, h, rfl⟩, rfl⟩)
  rw [List.length_append] at this ⊢
  omega
theorem lines_le : ∀ ps : List (List Nat), ps.length ≤ ((ps.map (· ++ [10])).flatten).length
  | [] => Nat.le_refl _
  | p :: ps => by
    have := lines_le ps
    show ps.length + 1 ≤ ((p ++ [10]) ++ (ps.map (· ++ [10])).flatten).length
    rw [List.length_append, List.length_append, List.length_singleton]
    omega
def endB (T : List Nat) : Bool := decide (T = []) || decide ((T.drop (T.length - 1)).take 1 = [10])
theorem endB_rest {T : List Nat} (h : endB T = true) : (lnp [] T).2 = [] := by
  unfold endB at h
  rcases Bool.or_eq_true_iff.mp h with h | h
  · rw [of_decide_eq_true h]; rfl
  · have h := of_decide_eq_true h
    have : T = T.take (T.length - 1) ++ [10] := by
      have hd := List.take_append_drop (T.length - 1) T
      have hl : (T.drop (T.length - 1)).length ≤ 1 := by rw [List.length_drop]; omega
      rw [List.take_of_length_le hl] at h
      rw [h] at hd
      exact hd.symm
    rw [this]
    exact lnp_end _ _
theorem ends1 (T : List Nat) : Txt.endswith (sl T) ("\n" : Str) = decide ((T.drop (T.length - 1)).take 1 = [10]) := by
  rw [nlS]
  unfold Txt.endswith
  rw [StrLaws.subAt_eq, sl_len, sl_tl, sl_tl, sl_len]
  show (decide (0 + 1 ≤ T.length) && ((T.drop (T.length - 1)).take 1 == [10])) = _
  by_cases z : T = []
  · subst z; rfl
  · have : 0 < T.length := List.length_pos_iff.mpr z
    rw [decide_eq_true (by omega), Bool.true_and]
    by_cases q : (T.drop (T.length - 1)).take 1 = [10]
    · rw [q]; rfl
    · rw [decide_eq_false q]
      exact beq_eq_false_iff_ne.mpr q
def rdL : List (List Nat) → Option (List D)
  | [] => some []
  | l :: r => (rdT l).bind fun d => (rdL r).map fun ds => d :: ds
def evs (T : List Nat) : Option (List D) := if endB T = true then rdL (lnp [] T).1 else none
def rsL : Option (List D) → RsL
  | some ds => .ok ds
  | none => .ex 0
def rsE : Option (List D) → Rs
  | some ds => .ok (.list ds)
  | none => .ex 0
theorem collX_rd (s0 : Option Sl) : ∀ ls : List (List Nat), (∀ l ∈ ls, l.length ≤ 29000 ∧ chk l) → collX (gSet 1) mYes (xCall 1 m_read_value (mCons (mVar 1) mNil)) [s0, none] (ls.map DS) = some (rsL (rdL ls))
  | [], _ => rfl
  | l :: r, h => by
    have ih := collX_rd s0 r fun x hx => h x (List.mem_cons_of_mem _ hx)
    obtain ⟨h1, h2⟩ := h l List.mem_cons_self
    show ((xCall 1 m_read_value (mCons (mVar 1) mNil) [s0, some (.val (DS l))]).bind fun r' => (match r' with
      | .ok x => (collX (gSet 1) mYes (xCall 1 m_read_value (mCons (mVar 1) mNil)) [s0, none] (r.map DS)).map (consL x)
      | .ex k => some (.ex k))) = _
    have ca : xCall 1 m_read_value (mCons (mVar 1) mNil) [s0, some (.val (DS l))] = some (rsW (rdT l)) := (xcall_of (ds := [DS l]) rfl rfl).trans (read_ok l h1 h2)
    rw [ca, ih]
    show _ = some (rsL ((rdT l).bind fun d => (rdL r).map fun ds => d :: ds))
    cases rdT l with
    | none => rfl
    | some d => cases rdL r <;> rfl
theorem cut_but (ds : List D) : cutD ds none (some (-1)) = ds.take (ds.length - 1) := by
  unfold cutD
  have z1 : HT.sIx ds.length 0 none = 0 := rfl
  have e1 : HT.sIx ds.length ds.length (some (-1)) = ds.length - 1 := by
    show (if (-1 : Int) < 0 then ((-1 : Int) + (ds.length : Int)).toNat else min (-1 : Int).toNat ds.length) = _
    rw [if_pos (by decide)]
    omega
  rw [z1, e1, List.drop_zero, Nat.sub_zero]
theorem split_S (T : List Nat) : (Txt.split (sl T) ("\n" : Str)).map PyData.str = ((lnp [] T).1 ++ [(lnp [] T).2]).map DS := by
  have e : (Txt.split (sl T) ("\n" : Str)).map TL.tl = (lnp [] T).1 ++ [(lnp [] T).2] := by
    rw [nlS, TL.split_spl (sl T) (sl [10]) (by show [10] ≠ []; simp) (TL.kind_ok (by decide +kernel))]
    exact spl_lnp T []
  rw [← e, List.map_map]
  refine List.map_congr_left fun z _ => ?_
  show PyData.str z = PyData.str (sl z.cps.toList)
  rw [sl_of]
theorem read_events_ok (T : List Nat) (hl : T.length ≤ 29000) (hc : chk T) : m_read_events [DS T] = some (rsE (evs T)) := by
  have e0 : start0 2 [DS T] = [some (.val (DS T)), none] := rfl
  have cp : cap = 100000 := rfl
  have t1 : mNot (mTru (mUn (dIsi "str") (mVar 0))) [some (.val (DS T)), none] = some false := by kernel_rfl
  have t2 : mNot (mOr (mTest (mOp dEq (mVar 0) (mC (.str ("" : Str))))) (mTru (mOp dEndsT (mVar 0) (mC (.str ("\n" : Str)))))) [some (.val (DS T)), none] = some (!endB T) := by
    refine not_of ?_
    have a : mTest (mOp dEq (mVar 0) (mC (.str ("" : Str)))) [some (.val (DS T)), none] = some (decide (T = [])) := test_of ((op_of (x := DS T) (y := DS []) rfl rfl).trans (eq_S hc (fun c h => nomatch h)))
    have b : mTru (mOp dEndsT (mVar 0) (mC (.str ("\n" : Str)))) [some (.val (DS T)), none] = some (decide ((T.drop (T.length - 1)).take 1 = [10])) := by
      refine (tru_of (x := .bool (decide ((T.drop (T.length - 1)).take 1 = [10]))) ((op_of (x := DS T) (y := .str "\n") rfl rfl).trans ?_)).trans rfl
      show some (PyData.bool (Txt.endswith (sl T) ("\n" : Str))) = _
      rw [ends1]
    unfold endB
    by_cases z : T = []
    · rw [decide_eq_true z] at a ⊢
      exact or_t a
    · rw [decide_eq_false z] at a ⊢
      exact (or_f a).trans b
  unfold evs
  by_cases q : endB T = true
  · rw [q] at t2
    rw [if_pos q]
    have back := lnp_back T []
    rw [endB_rest q, List.nil_append] at back
    have it : mIter (mSlY (mOp dSplit (mVar 0) (mC (.str ("\n" : Str)))) mNoPart (mPart (mUn dNeg (mC (.int 1))))) [some (.val (DS T)), none] = some ((lnp [] T).1.map DS) := by
      have sp : mOp dSplit (mVar 0) (mC (.str ("\n" : Str))) [some (.val (DS T)), none] = some (.list (((lnp [] T).1 ++ [(lnp [] T).2]).map DS)) := by
        refine (op_of (x := DS T) (y := .str "\n") rfl rfl).trans ?_
        show (if (("\n" : Str).length == 0) = false ∧ (sl T).length + 2 ≤ 16777216 then some (PyData.list ((Txt.split (sl T) ("\n" : Str)).map PyData.str)) else none) = _
        rw [split_S, if_pos ⟨by rw [nlS]; rfl, by rw [sl_len]; omega⟩]
      unfold mIter mSlY
      rw [sp]
      show its (.list (cutD (((lnp [] T).1 ++ [(lnp [] T).2]).map DS) none (some (-1)))) = _
      rw [cut_but, List.length_map, List.length_append, List.length_singleton, ← List.map_take, Nat.add_sub_cancel, List.take_left]
      rfl
    have lc : ((lnp [] T).1.map DS).length ≤ cap := by
      have := lines_le (lnp [] T).1
      have := congrArg List.length back
      rw [List.length_append, List.length_nil] at this
      rw [List.length_map]
      omega
    have cx : xList (mLcX (mIter (mSlY (mOp dSplit (mVar 0) (mC (.str ("\n" : Str)))) mNoPart (mPart (mUn dNeg (mC (.int 1)))))) (gSet 1) mYes (xCall 1 m_read_value (mCons (mVar 1) mNil)) [1]) [some (.val (DS T)), none] = some (rsE (rdL (lnp [] T).1)) := by
      unfold xList mLcX
      rw [it]
      show (if ((lnp [] T).1.map DS).length ≤ cap then collX (gSet 1) mYes (xCall 1 m_read_value (mCons (mVar 1) mNil)) [some (.val (DS T)), none] ((lnp [] T).1.map DS) else none).map _ = _
      rw [if_pos lc, collX_rd _ _ fun l hm => ⟨?_, fun c hcm => ?_⟩]
      · cases rdL (lnp [] T).1 <;> rfl
      · have := flat_len (q := []) hm
        rw [back] at this
        omega
      · have := flat_mem (q := []) hm c hcm
        rw [back] at this
        exact hc c this
    cases h : rdL (lnp [] T).1 with
    | none =>
      rw [h] at cx
      refine xd_ex (ρ' := [some (.val (DS T)), none]) ?_
      rw [e0]
      unfold b_read_events
      rw [xs_nx ((xi_f ((or_f t1).trans t2)).trans (xf_of rfl))]
      exact xret_ex cx
    | some ds =>
      rw [h] at cx
      refine xd_rt ?_
      rw [e0]
      unfold b_read_events
      rw [xs_nx ((xi_f ((or_f t1).trans t2)).trans (xf_of rfl))]
      exact xret_ok cx
  · rw [if_neg q]
    rw [Bool.not_eq_true] at q
    rw [q] at t2
    refine xd_ex (ρ' := [some (.val (DS T)), none]) ?_
    rw [e0]
    unfold b_read_events
    exact xs_ex ((xi_t ((or_f t1).trans t2)).trans rfl)
theorem rdL_ok : ∀ (ls : List (List Nat)) (ds : List D), (∀ l ∈ ls, l.length ≤ 29000) → rdL ls = some ds → ls = ds.map (txk 50) ∧ ∀ d ∈ ds, Val 50 d
  | [], ds, _, h => by cases h; exact ⟨rfl, fun d hd => nomatch hd⟩
  | l :: r, ds, hl, h => by
    replace h : ((rdT l).bind fun d => (rdL r).map fun ds => d :: ds) = some ds := h
    cases h1 : rdT l with
    | none => rw [h1] at h; cases h
    | some d =>
      rw [h1] at h
      obtain ⟨es, h2, e⟩ := map_some (show (rdL r).map (fun ds => d :: ds) = some ds from h)
      subst e
      obtain ⟨a, b⟩ := rdT_tx (hl l List.mem_cons_self) h1
      obtain ⟨i1, i2⟩ := rdL_ok r es (fun x hx => hl x (List.mem_cons_of_mem _ hx)) h2
      refine ⟨by rw [a, i1]; rfl, fun x hx => ?_⟩
      rcases List.mem_cons.mp hx with rfl | hx
      · exact b
      · exact i2 x hx
theorem evs_tx {T : List Nat} {ds : List D} (hl : T.length ≤ 29000) (h : evs T = some ds) : T = evT ds ∧ ∀ d ∈ ds, Val 50 d := by
  unfold evs at h
  split at h
  · rename_i q
    have back := lnp_back T []
    rw [endB_rest q, List.nil_append] at back
    obtain ⟨a, b⟩ := rdL_ok _ _ (fun l hm => by
      have := flat_len (q := []) hm
      rw [back] at this
      omega) h
    refine ⟨?_, b⟩
    rw [List.append_nil] at back
    rw [← back, a, List.map_map]
    rfl
  · cases h
end DD

set_option Elab.async false
set_option linter.all false
set_option maxRecDepth 100000
set_option maxHeartbeats 4000000
namespace DD
local instance : TabQ := ⟨[]⟩
local instance : ExQ := ⟨0, 0⟩
open PySem PySem.Spec PyProof.Rows L2
/-! k83: read and written again -/
theorem row_rng : ∀ c ∈ rowS.cps.toList, 32 ≤ c ∧ c < 128 := by
  have : (rowS.cps.toList.all fun c => decide (32 ≤ c ∧ c < 128)) = true := by kernel_rfl
  intro c hc
  exact of_decide_eq_true (List.all_eq_true.mp this c hc)
theorem joinB_in : ∀ (ps : List (List Nat)) (c : Nat), c ∈ joinB ps → c = 32 ∨ ∃ p ∈ ps, c ∈ p
  | [], c, h => nomatch h
  | [p], c, h => .inr ⟨p, List.mem_cons_self, h⟩
  | p :: q :: r, c, h => by
    replace h : c ∈ p ++ 32 :: joinB (q :: r) := h
    rcases List.mem_append.mp h with h | h
    · exact .inr ⟨p, List.mem_cons_self, h⟩
    · rcases List.mem_cons.mp h with h | h
      · exact .inl h
      · rcases joinB_in (q :: r) c h with h | ⟨x, h1, h2⟩
        · exact .inl h
        · exact .inr ⟨x, List.mem_cons_of_mem _ h1, h2⟩
theorem tx_rng : ∀ (k : Nat) (d : D), Val k d → ∀ c ∈ txk k d, 32 ≤ c ∧ c < 128
  | k, .none, _ => by
    have : txk k .none = [110, 111, 110, 101] := by cases k <;> rfl
    rw [this]; decide
  | k, .bool true, _ => by
    have : txk k (.bool true) = [121, 101, 115] := by cases k <;> rfl
    rw [this]; decide
  | k, .bool false, _ => by
    have : txk k (.bool false) = [110, 111] := by cases k <;> rfl
    rw [this]; decide
  | k, .int i, _ => fun c hc => by
    rw [tx_i] at hc
    have := tx_sign i c hc
    omega
  | k, .str z, h => fun c hc => by
    have e : txk k (.str z) = 34 :: (z.cps.toList ++ [34]) := by cases k <;> rfl
    rw [e] at hc
    rcases List.mem_cons.mp hc with rfl | hc
    · decide
    · rcases List.mem_append.mp hc with hc | hc
      · exact row_rng c ((val_str.mp h).2 c hc)
      · rw [List.mem_singleton.mp hc]; decide
  | k + 1, .tuple ds, h => fun c hc => by
    replace hc : c ∈ 40 :: (joinB (ds.map (txk k)) ++ [41]) := hc
    rcases List.mem_cons.mp hc with rfl | hc
    · decide
    · rcases List.mem_append.mp hc with hc | hc
      · rcases joinB_in _ _ hc with rfl | ⟨p, h1, h2⟩
        · decide
        · obtain ⟨d, hd, rfl⟩ := List.mem_map.mp h1
          exact tx_rng k d (h.2 d hd) c h2
      · rw [List.mem_singleton.mp hc]; decide
  | 0, .tuple _, h => h.elim
  | 0, .list _, h => h.elim
  | k + 1, .list _, h => h.elim
  | 0, .dict _, h => h.elim
  | k + 1, .dict _, h => h.elim
theorem tx_chk {k : Nat} {d : D} (h : Val k d) : chk (txk k d) := fun c hc => Nat.lt_trans (tx_rng k d h c hc).2 (by decide)
theorem ev_chk {ds : List D} (h : ∀ d ∈ ds, Val 50 d) : chk (evT ds) := fun c hc => by
  obtain ⟨p, h1, h2⟩ := List.mem_flatten.mp hc
  obtain ⟨d, hd, rfl⟩ := List.mem_map.mp h1
  rcases List.mem_append.mp h2 with h2 | h2
  · exact tx_chk (h d hd) c h2
  · rw [List.mem_singleton.mp h2]; decide
theorem ev_lines (ds : List D) : evT ds = ((ds.map (txk 50)).map (· ++ [10])).flatten := by rw [List.map_map]; rfl
theorem rdL_tx : ∀ ds : List D, (∀ d ∈ ds, Val 50 d) → rdL (ds.map (txk 50)) = some ds
  | [], _ => rfl
  | d :: ds, h => by
    show ((rdT (txk 50 d)).bind fun d => (rdL (ds.map (txk 50))).map fun ds => d :: ds) = _
    rw [tx_rdT (h d List.mem_cons_self), rdL_tx ds fun x hx => h x (List.mem_cons_of_mem _ hx)]
    rfl
theorem ev_end (ds : List D) : endB (evT ds) = true := by
  unfold endB
  rcases List.eq_nil_or_concat ds with rfl | ⟨es, e, rfl⟩
  · rfl
  · have : evT (es ++ [e]) = (evT es ++ txk 50 e) ++ [10] := by
      unfold evT
      rw [List.map_append, List.flatten_append]
      show _ ++ ((txk 50 e ++ [10]) ++ []) = _
      rw [List.append_nil, List.append_assoc]
    rw [List.concat_eq_append, this]
    generalize evT es ++ txk 50 e = X
    rw [List.length_append, List.length_singleton, Nat.add_sub_cancel, List.drop_left]
    simp
theorem tx_evs {ds : List D} (h : ∀ d ∈ ds, Val 50 d) : evs (evT ds) = some ds := by
  unfold evs
  rw [if_pos (ev_end ds), ev_lines, lnp_lines _ fun p hp => ?_]
  · exact rdL_tx ds h
  · obtain ⟨d, hd, rfl⟩ := List.mem_map.mp hp
    intro q
    have := (tx_rng 50 d (h d hd) 10 q).1
    omega
theorem try_fl {i : Nat} {f : Nat → Option D} {b : En → Option FlX} {ρ : En} {x : Fl} (h : b ρ = some (.fl x)) : sTryF i f b ρ = some x := by unfold sTryF; rw [h]; rfl
theorem try_ex {i : Nat} {f : Nat → Option D} {b : En → Option FlX} {ρ ρ' : En} {c : Nat} {d : D} (h : b ρ = some (.ex c ρ')) (l : i < ρ'.length) (q : f c = some d) : sTryF i f b ρ = some (.rt d) := by
  unfold sTryF; rw [h]
  show (if i < ρ'.length then (f c).map Fl.rt else none) = _
  rw [if_pos l, q]; rfl
/-! what is drawn: its text is short -/
theorem tx_len : ∀ (k m : Nat) (d : D), VOk k d → (txk (m + k) d).length ≤ 12 * 4 ^ k
  | k, m, .none, _ => by
    have : txk (m + k) .none = [110, 111, 110, 101] := by cases (m + k) <;> rfl
    have p : 0 < 4 ^ k := Nat.pow_pos (by decide)
    rw [this]; show 4 ≤ _; omega
  | k, m, .bool true, _ => by
    have : txk (m + k) (.bool true) = [121, 101, 115] := by cases (m + k) <;> rfl
    have p : 0 < 4 ^ k := Nat.pow_pos (by decide)
    rw [this]; show 3 ≤ _; omega
  | k, m, .bool false, _ => by
    have : txk (m + k) (.bool false) = [110, 111] := by cases (m + k) <;> rfl
    have p : 0 < 4 ^ k := Nat.pow_pos (by decide)
    rw [this]; show 2 ≤ _; omega
  | k, m, .int i, h => by
    have h : i.natAbs < 30000000000 := by cases k <;> exact h
    have p : 0 < 4 ^ k := Nat.pow_pos (by decide)
    have l : (TL.numL i.natAbs).length ≤ 11 := TL.numL_len (by decide) (Nat.lt_trans h (by decide))
    rw [tx_i]
    unfold txI
    split
    · rw [List.length_cons]; omega
    · omega
  | k, m, .str z, h => by
    have h : z.length ≤ 4 ∧ ∀ c ∈ z.cps.toList, c ∈ sgs.cps.toList := by cases k <;> exact h
    have p : 0 < 4 ^ k := Nat.pow_pos (by decide)
    have e : txk (m + k) (.str z) = 34 :: (z.cps.toList ++ [34]) := by cases (m + k) <;> rfl
    have zl : z.cps.toList.length = z.length := Array.length_toList
    rw [e, List.length_cons, List.length_append, List.length_singleton, zl]
    omega
  | k + 1, m, .tuple ds, h => by
    have e : txk (m + (k + 1)) (.tuple ds) = 40 :: (joinB (ds.map (txk (m + k))) ++ [41]) := rfl
    rw [e, List.length_cons, List.length_append, List.length_singleton]
    have p : 0 < 4 ^ k := Nat.pow_pos (by decide)
    have q : 4 ^ (k + 1) = 4 ^ k * 4 := Nat.pow_succ ..
    have sm : ∀ l : List D, (∀ d ∈ l, VOk k d) → ((l.map (txk (m + k))).map (·.length)).sum ≤ l.length * (12 * 4 ^ k) := by
      intro l
      induction l with
      | nil => intro _; exact Nat.zero_le _
      | cons d r ih =>
        intro hl
        have := ih fun x hx => hl x (List.mem_cons_of_mem _ hx)
        have := tx_len k m d (hl d List.mem_cons_self)
        rw [List.map_cons, List.map_cons, List.sum_cons, List.length_cons, Nat.succ_mul]
        omega
    have s := sm ds h.2
    have l3 : ds.length * (12 * 4 ^ k) ≤ 3 * (12 * 4 ^ k) := Nat.mul_le_mul_right _ h.1
    have d3 : ds.length ≤ 3 := h.1
    cases ds with
    | nil => show 0 + 1 + 1 ≤ _; omega
    | cons d r =>
      have j := joinB_len (txk (m + k) d) (r.map (txk (m + k)))
      have j2 : (txk (m + k) d :: r.map (txk (m + k))).length = (d :: r).length := by rw [List.length_cons, List.length_cons, List.length_map]
      rw [j2] at j
      rw [List.map_cons] at s ⊢
      omega
  | 0, _, .tuple _, h => h.elim
  | 0, _, .list _, h => h.elim
  | k + 1, _, .list _, h => h.elim
  | 0, _, .dict _, h => h.elim
  | k + 1, _, .dict _, h => h.elim
theorem vok_50 {d : D} (h : VOk 3 d) : Val 50 d := (Val.mono (val_vok 3 d h) 47).1
theorem vok_len {d : D} (h : VOk 3 d) : (txk 50 d).length ≤ 768 := tx_len 3 47 d h
end DD

set_option Elab.async false
set_option linter.all false
set_option maxRecDepth 100000
set_option maxHeartbeats 4000000
namespace DD
local instance : TabQ := ⟨[]⟩
local instance : ExQ := ⟨0, 0⟩
open PySem PySem.Spec PyProof.Rows L2
/-! k82: the law's own writing -/
theorem plain_flat (m : Nat) (d : D) (k : Nat) (nt : isIt "tuple" d = false) (hv : Val k d) : m__law_plain (m + 1) [d] = some (DS (txk k d)) := by
  refine mDef_rt (?_ : b__law_plain (m__law_plain m) [some (.val d), none] = _)
  unfold b__law_plain
  cases d with
  | none =>
    have : txk k .none = [110, 111, 110, 101] := by cases k <;> rfl
    rw [this]
    exact seq_rt ((if_t (by kernel_rfl)).trans (ret_of (by rw [noneS]; rfl)))
  | bool b =>
    refine seq_rt ((if_t (by cases b <;> kernel_rfl)).trans (ret_of ?_))
    cases b with
    | true =>
      have : txk k (.bool true) = [121, 101, 115] := by cases k <;> rfl
      rw [this, yesS]; rfl
    | false =>
      have : txk k (.bool false) = [110, 111] := by cases k <;> rfl
      rw [this, noS]; rfl
  | int i =>
    have hb := val_int.mp hv
    rw [seq_nx (ρ' := [some (.val (.int i)), none]) ((if_f (by kernel_rfl)).trans rfl)]
    refine seq_rt ((if_t (by kernel_rfl)).trans (ret_of ?_))
    rw [tx_i]
    refine (call_of (x := [.int i]) (cons_of rfl nil_of)).trans ?_
    show (if i.natAbs.log2 < 1920 then some (PyData.str (strI i)) else none) = _
    rw [if_pos (log_ok hb), tl_strI]
    rfl
  | str z =>
    obtain ⟨hl, _⟩ := val_str.mp hv
    have e : txk k (.str z) = ([34] ++ z.cps.toList) ++ [34] := by cases k <;> rfl
    have zl : z.cps.toList.length = z.length := Array.length_toList
    have cp : cap = 100000 := rfl
    rw [seq_nx (ρ' := [some (.val (.str z)), none]) ((if_f (by kernel_rfl)).trans rfl)]
    rw [seq_nx (ρ' := [some (.val (.str z)), none]) ((if_f (by kernel_rfl)).trans rfl)]
    refine seq_rt ((if_t (by kernel_rfl)).trans (ret_of ?_))
    rw [e]
    have q : ∀ ρ : En, mC (.str ("\"" : Str)) ρ = some (DS [34]) := fun ρ => by rw [quS]; rfl
    have zz : DS z.cps.toList = .str z := by unfold DS; rw [sl_of]
    refine (op_of (x := DS ([34] ++ z.cps.toList)) (y := DS [34]) ((op_of (x := DS [34]) (y := DS z.cps.toList) (q _) (by rw [zz]; rfl)).trans (add_S ?_)) (q _)).trans (add_S ?_)
    · rw [zl]; show 1 + z.length ≤ cap; omega
    · rw [List.length_append, zl]; show 1 + z.length + 1 ≤ cap; omega
  | tuple ds => cases nt
  | list ds => cases k <;> cases hv
  | dict ds => cases k <;> cases hv
theorem plain_ok : ∀ (k n : Nat) (d : D) (m : Nat), Val k d → k < n → (txk (m + k) d).length ≤ 9500 → m__law_plain n [d] = some (DS (txk (m + k) d)) := by
  intro k
  induction k with
  | zero =>
    intro n d m hv hn hz
    obtain ⟨j, rfl⟩ : ∃ j, n = j + 1 := ⟨n - 1, by omega⟩
    have hv2 := (Val.mono hv m).1
    rw [Nat.zero_add] at hv2
    refine plain_flat j d (m + 0) ?_ hv2
    cases d <;> first | rfl | exact hv.elim
  | succ k ih =>
    intro n d m hv hn hz
    obtain ⟨j, rfl⟩ : ∃ j, n = j + 1 := ⟨n - 1, by omega⟩
    by_cases nt : isIt "tuple" d = false
    · have hv2 := (Val.mono hv m).1
      rw [Nat.add_comm] at hv2
      exact plain_flat j d (m + (k + 1)) nt hv2
    · obtain ⟨ds, rfl⟩ := tup_of_is (by simpa using nt)
      obtain ⟨hl, hd⟩ := (show ds.length ≤ 9999 ∧ ∀ d ∈ ds, Val k d from hv)
      have et : txk (m + (k + 1)) (.tuple ds) = ([40] ++ joinB (ds.map (txk (m + k)))) ++ [41] := rfl
      rw [et] at hz ⊢
      rw [List.length_append, List.length_append, List.length_singleton, List.length_singleton] at hz
      have cp : cap = 100000 := rfl
      refine mDef_rt (?_ : b__law_plain (m__law_plain j) [some (.val (.tuple ds)), none] = _)
      unfold b__law_plain
      rw [seq_nx (ρ' := [some (.val (.tuple ds)), none]) ((if_f (by kernel_rfl)).trans rfl)]
      rw [seq_nx (ρ' := [some (.val (.tuple ds)), none]) ((if_f (by kernel_rfl)).trans rfl)]
      rw [seq_nx (ρ' := [some (.val (.tuple ds)), none]) ((if_f (by kernel_rfl)).trans rfl)]
      have q : mOp dJoin (mC (.str (" " : Str))) (mList (mLc (mIter (mVar 0)) (gSet 1) mYes (mCall (lim 1 (m__law_plain j)) (mCons (mVar 1) mNil)) [1])) [some (.val (.tuple ds)), none] = some (DS (joinB (ds.map (txk (m + k))))) := by
        refine (op_of (x := .str " ") (y := .list (ds.map fun d => DS (txk (m + k) d))) rfl (list_of ?_)).trans (join_S (txk (m + k)) ds (by omega))
        refine lc_all (l := ds) (f := fun d => d) (h := fun d => DS (txk (m + k) d)) ?_ (Nat.le_trans hl (by decide)) fun d hm => ⟨_, rfl, ?_⟩
        · rw [List.map_id']; rfl
        have := joinB_mem (List.mem_map.mpr ⟨d, hm, rfl⟩ : txk (m + k) d ∈ ds.map (txk (m + k)))
        exact (call_of (x := [d]) (cons_of rfl nil_of)).trans (lim1.trans (ih j d m (hd d hm) (by omega) (by omega)))
      refine ret_of ((op_of (x := DS ([40] ++ joinB (ds.map (txk (m + k))))) (y := DS [41]) ((op_of (x := DS [40]) (by rw [opS]; rfl) q).trans (add_S ?_)) (by rw [clS]; rfl)).trans (add_S ?_))
      · show 1 + _ ≤ cap; omega
      · rw [List.length_append]; show 1 + _ + 1 ≤ cap; omega
end DD

set_option Elab.async false
set_option linter.all false
set_option maxRecDepth 100000
set_option maxHeartbeats 4000000
namespace DD
local instance : TabQ := ⟨[]⟩
local instance : ExQ := ⟨0, 0⟩
open PySem PySem.Spec PyProof.Rows L2
/-! k82: what is refused -/
theorem fold_arr : ∀ (xs : List (Array Nat)) (acc : Array Nat), (xs.foldl (· ++ ·) acc).toList = acc.toList ++ (xs.map Array.toList).flatten
  | [], acc => by simp
  | x :: xs, acc => by
    rw [List.foldl_cons, fold_arr xs (acc ++ x)]
    simp
theorem mul_sl (l : List Nat) (n : Nat) : Txt.mul (sl l) ((n : Nat) : Int) = sl (List.replicate n l).flatten := by
  unfold Txt.mul
  by_cases h0 : n = 0
  · subst h0; rfl
  rw [if_neg (by omega)]
  by_cases h1 : (((n : Nat) : Int) == 1 || (sl l).length == 0) = true
  · rw [if_pos h1]
    rcases Bool.or_eq_true_iff.mp h1 with h | h
    · have : n = 1 := by have := eq_of_beq h; omega
      subst this
      simp
    · have hl : (sl l).length = 0 := eq_of_beq h
      rw [sl_len] at hl
      rw [List.length_eq_zero_iff.mp hl]
      congr 1
      induction n with
      | zero => rfl
      | succ n ih => simp
  · rw [if_neg h1]
    refine TL.ext_tl ?_
    show ((List.replicate ((n : Nat) : Int).toNat (sl l).cps).foldl (· ++ ·) #[]).toList = _
    rw [fold_arr, List.map_replicate, Int.toNat_natCast]
    rfl
theorem mul_ev {ρ : En} {a : Str} {l : List Nat} {n : Nat} (h : a = sl l) (h1 : n ≤ 1000000) (h2 : l.length * n ≤ cap) : mOp dMulS (mC (.str a)) (mC (.int ((n : Nat) : Int))) ρ = some (DS (List.replicate n l).flatten) := by
  show dMulS (.str a) (.int ((n : Nat) : Int)) = _
  rw [h]
  show (if (0 : Int) ≤ (n : Nat) ∧ ((n : Nat) : Int) ≤ 1000000 ∧ (sl l).length * ((n : Nat) : Int).toNat ≤ cap then some (PyData.str (Txt.mul (sl l) ((n : Nat) : Int))) else none) = _
  rw [if_pos ⟨by omega, by omega, by rw [sl_len, Int.toNat_natCast]; exact h2⟩, mul_sl]
  rfl
theorem rep_one (n c : Nat) : (List.replicate n [c]).flatten = List.replicate n c := by
  induction n with
  | zero => rfl
  | succ n ih => rw [List.replicate_succ, List.flatten_cons, ih]; rfl
theorem chk_rep {n c : Nat} (h : c < 1114112) : chk (List.replicate n c) := fun x hx => by rw [List.eq_of_mem_replicate hx]; exact h
theorem chk_cons {c : Nat} {l : List Nat} (h : c < 1114112) (k : chk l) : chk (c :: l) := fun x hx => by
  rcases List.mem_cons.mp hx with rfl | hx
  · exact h
  · exact k x hx
theorem chk_app {a b : List Nat} (h : chk a) (k : chk b) : chk (a ++ b) := fun c hc => by
  rcases List.mem_append.mp hc with hc | hc
  · exact h c hc
  · exact k c hc
abbrev NO : D := .list [.bool false, .bool true]
theorem xdrop_ex {m : En → Option Rs} {ρ : En} {c : Nat} (h : m ρ = some (.ex c)) : xDrop m ρ = some (.ex c ρ) := by unfold xDrop; rw [h]; rfl
theorem no2 {T : List Nat} (hl : T.length ≤ 29000) (hc : chk T) (h : rdT T = none) : m__law_no [.int 2, DS T] = some NO := by
  refine mDef_rt (?_ : b__law_no [some (.val (.int 2)), some (.val (DS T)), none] = _)
  unfold b__law_no
  have r : xCall 1 m_read_value (mCons (mVar 1) mNil) [some (.val (.int 2)), some (.val (DS T)), none] = some (.ex 0) := by
    refine (xcall_of (ds := [DS T]) rfl rfl).trans ?_
    rw [read_ok T hl hc, h]; rfl
  refine seq_rt (try_ex (ρ' := [some (.val (.int 2)), some (.val (DS T)), none]) (c := 0) ?_ (show 2 < 3 by decide) rfl)
  have c0 : mTest (mOp dEq (mVar 0) (mC (.int 0))) [some (.val (.int 2)), some (.val (DS T)), none] = some false := by kernel_rfl
  have c1 : mTest (mOp dEq (mVar 0) (mC (.int 1))) [some (.val (.int 2)), some (.val (DS T)), none] = some false := by kernel_rfl
  have c2 : mTest (mOp dEq (mVar 0) (mC (.int 2))) [some (.val (.int 2)), some (.val (DS T)), none] = some true := by kernel_rfl
  exact (xi_f c0).trans ((xi_f c1).trans ((xi_t c2).trans (xdrop_ex r)))
/-! the long ones -/
abbrev lA : List Nat := 34 :: (List.replicate 10000 97 ++ [34])
abbrev lB : List Nat := 40 :: ((List.replicate 9999 [49, 32]).flatten ++ [49, 41])
abbrev lC : List Nat := 40 :: 45 :: (List.replicate 450 57 ++ [41])
abbrev lD : List Nat := List.replicate 200 40
theorem rd_A : rdT lA = none := by
  have e : pvk 50 lA = some (DS (List.replicate 10000 97), []) := by
    rw [pvk_str]
    have a : ∀ c ∈ List.replicate 10000 97, (fun c => decide (c ≠ 34)) c = true := fun c hc => by rw [List.eq_of_mem_replicate hc]; rfl
    unfold pvStr
    rw [List.takeWhile_append_of_pos a, List.dropWhile_append_of_pos a]
    have t1 : ([34] : List Nat).takeWhile (fun c => decide (c ≠ 34)) = [] := rfl
    have t2 : ([34] : List Nat).dropWhile (fun c => decide (c ≠ 34)) = [34] := rfl
    rw [t1, t2, List.append_nil]
    rfl
  have v : vb 50 (DS (List.replicate 10000 97)) = false := by
    unfold DS
    rw [vb_str, sl_len, List.length_replicate, decide_eq_false (by decide)]
    rfl
  unfold rdT
  rw [e]
  show (if vb 50 (DS (List.replicate 10000 97)) = true then _ else none) = _
  rw [v]; rfl
theorem joinB_rep : ∀ n : Nat, joinB (List.replicate (n + 1) [49]) = (List.replicate n [49, 32]).flatten ++ [49]
  | 0 => rfl
  | n + 1 => by
    have e : joinB (List.replicate (n + 1 + 1) [49]) = [49] ++ 32 :: joinB (List.replicate (n + 1) [49]) := rfl
    rw [e, joinB_rep n, List.replicate_succ, List.flatten_cons, List.append_assoc]
    rfl
theorem rd_B : rdT lB = none := by
  have m : (List.replicate 10000 (PyData.int 1)).map (txk 49) = List.replicate 10000 [49] := by
    rw [List.map_replicate]
    have : txk 49 (.int 1) = [49] := by rw [tx_i]; decide +kernel
    rw [this]
  have b : lB = 40 :: (joinB ((List.replicate 10000 (PyData.int 1)).map (txk 49)) ++ 41 :: []) := by
    rw [m, joinB_rep 9999, List.append_assoc]
    rfl
  have row := pv_row 49 [] 30000 (.int 1) (List.replicate 9999 (.int 1)) (by rw [List.length_replicate]; decide) (fun x hx => by
    have : x = .int 1 := by
      rcases List.mem_cons.mp hx with rfl | hx
      · rfl
      · exact List.eq_of_mem_replicate hx
    rw [this]
    exact val_int.mpr (by decide +kernel))
  have rr : (PyData.int 1 :: List.replicate 9999 (PyData.int 1)) = List.replicate 10000 (PyData.int 1) := (List.replicate_succ (n := 9999)).symm
  rw [rr] at row
  have h49 : ∃ u, joinB ((List.replicate 10000 (PyData.int 1)).map (txk 49)) ++ 41 :: [] = 49 :: u := by
    rw [m]
    exact ⟨_, rfl⟩
  obtain ⟨u, hu⟩ := h49
  have e : pvk 50 lB = some (.tuple (List.replicate 10000 (PyData.int 1)), []) := by
    rw [b]
    show rtTup (pvk 49) (joinB ((List.replicate 10000 (PyData.int 1)).map (txk 49)) ++ 41 :: []) = _
    rw [hu] at row ⊢
    rw [rtTup_ne (by decide), row]
    rfl
  have v : vb 50 (.tuple (List.replicate 10000 (PyData.int 1))) = false := by
    rw [vb_tup, List.length_replicate, decide_eq_false (by decide)]
    rfl
  unfold rdT
  rw [e]
  show (if vb 50 (.tuple (List.replicate 10000 (PyData.int 1))) = true then _ else none) = _
  rw [v]; rfl
theorem rd_C : rdT lC = none := by kernel_rfl
theorem rd_D : rdT lD = none := by kernel_rfl
theorem len_A : lA.length ≤ 29000 := by
  rw [List.length_cons, List.length_append, List.length_replicate]; decide
theorem len_flat (n : Nat) : ((List.replicate n [49, 32]).flatten : List Nat).length = 2 * n := by
  induction n with
  | zero => rfl
  | succ n ih => rw [List.replicate_succ, List.flatten_cons, List.length_append, ih]; show 2 + 2 * n = _; omega
theorem len_B : lB.length ≤ 29000 := by
  rw [List.length_cons, List.length_append, len_flat]; decide
theorem len_C : lC.length ≤ 29000 := by
  rw [List.length_cons, List.length_cons, List.length_append, List.length_replicate]; decide
theorem len_D : lD.length ≤ 29000 := by rw [List.length_replicate]; decide
theorem chk_A : chk lA := chk_cons (by decide) (chk_app (chk_rep (by decide)) (chk1 (by decide)))
theorem chk_B : chk lB := chk_cons (by decide) (chk_app (fun c hc => by
  obtain ⟨p, h1, h2⟩ := List.mem_flatten.mp hc
  rw [List.eq_of_mem_replicate h1] at h2
  rcases List.mem_cons.mp h2 with rfl | h2
  · decide
  · rw [List.mem_singleton.mp h2]; decide) (chk_cons (by decide) (chk1 (by decide))))
theorem chk_C : chk lC := chk_cons (by decide) (chk_cons (by decide) (chk_app (chk_rep (by decide)) (chk1 (by decide))))
theorem chk_D : chk lD := chk_rep (by decide)
theorem long_no (x : Int) (h : 0 ≤ x ∧ x < 4) : ∃ d, dIx (.list [DS lA, DS lB, DS lC, DS lD]) (.int x) = some d ∧ m__law_no [.int 2, d] = some NO := by
  have : x = 0 ∨ x = 1 ∨ x = 2 ∨ x = 3 := by omega
  rcases this with rfl | rfl | rfl | rfl
  · exact ⟨_, rfl, no2 len_A chk_A rd_A⟩
  · exact ⟨_, rfl, no2 len_B chk_B rd_B⟩
  · exact ⟨_, rfl, no2 len_C chk_C rd_C⟩
  · exact ⟨_, rfl, no2 len_D chk_D rd_D⟩
def none1 : List D := [.none, .int 7, .str "", .str " ", .str "1 ", .str "01", .str "-0", .str "+1", .str "1.0", .str "None", .str "( )", .str "(1", .str "(1 )"]
def none2 : List D := [.str "(1  2)", .str "1)", .str "\"a", .str "a\"", .str "\"A\"", .str "yes no", .str "--1", .str "(1,2)", .str "\"\"x", .tuple [.str "1"]]
def none3 (d : D) : List D := [DS (49 :: List.replicate 400 48), DS (List.replicate 51 40 ++ List.replicate 51 41), d]
theorem of_map {ds : List D} {w : Int} {v : D} (h : (ds.map fun d => m__law_no [.int w, d]) = ds.map fun _ => some v) : ∀ d ∈ ds, m__law_no [.int w, d] = some v := by
  intro d hd
  obtain ⟨i, hi, e⟩ := List.getElem_of_mem hd
  have := congrArg (fun l => l[i]?) h
  simp only [List.getElem?_map, List.getElem?_eq_getElem hi, Option.map_some, e] at this
  exact Option.some.inj this
theorem no_1 : ∀ d ∈ none1, m__law_no [.int 2, d] = some NO := of_map (by kernel_rfl)
theorem no_2 : ∀ d ∈ none2, m__law_no [.int 2, d] = some NO := of_map (by kernel_rfl)
theorem no_3 {x : D} (h : m__law_no [.int 2, x] = some NO) : ∀ d ∈ none3 x, m__law_no [.int 2, d] = some NO := fun d hd => by
  rcases List.mem_cons.mp hd with rfl | hd
  · exact no2 (by rw [List.length_cons, List.length_replicate]; decide) (chk_cons (by decide) (chk_rep (by decide))) (by kernel_rfl)
  · rcases List.mem_cons.mp hd with rfl | hd
    · exact no2 (by rw [List.length_append, List.length_replicate, List.length_replicate]; decide) (chk_app (chk_rep (by decide)) (chk_rep (by decide))) (by kernel_rfl)
    · rw [List.mem_singleton.mp hd]; exact h
theorem filt_nil {it : En → Option (List D)} {g : D → En → Option En} {c : En → Option Bool} {e : En → Option D} {ρ : En} {vs : List Nat} {ds : List D} (hi : it ρ = some ds) (hz : ds.length ≤ cap) (h : ∀ d ∈ ds, ∃ ρ1, g d (wipeM ρ vs) = some ρ1 ∧ c ρ1 = some false) : mLc it g c e vs ρ = some [] := by
  rw [lc_if (p := fun _ => false) (f := id) hi hz fun d hd => by
    obtain ⟨ρ1, h1, h2⟩ := h d hd
    exact ⟨ρ1, h1, h2, fun z => nomatch z⟩]
  simp
end DD

set_option Elab.async false
set_option linter.all false
set_option maxRecDepth 100000
set_option maxHeartbeats 4000000
namespace DD
local instance : TabQ := ⟨[]⟩
local instance : ExQ := ⟨0, 0⟩
open PySem PySem.Spec PyProof.Rows L2
/-! k82: the law -/
theorem limX_ok {mf : List D → Option Rs} {d e : D} (h : mf [d] = some (.ok e)) : limX 1 mf [d] = some e := by
  show (mf [d]).bind okR = _
  rw [h]; rfl
def mkE (L : D) (s1 s2 s3 s4 s5 s6 s7 s8 s9 s10 : Option Sl) : En := [some (.val L), s1, s2, s3, s4, s5, s6, s7, s8, s9, s10]
theorem vals_ok (ns : List Int) (h63 : ns.length ≤ 63) : ∃ xs : List D, xs.length ≤ 3 ∧ (∀ d ∈ xs, VOk 3 d) ∧
    mList (mLc (mRange1 (mCons (mCall (lim 3 m__law_drawn) (mCons (mVar 0) (mCons (mC (.int 900)) (mCons (mC (.int 4)) mNil)))) mNil)) (gSet 9) mYes (mCall (lim 3 (m__law_value 4)) (mCons (mVar 0) (mCons (mOp dMul (mC (.int 150)) (mVar 9)) (mCons (mC (.int 3)) mNil)))) [9]) (mkE (.list (ns.map .int)) none none none none none none none none none none) = some (.list xs) := by
  obtain ⟨p, hp, p0, p1⟩ := drawn_ok ns h63 900 4 (by decide) (by decide) (by decide) (by decide)
  have vo := fun a h0 h1 => value_ok ns h63 4 3 a (by decide) (by decide) h0 h1
  generalize PyData.list (ns.map .int) = L at *
  obtain ⟨pn, rfl⟩ := Int.eq_ofNat_of_zero_le p0
  have it : mRange1 (mCons (mCall (lim 3 m__law_drawn) (mCons (mVar 0) (mCons (mC (.int 900)) (mCons (mC (.int 4)) mNil)))) mNil) (mkE L none none none none none none none none none none) = some (upto 0 pn) :=
    range1_of ((call_of (x := [L, .int 900, .int 4]) rfl).trans (lim3.trans hp)) (by omega)
  have ul : (upto 0 pn).length = pn := by unfold upto; rw [List.length_map, List.length_range]
  obtain ⟨xs, e1, e2, e3⟩ := coll_ex (g := gSet 9) (e := mCall (lim 3 (m__law_value 4)) (mCons (mVar 0) (mCons (mOp dMul (mC (.int 150)) (mVar 9)) (mCons (mC (.int 3)) mNil)))) (ρ := wipeM (mkE L none none none none none none none none none none) [9]) (P := VOk 3) (ds := upto 0 pn) fun d hd => by
    obtain ⟨i, hi, rfl⟩ := List.mem_map.mp hd
    have hi := List.mem_range.mp hi
    obtain ⟨x, h1, h2⟩ := vo (150 * (0 + (i : Int))) (by omega) (by omega)
    refine ⟨_, x, rfl, ?_, h2⟩
    refine (call_of (x := [L, .int (150 * (0 + (i : Int))), .int 3]) (cons_of rfl (cons_of ((op_of (x := .int 150) (y := .int (0 + (i : Int))) rfl rfl).trans (dMul_r (by omega) (by omega))) (cons_of rfl nil_of)))).trans (lim3.trans h1)
  refine ⟨xs, by rw [e2, ul]; omega, e3, list_of ?_⟩
  unfold mLc
  rw [it]
  show (if (upto 0 pn).length ≤ cap then _ else _) = _
  rw [if_pos (by rw [ul]; have : cap = 100000 := rfl; omega)]
  exact e1
theorem read_tx {d : D} (h : VOk 3 d) : m_read_value [DS (txk 50 d)] = some (.ok d) := by
  have l := vok_len h
  rw [read_ok _ (by omega) (tx_chk (vok_50 h)), tx_rdT (vok_50 h)]; rfl
theorem plain50 {d : D} (h : VOk 3 d) : m__law_plain 5 [d] = some (DS (txk 50 d)) := by
  have l := vok_len h
  exact plain_ok 3 5 d 47 (val_vok 3 d h) (by decide) (show (txk 50 d).length ≤ 9500 by omega)
def loopB : En → Option Fl :=
  (sSeq (sIf (mTest (mOp dNe (mCall (limX 1 m_value_text) (mCons (mVar 3) mNil)) (mCall (lim 1 (m__law_plain 5)) (mCons (mVar 3) mNil))))
  (sRet (mC (.bool false)))
  sNext)
  (sIf (mNot (mTru (mCall (lim 2 (m__law_alike 5)) (mCons (mCall (limX 1 m_read_value) (mCons (mCall (lim 1 (m__law_plain 5)) (mCons (mVar 3) mNil)) mNil)) (mCons (mVar 3) mNil)))))
  (sRet (mC (.bool false)))
  sNext))
theorem loopB_ok (L : D) (s1 s2 : Option Sl) : ∀ (xs : List D), (∀ d ∈ xs, VOk 3 d) → ∀ s3, ∃ s3', loop (gSet 3) loopB xs (mkE L s1 s2 s3 none none none none none none none) = some (.nx (mkE L s1 s2 s3' none none none none none none none))
  | [], _, s3 => ⟨s3, rfl⟩
  | d :: xs, h, s3 => by
    obtain ⟨s3', ih⟩ := loopB_ok L s1 s2 xs (fun x hx => h x (List.mem_cons_of_mem _ hx)) (some (.val d))
    refine ⟨s3', ?_⟩
    have o := h d List.mem_cons_self
    have l := vok_len o
    have k := tx_chk (vok_50 o)
    have p : mCall (lim 1 (m__law_plain 5)) (mCons (mVar 3) mNil) (mkE L s1 s2 (some (.val d)) none none none none none none none) = some (DS (txk 50 d)) := (call_of (cons_of (x := d) rfl nil_of)).trans (lim1.trans (plain50 o))
    have t1 : mTest (mOp dNe (mCall (limX 1 m_value_text) (mCons (mVar 3) mNil)) (mCall (lim 1 (m__law_plain 5)) (mCons (mVar 3) mNil))) (mkE L s1 s2 (some (.val d)) none none none none none none none) = some false :=
      test_of ((op_of ((call_of (cons_of (x := d) rfl nil_of)).trans (limX_ok (value_text_ok (vok_50 o) (by omega)))) p).trans ((ne_S k k).trans (by rw [decide_eq_true rfl]; rfl)))
    have t2 : mNot (mTru (mCall (lim 2 (m__law_alike 5)) (mCons (mCall (limX 1 m_read_value) (mCons (mCall (lim 1 (m__law_plain 5)) (mCons (mVar 3) mNil)) mNil)) (mCons (mVar 3) mNil)))) (mkE L s1 s2 (some (.val d)) none none none none none none none) = some false :=
      (not_of ((tru_of (x := .bool true) ((call_of (x := [d, d]) (cons_of ((call_of (cons_of p nil_of)).trans (limX_ok (read_tx o))) (cons_of rfl nil_of))).trans (lim2.trans (alike_ok 3 5 d (by decide) o (by decide))))).trans rfl)).trans rfl
    have b : loopB (mkE L s1 s2 (some (.val d)) none none none none none none none) = some (.nx (mkE L s1 s2 (some (.val d)) none none none none none none none)) := by
      unfold loopB
      rw [seq_nx ((if_f t1).trans rfl)]
      exact (if_f t2).trans rfl
    have g : gSet 3 d (mkE L s1 s2 s3 none none none none none none none) = some (mkE L s1 s2 (some (.val d)) none none none none none none none) := rfl
    exact (loop_cons g b).trans ih
theorem ev_len : ∀ xs : List D, (∀ d ∈ xs, VOk 3 d) → (evT xs).length ≤ xs.length * 769
  | [], _ => Nat.le_refl _
  | d :: xs, h => by
    have := ev_len xs fun x hx => h x (List.mem_cons_of_mem _ hx)
    have l := vok_len (h d List.mem_cons_self)
    show ((txk 50 d ++ [10]) ++ evT xs).length ≤ _
    rw [List.length_append, List.length_append, List.length_singleton, List.length_cons, Nat.succ_mul]
    omega
theorem s1c : ("1)" : Str) = sl [49, 41] := by kernel_rfl
theorem smS : ("(-" : Str) = sl [40, 45] := by kernel_rfl
theorem miS : ("-" : Str) = sl [45] := by kernel_rfl
theorem s1S : ("1" : Str) = sl [49] := by kernel_rfl
def bad82 : List D := [.list [.int 1], .str "A", .tuple [.int 1, .list [.int 2]], .tuple [.str "a\n"], .tuple [.none, .tuple [.str "!"]], .int ((10 ^ 400 : Nat) : Int)]
def more82 : List D := [.none, .int 7, .str "1", .str "\n", .str "1\n\n", .str "1\n2", .str " 1\n", .str "(1\n)\n", .list [.str "1\n"]]
theorem val_ones : ∀ n : Nat, NumText.digitsVal (49 :: List.replicate n 48) = 10 ^ n
  | 0 => rfl
  | n + 1 => by
    have e : (49 :: List.replicate (n + 1) 48 : List Nat) = (49 :: List.replicate n 48) ++ [48] := by
      rw [List.replicate_succ', List.cons_append]
    rw [e, NumText.digitsVal_snoc, val_ones n, Nat.pow_succ]
    exact Nat.add_zero _
theorem int_ones (n : Nat) (h : n ≤ 600) : dIntA [DS (49 :: List.replicate n 48)] = some (.int ((10 ^ n : Nat) : Int)) := by
  have l : (49 :: List.replicate n 48 : List Nat).length = n + 1 := by rw [List.length_cons, List.length_replicate]
  show (if (sl (49 :: List.replicate n 48)).length ≤ 640 then (intText? (sl (49 :: List.replicate n 48))).map PyData.int else none) = _
  rw [sl_len, if_pos (by omega), PySem.intText_digits (x := sl (49 :: List.replicate n 48)) (fun c hc => by
    rcases List.mem_cons.mp hc with rfl | hc
    · decide
    · rw [List.eq_of_mem_replicate hc]; decide) (fun z => nomatch z) (by rw [sl_len]; omega), sl_tl, val_ones]
  rfl
theorem pow_pos10 (n : Nat) : 0 < 10 ^ n := Nat.pow_pos (by decide)
theorem nines : ∀ n : Nat, TL.numL (10 ^ (n + 1) - 1) = List.replicate (n + 1) 57
  | 0 => by
    rw [TL.numL_lt (show 10 ^ (0 + 1) - 1 < 10 by decide)]
    rfl
  | n + 1 => by
    have p := pow_pos10 (n + 1)
    have q : 10 ^ (n + 1 + 1) = 10 ^ (n + 1) * 10 := Nat.pow_succ ..
    have r : 10 ^ (n + 1) = 10 ^ n * 10 := Nat.pow_succ ..
    have p0 := pow_pos10 n
    rw [TL.numL_step (by omega)]
    have d : (10 ^ (n + 1 + 1) - 1) / 10 = 10 ^ (n + 1) - 1 := by omega
    have m : (10 ^ (n + 1 + 1) - 1) % 10 = 9 := by omega
    rw [d, m, nines n, List.replicate_succ' (n := n + 1)]
def big9 : Int := -((10 ^ 400 - 1 : Nat) : Int)
theorem tx_big9 (k : Nat) : txk k (.int big9) = 45 :: List.replicate 400 57 := by
  have p : 1 < 10 ^ 400 := Nat.one_lt_pow (by decide) (by decide)
  have na : big9.natAbs = 10 ^ 400 - 1 := by
    show (-((10 ^ 400 - 1 : Nat) : Int)).natAbs = _
    rw [Int.natAbs_neg, Int.natAbs_natCast]
  have lt : big9 < 0 := by
    show -((10 ^ 400 - 1 : Nat) : Int) < 0
    generalize 10 ^ 400 = X at p
    omega
  rw [tx_i]
  unfold txI
  rw [if_pos lt, na, nines 399]
theorem val_big9 : Val 50 (.int big9) := by
  refine val_int.mpr ?_
  have p : 0 < 10 ^ 400 := pow_pos10 400
  show (-((10 ^ 400 - 1 : Nat) : Int)).natAbs < _
  rw [Int.natAbs_neg, Int.natAbs_natCast]
  generalize 10 ^ 400 = X at p
  omega
def nest : Nat → D
  | 0 => .tuple []
  | n + 1 => .tuple [nest n]
theorem tx_nest : ∀ (n k : Nat), txk (k + n + 1) (nest n) = List.replicate (n + 1) 40 ++ List.replicate (n + 1) 41
  | 0, k => rfl
  | n + 1, k => by
    show 40 :: (txk (k + n + 1) (nest n) ++ [41]) = _
    rw [tx_nest n k, List.append_assoc, ← List.replicate_succ' (n := n + 1) (a := 41), List.replicate_succ (n := n + 1) (a := 40)]
    rfl
theorem val_nest : ∀ (n k : Nat), Val (k + n + 1) (nest n)
  | 0, k => ⟨Nat.zero_le _, fun d hd => nomatch hd⟩
  | n + 1, k => ⟨by show 1 ≤ 9999; decide, fun d hd => by
    rw [List.mem_singleton.mp hd]
    exact val_nest n k⟩

theorem law_true (ns : List Int) (h63 : ns.length ≤ 63) : m_law [.list (ns.map .int)] = some (.bool true) := by
  have cp : cap = 100000 := rfl
  obtain ⟨xs, x1, x2, x3⟩ := vals_ok ns h63
  obtain ⟨q, hq, q0, q1⟩ := drawn_ok ns h63 901 4 (by decide) (by decide) (by decide) (by decide)
  generalize PyData.list (ns.map .int) = L at *
  obtain ⟨lg, lg1, lg2⟩ := long_no q ⟨q0, q1⟩
  have el := ev_len xs x2
  have el2 : (evT xs).length ≤ 2400 := by
    have : xs.length * 769 ≤ 3 * 769 := Nat.mul_le_mul_right _ x1
    omega
  have v50 : ∀ d ∈ xs, Val 50 d := fun d hd => vok_50 (x2 d hd)
  have kE := ev_chk v50
  refine mDef_rt (?_ : b_law (mkE L none none none none none none none none none none) = _)
  unfold b_law
  refine (seq_nx (ρ' := mkE L (some (.val (.list xs))) none none none none none none none none none) ((asg_set x3).trans rfl)).trans ?_
  refine (seq_nx (ρ' := mkE L (some (.val (.list xs))) (some (.val (.list xs))) none none none none none none none none) ((asg_set (d := .list xs) rfl).trans rfl)).trans ?_
  obtain ⟨s3, lo⟩ := loopB_ok L (some (.val (.list xs))) (some (.val (.list xs))) xs x2 none
  refine (seq_nx (ρ' := mkE L (some (.val (.list xs))) (some (.val (.list xs))) s3 none none none none none none none) lo).trans ?_
  have j : mOp dJoin (mC (.str ("" : Str))) (mList (mLc (mIter (mVar 1)) (gSet 3) mYes (mOp dAdd (mCall (lim 1 (m__law_plain 5)) (mCons (mVar 3) mNil)) (mC (.str ("\n" : Str)))) [3])) (mkE L (some (.val (.list xs))) (some (.val (.list xs))) s3 none none none none none none none) = some (DS (evT xs)) := by
    refine (op_of (x := .str "") (y := .list (xs.map fun d => DS (txk 50 d ++ [10]))) rfl (list_of ?_)).trans (join_E (fun d => txk 50 d ++ [10]) xs (by show (evT xs).length ≤ 10000; omega))
    refine lc_all (l := xs) (f := fun d => d) (h := fun d => DS (txk 50 d ++ [10])) ?_ (by omega) fun d hm => ⟨_, rfl, ?_⟩
    · rw [List.map_id']; rfl
    have l := vok_len (x2 d hm)
    exact (op_of (x := DS (txk 50 d)) (y := DS [10]) ((call_of (x := [d]) (cons_of rfl nil_of)).trans (lim1.trans (plain50 (x2 d hm)))) (by rw [nlS]; rfl)).trans (add_S (by rw [List.length_singleton]; omega))
  refine (seq_nx (ρ' := mkE L (some (.val (.list xs))) (some (.val (.list xs))) s3 (some (.val (DS (evT xs)))) none none none none none none) ((asg_set j).trans rfl)).trans ?_
  refine (seq_nx (ρ' := mkE L (some (.val (.list xs))) (some (.val (.list xs))) s3 (some (.val (DS (evT xs)))) none none none none none none) ((if_f ?_).trans rfl)).trans ?_
  · exact test_of ((op_of ((call_of (cons_of (x := .list xs) rfl nil_of)).trans (limX_ok (events_text_ok v50 (by omega) (by omega)))) (y := DS (evT xs)) rfl).trans ((ne_S kE kE).trans (by rw [decide_eq_true rfl]; rfl)))
  refine (seq_nx (ρ' := mkE L (some (.val (.list xs))) (some (.val (.list xs))) s3 (some (.val (DS (evT xs)))) none none none none none none) ((if_f ?_).trans rfl)).trans ?_
  · have r : m_read_events [DS (evT xs)] = some (.ok (.list xs)) := by rw [read_events_ok _ (by omega) kE, tx_evs v50]; rfl
    have a : m__law_alike 5 [.tuple xs, .tuple xs] = some (.bool true) := alike_tup 4 xs (by omega) fun d hd => alike_ok 3 4 d (by decide) (x2 d hd) (by decide)
    refine (or_f ((not_of ((tru_of (x := .bool true) ((call_of (x := [.tuple xs, .tuple xs]) (cons_of ((call_of (cons_of ((call_of (cons_of (x := DS (evT xs)) rfl nil_of)).trans (limX_ok r)) nil_of)).trans rfl) (cons_of rfl nil_of))).trans (lim2.trans a))).trans rfl)).trans rfl)).trans ?_
    exact test_of ((op_of (x := .list xs) (y := .list xs) rfl rfl).trans (dNe_self (k := 4) (lay_list fun d hd => lay_vok 3 d (x2 d hd)) (by decide)))
  refine (seq_nx (ρ' := mkE L (some (.val (.list xs))) (some (.val (.list xs))) s3 (some (.val (DS (evT xs)))) (some (.val (.list bad82))) none none none none none) ((asg_set (d := .list bad82) ?_).trans rfl)).trans ?_
  · generalize mkE L (some (.val (.list xs))) (some (.val (.list xs))) s3 (some (.val (DS (evT xs)))) none none none none none none = ρ
    have b1 : mOp dAdd (mC (.str ("1" : Str))) (mOp dMulS (mC (.str ("0" : Str))) (mC (.int 400))) ρ = some (DS (49 :: List.replicate 400 48)) := by
      have m := mul_ev (ρ := ρ) (a := "0") (l := [48]) (n := 400) (by kernel_rfl) (by decide) (by decide)
      rw [rep_one] at m
      refine (op_of (x := DS [49]) (by rw [s1S]; rfl) m).trans ((add_S ?_).trans rfl)
      rw [List.length_replicate]; decide
    refine list_of (lst_of (x := bad82) (cons_of rfl (cons_of rfl (cons_of rfl (cons_of rfl (cons_of rfl (cons_of ((call_of (cons_of b1 nil_of)).trans (int_ones 400 (by decide))) nil_of)))))) (show 6 ≤ cap by decide))
  refine (seq_nx (ρ' := mkE L (some (.val (.list xs))) (some (.val (.list xs))) s3 (some (.val (DS (evT xs)))) (some (.val (.list bad82))) none none none none none) (by kernel_rfl)).trans ?_
  refine (seq_nx (ρ' := mkE L (some (.val (.list xs))) (some (.val (.list xs))) s3 (some (.val (DS (evT xs)))) (some (.val (.list bad82))) none none none none none) (by kernel_rfl)).trans ?_
  refine (seq_nx (ρ' := mkE L (some (.val (.list xs))) (some (.val (.list xs))) s3 (some (.val (DS (evT xs)))) (some (.val (.list bad82))) (some (.val (.list none1))) none none none none) rfl).trans ?_
  refine (seq_nx (ρ' := mkE L (some (.val (.list xs))) (some (.val (.list xs))) s3 (some (.val (DS (evT xs)))) (some (.val (.list bad82))) (some (.val (.list (none1 ++ none2)))) none none none none) rfl).trans ?_
  refine (seq_nx (ρ' := mkE L (some (.val (.list xs))) (some (.val (.list xs))) s3 (some (.val (DS (evT xs)))) (some (.val (.list bad82))) (some (.val (.list (none1 ++ none2)))) (some (.val (.list [DS lA, DS lB, DS lC, DS lD]))) none none none) ((asg_set (d := .list [DS lA, DS lB, DS lC, DS lD]) ?_).trans rfl)).trans ?_
  · generalize mkE L (some (.val (.list xs))) (some (.val (.list xs))) s3 (some (.val (DS (evT xs)))) (some (.val (.list bad82))) (some (.val (.list (none1 ++ none2)))) none none none none = ρ
    have a1 : mOp dAdd (mOp dAdd (mC (.str ("\"" : Str))) (mOp dMulS (mC (.str ("a" : Str))) (mC (.int 10000)))) (mC (.str ("\"" : Str))) ρ = some (DS lA) := by
      refine (op_of (x := DS ([34] ++ List.replicate 10000 97)) (y := DS [34]) ((op_of (x := DS [34]) (y := DS (List.replicate 10000 97)) (by rw [quS]; rfl) ?_).trans (add_S ?_)) (by rw [quS]; rfl)).trans ((add_S ?_).trans rfl)
      · have := mul_ev (ρ := ρ) (a := "a") (l := [97]) (n := 10000) (by kernel_rfl) (by decide) (by decide)
        rw [rep_one] at this
        exact this
      · rw [List.length_replicate]; decide
      · rw [List.length_append, List.length_replicate]; decide
    have a2 : mOp dAdd (mOp dAdd (mC (.str ("(" : Str))) (mOp dMulS (mC (.str ("1 " : Str))) (mC (.int 9999)))) (mC (.str ("1)" : Str))) ρ = some (DS lB) := by
      refine (op_of (x := DS ([40] ++ (List.replicate 9999 [49, 32]).flatten)) (y := DS [49, 41]) ((op_of (x := DS [40]) (y := DS (List.replicate 9999 [49, 32]).flatten) (by rw [opS]; rfl) ?_).trans (add_S ?_)) (by rw [s1c]; rfl)).trans ((add_S ?_).trans rfl)
      · exact mul_ev (ρ := ρ) (a := "1 ") (l := [49, 32]) (n := 9999) (by kernel_rfl) (by decide) (by decide)
      · rw [len_flat]; decide
      · rw [List.length_append, len_flat]; decide
    have a3 : mOp dAdd (mOp dAdd (mC (.str ("(-" : Str))) (mOp dMulS (mC (.str ("9" : Str))) (mC (.int 450)))) (mC (.str (")" : Str))) ρ = some (DS lC) := by
      refine (op_of (x := DS ([40, 45] ++ List.replicate 450 57)) (y := DS [41]) ((op_of (x := DS [40, 45]) (y := DS (List.replicate 450 57)) (by rw [smS]; rfl) ?_).trans (add_S ?_)) (by rw [clS]; rfl)).trans ((add_S ?_).trans rfl)
      · have := mul_ev (ρ := ρ) (a := "9") (l := [57]) (n := 450) (by kernel_rfl) (by decide) (by decide)
        rw [rep_one] at this
        exact this
      · rw [List.length_replicate]; decide
      · rw [List.length_append, List.length_replicate]; decide
    have a4 : mOp dMulS (mC (.str ("(" : Str))) (mC (.int 200)) ρ = some (DS lD) := by
      have := mul_ev (ρ := ρ) (a := "(") (l := [40]) (n := 200) opS (by decide) (by decide)
      rw [rep_one] at this
      exact this
    exact list_of (lst_of (cons_of a1 (cons_of a2 (cons_of a3 (cons_of a4 nil_of)))) (show 4 ≤ cap by decide))
  refine (seq_nx (ρ' := mkE L (some (.val (.list xs))) (some (.val (.list xs))) s3 (some (.val (DS (evT xs)))) (some (.val (.list bad82))) (some (.val (.list ((none1 ++ none2) ++ none3 lg)))) (some (.val (.list [DS lA, DS lB, DS lC, DS lD]))) none none none) ((asg_set (d := .list ((none1 ++ none2) ++ none3 lg)) ?_).trans rfl)).trans ?_
  · have dr : mCall (lim 3 m__law_drawn) (mCons (mVar 0) (mCons (mC (.int 901)) (mCons (mC (.int 4)) mNil))) (mkE L (some (.val (.list xs))) (some (.val (.list xs))) s3 (some (.val (DS (evT xs)))) (some (.val (.list bad82))) (some (.val (.list (none1 ++ none2)))) (some (.val (.list [DS lA, DS lB, DS lC, DS lD]))) none none none) = some (.int q) := (call_of (x := [L, .int 901, .int 4]) rfl).trans (lim3.trans hq)
    have v7 : mVar 7 (mkE L (some (.val (.list xs))) (some (.val (.list xs))) s3 (some (.val (DS (evT xs)))) (some (.val (.list bad82))) (some (.val (.list (none1 ++ none2)))) (some (.val (.list [DS lA, DS lB, DS lC, DS lD]))) none none none) = some (.list [DS lA, DS lB, DS lC, DS lD]) := rfl
    have v6 : mVar 6 (mkE L (some (.val (.list xs))) (some (.val (.list xs))) s3 (some (.val (DS (evT xs)))) (some (.val (.list bad82))) (some (.val (.list (none1 ++ none2)))) (some (.val (.list [DS lA, DS lB, DS lC, DS lD]))) none none none) = some (.list (none1 ++ none2)) := rfl
    generalize mkE L (some (.val (.list xs))) (some (.val (.list xs))) s3 (some (.val (DS (evT xs)))) (some (.val (.list bad82))) (some (.val (.list (none1 ++ none2)))) (some (.val (.list [DS lA, DS lB, DS lC, DS lD]))) none none none = ρ at dr v7 v6
    have b1 : mOp dAdd (mC (.str ("1" : Str))) (mOp dMulS (mC (.str ("0" : Str))) (mC (.int 400))) ρ = some (DS (49 :: List.replicate 400 48)) := by
      have m := mul_ev (ρ := ρ) (a := "0") (l := [48]) (n := 400) (by kernel_rfl) (by decide) (by decide)
      rw [rep_one] at m
      refine (op_of (x := DS [49]) (by rw [s1S]; rfl) m).trans ((add_S ?_).trans rfl)
      rw [List.length_replicate]; decide
    have b2 : mOp dAdd (mOp dMulS (mC (.str ("(" : Str))) (mC (.int 51))) (mOp dMulS (mC (.str (")" : Str))) (mC (.int 51))) ρ = some (DS (List.replicate 51 40 ++ List.replicate 51 41)) := by
      have m := mul_ev (ρ := ρ) (a := "(") (l := [40]) (n := 51) opS (by decide) (by decide)
      have n := mul_ev (ρ := ρ) (a := ")") (l := [41]) (n := 51) clS (by decide) (by decide)
      rw [rep_one] at m n
      refine (op_of m n).trans (add_S ?_)
      rw [List.length_replicate, List.length_replicate]; decide
    have b3 := (op_of (g := dIx) v7 dr).trans lg1
    refine list_of ?_
    unfold mCatV
    rw [v6, lst_of (cons_of b1 (cons_of b2 (cons_of b3 nil_of))) (show 3 ≤ cap by decide)]
    rfl
  refine (seq_nx (ρ' := mkE L (some (.val (.list xs))) (some (.val (.list xs))) s3 (some (.val (DS (evT xs)))) (some (.val (.list bad82))) (some (.val (.list ((none1 ++ none2) ++ none3 lg)))) (some (.val (.list [DS lA, DS lB, DS lC, DS lD]))) none none none) ((if_f ?_).trans rfl)).trans ?_
  · have all : ∀ d ∈ (none1 ++ none2) ++ none3 lg, m__law_no [.int 2, d] = some NO := fun d hd => by
      rcases List.mem_append.mp hd with hd | hd
      · rcases List.mem_append.mp hd with hd | hd
        · exact no_1 d hd
        · exact no_2 d hd
      · exact no_3 lg2 d hd
    have nn : dNe NO NO = some (.bool false) := dNe_self (k := 1) (lay_list fun d hd => by
      rcases List.mem_cons.mp hd with rfl | hd
      · exact lay_bool
      · rw [List.mem_singleton.mp hd]; exact lay_bool) (by decide)
    refine test_of ((op_of (x := .list []) (y := .list []) (list_of ?_) rfl).trans (dNe_self (k := 1) (lay_list fun d hd => nomatch hd) (by decide)))
    refine filt_nil (ds := (none1 ++ none2) ++ none3 lg) rfl (show 26 ≤ cap by decide) fun d hd => ⟨_, rfl, ?_⟩
    exact test_of ((op_of ((call_of (x := [.int 2, d]) rfl).trans (lim2.trans (all d hd))) (y := NO) rfl).trans nn)
  refine (seq_nx (ρ' := mkE L (some (.val (.list xs))) (some (.val (.list xs))) s3 (some (.val (DS (evT xs)))) (some (.val (.list bad82))) (some (.val (.list ((none1 ++ none2) ++ none3 lg)))) (some (.val (.list [DS lA, DS lB, DS lC, DS lD]))) (some (.val (.list more82))) none none) rfl).trans ?_
  refine (seq_nx (ρ' := mkE L (some (.val (.list xs))) (some (.val (.list xs))) s3 (some (.val (DS (evT xs)))) (some (.val (.list bad82))) (some (.val (.list ((none1 ++ none2) ++ none3 lg)))) (some (.val (.list [DS lA, DS lB, DS lC, DS lD]))) (some (.val (.list more82))) none none) (by kernel_rfl)).trans ?_
  generalize mkE L (some (.val (.list xs))) (some (.val (.list xs))) s3 (some (.val (DS (evT xs)))) (some (.val (.list bad82))) (some (.val (.list ((none1 ++ none2) ++ none3 lg)))) (some (.val (.list [DS lA, DS lB, DS lC, DS lD]))) (some (.val (.list more82))) none none = ρ
  refine (seq_nx (ρ' := ρ) ((if_f ?_).trans rfl)).trans ?_
  · have m := mul_ev (ρ := ρ) (a := "9") (l := [57]) (n := 400) (by kernel_rfl) (by decide) (by decide)
    have z := mul_ev (ρ := ρ) (a := "0") (l := [48]) (n := 399) (by kernel_rfl) (by decide) (by decide)
    rw [rep_one] at m z
    have e1 : mOp dAdd (mC (.str ("-" : Str))) (mOp dMulS (mC (.str ("9" : Str))) (mC (.int 400))) ρ = some (DS (txk 50 (.int big9))) := by
      rw [tx_big9]
      refine (op_of (x := DS [45]) (by rw [miS]; rfl) m).trans ((add_S ?_).trans rfl)
      rw [List.length_replicate]; decide
    have e2 : mOp dAdd (mC (.str ("1" : Str))) (mOp dMulS (mC (.str ("0" : Str))) (mC (.int 399))) ρ = some (DS (49 :: List.replicate 399 48)) := by
      refine (op_of (x := DS [49]) (by rw [s1S]; rfl) z).trans ((add_S ?_).trans rfl)
      rw [List.length_replicate]; decide
    have lb : (txk 50 (.int big9)).length ≤ 9000 := by rw [tx_big9, List.length_cons, List.length_replicate]; decide
    have r : m_read_value [DS (txk 50 (.int big9))] = some (.ok (.int big9)) := by rw [read_ok _ (by omega) (tx_chk val_big9), tx_rdT val_big9]; rfl
    have e3 := (call_of (cons_of e1 nil_of)).trans (limX_ok r)
    have e4 : mOp dSub (mC (.int 1)) (mOp dMul (mC (.int 10)) (mCall dIntA (mCons (mOp dAdd (mC (.str ("1" : Str))) (mOp dMulS (mC (.str ("0" : Str))) (mC (.int 399)))) mNil))) ρ = some (.int big9) := by
      refine (op_of (x := .int 1) rfl ((op_of (x := .int 10) rfl ((call_of (cons_of e2 nil_of)).trans (int_ones 399 (by decide)))).trans (by kernel_rfl : dMul (.int 10) (.int ((10 ^ 399 : Nat) : Int)) = some (.int (10 * ((10 ^ 399 : Nat) : Int)))))).trans (by kernel_rfl)
    exact test_of ((op_of e3 e4).trans (dNe_self (k := 0) lay_int (by decide)))
  refine (seq_nx (ρ' := ρ) ((if_f ?_).trans rfl)).trans ?_
  · have m := mul_ev (ρ := ρ) (a := "(") (l := [40]) (n := 50) opS (by decide) (by decide)
    have n := mul_ev (ρ := ρ) (a := ")") (l := [41]) (n := 50) clS (by decide) (by decide)
    rw [rep_one] at m n
    have tn : txk 50 (nest 49) = List.replicate 50 40 ++ List.replicate 50 41 := tx_nest 49 0
    have vn : Val 50 (nest 49) := val_nest 49 0
    have ln : (txk 50 (nest 49)).length ≤ 9000 := by rw [tn, List.length_append, List.length_replicate, List.length_replicate]; decide
    have e1 : mOp dAdd (mOp dMulS (mC (.str ("(" : Str))) (mC (.int 50))) (mOp dMulS (mC (.str (")" : Str))) (mC (.int 50))) ρ = some (DS (txk 50 (nest 49))) := by
      rw [tn]
      refine (op_of m n).trans (add_S ?_)
      rw [List.length_replicate, List.length_replicate]; decide
    have r : m_read_value [DS (txk 50 (nest 49))] = some (.ok (nest 49)) := by rw [read_ok _ (by omega) (tx_chk vn), tx_rdT vn]; rfl
    have e2 := (call_of (cons_of ((call_of (cons_of e1 nil_of)).trans (limX_ok r)) nil_of)).trans (limX_ok (value_text_ok vn (by omega)))
    exact test_of ((op_of e2 e1).trans ((ne_S (tx_chk vn) (tx_chk vn)).trans (by rw [decide_eq_true rfl]; rfl)))
  kernel_rfl
end DD

set_option Elab.async false
set_option linter.all false
set_option maxRecDepth 100000
set_option maxHeartbeats 4000000
namespace DD
open PySem PySem.Spec PyProof.Rows L2
local instance : TabQ := ⟨[]⟩
local instance : ExQ := ⟨0, 0⟩
theorem sp_law {K : PySem.W.Frag} {H : Hp} {a : Addr} {ns : List Int} {E : XK} (hl : ns.length ≤ 63) (hS : SqL K H a (ns.map V.int)) : spM K 1 m_law [.ref a] H (fun v _ => v = .bl true) E := by
  have e : H = ov H (fun _ => none) := by
    funext b
    rfl
  exact ⟨[.list (ns.map .int)], .bool true, H, fun _ => none, .cons (.lst hS (dpa_ints ns)) .nil, rfl, law_true ns hl, e, ⟨fun _ _ h => (nomatch h), fun p hp => absurd (show p ∈ [] from hp) List.not_mem_nil⟩, fun v H' _ _ g => dp_bool g⟩
theorem all_mk {w : World} {K : PySem.W.Frag} {h : Heap} {mg : Str → Option Value} {fa : Addr} (X : K.In h) (G : h.Ns mainGlobals mg) (hfa : mg "law" = some (.ref fa))
    {f1 : Addr} {od1 an1 : Option Addr} {sl1 : Array (Option Value)} {oc1 kV1 dc1 pm1 cd1 ct1 : Value}
    (a1 : PySem.W.nsIn K mainGlobals "is_value" = some (some (.ref f1))) (l1 : K.lookup f1 = some ⟨oc1, od1, .func (PySem.W.fnOf "is_value" "is_value" (defArgs s_is_value) (defBody s_is_value) (defScope s_is_value) .none kV1 dc1 pm1 an1 cd1 ct1), sl1⟩) (c1 : PySem.W.codeIn K cd1 "is_value" = true) (k1 : PySem.W.keepIn K (.ref f1) = true)
    {f2 : Addr} {od2 an2 : Option Addr} {sl2 : Array (Option Value)} {oc2 kV2 dc2 pm2 cd2 ct2 : Value}
    (a2 : PySem.W.nsIn K mainGlobals "_is_value_within" = some (some (.ref f2))) (l2 : K.lookup f2 = some ⟨oc2, od2, .func (PySem.W.fnOf "_is_value_within" "_is_value_within" (defArgs s__is_value_within) (defBody s__is_value_within) (defScope s__is_value_within) .none kV2 dc2 pm2 an2 cd2 ct2), sl2⟩) (c2 : PySem.W.codeIn K cd2 "_is_value_within" = true) (k2 : PySem.W.keepIn K (.ref f2) = true)
    {f3 : Addr} {od3 an3 : Option Addr} {sl3 : Array (Option Value)} {oc3 kV3 dc3 pm3 cd3 ct3 : Value}
    (a3 : PySem.W.nsIn K mainGlobals "value_text" = some (some (.ref f3))) (l3 : K.lookup f3 = some ⟨oc3, od3, .func (PySem.W.fnOf "value_text" "value_text" (defArgs s_value_text) (defBody s_value_text) (defScope s_value_text) .none kV3 dc3 pm3 an3 cd3 ct3), sl3⟩) (c3 : PySem.W.codeIn K cd3 "value_text" = true) (k3 : PySem.W.keepIn K (.ref f3) = true)
    {f4 : Addr} {od4 an4 : Option Addr} {sl4 : Array (Option Value)} {oc4 kV4 dc4 pm4 cd4 ct4 : Value}
    (a4 : PySem.W.nsIn K mainGlobals "read_value" = some (some (.ref f4))) (l4 : K.lookup f4 = some ⟨oc4, od4, .func (PySem.W.fnOf "read_value" "read_value" (defArgs s_read_value) (defBody s_read_value) (defScope s_read_value) .none kV4 dc4 pm4 an4 cd4 ct4), sl4⟩) (c4 : PySem.W.codeIn K cd4 "read_value" = true) (k4 : PySem.W.keepIn K (.ref f4) = true)
    {f5 : Addr} {od5 an5 : Option Addr} {sl5 : Array (Option Value)} {oc5 kV5 dc5 pm5 cd5 ct5 : Value}
    (a5 : PySem.W.nsIn K mainGlobals "events_text" = some (some (.ref f5))) (l5 : K.lookup f5 = some ⟨oc5, od5, .func (PySem.W.fnOf "events_text" "events_text" (defArgs s_events_text) (defBody s_events_text) (defScope s_events_text) .none kV5 dc5 pm5 an5 cd5 ct5), sl5⟩) (c5 : PySem.W.codeIn K cd5 "events_text" = true) (k5 : PySem.W.keepIn K (.ref f5) = true)
    {f6 : Addr} {od6 an6 : Option Addr} {sl6 : Array (Option Value)} {oc6 kV6 dc6 pm6 cd6 ct6 : Value}
    (a6 : PySem.W.nsIn K mainGlobals "read_events" = some (some (.ref f6))) (l6 : K.lookup f6 = some ⟨oc6, od6, .func (PySem.W.fnOf "read_events" "read_events" (defArgs s_read_events) (defBody s_read_events) (defScope s_read_events) .none kV6 dc6 pm6 an6 cd6 ct6), sl6⟩) (c6 : PySem.W.codeIn K cd6 "read_events" = true) (k6 : PySem.W.keepIn K (.ref f6) = true)
    {f7 : Addr} {od7 an7 : Option Addr} {sl7 : Array (Option Value)} {oc7 kV7 dc7 pm7 cd7 ct7 : Value}
    (a7 : PySem.W.nsIn K mainGlobals "_text_of" = some (some (.ref f7))) (l7 : K.lookup f7 = some ⟨oc7, od7, .func (PySem.W.fnOf "_text_of" "_text_of" (defArgs s__text_of) (defBody s__text_of) (defScope s__text_of) .none kV7 dc7 pm7 an7 cd7 ct7), sl7⟩) (c7 : PySem.W.codeIn K cd7 "_text_of" = true) (k7 : PySem.W.keepIn K (.ref f7) = true)
    {f8 : Addr} {od8 an8 : Option Addr} {sl8 : Array (Option Value)} {oc8 kV8 dc8 pm8 cd8 ct8 : Value}
    (a8 : PySem.W.nsIn K mainGlobals "_value_at" = some (some (.ref f8))) (l8 : K.lookup f8 = some ⟨oc8, od8, .func (PySem.W.fnOf "_value_at" "_value_at" (defArgs s__value_at) (defBody s__value_at) (defScope s__value_at) .none kV8 dc8 pm8 an8 cd8 ct8), sl8⟩) (c8 : PySem.W.codeIn K cd8 "_value_at" = true) (k8 : PySem.W.keepIn K (.ref f8) = true)
    {f9 : Addr} {od9 an9 : Option Addr} {sl9 : Array (Option Value)} {oc9 kV9 dc9 pm9 cd9 ct9 : Value}
    (a9 : PySem.W.nsIn K mainGlobals "_tuple_at" = some (some (.ref f9))) (l9 : K.lookup f9 = some ⟨oc9, od9, .func (PySem.W.fnOf "_tuple_at" "_tuple_at" (defArgs s__tuple_at) (defBody s__tuple_at) (defScope s__tuple_at) .none kV9 dc9 pm9 an9 cd9 ct9), sl9⟩) (c9 : PySem.W.codeIn K cd9 "_tuple_at" = true) (k9 : PySem.W.keepIn K (.ref f9) = true)
    {f10 : Addr} {od10 an10 : Option Addr} {sl10 : Array (Option Value)} {oc10 kV10 dc10 pm10 cd10 ct10 : Value}
    (a10 : PySem.W.nsIn K mainGlobals "_word_value" = some (some (.ref f10))) (l10 : K.lookup f10 = some ⟨oc10, od10, .func (PySem.W.fnOf "_word_value" "_word_value" (defArgs s__word_value) (defBody s__word_value) (defScope s__word_value) .none kV10 dc10 pm10 an10 cd10 ct10), sl10⟩) (c10 : PySem.W.codeIn K cd10 "_word_value" = true) (k10 : PySem.W.keepIn K (.ref f10) = true)
    {f11 : Addr} {od11 an11 : Option Addr} {sl11 : Array (Option Value)} {oc11 kV11 dc11 pm11 cd11 ct11 : Value}
    (a11 : PySem.W.nsIn K mainGlobals "_law_drawn" = some (some (.ref f11))) (l11 : K.lookup f11 = some ⟨oc11, od11, .func (PySem.W.fnOf "_law_drawn" "_law_drawn" (defArgs s__law_drawn) (defBody s__law_drawn) (defScope s__law_drawn) .none kV11 dc11 pm11 an11 cd11 ct11), sl11⟩) (c11 : PySem.W.codeIn K cd11 "_law_drawn" = true) (k11 : PySem.W.keepIn K (.ref f11) = true)
    {f12 : Addr} {od12 an12 : Option Addr} {sl12 : Array (Option Value)} {oc12 kV12 dc12 pm12 cd12 ct12 : Value}
    (a12 : PySem.W.nsIn K mainGlobals "_law_value" = some (some (.ref f12))) (l12 : K.lookup f12 = some ⟨oc12, od12, .func (PySem.W.fnOf "_law_value" "_law_value" (defArgs s__law_value) (defBody s__law_value) (defScope s__law_value) .none kV12 dc12 pm12 an12 cd12 ct12), sl12⟩) (c12 : PySem.W.codeIn K cd12 "_law_value" = true) (k12 : PySem.W.keepIn K (.ref f12) = true)
    {f13 : Addr} {od13 an13 : Option Addr} {sl13 : Array (Option Value)} {oc13 kV13 dc13 pm13 cd13 ct13 : Value}
    (a13 : PySem.W.nsIn K mainGlobals "_law_alike" = some (some (.ref f13))) (l13 : K.lookup f13 = some ⟨oc13, od13, .func (PySem.W.fnOf "_law_alike" "_law_alike" (defArgs s__law_alike) (defBody s__law_alike) (defScope s__law_alike) .none kV13 dc13 pm13 an13 cd13 ct13), sl13⟩) (c13 : PySem.W.codeIn K cd13 "_law_alike" = true) (k13 : PySem.W.keepIn K (.ref f13) = true)
    {f14 : Addr} {od14 an14 : Option Addr} {sl14 : Array (Option Value)} {oc14 kV14 dc14 pm14 cd14 ct14 : Value}
    (a14 : PySem.W.nsIn K mainGlobals "_law_plain" = some (some (.ref f14))) (l14 : K.lookup f14 = some ⟨oc14, od14, .func (PySem.W.fnOf "_law_plain" "_law_plain" (defArgs s__law_plain) (defBody s__law_plain) (defScope s__law_plain) .none kV14 dc14 pm14 an14 cd14 ct14), sl14⟩) (c14 : PySem.W.codeIn K cd14 "_law_plain" = true) (k14 : PySem.W.keepIn K (.ref f14) = true)
    {f15 : Addr} {od15 an15 : Option Addr} {sl15 : Array (Option Value)} {oc15 kV15 dc15 pm15 cd15 ct15 : Value}
    (a15 : PySem.W.nsIn K mainGlobals "_law_no" = some (some (.ref f15))) (l15 : K.lookup f15 = some ⟨oc15, od15, .func (PySem.W.fnOf "_law_no" "_law_no" (defArgs s__law_no) (defBody s__law_no) (defScope s__law_no) .none kV15 dc15 pm15 an15 cd15 ct15), sl15⟩) (c15 : PySem.W.codeIn K cd15 "_law_no" = true) (k15 : PySem.W.keepIn K (.ref f15) = true)
    {f16 : Addr} {od16 an16 : Option Addr} {sl16 : Array (Option Value)} {oc16 kV16 dc16 pm16 cd16 ct16 : Value}
    (a16 : PySem.W.nsIn K mainGlobals "law" = some (some (.ref f16))) (l16 : K.lookup f16 = some ⟨oc16, od16, .func (PySem.W.fnOf "law" "law" (defArgs s_law) (defBody s_law) (defScope s_law) .none kV16 dc16 pm16 an16 cd16 ct16), sl16⟩) (c16 : PySem.W.codeIn K cd16 "law" = true) (k16 : PySem.W.keepIn K (.ref f16) = true)
    {t17 : Tok} (c_NUMBER_BOUND : PySem.W.nsIn K mainGlobals "NUMBER_BOUND" = some (some (.int (10000000000000000000000000000000000000000000000000000000000000000000000000000000000000000000000000000000000000000000000000000000000000000000000000000000000000000000000000000000000000000000000000000000000000000000000000000000000000000000000000000000000000000000000000000000000000000000000000000000000000000000000000000000000000000000000000000000000000000000000000000000000000000000000000000000000000000) t17)))
    {t18 : Tok} (c_MOST_PARTS : PySem.W.nsIn K mainGlobals "MOST_PARTS" = some (some (.int (9999) t18)))
    {t19 : Tok} (c_SIGNS : PySem.W.nsIn K mainGlobals "SIGNS" = some (some (.str "abcdefghijklmnopqrstuvwxyz0123456789 -.,:;/+*=()" t19)))
    {t20 : Tok} (c_MOST_DEEP : PySem.W.nsIn K mainGlobals "MOST_DEEP" = some (some (.int (50) t20)))
    {t21 : Tok} (c_QUOTE : PySem.W.nsIn K mainGlobals "QUOTE" = some (some (.str "\"" t21)))
    {t22 : Tok} (c_ENDS : PySem.W.nsIn K mainGlobals "ENDS" = some (some (.str " )" t22)))
    {f23 : Addr} {e23 : Array DictEntry} {n23 : Nat} (c_WORDS : PySem.W.nsIn K mainGlobals "WORDS" = some (some (.ref f23))) (w_WORDS : K.lookup f23 = some ⟨.type "dict", none, .dict e23 n23, #[]⟩) (y_WORDS : PySem.W.KeysLit w.params e23.toList) (z_WORDS : (f23 == sysModules) = false)
    
    (v_WORDS : e23.toList.map (fun e => (keyS e, e.val)) = [(some ("none" : Str), Value.none), (some ("yes" : Str), Value.bool true), (some ("no" : Str), Value.bool false)])
    {t24 : Tok} (c_MOST_FIGURES : PySem.W.nsIn K mainGlobals "MOST_FIGURES" = some (some (.int (400) t24)))
    {t25 : Tok} (c_FIGURES : PySem.W.nsIn K mainGlobals "FIGURES" = some (some (.str "0123456789" t25)))
    {f26 : Addr} (a_NoValue : PySem.W.nsIn K mainGlobals "NoValue" = some (some (.ref f26)))
    (kb_NoValue : PySem.W.subIn K (.ref f26) (.type "BaseException") = some true) (kd_NoValue : PySem.W.hasDictIn K f26 = true) (kt_NoValue : PySem.W.typeIn K (.ref f26) = some (.type "type")) (ki_NoValue : PySem.W.isClsIn K f26 = true) (ks_NoValue : PySem.W.subIn K (.ref f26) (.ref f26) = some true)
    (kx_NoValue : PySem.W.excIn K f26 [.type "ValueError", .type "Exception", .type "BaseException", .type "object"] "ValueError.__new__" = true) (kk_NoValue : PySem.W.keepIn K (.ref f26) = true)
    (k1_NoValue : PySem.W.findIn K (.ref f26) "__getattribute__" = some (some (.builtin "BaseException.__getattribute__"))) (k2_NoValue : PySem.W.findIn K (.ref f26) "__getattr__" = some none) (k3_NoValue : PySem.W.findIn K (.ref f26) "__class__" = some (some (.builtin "object.__class__"))) (k4_NoValue : PySem.W.specialIn K (.builtin "object.__class__") "__get__" = some (some (.builtin "getset_descriptor.__get__"))) (k5_NoValue : PySem.W.takesIn K (.builtin "object.__class__") = some true) (k6_NoValue : PySem.W.mroIn K f26 (.type "object") = some true)
    {f27 : Addr} (a_NoText : PySem.W.nsIn K mainGlobals "NoText" = some (some (.ref f27)))
    (kb_NoText : PySem.W.subIn K (.ref f27) (.type "BaseException") = some true) (kd_NoText : PySem.W.hasDictIn K f27 = true) (kt_NoText : PySem.W.typeIn K (.ref f27) = some (.type "type")) (ki_NoText : PySem.W.isClsIn K f27 = true) (ks_NoText : PySem.W.subIn K (.ref f27) (.ref f27) = some true)
    (kx_NoText : PySem.W.excIn K f27 [.type "ValueError", .type "Exception", .type "BaseException", .type "object"] "ValueError.__new__" = true) (kk_NoText : PySem.W.keepIn K (.ref f27) = true)
    (k1_NoText : PySem.W.findIn K (.ref f27) "__getattribute__" = some (some (.builtin "BaseException.__getattribute__"))) (k2_NoText : PySem.W.findIn K (.ref f27) "__getattr__" = some none) (k3_NoText : PySem.W.findIn K (.ref f27) "__class__" = some (some (.builtin "object.__class__"))) (k4_NoText : PySem.W.specialIn K (.builtin "object.__class__") "__get__" = some (some (.builtin "getset_descriptor.__get__"))) (k5_NoText : PySem.W.takesIn K (.builtin "object.__class__") = some true) (k6_NoText : PySem.W.mroIn K f27 (.type "object") = some true)
    {f28 : Addr} (a_YardError : PySem.W.nsIn K mainGlobals "YardError" = some (some (.ref f28)))
    (kb_YardError : PySem.W.subIn K (.ref f28) (.type "BaseException") = some true) (kd_YardError : PySem.W.hasDictIn K f28 = true) (kt_YardError : PySem.W.typeIn K (.ref f28) = some (.type "type")) (ki_YardError : PySem.W.isClsIn K f28 = true) (ks_YardError : PySem.W.subIn K (.ref f28) (.ref f28) = some true)
    (kp_NoText_NoText : PySem.W.subIn K (.ref f27) (.ref f27) = some true)
    (kp_NoText_NoValue : PySem.W.subIn K (.ref f27) (.ref f26) = some false)
    (kp_NoText_YardError : PySem.W.subIn K (.ref f27) (.ref f28) = some true)
    (kp_NoValue_NoText : PySem.W.subIn K (.ref f26) (.ref f27) = some false)
    (kp_NoValue_NoValue : PySem.W.subIn K (.ref f26) (.ref f26) = some true)
    (kp_NoValue_YardError : PySem.W.subIn K (.ref f26) (.ref f28) = some true)
    (z_isinstance : PySem.W.nsIn K mainGlobals "isinstance" = some none)
    (z_bool : PySem.W.nsIn K mainGlobals "bool" = some none)
    (z_int : PySem.W.nsIn K mainGlobals "int" = some none)
    (z_abs : PySem.W.nsIn K mainGlobals "abs" = some none)
    (z_str : PySem.W.nsIn K mainGlobals "str" = some none)
    (z_len : PySem.W.nsIn K mainGlobals "len" = some none)
    (z_all : PySem.W.nsIn K mainGlobals "all" = some none)
    (z_tuple : PySem.W.nsIn K mainGlobals "tuple" = some none)
    (z_list : PySem.W.nsIn K mainGlobals "list" = some none)
    (z_range : PySem.W.nsIn K mainGlobals "range" = some none)
    (z_zip : PySem.W.nsIn K mainGlobals "zip" = some none) :
    ∃ fd : FuncData, (∀ (s : Shared) (v : Value), BindsTo s fd ⟨[v], []⟩ [("_law_script", v)]) ∧ ∀ base : Heap, K.In base → base.Ns mainGlobals mg → FnOk PySem.Challenge.rw_batchyard_k82_texts.prog w K mg base CX0 110 fa fd ["_law_script"] (spM K 1 m_law) := by
  have e := hfa.symm.trans (PySem.W.mg_of X G a16)
  cases e
  have F1 := fun_mk (st := s_is_value) l1 c1 k1
  have F2 := fun_mk (st := s__is_value_within) l2 c2 k2
  have F3 := fun_mk (st := s_value_text) l3 c3 k3
  have F4 := fun_mk (st := s_read_value) l4 c4 k4
  have F5 := fun_mk (st := s_events_text) l5 c5 k5
  have F6 := fun_mk (st := s_read_events) l6 c6 k6
  have F7 := fun_mk (st := s__text_of) l7 c7 k7
  have F8 := fun_mk (st := s__value_at) l8 c8 k8
  have F9 := fun_mk (st := s__tuple_at) l9 c9 k9
  have F10 := fun_mk (st := s__word_value) l10 c10 k10
  have F11 := fun_mk (st := s__law_drawn) l11 c11 k11
  have F12 := fun_mk (st := s__law_value) l12 c12 k12
  have F13 := fun_mk (st := s__law_alike) l13 c13 k13
  have F14 := fun_mk (st := s__law_plain) l14 c14 k14
  have F15 := fun_mk (st := s__law_no) l15 c15 k15
  have F16 := fun_mk (st := s_law) l16 c16 k16
  let T : Tx K w mg := {
    f_is_value := f1, d_is_value := _, F_is_value := F1, b_is_value := F1.binds (ps := ["thing"]) fun _ _ _ _ _ _ us hl => match us, hl with | [_], _ => rfl, g_is_value := PySem.W.mg_of X G a1,
    f__is_value_within := f2, d__is_value_within := _, F__is_value_within := F2, b__is_value_within := F2.binds (ps := ["thing", "deep"]) fun _ _ _ _ _ _ us hl => match us, hl with | [_, _], _ => rfl, g__is_value_within := PySem.W.mg_of X G a2,
    f_value_text := f3, d_value_text := _, F_value_text := F3, b_value_text := F3.binds (ps := ["value"]) fun _ _ _ _ _ _ us hl => match us, hl with | [_], _ => rfl, g_value_text := PySem.W.mg_of X G a3,
    f_read_value := f4, d_read_value := _, F_read_value := F4, b_read_value := F4.binds (ps := ["text"]) fun _ _ _ _ _ _ us hl => match us, hl with | [_], _ => rfl, g_read_value := PySem.W.mg_of X G a4,
    f_events_text := f5, d_events_text := _, F_events_text := F5, b_events_text := F5.binds (ps := ["events"]) fun _ _ _ _ _ _ us hl => match us, hl with | [_], _ => rfl, g_events_text := PySem.W.mg_of X G a5,
    f_read_events := f6, d_read_events := _, F_read_events := F6, b_read_events := F6.binds (ps := ["text"]) fun _ _ _ _ _ _ us hl => match us, hl with | [_], _ => rfl, g_read_events := PySem.W.mg_of X G a6,
    f__text_of := f7, d__text_of := _, F__text_of := F7, b__text_of := F7.binds (ps := ["value"]) fun _ _ _ _ _ _ us hl => match us, hl with | [_], _ => rfl, g__text_of := PySem.W.mg_of X G a7,
    f__value_at := f8, d__value_at := _, F__value_at := F8, b__value_at := F8.binds (ps := ["text", "at", "deep"]) fun _ _ _ _ _ _ us hl => match us, hl with | [_, _, _], _ => rfl, g__value_at := PySem.W.mg_of X G a8,
    f__tuple_at := f9, d__tuple_at := _, F__tuple_at := F9, b__tuple_at := F9.binds (ps := ["text", "at", "deep"]) fun _ _ _ _ _ _ us hl => match us, hl with | [_, _, _], _ => rfl, g__tuple_at := PySem.W.mg_of X G a9,
    f__word_value := f10, d__word_value := _, F__word_value := F10, b__word_value := F10.binds (ps := ["word"]) fun _ _ _ _ _ _ us hl => match us, hl with | [_], _ => rfl, g__word_value := PySem.W.mg_of X G a10,
    f__law_drawn := f11, d__law_drawn := _, F__law_drawn := F11, b__law_drawn := F11.binds (ps := ["_law_script", "_law_k", "_law_many"]) fun _ _ _ _ _ _ us hl => match us, hl with | [_, _, _], _ => rfl, g__law_drawn := PySem.W.mg_of X G a11,
    f__law_value := f12, d__law_value := _, F__law_value := F12, b__law_value := F12.binds (ps := ["_law_script", "_law_at", "_law_deep"]) fun _ _ _ _ _ _ us hl => match us, hl with | [_, _, _], _ => rfl, g__law_value := PySem.W.mg_of X G a12,
    f__law_alike := f13, d__law_alike := _, F__law_alike := F13, b__law_alike := F13.binds (ps := ["_law_one", "_law_other"]) fun _ _ _ _ _ _ us hl => match us, hl with | [_, _], _ => rfl, g__law_alike := PySem.W.mg_of X G a13,
    f__law_plain := f14, d__law_plain := _, F__law_plain := F14, b__law_plain := F14.binds (ps := ["_law_value_here"]) fun _ _ _ _ _ _ us hl => match us, hl with | [_], _ => rfl, g__law_plain := PySem.W.mg_of X G a14,
    f__law_no := f15, d__law_no := _, F__law_no := F15, b__law_no := F15.binds (ps := ["_law_way", "_law_thing"]) fun _ _ _ _ _ _ us hl => match us, hl with | [_, _], _ => rfl, g__law_no := PySem.W.mg_of X G a15,
    f_law := fa, d_law := _, F_law := F16, b_law := F16.binds (ps := ["_law_script"]) fun _ _ _ _ _ _ us hl => match us, hl with | [_], _ => rfl, g_law := PySem.W.mg_of X G a16,
    t_NUMBER_BOUND := t17, c_NUMBER_BOUND := PySem.W.mg_of X G c_NUMBER_BOUND,
    t_MOST_PARTS := t18, c_MOST_PARTS := PySem.W.mg_of X G c_MOST_PARTS,
    t_SIGNS := t19, c_SIGNS := PySem.W.mg_of X G c_SIGNS,
    t_MOST_DEEP := t20, c_MOST_DEEP := PySem.W.mg_of X G c_MOST_DEEP,
    t_QUOTE := t21, c_QUOTE := PySem.W.mg_of X G c_QUOTE,
    t_ENDS := t22, c_ENDS := PySem.W.mg_of X G c_ENDS,
    k_WORDS := f23, C_WORDS := dictC_mk w_WORDS y_WORDS z_WORDS v_WORDS (ents_cons rfl (ents_cons rfl (ents_cons rfl ents_nil))), c_WORDS := PySem.W.mg_of X G c_WORDS,
    t_MOST_FIGURES := t24, c_MOST_FIGURES := PySem.W.mg_of X G c_MOST_FIGURES,
    t_FIGURES := t25, c_FIGURES := PySem.W.mg_of X G c_FIGURES,
    C_NoValue := f26, g_NoValue := PySem.W.mg_of X G a_NoValue,
    x_NoValue := kx_NoValue, k_NoValue := kk_NoValue, b_NoValue := kb_NoValue, t_NoValue := kt_NoValue,
    E_NoValue := ⟨k1_NoValue, k2_NoValue, kb_NoValue, kd_NoValue, k3_NoValue, k4_NoValue, k5_NoValue, k6_NoValue⟩,
    C_NoText := f27, g_NoText := PySem.W.mg_of X G a_NoText,
    x_NoText := kx_NoText, k_NoText := kk_NoText, b_NoText := kb_NoText, t_NoText := kt_NoText,
    E_NoText := ⟨k1_NoText, k2_NoText, kb_NoText, kd_NoText, k3_NoText, k4_NoText, k5_NoText, k6_NoText⟩,
    C_YardError := f28, g_YardError := PySem.W.mg_of X G a_YardError,
    e_NoText_YardError := PySem.W.exm_ref kb_YardError kd_YardError kt_YardError kp_NoText_YardError,
    e_NoValue_YardError := PySem.W.exm_ref kb_YardError kd_YardError kt_YardError kp_NoValue_YardError,
    q_NoText_NoText := kit_of ki_NoText kt_NoText kp_NoText_NoText ks_NoText,
    q_NoText_NoValue := kit_of ki_NoValue kt_NoValue kp_NoText_NoValue ks_NoValue,
    q_NoValue_NoText := kit_of ki_NoText kt_NoText kp_NoValue_NoText ks_NoText,
    q_NoValue_NoValue := kit_of ki_NoValue kt_NoValue kp_NoValue_NoValue ks_NoValue,
    n_isinstance := PySem.W.mg_none_of X G z_isinstance,
    n_bool := PySem.W.mg_none_of X G z_bool,
    n_int := PySem.W.mg_none_of X G z_int,
    n_abs := PySem.W.mg_none_of X G z_abs,
    n_str := PySem.W.mg_none_of X G z_str,
    n_len := PySem.W.mg_none_of X G z_len,
    n_all := PySem.W.mg_none_of X G z_all,
    n_tuple := PySem.W.mg_none_of X G z_tuple,
    n_list := PySem.W.mg_none_of X G z_list,
    n_range := PySem.W.mg_none_of X G z_range,
    n_zip := PySem.W.mg_none_of X G z_zip }
  exact ⟨PySem.W.fnOf "law" "law" (defArgs s_law) (defBody s_law) (defScope s_law) .none kV16 dc16 pm16 an16 cd16 ct16, fun s v => .of_eq rfl, fun base _ _ => ok_law T⟩
end DD
open PySem PySem.W PyProof.Rows
set_option maxHeartbeats 0 in
theorem PySem.Challenge.cw_batchyard_k82_texts_holds : PySem.Challenge.rw_batchyard_k82_texts.Holds := by
  w_on; o_law; k_head; (case hw => w_witness2)
  k_fill
  refine L2.walk_of (l := PySem.Challenge.rw_batchyard_k82_texts) (n := 63) (k := 110) (x := "_law_script") (CX := fun _ => L2.CX0) (sp := fun w => @DD.spM ⟨[]⟩ _ 1 DD.m_law) rfl (by decide) rfl ⟨rfl, by decide, by decide⟩ (fun w h Y => PySem.W.kIn_of Y) ?F (fun _ _ a ns hl _ hS => DD.sp_law hl hS) (fun _ _ _ _ _ h => h)
  case F =>
    intro w mg fa h KX G hmg
    refine' DD.all_mk KX G hmg ?a1 ?l1 ?c1 ?k1 ?a2 ?l2 ?c2 ?k2 ?a3 ?l3 ?c3 ?k3 ?a4 ?l4 ?c4 ?k4 ?a5 ?l5 ?c5 ?k5 ?a6 ?l6 ?c6 ?k6 ?a7 ?l7 ?c7 ?k7 ?a8 ?l8 ?c8 ?k8 ?a9 ?l9 ?c9 ?k9 ?a10 ?l10 ?c10 ?k10 ?a11 ?l11 ?c11 ?k11 ?a12 ?l12 ?c12 ?k12 ?a13 ?l13 ?c13 ?k13 ?a14 ?l14 ?c14 ?k14 ?a15 ?l15 ?c15 ?k15 ?a16 ?l16 ?c16 ?k16 ?c_NUMBER_BOUND ?c_MOST_PARTS ?c_SIGNS ?c_MOST_DEEP ?c_QUOTE ?c_ENDS ?c_WORDS ?w_WORDS ?y_WORDS ?z_WORDS ?v_WORDS ?c_MOST_FIGURES ?c_FIGURES ?a_NoValue ?kb_NoValue ?kd_NoValue ?kt_NoValue ?ki_NoValue ?ks_NoValue ?kx_NoValue ?kk_NoValue ?k1_NoValue ?k2_NoValue ?k3_NoValue ?k4_NoValue ?k5_NoValue ?k6_NoValue ?a_NoText ?kb_NoText ?kd_NoText ?kt_NoText ?ki_NoText ?ks_NoText ?kx_NoText ?kk_NoText ?k1_NoText ?k2_NoText ?k3_NoText ?k4_NoText ?k5_NoText ?k6_NoText ?a_YardError ?kb_YardError ?kd_YardError ?kt_YardError ?ki_YardError ?ks_YardError ?kp_NoText_NoText ?kp_NoText_NoValue ?kp_NoText_YardError ?kp_NoValue_NoText ?kp_NoValue_NoValue ?kp_NoValue_YardError ?z_isinstance ?z_bool ?z_int ?z_abs ?z_str ?z_len ?z_all ?z_tuple ?z_list ?z_range ?z_zip
    (case a1 => k_is); (case l1 => k_is); (case c1 => k_is); (case k1 => k_is); (case a2 => k_is); (case l2 => k_is); (case c2 => k_is); (case k2 => k_is); (case a3 => k_is); (case l3 => k_is); (case c3 => k_is); (case k3 => k_is); (case a4 => k_is); (case l4 => k_is); (case c4 => k_is); (case k4 => k_is); (case a5 => k_is); (case l5 => k_is); (case c5 => k_is); (case k5 => k_is); (case a6 => k_is); (case l6 => k_is); (case c6 => k_is); (case k6 => k_is); (case a7 => k_is); (case l7 => k_is); (case c7 => k_is); (case k7 => k_is); (case a8 => k_is); (case l8 => k_is); (case c8 => k_is); (case k8 => k_is); (case a9 => k_is); (case l9 => k_is); (case c9 => k_is); (case k9 => k_is); (case a10 => k_is); (case l10 => k_is); (case c10 => k_is); (case k10 => k_is); (case a11 => k_is); (case l11 => k_is); (case c11 => k_is); (case k11 => k_is); (case a12 => k_is); (case l12 => k_is); (case c12 => k_is); (case k12 => k_is); (case a13 => k_is); (case l13 => k_is); (case c13 => k_is); (case k13 => k_is); (case a14 => k_is); (case l14 => k_is); (case c14 => k_is); (case k14 => k_is); (case a15 => k_is); (case l15 => k_is); (case c15 => k_is); (case k15 => k_is); (case a16 => k_is); (case l16 => k_is); (case c16 => k_is); (case k16 => k_is); (case c_NUMBER_BOUND => k_is); (case c_MOST_PARTS => k_is); (case c_SIGNS => k_is); (case c_MOST_DEEP => k_is); (case c_QUOTE => k_is); (case c_ENDS => k_is); (case c_WORDS => k_is); (case w_WORDS => k_is); (case y_WORDS => exact ⟨⟨_, _, rfl, rfl⟩, ⟨⟨_, _, rfl, rfl⟩, ⟨⟨_, _, rfl, rfl⟩, trivial⟩⟩⟩); (case z_WORDS => rfl); (case v_WORDS => rfl); (case c_MOST_FIGURES => k_is); (case c_FIGURES => k_is); (case a_NoValue => k_is); (case kb_NoValue => k_is); (case kd_NoValue => k_is); (case kt_NoValue => k_is); (case ki_NoValue => k_is); (case ks_NoValue => first | k_is | rfl); (case kx_NoValue => k_exc); (case kk_NoValue => k_is); (case k1_NoValue => k_is); (case k2_NoValue => k_is); (case k3_NoValue => k_is); (case k4_NoValue => k_is); (case k5_NoValue => k_is); (case k6_NoValue => k_is); (case a_NoText => k_is); (case kb_NoText => k_is); (case kd_NoText => k_is); (case kt_NoText => k_is); (case ki_NoText => k_is); (case ks_NoText => first | k_is | rfl); (case kx_NoText => k_exc); (case kk_NoText => k_is); (case k1_NoText => k_is); (case k2_NoText => k_is); (case k3_NoText => k_is); (case k4_NoText => k_is); (case k5_NoText => k_is); (case k6_NoText => k_is); (case a_YardError => k_is); (case kb_YardError => k_is); (case kd_YardError => k_is); (case kt_YardError => k_is); (case ki_YardError => k_is); (case ks_YardError => first | k_is | rfl); (case kp_NoText_NoText => first | k_is | rfl); (case kp_NoText_NoValue => first | k_is | rfl); (case kp_NoText_YardError => first | k_is | rfl); (case kp_NoValue_NoText => first | k_is | rfl); (case kp_NoValue_NoValue => first | k_is | rfl); (case kp_NoValue_YardError => first | k_is | rfl); (case z_isinstance => k_is); (case z_bool => k_is); (case z_int => k_is); (case z_abs => k_is); (case z_str => k_is); (case z_len => k_is); (case z_all => k_is); (case z_tuple => k_is); (case z_list => k_is); (case z_range => k_is); (case z_zip => k_is)
