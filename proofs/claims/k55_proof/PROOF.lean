import PyProof.Rows.All
import Wide.All
import OpenK.AllK
import Wide.FinOn
import HandS.ForMost
import HandS.IsInst
import HandS.Walk
import HandS.Wide
import HandS.TupMul
import HandS.TupAny
import HandS.TupLe
import HandS.Style
import HandS.Star
import HandS.Zip
import HandS.Steps
import HandS.Lambda
import HandS.Deep
import KE.KUnpackStar
import HandS.TryOnly
import KE.GoesEnum
import HandS.SetFor
import HandS.Strs
import HandS.HeadHook3
import HandS.ExcOwn
import HandS.WordsExc
import HandS.ExcIs
import HandS.RaiseMore
import HandS.Replace
import HandS.EndOwn
import KE.KNestM
import HandS.HotCalls
import HandS.CallLocal
import HandS.CallSlots
import HandS.Defaults
import PyProof.StrBlock2
import HandS.Rev
import PyProof.P3In
import PyProof.Rows.FloatCmp
import PyProof.Rows.RuleB_bool
import HandS.Comp
import KE.GoesRaise
import HandS.FStr
import HandS.StrMore
import HandS.Iter
import Flt.Len
import PySem.Challenge.RW_batchyard_k55_disk_refusals
set_option Elab.async false
set_option linter.all false
set_option maxRecDepth 100000
set_option maxHeartbeats 2000000
/-! what defs do to data: readings over a heap with lists of one's own laid over it -/
namespace DD
open PySem PySem.Spec PyProof.Rows L2

abbrev D := PyData
/-- the tables of code objects that grow as lambdas are made, each with the name that its code objects bear -/
class TabQ where
  tabs : List (Addr × Str)
/-- where the caught exception lies, and the number of its class -/
class ExQ where
  ea : Addr
  ec : Nat
variable [TabQ]
/-- all but tables of code objects stays -/
def Same (H H' : Hp) : Prop := ∀ b o, H b = some o → (∀ ps, o ≠ .tbl ps) → H' b = some o
theorem Same.refl (H : Hp) : Same H H := fun _ _ h _ => h
theorem Same.trans {H H1 H2 : Hp} (a : Same H H1) (b : Same H1 H2) : Same H H2 := fun c o h n => b c o (a c o h n) n
theorem Same.of {H H' : Hp} (e : ∀ b o, H b = some o → H' b = some o) : Same H H' := fun b o h _ => e b o h
theorem Same.seq {K : PySem.W.Frag} {H H' : Hp} {a : Addr} {xs : List V} (e : Same H H') (h : SqL K H a xs) : SqL K H' a xs := by
  rcases h with (h | ⟨o, h⟩) | h
  · exact .inl (.inl (e _ _ h (fun _ => HO.noConfusion)))
  · exact .inl (.inr ⟨o, e _ _ h (fun _ => HO.noConfusion)⟩)
  · exact .inr h
/-- lists of one's own -/
abbrev Ov := Addr → Option (List V)
def ov (H : Hp) (T : Ov) : Hp := fun a => match T a with
  | some xs => some (.lst xs)
  | none => H a
structure Dis (H : Hp) (T : Ov) : Prop where
  no : ∀ a xs, T a = some xs → H a = none
  tab : LamX.Tabs TabQ.tabs H
instance {H : Hp} {T : Ov} : CoeFun (Dis H T) (fun _ => ∀ a xs, T a = some xs → H a = none) := ⟨Dis.no⟩
def Ext (T0 T : Ov) : Prop := ∀ a xs, T0 a = some xs → T a = some xs
def put (T : Ov) (p : Addr) (xs : List V) : Ov := fun a => if a = p then some xs else T a
def cut (T : Ov) (p : Addr) : Ov := fun a => if a = p then none else T a

theorem ov_own {H : Hp} {T : Ov} {a : Addr} {xs : List V} (h : T a = some xs) : ov H T a = some (.lst xs) := by
  unfold ov; rw [h]
theorem ov_none {H : Hp} {T : Ov} {a : Addr} (h : T a = none) : ov H T a = H a := by
  unfold ov; rw [h]
theorem ov_free {H : Hp} {T : Ov} {a : Addr} (h : ov H T a = none) : T a = none ∧ H a = none := by
  cases e : T a with
  | none => rw [ov_none e] at h; exact ⟨rfl, h⟩
  | some xs => rw [ov_own e] at h; cases h
/-- all that H knows stays under T -/
theorem raw_ov {H : Hp} {T : Ov} (d : Dis H T) : ∀ a o, H a = some o → ov H T a = some o := fun a o h => by
  cases e : T a with
  | none => rw [ov_none e]; exact h
  | some xs => have := d a xs e; rw [h] at this; cases this
theorem same_ov {H : Hp} {T : Ov} (d : Dis H T) : Same H (ov H T) := .of (raw_ov d)
theorem upd_ov {H : Hp} {T : Ov} {p : Addr} {o : HO} (h : T p = none) : upd (ov H T) p o = ov (upd H p o) T := by
  funext a
  by_cases e : a = p
  · subst e; rw [upd_same, ov_none h, upd_same]
  · rw [upd_ne e]
    cases q : T a with
    | none => rw [ov_none q, ov_none q, upd_ne e]
    | some xs => rw [ov_own q, ov_own q]
theorem upd_put {H : Hp} {T : Ov} {p : Addr} {xs : List V} : upd (ov H T) p (.lst xs) = ov H (put T p xs) := by
  funext a
  by_cases e : a = p
  · subst e
    have : put T a xs a = some xs := by unfold put; rw [if_pos rfl]
    rw [upd_same, ov_own this]
  · have : put T p xs a = T a := by unfold put; rw [if_neg e]
    rw [upd_ne e]
    unfold ov
    rw [this]
theorem put_same {T : Ov} {p : Addr} {xs : List V} : put T p xs p = some xs := by unfold put; rw [if_pos rfl]
theorem put_ne {T : Ov} {p a : Addr} {xs : List V} (h : a ≠ p) : put T p xs a = T a := by unfold put; rw [if_neg h]
theorem raw_new {H : Hp} {p : Addr} {o : HO} (h : H p = none) : ∀ b x, H b = some x → upd H p o b = some x := fun b x e => by
  rw [upd_ne (ne_of_none e h)]; exact e
theorem same_new {H : Hp} {p : Addr} {o : HO} (h : H p = none) : Same H (upd H p o) := .of (raw_new h)
theorem dis_upd {H : Hp} {T : Ov} {p : Addr} {o : HO} (d : Dis H T) (h : T p = none) (hn : H p = none) : Dis (upd H p o) T := ⟨fun a xs e => by
  have : a ≠ p := fun z => by rw [z, h] at e; cases e
  rw [upd_ne this]; exact d a xs e, d.tab.ext (raw_new hn)⟩
theorem dis_put {H : Hp} {T : Ov} {p : Addr} {xs : List V} (d : Dis H T) (h : H p = none) : Dis H (put T p xs) := ⟨fun a ys e => by
  by_cases q : a = p
  · rw [q]; exact h
  · rw [put_ne q] at e; exact d a ys e, d.tab⟩
theorem dis_less {H : Hp} {T T' : Ov} (d : Dis H T) (h : ∀ a xs, T' a = some xs → ∃ ys, T a = some ys) : Dis H T' := ⟨fun a xs e => let ⟨ys, q⟩ := h a xs e; d a ys q, d.tab⟩
/-- a list of one's own becomes one that is known -/
theorem ov_freeze {H : Hp} {T : Ov} {p : Addr} {xs : List V} (h : T p = some xs) : ov H T = ov (upd H p (.lst xs)) (cut T p) := by
  funext a
  by_cases e : a = p
  · subst e
    have : cut T a a = none := by unfold cut; rw [if_pos rfl]
    rw [ov_own h, ov_none this, upd_same]
  · have : cut T p a = T a := by unfold cut; rw [if_neg e]
    unfold ov
    rw [this]
    cases q : T a with
    | none => exact (upd_ne e).symm
    | some ys => rfl

/-! ### data -/
theorem Same.sqt {K : PySem.W.Frag} {H H' : Hp} {a : Addr} {xs : List V} (e : Same H H') (h : SqT K H a xs) : SqT K H' a xs := by
  rcases h with (h | ⟨o, h⟩) | h
  · exact .inl (.inl (e _ _ h (fun _ => HO.noConfusion)))
  · exact .inl (.inr ⟨o, e _ _ h (fun _ => HO.noConfusion)⟩)
  · exact .inr h
mutual
theorem dp_mono {K : PySem.W.Frag} {H H' : Hp} (e : Same H H') : ∀ {v : V} {d : D}, Dp K H v d → Dp K H' v d
  | _, _, .non => .non
  | _, _, .bl b => .bl b
  | _, _, .int i => .int i
  | _, _, .str x => .str x
  | _, _, .lst h t => .lst (e.seq h) (dpa_mono e t)
  | _, _, .tup h t => .tup (Same.sqt e h) (dpa_mono e t)
theorem dpa_mono {K : PySem.W.Frag} {H H' : Hp} (e : Same H H') : ∀ {vs : List V} {ds : List D}, DpAll K H vs ds → DpAll K H' vs ds
  | _, _, .nil => .nil
  | _, _, .cons h t => .cons (dp_mono e h) (dpa_mono e t)
end
theorem dpa_len {K : PySem.W.Frag} {H : Hp} : ∀ {vs : List V} {ds : List D}, DpAll K H vs ds → vs.length = ds.length
  | _, _, .nil => rfl
  | _, _, .cons _ t => by rw [List.length_cons, List.length_cons, dpa_len t]
theorem dpa_get {K : PySem.W.Frag} {H : Hp} : ∀ {vs : List V} {ds : List D}, DpAll K H vs ds → ∀ {i : Nat} {d : D}, ds[i]? = some d → ∃ v, vs[i]? = some v ∧ Dp K H v d
  | _, _, .nil, i, d, h => by simp at h
  | _, _, .cons h t, 0, d, e => by
    simp at e; subst e; exact ⟨_, rfl, h⟩
  | _, _, .cons h t, i + 1, d, e => by
    obtain ⟨v, q, r⟩ := dpa_get t (i := i) (by simpa using e)
    exact ⟨v, by simpa using q, r⟩
theorem dpa_append {K : PySem.W.Frag} {H : Hp} : ∀ {vs ws : List V} {ds es : List D}, DpAll K H vs ds → DpAll K H ws es → DpAll K H (vs ++ ws) (ds ++ es)
  | _, _, _, _, .nil, s => s
  | _, _, _, _, .cons h t, s => .cons h (dpa_append t s)
theorem dpa_take {K : PySem.W.Frag} {H : Hp} : ∀ {vs : List V} {ds : List D} (n : Nat), DpAll K H vs ds → DpAll K H (vs.take n) (ds.take n)
  | _, _, 0, _ => .nil
  | _, _, _ + 1, .nil => .nil
  | _, _, n + 1, .cons h t => .cons h (dpa_take n t)
theorem dpa_drop {K : PySem.W.Frag} {H : Hp} : ∀ {vs : List V} {ds : List D} (n : Nat), DpAll K H vs ds → DpAll K H (vs.drop n) (ds.drop n)
  | _, _, 0, h => h
  | _, _, _ + 1, .nil => .nil
  | _, _, n + 1, .cons _ t => dpa_drop n t
theorem dpa_rep {K : PySem.W.Frag} {H : Hp} {vs : List V} {ds : List D} (h : DpAll K H vs ds) : ∀ n : Nat, DpAll K H (List.replicate n vs).flatten (List.replicate n ds).flatten
  | 0 => .nil
  | n + 1 => by
    rw [List.replicate_succ, List.replicate_succ, List.flatten_cons, List.flatten_cons]
    exact dpa_append h (dpa_rep h n)
theorem dpa_ints {K : PySem.W.Frag} {H : Hp} : ∀ ns : List Int, DpAll K H (ns.map V.int) (ns.map PyData.int)
  | [] => .nil
  | n :: r => .cons (.int n) (dpa_ints r)
theorem dpa_snoc {K : PySem.W.Frag} {H : Hp} {vs : List V} {ds : List D} {v : V} {d : D} (h : DpAll K H vs ds) (g : Dp K H v d) : DpAll K H (vs ++ [v]) (ds ++ [d]) := dpa_append h (.cons g .nil)
theorem dpa_nil_iff {K : PySem.W.Frag} {H : Hp} {vs : List V} {ds : List D} (h : DpAll K H vs ds) : ds = [] ↔ vs = [] := by
  cases h with
  | nil => exact Iff.intro (fun _ => rfl) (fun _ => rfl)
  | cons _ _ => exact Iff.intro (fun z => nomatch z) (fun z => nomatch z)

/-! ### slots -/
inductive Sl where
  | val (d : D)
  | own (ds : List D)
  | exc (c : Nat)
abbrev En := List (Option Sl)

variable [ExQ]
/-- where one stands in a def: H0, T0 what the caller has -/
structure Good (K : PySem.W.Frag) (H0 : Hp) (T0 : Ov) (σ : L2.St) (ρ : En) (H : Hp) (T : Ov) : Prop where
  len : ρ.length = σ.length
  val : ∀ (i : Nat) (d : D), ρ[i]? = some (some (Sl.val d)) → ∃ v, σ[i]? = some (some v) ∧ Dp K H v d
  own : ∀ (i : Nat) (ds : List D), ρ[i]? = some (some (Sl.own ds)) → ∃ p xs, σ[i]? = some (some (.ref p)) ∧ T p = some xs ∧ T0 p = none ∧ DpAll K H xs ds
  inj : ∀ (i j : Nat) (ds es : List D) (p : Addr), ρ[i]? = some (some (Sl.own ds)) → ρ[j]? = some (some (Sl.own es)) → σ[i]? = some (some (.ref p)) → σ[j]? = some (some (.ref p)) → i = j
  dis : Dis H T
  ext : Ext T0 T
  ex : Same H0 H
  exc : ∀ (i : Nat) (c : Nat), ρ[i]? = some (some (Sl.exc c)) → σ[i]? = some (some (.ref ExQ.ea)) ∧ c = ExQ.ec
section
variable {K : PySem.W.Frag} {H0 H H' : Hp} {T0 T : Ov} {σ : L2.St} {ρ : En}
theorem Good.mono (G : Good K H0 T0 σ ρ H T) (e : Same H H') (d : Dis H' T) : Good K H0 T0 σ ρ H' T :=
  ⟨G.len, fun i x h => let ⟨v, a, b⟩ := G.val i x h; ⟨v, a, dp_mono e b⟩, fun i x h => let ⟨p, xs, a, b, c, f⟩ := G.own i x h; ⟨p, xs, a, b, c, dpa_mono e f⟩, G.inj, d, G.ext, G.ex.trans e, G.exc⟩
theorem get_set {α : Type} {l : List α} {i j : Nat} {x : α} {y : α} (h : (l.set i x)[j]? = some y) : (j = i ∧ y = x ∧ i < l.length) ∨ (j ≠ i ∧ l[j]? = some y) := by
  by_cases e : j = i
  · subst e
    by_cases q : j < l.length
    · rw [List.getElem?_set_self q] at h
      exact .inl ⟨rfl, (Option.some.inj h).symm, q⟩
    · rw [List.getElem?_eq_none (by simpa using q)] at h; cases h
  · rw [List.getElem?_set_ne (Ne.symm e)] at h
    exact .inr ⟨e, h⟩
theorem set_self {α : Type} {l : List α} {i : Nat} {x : α} (h : i < l.length) : (l.set i x)[i]? = some x := List.getElem?_set_self h
theorem exc_set {σ : L2.St} {ρ : En} {i : Nat} {x : Option V} {y : Option Sl} (E : ∀ (j : Nat) (c : Nat), ρ[j]? = some (some (Sl.exc c)) → σ[j]? = some (some (.ref ExQ.ea)) ∧ c = ExQ.ec) (hy : ∀ c, some (Sl.exc c) ≠ y) :
    ∀ (j : Nat) (c : Nat), (ρ.set i y)[j]? = some (some (Sl.exc c)) → (σ.set i x)[j]? = some (some (.ref ExQ.ea)) ∧ c = ExQ.ec := fun j c h => by
  rcases get_set h with ⟨_, q, _⟩ | ⟨e, q⟩
  · exact absurd q (hy c)
  · obtain ⟨a, b⟩ := E j c q
    exact ⟨by rw [List.getElem?_set_ne (Ne.symm e)]; exact a, b⟩
theorem exc_turn {σ : L2.St} {ρ : En} {i : Nat} {y : Option Sl} (E : ∀ (j : Nat) (c : Nat), ρ[j]? = some (some (Sl.exc c)) → σ[j]? = some (some (.ref ExQ.ea)) ∧ c = ExQ.ec) (hy : ∀ c, some (Sl.exc c) ≠ y) :
    ∀ (j : Nat) (c : Nat), (ρ.set i y)[j]? = some (some (Sl.exc c)) → σ[j]? = some (some (.ref ExQ.ea)) ∧ c = ExQ.ec := fun j c h => by
  rcases get_set h with ⟨_, q, _⟩ | ⟨e, q⟩
  · exact absurd q (hy c)
  · exact E j c q
/-- a slot gets a value -/
theorem Good.set {i : Nat} {v : V} {d : D} (G : Good K H0 T0 σ ρ H T) (g : Dp K H v d) : Good K H0 T0 (σ.set i (some v)) (ρ.set i (some (Sl.val d))) H T := by
  refine ⟨by rw [List.length_set, List.length_set]; exact G.len, fun j x h => ?_, fun j x h => ?_, fun j k ds es p h1 h2 h3 h4 => ?_, G.dis, G.ext, G.ex, exc_set G.exc (fun _ z => by cases z)⟩
  · rcases get_set h with ⟨e, q, l⟩ | ⟨e, q⟩
    · subst e
      cases q
      exact ⟨v, set_self (by rw [← G.len]; exact l), g⟩
    · obtain ⟨w, a, b⟩ := G.val j x q
      exact ⟨w, by rw [List.getElem?_set_ne (Ne.symm e)]; exact a, b⟩
  · rcases get_set h with ⟨e, q, l⟩ | ⟨e, q⟩
    · cases q
    · obtain ⟨p, xs, a, b⟩ := G.own j x q
      exact ⟨p, xs, by rw [List.getElem?_set_ne (Ne.symm e)]; exact a, b⟩
  · rcases get_set h1 with ⟨_, q, _⟩ | ⟨e1, q1⟩
    · cases q
    · rcases get_set h2 with ⟨_, q, _⟩ | ⟨e2, q2⟩
      · cases q
      · rw [List.getElem?_set_ne (Ne.symm e1)] at h3
        rw [List.getElem?_set_ne (Ne.symm e2)] at h4
        exact G.inj j k ds es p q1 q2 h3 h4
/-- a slot gets a new list of one's own -/
theorem Good.setOwn {i : Nat} {p : Addr} {xs : List V} {ds : List D} (G : Good K H0 T0 σ ρ H T) (g : DpAll K H xs ds) (hp : ov H T p = none) :
    Good K H0 T0 (σ.set i (some (.ref p))) (ρ.set i (some (Sl.own ds))) H (put T p xs) := by
  obtain ⟨hT, hH⟩ := ov_free hp
  have h0 : T0 p = none := by
    cases e : T0 p with
    | none => rfl
    | some ys => have := G.ext p ys e; rw [hT] at this; cases this
  have ne : ∀ a ys, T a = some ys → a ≠ p := fun a ys e z => by rw [z, hT] at e; cases e
  refine ⟨by rw [List.length_set, List.length_set]; exact G.len, fun j x h => ?_, fun j x h => ?_, fun j k ds es q h1 h2 h3 h4 => ?_, dis_put G.dis hH, fun a ys e => ?_, G.ex, exc_set G.exc (fun _ z => by cases z)⟩
  · rcases get_set h with ⟨e, q, l⟩ | ⟨e, q⟩
    · cases q
    · obtain ⟨w, a, b⟩ := G.val j x q
      exact ⟨w, by rw [List.getElem?_set_ne (Ne.symm e)]; exact a, b⟩
  · rcases get_set h with ⟨e, q, l⟩ | ⟨e, q⟩
    · cases q
      subst e
      exact ⟨p, xs, set_self (by rw [← G.len]; exact l), put_same, h0, g⟩
    · obtain ⟨r, ys, a, b, c⟩ := G.own j x q
      exact ⟨r, ys, by rw [List.getElem?_set_ne (Ne.symm e)]; exact a, by rw [put_ne (ne r ys b)]; exact b, c⟩
  · rcases get_set h1 with ⟨e1, q1, l1⟩ | ⟨e1, q1⟩
    · rcases get_set h2 with ⟨e2, q2, l2⟩ | ⟨e2, q2⟩
      · rw [e1, e2]
      · subst e1
        rw [set_self (by rw [← G.len]; exact l1)] at h3
        cases h3
        rw [List.getElem?_set_ne (Ne.symm e2)] at h4
        obtain ⟨r, ys, a, b, _⟩ := G.own k es q2
        rw [h4] at a
        cases a
        exact absurd rfl (ne _ ys b)
    · rcases get_set h2 with ⟨e2, q2, l2⟩ | ⟨e2, q2⟩
      · subst e2
        rw [set_self (by rw [← G.len]; exact l2)] at h4
        cases h4
        rw [List.getElem?_set_ne (Ne.symm e1)] at h3
        obtain ⟨r, ys, a, b, _⟩ := G.own j _ q1
        rw [h3] at a
        cases a
        exact absurd rfl (ne _ ys b)
      · rw [List.getElem?_set_ne (Ne.symm e1)] at h3
        rw [List.getElem?_set_ne (Ne.symm e2)] at h4
        exact G.inj j k _ es q q1 q2 h3 h4
  · rw [put_ne (ne a ys (G.ext a ys e))]
    exact G.ext a ys e
/-- a list of one's own turns -/
theorem Good.turn {i : Nat} {p : Addr} {xs ys : List V} {ds es : List D} (G : Good K H0 T0 σ ρ H T) (h : ρ[i]? = some (some (Sl.own ds))) (hs : σ[i]? = some (some (.ref p))) (ht : T p = some xs) (g : DpAll K H ys es) :
    Good K H0 T0 σ (ρ.set i (some (Sl.own es))) H (put T p ys) := by
  obtain ⟨p', xs', a, b, c, f⟩ := G.own i ds h
  rw [hs] at a
  cases a
  refine ⟨by rw [List.length_set]; exact G.len, fun j x q => ?_, fun j x q => ?_, fun j k as bs r h1 h2 h3 h4 => ?_, dis_put G.dis (G.dis p xs ht), fun a zs e => ?_, G.ex, exc_turn G.exc (fun _ z => by cases z)⟩
  · rcases get_set q with ⟨_, q, _⟩ | ⟨_, q⟩
    · cases q
    · exact G.val j x q
  · rcases get_set q with ⟨e, q, _⟩ | ⟨e, q⟩
    · cases q
      subst e
      exact ⟨p, ys, hs, put_same, c, g⟩
    · obtain ⟨r, zs, a, b, c⟩ := G.own j x q
      have : r ≠ p := fun z => e (G.inj j i x ds p q h (z ▸ a) hs)
      exact ⟨r, zs, a, by rw [put_ne this]; exact b, c⟩
  · have o1 : ∃ us, ρ[j]? = some (some (Sl.own us)) := by
      rcases get_set h1 with ⟨e, q, _⟩ | ⟨_, q⟩
      · exact ⟨ds, e ▸ h⟩
      · exact ⟨_, q⟩
    have o2 : ∃ us, ρ[k]? = some (some (Sl.own us)) := by
      rcases get_set h2 with ⟨e, q, _⟩ | ⟨_, q⟩
      · exact ⟨ds, e ▸ h⟩
      · exact ⟨_, q⟩
    obtain ⟨u1, o1⟩ := o1
    obtain ⟨u2, o2⟩ := o2
    exact G.inj j k u1 u2 r o1 o2 h3 h4
  · have : a ≠ p := fun z => by rw [z, c] at e; cases e
    rw [put_ne this]
    exact G.ext a zs e
def frz (i : Nat) (ρ : En) : En := match ρ[i]? with
  | some (some (Sl.own ds)) => ρ.set i (some (.val (.list ds)))
  | _ => ρ
/-- a list of one's own becomes a value -/
theorem Good.freeze (i : Nat) (G : Good K H0 T0 σ ρ H T) : ∃ H' T', Good K H0 T0 σ (frz i ρ) H' T' ∧ ov H T = ov H' T' ∧ Same H H' := by
  unfold frz
  split
  · rename_i ds h
    obtain ⟨p, xs, a, b, c, f⟩ := G.own i ds h
    have hp := G.dis p xs b
    have sm : Same H (upd H p (.lst xs)) := same_new hp
    have ne : ∀ r ys, T r = some ys → r ≠ p → cut T p r = some ys := fun r ys e q => by unfold cut; rw [if_neg q]; exact e
    refine ⟨upd H p (.lst xs), cut T p, ⟨by rw [List.length_set]; exact G.len, fun j x q => ?_, fun j x q => ?_, fun j k as bs r h1 h2 h3 h4 => ?_, ⟨fun r ys e => ?_, G.dis.tab.ext (raw_new hp)⟩, fun r ys e => ?_, G.ex.trans sm, exc_turn G.exc (fun _ z => by cases z)⟩, ov_freeze b, sm⟩
    · rcases get_set q with ⟨e, q, _⟩ | ⟨e, q⟩
      · cases q
        subst e
        exact ⟨.ref p, a, .lst (SqL.of upd_same) (dpa_mono sm f)⟩
      · obtain ⟨v, g, k⟩ := G.val j x q
        exact ⟨v, g, dp_mono sm k⟩
    · rcases get_set q with ⟨e, q, _⟩ | ⟨e, q⟩
      · cases q
      · obtain ⟨r, ys, g, k, l, m⟩ := G.own j x q
        exact ⟨r, ys, g, ne r ys k fun z => e (G.inj j i x ds p q h (z ▸ g) a), l, dpa_mono sm m⟩
    · rcases get_set h1 with ⟨_, q, _⟩ | ⟨_, q1⟩
      · cases q
      · rcases get_set h2 with ⟨_, q, _⟩ | ⟨_, q2⟩
        · cases q
        · exact G.inj j k as bs r q1 q2 h3 h4
    · unfold cut at e
      split at e
      · cases e
      · rename_i q
        rw [upd_ne q]
        exact G.dis r ys e
    · exact ne r ys (G.ext r ys e) fun z => by rw [z, c] at e; cases e
  · exact ⟨H, T, G, rfl, Same.refl H⟩
end
end DD

set_option Elab.async false
set_option linter.all false
set_option maxRecDepth 100000
set_option maxHeartbeats 2000000
namespace DD
variable [TabQ] [ExQ]
open PySem PySem.Spec PyProof.Rows L2

inductive Fl where
  | nx (ρ : En)
  | rt (d : D)
  | bk (ρ : En)
  | ct (ρ : En)

section
variable (K : PySem.W.Frag)
structure ET (te : TE) (m : En → Option D) : Prop where
  run : ∀ {H0 : Hp} {T0 : Ov} {σ : L2.St} {ρ : En} {H : Hp} {T : Ov} {d : D}, Good K H0 T0 σ ρ H T → m ρ = some d →
    ∀ Q : VK, (∀ v H', Same H H' → Dis H' T → Dp K H' v d → Q v (ov H' T)) → te σ (ov H T) Q
structure FL (te : TE) (m : En → Option (List D)) : Prop where
  run : ∀ {H0 : Hp} {T0 : Ov} {σ : L2.St} {ρ : En} {H : Hp} {T : Ov} {ds : List D}, Good K H0 T0 σ ρ H T → m ρ = some ds →
    ∀ Q : VK, (∀ p xs H', Same H H' → Dis H' T → ov H' T p = none → DpAll K H' xs ds → Q (.ref p) (upd (ov H' T) p (.lst xs))) → te σ (ov H T) Q
structure TTm (tt : TT) (m : En → Option Bool) : Prop where
  run : ∀ {H0 : Hp} {T0 : Ov} {σ : L2.St} {ρ : En} {H : Hp} {T : Ov} {b : Bool}, Good K H0 T0 σ ρ H T → m ρ = some b →
    ∀ Q : Bool → Hp → Prop, (∀ H', Same H H' → Dis H' T → Q b (ov H' T)) → tt σ (ov H T) Q
structure TAm (ta : TA) (m : En → Option (List D)) : Prop where
  run : ∀ {H0 : Hp} {T0 : Ov} {σ : L2.St} {ρ : En} {H : Hp} {T : Ov} {ds : List D}, Good K H0 T0 σ ρ H T → m ρ = some ds →
    ∀ Q : List V → Hp → Prop, (∀ vs H', Same H H' → Dis H' T → DpAll K H' vs ds → Q vs (ov H' T)) → ta σ (ov H T) Q
structure RD (r : R2) (f : D → D → Option D) : Prop where
  run : ∀ {H : Hp} {T : Ov} {x y : V} {a b d : D}, Dis H T → Dp K H x a → Dp K H y b → f a b = some d →
    ∀ Q : VK, (∀ v H', Same H H' → Dis H' T → Dp K H' v d → Q v (ov H' T)) → r x y (ov H T) Q
structure UD (r : V → Hp → VK → Prop) (f : D → Option D) : Prop where
  run : ∀ {H : Hp} {T : Ov} {x : V} {a d : D}, Dis H T → Dp K H x a → f a = some d →
    ∀ Q : VK, (∀ v H', Same H H' → Dis H' T → Dp K H' v d → Q v (ov H' T)) → r x (ov H T) Q
structure CD (r : List V → Hp → VK → Prop) (f : List D → Option D) : Prop where
  run : ∀ {H : Hp} {T : Ov} {vs : List V} {ds : List D} {d : D}, Dis H T → DpAll K H vs ds → f ds = some d →
    ∀ Q : VK, (∀ v H', Same H H' → Dis H' T → Dp K H' v d → Q v (ov H' T)) → r vs (ov H T) Q
structure CL (r : List V → Hp → VK → Prop) (f : List D → Option (List D)) : Prop where
  run : ∀ {H : Hp} {T : Ov} {vs : List V} {ds es : List D}, Dis H T → DpAll K H vs ds → f ds = some es →
    ∀ Q : VK, (∀ p xs H', Same H H' → Dis H' T → ov H' T p = none → DpAll K H' xs es → Q (.ref p) (upd (ov H' T) p (.lst xs))) → r vs (ov H T) Q
/-- a target; vs: the slots that it may change -/
structure TGm (vs : List Nat) (g : TG) (m : D → En → Option En) : Prop where
  run : ∀ {H0 : Hp} {T0 : Ov} {σ : L2.St} {ρ ρ2 : En} {H : Hp} {T : Ov} {v : V} {d : D}, Good K H0 T0 σ ρ H T → Dp K H v d → m d ρ = some ρ2 →
    ∀ Q : L2.St → Hp → Prop, (∀ σ2 H', Good K H0 T0 σ2 ρ2 H' T → Same H H' → wipe σ2 vs = wipe σ vs → Q σ2 (ov H' T)) → g v σ (ov H T) Q
structure TGsm (vs : List Nat) (g : TGs) (m : List D → En → Option En) : Prop where
  run : ∀ {H0 : Hp} {T0 : Ov} {σ : L2.St} {ρ ρ2 : En} {H : Hp} {T : Ov} {xs : List V} {ds : List D}, Good K H0 T0 σ ρ H T → DpAll K H xs ds → m ds ρ = some ρ2 →
    ∀ Q : L2.St → Hp → Prop, (∀ σ2 H', Good K H0 T0 σ2 ρ2 H' T → Same H H' → wipe σ2 vs = wipe σ vs → Q σ2 (ov H' T)) → g xs σ (ov H T) Q
/-- what is walked: the data that come -/
structure Wk (J : It) (Hm : Hp) (ds : List D) : Prop where
  go : ∀ {H : Hp} {T : Ov} (i : Nat), Same Hm H → Dis H T → i < ds.length → J.go i (ov H T)
  stop : ∀ {H : Hp} {T : Ov}, Same Hm H → Dis H T → J.stop ds.length (ov H T)
  yld : ∀ {H : Hp} {T : Ov} (i : Nat) {x : V} {Hc : Hp} {d : D}, Same Hm H → Dis H T → ds[i]? = some d → J.yld i (ov H T) x Hc → ∃ H2, Hc = ov H2 T ∧ Same H H2 ∧ Dis H2 T ∧ Dp K H2 x d
structure IT (wi : TI) (m : En → Option (List D)) : Prop where
  run : ∀ {H0 : Hp} {T0 : Ov} {σ : L2.St} {ρ : En} {H : Hp} {T : Ov} {ds : List D}, Good K H0 T0 σ ρ H T → m ρ = some ds →
    ∀ R : It → Hp → Prop, (∀ J H', Same H H' → Dis H' T → Wk K J H' ds → R J (ov H' T)) → wi σ (ov H T) R
def FlOk (H0 : Hp) (T0 : Ov) (E : Ends) : Fl → Prop
  | .nx ρ => ∀ σ H T, Good K H0 T0 σ ρ H T → E.nx σ (ov H T)
  | .bk ρ => ∀ σ H T, Good K H0 T0 σ ρ H T → E.bk σ (ov H T)
  | .ct ρ => ∀ σ H T, Good K H0 T0 σ ρ H T → E.ct σ (ov H T)
  | .rt d => ∀ v H T, Same H0 H → Dis H T → Ext T0 T → Dp K H v d → E.rt v (ov H T)
structure TSm (t : TS) (m : En → Option Fl) : Prop where
  run : ∀ {H0 : Hp} {T0 : Ov} {σ : L2.St} {ρ : En} {H : Hp} {T : Ov} {f : Fl}, Good K H0 T0 σ ρ H T → m ρ = some f → ∀ E : Ends, FlOk K H0 T0 E f → t E σ (ov H T)
/-- a def's promise by its mirror -/
def spM (n : Nat) (m : List D → Option D) : Sp := fun vs Hx Q _ => ∃ ds d H T, DpAll K H vs ds ∧ ds.length = n ∧ m ds = some d ∧ Hx = ov H T ∧ Dis H T ∧ ∀ v H', Same H H' → Dis H' T → Dp K H' v d → Q v (ov H' T)
end

/-! ### mirrors of expressions -/
def mVar (i : Nat) : En → Option D := fun ρ => match ρ[i]? with
  | some (some (.val d)) => some d
  | _ => none
def mC (d : D) : En → Option D := fun _ => some d
def mOp (f : D → D → Option D) (a b : En → Option D) : En → Option D := fun ρ => (a ρ).bind fun x => (b ρ).bind fun y => f x y
def mUn (f : D → Option D) (a : En → Option D) : En → Option D := fun ρ => (a ρ).bind f
def mList (a : En → Option (List D)) : En → Option D := fun ρ => (a ρ).map PyData.list
def mNil : En → Option (List D) := fun _ => some []
def mCons (a : En → Option D) (b : En → Option (List D)) : En → Option (List D) := fun ρ => (a ρ).bind fun x => (b ρ).map fun y => x :: y
def cap : Nat := 100000
def sized (ds : List D) : Option (List D) := if ds.length ≤ cap then some ds else none
def mTup (a : En → Option (List D)) : En → Option D := fun ρ => (a ρ).bind fun x => (sized x).map PyData.tuple
def mLst (a : En → Option (List D)) : En → Option (List D) := fun ρ => (a ρ).bind sized
def mCall (f : List D → Option D) (a : En → Option (List D)) : En → Option D := fun ρ => (a ρ).bind f
def mCallL (f : List D → Option (List D)) (a : En → Option (List D)) : En → Option (List D) := fun ρ => (a ρ).bind f
def isB : D → Option Bool
  | .bool b => some b
  | _ => none
def mTest (a : En → Option D) : En → Option Bool := fun ρ => (a ρ).bind isB
def mAnd (a b : En → Option Bool) : En → Option Bool := fun ρ => (a ρ).bind fun x => if x = true then b ρ else some false
def mOr (a b : En → Option Bool) : En → Option Bool := fun ρ => (a ρ).bind fun x => if x = true then some true else b ρ
def mNot (a : En → Option Bool) : En → Option Bool := fun ρ => (a ρ).map (!·)
def mAndV (a b : En → Option D) : En → Option D := fun ρ => (a ρ).bind fun x => (isB x).bind fun c => if c = true then b ρ else some (.bool false)
def mOrV (a b : En → Option D) : En → Option D := fun ρ => (a ρ).bind fun x => (isB x).bind fun c => if c = true then some (.bool true) else b ρ
def mNotV (a : En → Option D) : En → Option D := fun ρ => (a ρ).bind fun x => (isB x).map fun c => .bool (!c)
def mIfE (c : En → Option Bool) (a b : En → Option D) : En → Option D := fun ρ => (c ρ).bind fun x => if x = true then a ρ else b ρ
def mChain (f g : D → D → Option D) (a b c : En → Option D) : En → Option D := fun ρ => (a ρ).bind fun x => (b ρ).bind fun y => (f x y).bind fun z => (isB z).bind fun k => if k = true then (c ρ).bind fun w => g y w else some (.bool false)

section
variable {K : PySem.W.Frag} {ta tb tc te : TE} {ma mb mc : En → Option D} {r r' : R2} {f g : D → D → Option D}
theorem bind_some {α β : Type} {o : Option α} {k : α → Option β} {b : β} (h : o.bind k = some b) : ∃ a, o = some a ∧ k a = some b := by
  cases o with
  | none => cases h
  | some a => exact ⟨a, rfl, h⟩
theorem map_some {α β : Type} {o : Option α} {k : α → β} {b : β} (h : o.map k = some b) : ∃ a, o = some a ∧ k a = b := by
  cases o with
  | none => cases h
  | some a => exact ⟨a, rfl, Option.some.inj h⟩
theorem sized_some {ds es : List D} (h : sized ds = some es) : es = ds ∧ ds.length ≤ cap := by
  unfold sized at h
  split at h
  · exact ⟨(Option.some.inj h).symm, by assumption⟩
  · cases h
theorem cap_line {n : Nat} (h : n ≤ cap) : n ≤ sizeLine := Nat.le_trans h (by decide)
theorem cap_lt {n : Nat} (h : n ≤ cap) : n < sizeLine := Nat.lt_of_le_of_lt h (by decide)
theorem isB_some {d : D} {b : Bool} (h : isB d = some b) : d = .bool b := by
  cases d <;> simp [isB] at h
  subst h; rfl
theorem dp_bool {H : Hp} {v : V} {b : Bool} (h : Dp K H v (.bool b)) : v = .bl b := by cases h; rfl

theorem ev_var (i : Nat) : ET K (tVar i) (mVar i) := by
  refine ⟨fun {H0 T0 σ ρ H T d} G h Q q => ?_⟩
  unfold mVar at h
  split at h
  · rename_i x e
    cases h
    obtain ⟨v, a, b⟩ := G.val i d e
    exact ⟨v, a, q v H (Same.refl H) G.dis b⟩
  · cases h
theorem ev_c {v : V} {d : D} (h : ∀ H, Dp K H v d) : ET K (tC v) (mC d) := by
  refine ⟨fun {H0 T0 σ ρ H T e} G hh Q q => ?_⟩
  cases hh
  exact q v H (Same.refl H) G.dis (h H)
theorem ev_int {i : Int} : ET K (tC (.int i)) (mC (.int i)) := ev_c fun _ => .int i
theorem ev_str {x : Str} : ET K (tC (.str x)) (mC (.str x)) := ev_c fun _ => .str x
theorem ev_bl {b : Bool} : ET K (tC (.bl b)) (mC (.bool b)) := ev_c fun _ => .bl b
theorem ev_non : ET K (tC .non) (mC .none) := ev_c fun _ => .non
theorem ev_op (hr : RD K r f) (ha : ET K ta ma) (hb : ET K tb mb) : ET K (tOp r ta tb) (mOp f ma mb) := by
  refine ⟨fun {H0 T0 σ ρ H T d} G h Q q => ?_⟩
  obtain ⟨x, hx, h⟩ := bind_some h
  obtain ⟨y, hy, h⟩ := bind_some h
  refine ha.run G hx _ fun v H1 s1 d1 p1 => ?_
  refine hb.run (G.mono s1 d1) hy _ fun u H2 s2 d2 p2 => ?_
  exact hr.run d2 (dp_mono s2 p1) p2 h Q fun w H3 s3 d3 p3 => q w H3 ((s1.trans s2).trans s3) d3 p3
theorem ev_un {ru : V → Hp → VK → Prop} {fu : D → Option D} (hr : UD K ru fu) (ha : ET K ta ma) : ET K (tUn ru ta) (mUn fu ma) := by
  refine ⟨fun {H0 T0 σ ρ H T d} G h Q q => ?_⟩
  obtain ⟨x, hx, h⟩ := bind_some h
  refine ha.run G hx _ fun v H1 s1 d1 p1 => ?_
  exact hr.run d1 p1 h Q fun w H3 s3 d3 p3 => q w H3 (s1.trans s3) d3 p3
theorem ev_chain (hr : RD K r f) (hr' : RD K r' g) (ha : ET K ta ma) (hb : ET K tb mb) (hc : ET K tc mc) : ET K (tChain r r' ta tb tc) (mChain f g ma mb mc) := by
  refine ⟨fun {H0 T0 σ ρ H T d} G h Q q => ?_⟩
  obtain ⟨x, hx, h1⟩ := bind_some h
  obtain ⟨y, hy, h2⟩ := bind_some h1
  obtain ⟨z, hz, h3⟩ := bind_some h2
  obtain ⟨k, hk, h4⟩ := bind_some h3
  clear h h1 h2 h3
  obtain rfl := isB_some hk
  refine ha.run G hx _ fun v H1 s1 d1 p1 => ?_
  refine hb.run (G.mono s1 d1) hy _ fun u H2 s2 d2 p2 => ?_
  refine hr.run d2 (dp_mono s2 p1) p2 hz _ fun w H3 s3 d3 p3 => ?_
  cases dp_bool p3
  refine ⟨k, rfl, ?_⟩
  have G3 := (G.mono s1 d1).mono (s2.trans s3) d3
  cases k with
  | true =>
    rw [if_pos rfl] at h4 ⊢
    obtain ⟨w', hw, h5⟩ := bind_some h4
    refine hc.run G3 hw _ fun u4 H4 s4 d4 p4 => ?_
    exact hr'.run d4 (dp_mono (s3.trans s4) p2) p4 h5 Q fun w5 H5 s5 d5 p5 => q w5 H5 ((s1.trans s2).trans ((s3.trans s4).trans s5)) d5 p5
  | false =>
    rw [if_neg Bool.false_ne_true] at h4 ⊢
    cases h4
    exact q _ H3 ((s1.trans s2).trans s3) d3 (.bl false)
theorem ev_list (h : FL K te (m : En → Option (List D))) : ET K te (mList m) := by
  refine ⟨fun {H0 T0 σ ρ H T d} G hh Q q => ?_⟩
  obtain ⟨ds, hd, e⟩ := map_some hh
  subst e
  refine h.run G hd Q fun p xs H' s1 d1 n1 p1 => ?_
  obtain ⟨nT, nH⟩ := ov_free n1
  rw [upd_ov nT]
  exact q _ _ (s1.trans (same_new nH)) (dis_upd d1 nT nH) (.lst (SqL.of upd_same) (dpa_mono (same_new nH) p1))
theorem ea_nil : TAm K tNil mNil := ⟨fun {H0 T0 σ ρ H T ds} G h Q q => by cases h; exact q [] H (Same.refl H) G.dis .nil⟩
theorem ea_cons {tr : TA} {mr : En → Option (List D)} (ha : ET K ta ma) (hr : TAm K tr mr) : TAm K (tCons ta tr) (mCons ma mr) := by
  refine ⟨fun {H0 T0 σ ρ H T ds} G h Q q => ?_⟩
  obtain ⟨x, hx, h⟩ := bind_some h
  obtain ⟨y, hy, e⟩ := map_some h
  subst e
  refine ha.run G hx _ fun v H1 s1 d1 p1 => ?_
  exact hr.run (G.mono s1 d1) hy _ fun vs H2 s2 d2 p2 => q _ H2 (s1.trans s2) d2 (.cons (dp_mono s2 p1) p2)
theorem ev_tup {t : TA} {m : En → Option (List D)} (ha : TAm K t m) : ET K (tTup t) (mTup m) := by
  refine ⟨fun {H0 T0 σ ρ H T d} G h Q q => ?_⟩
  obtain ⟨x, hx, h⟩ := bind_some h
  obtain ⟨y, hy, e⟩ := map_some h
  subst e
  obtain ⟨rfl, hz⟩ := sized_some hy
  refine ha.run G hx _ fun vs H1 s1 d1 p1 => ?_
  refine ⟨cap_line (by rw [dpa_len p1]; exact hz), fun p np => ?_⟩
  obtain ⟨nT, nH⟩ := ov_free np
  rw [upd_ov nT]
  exact q _ _ (s1.trans (same_new nH)) (dis_upd d1 nT nH) (.tup (SqT.of upd_same) (dpa_mono (same_new nH) p1))
theorem fl_lst {t : TA} {m : En → Option (List D)} (ha : TAm K t m) : FL K (tLst t) (mLst m) := by
  refine ⟨fun {H0 T0 σ ρ H T d} G h Q q => ?_⟩
  obtain ⟨x, hx, h⟩ := bind_some h
  obtain ⟨rfl, hz⟩ := sized_some h
  refine ha.run G hx _ fun vs H1 s1 d1 p1 => ?_
  exact ⟨cap_line (by rw [dpa_len p1]; exact hz), fun p np => q p vs H1 s1 d1 np p1⟩
theorem ev_cb {rc : List V → Hp → VK → Prop} {fc : List D → Option D} {t : TA} {m : En → Option (List D)} (hc : CD K rc fc) (ha : TAm K t m) : ET K (tCB rc t) (mCall fc m) := by
  refine ⟨fun {H0 T0 σ ρ H T d} G h Q q => ?_⟩
  obtain ⟨x, hx, h⟩ := bind_some h
  refine ha.run G hx _ fun vs H1 s1 d1 p1 => ?_
  exact hc.run d1 p1 h Q fun w H3 s3 d3 p3 => q w H3 (s1.trans s3) d3 p3
theorem fl_cb {rc : List V → Hp → VK → Prop} {fc : List D → Option (List D)} {t : TA} {m : En → Option (List D)} (hc : CL K rc fc) (ha : TAm K t m) : FL K (tCB rc t) (mCallL fc m) := by
  refine ⟨fun {H0 T0 σ ρ H T d} G h Q q => ?_⟩
  obtain ⟨x, hx, h⟩ := bind_some h
  refine ha.run G hx _ fun vs H1 s1 d1 p1 => ?_
  exact hc.run d1 p1 h Q fun p xs H3 s3 d3 n3 p3 => q p xs H3 (s1.trans s3) d3 n3 p3
theorem ev_call {n : Nat} {mf : List D → Option D} {t : TA} {m : En → Option (List D)} {E : XK} (ha : TAm K t m) : ET K (tCall (spM K n mf) [] E t) (mCall (fun ds => if ds.length = n then mf ds else none) m) := by
  refine ⟨fun {H0 T0 σ ρ H T d} G h Q q => ?_⟩
  obtain ⟨x, hx, h⟩ := bind_some h
  refine ha.run G hx _ fun vs H1 s1 d1 p1 => ?_
  split at h
  · rename_i hn
    rw [List.append_nil]
    exact ⟨x, d, H1, T, p1, hn, h, rfl, d1, fun w H3 s3 d3 p3 => q w H3 (s1.trans s3) d3 p3⟩
  · cases h

/-! ### tests -/
variable {t u : TT} {m1 m2 : En → Option Bool}
theorem et_test (h : ET K ta ma) : TTm K (tTest ta) (mTest ma) := by
  refine ⟨fun {H0 T0 σ ρ H T b} G hh Q q => ?_⟩
  obtain ⟨x, hx, hb⟩ := bind_some hh
  obtain rfl := isB_some hb
  exact h.run G hx _ fun v H1 s1 d1 p1 => ⟨b, dp_bool p1, q H1 s1 d1⟩
theorem et_B (h : ET K ta ma) : TTm K (tB ta) (mTest ma) := by
  refine ⟨fun {H0 T0 σ ρ H T b} G hh Q q => ?_⟩
  obtain ⟨x, hx, hb⟩ := bind_some hh
  obtain rfl := isB_some hb
  exact h.run G hx _ fun v H1 s1 d1 p1 => ⟨b, dp_bool p1, q H1 s1 d1⟩
theorem et_and (h1 : TTm K t m1) (h2 : TTm K u m2) : TTm K (tAnd t u) (mAnd m1 m2) := by
  refine ⟨fun {H0 T0 σ ρ H T b} G hh Q q => ?_⟩
  obtain ⟨x, hx, hb⟩ := bind_some hh
  refine h1.run G hx _ fun H1 s1 d1 => ?_
  cases x with
  | true =>
    rw [if_pos rfl] at hb ⊢
    exact h2.run (G.mono s1 d1) hb _ fun H2 s2 d2 => q H2 (s1.trans s2) d2
  | false =>
    rw [if_neg Bool.false_ne_true] at hb ⊢
    cases hb
    exact q H1 s1 d1
theorem et_or (h1 : TTm K t m1) (h2 : TTm K u m2) : TTm K (tOr t u) (mOr m1 m2) := by
  refine ⟨fun {H0 T0 σ ρ H T b} G hh Q q => ?_⟩
  obtain ⟨x, hx, hb⟩ := bind_some hh
  refine h1.run G hx _ fun H1 s1 d1 => ?_
  cases x with
  | true =>
    rw [if_pos rfl] at hb ⊢
    cases hb
    exact q H1 s1 d1
  | false =>
    rw [if_neg Bool.false_ne_true] at hb ⊢
    exact h2.run (G.mono s1 d1) hb _ fun H2 s2 d2 => q H2 (s1.trans s2) d2
theorem et_not (h1 : TTm K t m1) : TTm K (tNot t) (mNot m1) := by
  refine ⟨fun {H0 T0 σ ρ H T b} G hh Q q => ?_⟩
  obtain ⟨x, hx, hb⟩ := map_some hh
  subst hb
  exact h1.run G hx _ fun H1 s1 d1 => q H1 s1 d1
theorem ev_andV (ha : ET K ta ma) (hb : ET K tb mb) : ET K (tAndV ta tb) (mAndV ma mb) := by
  refine ⟨fun {H0 T0 σ ρ H T d} G h Q q => ?_⟩
  obtain ⟨x, hx, h1⟩ := bind_some h
  obtain ⟨k, hk, h2⟩ := bind_some h1
  clear h h1
  rename _ => h
  obtain rfl := isB_some hk
  refine ha.run G hx _ fun v H1 s1 d1 p1 => ⟨k, dp_bool p1, ?_⟩
  cases k with
  | true =>
    rw [if_pos rfl] at h ⊢
    exact hb.run (G.mono s1 d1) h _ fun u H2 s2 d2 p2 => q u H2 (s1.trans s2) d2 p2
  | false =>
    rw [if_neg Bool.false_ne_true] at h ⊢
    cases h
    exact q _ H1 s1 d1 (.bl false)
theorem ev_orV (ha : ET K ta ma) (hb : ET K tb mb) : ET K (tOrV ta tb) (mOrV ma mb) := by
  refine ⟨fun {H0 T0 σ ρ H T d} G h Q q => ?_⟩
  obtain ⟨x, hx, h1⟩ := bind_some h
  obtain ⟨k, hk, h2⟩ := bind_some h1
  clear h h1
  rename _ => h
  obtain rfl := isB_some hk
  refine ha.run G hx _ fun v H1 s1 d1 p1 => ⟨k, dp_bool p1, ?_⟩
  cases k with
  | true =>
    rw [if_pos rfl] at h ⊢
    cases h
    exact q _ H1 s1 d1 (.bl true)
  | false =>
    rw [if_neg Bool.false_ne_true] at h ⊢
    exact hb.run (G.mono s1 d1) h _ fun u H2 s2 d2 p2 => q u H2 (s1.trans s2) d2 p2
theorem ev_notV (ha : ET K ta ma) : ET K (tNotV ta) (mNotV ma) := by
  refine ⟨fun {H0 T0 σ ρ H T d} G h Q q => ?_⟩
  obtain ⟨x, hx, h1⟩ := bind_some h
  obtain ⟨k, hk, h2⟩ := map_some h1
  clear h h1
  subst h2
  obtain rfl := isB_some hk
  exact ha.run G hx _ fun v H1 s1 d1 p1 => ⟨k, dp_bool p1, q _ H1 s1 d1 (.bl _)⟩
theorem ev_if (hc : TTm K t m1) (ha : ET K ta ma) (hb : ET K tb mb) : ET K (tIf t ta tb) (mIfE m1 ma mb) := by
  refine ⟨fun {H0 T0 σ ρ H T d} G h Q q => ?_⟩
  obtain ⟨x, hx, h⟩ := bind_some h
  refine hc.run G hx _ fun H1 s1 d1 => ?_
  cases x with
  | true =>
    rw [if_pos rfl] at h ⊢
    exact ha.run (G.mono s1 d1) h _ fun u H2 s2 d2 p2 => q u H2 (s1.trans s2) d2 p2
  | false =>
    rw [if_neg Bool.false_ne_true] at h ⊢
    exact hb.run (G.mono s1 d1) h _ fun u H2 s2 d2 p2 => q u H2 (s1.trans s2) d2 p2
end
end DD

set_option Elab.async false
set_option linter.all false
set_option maxRecDepth 100000
set_option maxHeartbeats 4000000
namespace DD
variable [TabQ] [ExQ]
open PySem PySem.Spec PyProof.Rows L2

theorem tuple_mul1 (l : Addr) (items : Array Value) (n : Nat) (dd : Option Addr) (sl : Array (Option Value)) (x : Int) (u : Tok) (c0 : (decide (x < -(2 ^ 63)) || decide (x ≥ 2 ^ 63)) = false) (c1 : (items.isEmpty || x == 1) = true) :
    Meets (Builtin.«tuple.__mul__» ⟨[.ref l, .int x u], []⟩) (fun _ R s => s.heap.get? l = some { cls := .type "tuple", dict := dd, data := .seq items n, slots := sl } ∧
      R (.ok (.ret (Value.ref l))) s) :=
  .of_wp fun prog w A R s h => by
    obtain ⟨hp, g, d, tk, os⟩ := s
    obtain ⟨hl, h⟩ := h
    have f1 := AutoSeq1.idx_int
    wp_walk using wpAny_loadPart' hl
    repeat (first
      | (refine wpAny_ite_false (decide_eq_false (by rw [c0]; exact Bool.false_ne_true)) ?_; wp_walk using wpAny_loadPart' hl)
      | (refine wpAny_ite_true (decide_eq_true c1) ?_; wp_walk using wpAny_loadPart' hl))
    exact ⟨_, rfl, h⟩
theorem tuple_mul0 (l : Addr) (items : Array Value) (n : Nat) (dd : Option Addr) (sl : Array (Option Value)) (x : Int) (u : Tok) (c0 : (decide (x < -(2 ^ 63)) || decide (x ≥ 2 ^ 63)) = false) (c1 : (items.isEmpty || x == 1) = false) (c2 : (decide (x ≤ 0) || items.isEmpty) = true) :
    Meets (Builtin.«tuple.__mul__» ⟨[.ref l, .int x u], []⟩) (fun _ R s => s.heap.get? l = some { cls := .type "tuple", dict := dd, data := .seq items n, slots := sl } ∧
      R (.ok (.ret (Value.ref s.heap.objs.size))) { s with heap := s.heap.push { cls := Value.type "tuple", data := Data.seq #[] }, toks := s.toks }) :=
  .of_wp fun prog w A R s h => by
    obtain ⟨hp, g, d, tk, os⟩ := s
    obtain ⟨hl, h⟩ := h
    have f1 := AutoSeq1.idx_int
    wp_walk using wpAny_loadPart' hl
    repeat (first
      | (refine wpAny_ite_false (decide_eq_false (by rw [c0]; exact Bool.false_ne_true)) ?_; wp_walk using wpAny_loadPart' hl)
      | (refine wpAny_ite_false (decide_eq_false (by rw [c1]; exact Bool.false_ne_true)) ?_; wp_walk using wpAny_loadPart' hl)
      | (refine wpAny_ite_true (decide_eq_true c2) ?_; wp_walk using wpAny_loadPart' hl))
    exact ⟨_, rfl, h⟩

section
variable {X : Cx}
def rRep0 (K : PySem.W.Frag) : R2 := fun x y H Q => ∃ l k xs, x = .ref l ∧ y = .int k ∧ SqT K H l xs ∧ xs ≠ [] ∧ k ≤ 1 ∧ -1000 ≤ k ∧ (k = 1 → Q (.ref l) H) ∧ (k ≤ 0 → ∀ p, H p = none → Q (.ref p) (upd H p (.tup [])))
theorem op_rep0 : OpR X (binaryOp .Mult) (rRep0 X.K) := by
  intro pins s σ H x y v u Q I rx ry h
  obtain ⟨l, k, xs, rfl, rfl, hT, hne, h1, h2, q1, q0⟩ := h
  cases rx
  obtain ⟨t, rfl⟩ := ry
  obtain ⟨its, r, ⟨⟨cls, dd, data, sl⟩, ho, hc, n, hd⟩, hs⟩ := I.tuple hT
  simp only at hc hd
  subst hc hd
  have hle : its.length = xs.length := r.length.symm
  have hn : its ≠ [] := fun e => hne (by
    rw [e] at hle
    exact List.eq_nil_of_length_eq_zero hle.symm)
  have hi : its.toArray.isEmpty = false := by
    cases its with
    | nil => exact absurd rfl hn
    | cons a b => rfl
  have c0 : (decide (k < -(2 ^ 63)) || decide (k ≥ 2 ^ 63)) = false := by
    rw [decide_eq_false (by omega), decide_eq_false (by omega)] <;> rfl
  by_cases hk : k = 1
  · have c1 : (its.toArray.isEmpty || k == 1) = true := by
      rw [hi, Bool.false_or]
      exact beq_iff_eq.mpr hk
    refine wpAny_binaryOp_repeat_ref (T := "tuple") (U := "int") (by decide) ⟨_, ho, rfl⟩ (fun s' => typeIs_int s' k t) noFill_tuple_mul F.fills_int_mul F.slot_int_rmul repeat_tuple F.slot_int_index.lookup
      (call_meets F.slot_int_rmul (typeIs_int s k t) F.entry_int_rmul (F.args_int_rmul_2 _ _) (int_rmul_tuple k t l its.toArray n dd sl)
        ⟨ho, rfl, ⟨_, ho, rfl⟩, call_meets F.slot_tuple_mul ⟨_, ho, rfl⟩ F.entry_tuple_mul (F.args_tuple_mul_2 _ _) (tuple_mul1 l its.toArray n dd sl k t c0 c1) ⟨ho, ?_⟩⟩)
    exact ⟨.ref l, H, I, rfl, q1 hk⟩
  · have c1 : (its.toArray.isEmpty || k == 1) = false := by
      rw [hi, Bool.false_or]
      exact beq_eq_false_iff_ne.mpr hk
    have c2 : (decide (k ≤ 0) || its.toArray.isEmpty) = true := by
      rw [decide_eq_true (by omega)]
      rfl
    refine wpAny_binaryOp_repeat_ref (T := "tuple") (U := "int") (by decide) ⟨_, ho, rfl⟩ (fun s' => typeIs_int s' k t) noFill_tuple_mul F.fills_int_mul F.slot_int_rmul repeat_tuple F.slot_int_index.lookup
      (call_meets F.slot_int_rmul (typeIs_int s k t) F.entry_int_rmul (F.args_int_rmul_2 _ _) (int_rmul_tuple k t l its.toArray n dd sl)
        ⟨ho, rfl, ⟨_, ho, rfl⟩, call_meets F.slot_tuple_mul ⟨_, ho, rfl⟩ F.entry_tuple_mul (F.args_tuple_mul_2 _ _) (tuple_mul0 l its.toArray n dd sl k t c0 c1 c2) ⟨ho, ?_⟩⟩)
    refine ⟨.ref s.heap.objs.size, _, I.laid (t' := s.toks) (o := .tup []) (fun b ob q => Heap.get?_push_of_some _ q) (Nat.le_refl _) ?_, rfl, q0 (by omega) _ (I.hok.fresh (Nat.le_refl _))⟩
    exact ⟨Nat.zero_le _, [], .nil, IsTup.new _ _⟩
end

/-! ### operations on data -/
section
variable {K : PySem.W.Frag} {H : Hp} {T : Ov} {x y v : V} {a b d : D}
theorem dp_int {i : Int} (h : Dp K H v (.int i)) : v = .int i := by cases h; rfl
theorem dp_str {z : Str} (h : Dp K H v (.str z)) : v = .str z := by cases h; rfl
theorem dp_non (h : Dp K H v .none) : v = .non := by cases h; rfl
theorem dp_tup {ds : List D} (h : Dp K H v (.tuple ds)) : ∃ p xs, v = .ref p ∧ SqT K H p xs ∧ DpAll K H xs ds := by cases h with | tup a b => exact ⟨_, _, rfl, a, b⟩
theorem dp_lst {ds : List D} (h : Dp K H v (.list ds)) : ∃ p xs, v = .ref p ∧ SqL K H p xs ∧ DpAll K H xs ds := by cases h with | lst a b => exact ⟨_, _, rfl, a, b⟩
theorem sqt_ov {p : Addr} {xs : List V} (dis : Dis H T) (h : SqT K H p xs) : SqT K (ov H T) p xs := Same.sqt (same_ov dis) h
theorem sql_ov {p : Addr} {xs : List V} (dis : Dis H T) (h : SqL K H p xs) : SqL K (ov H T) p xs := (same_ov dis).seq h
theorem dp_ov (dis : Dis H T) (h : Dp K H v d) : Dp K (ov H T) v d := dp_mono (same_ov dis) h
/-- a new tuple -/
theorem tup_new {Q : VK} {p : Addr} {xs : List V} {ds : List D} {H1 : Hp} (s : Same H H1) (dis : Dis H1 T) (np : ov H1 T p = none) (g : DpAll K H1 xs ds)
    (q : ∀ v H', Same H H' → Dis H' T → Dp K H' v (.tuple ds) → Q v (ov H' T)) : Q (.ref p) (upd (ov H1 T) p (.tup xs)) := by
  obtain ⟨nT, nH⟩ := ov_free np
  rw [upd_ov nT]
  exact q _ _ (s.trans (same_new nH)) (dis_upd dis nT nH) (.tup (SqT.of upd_same) (dpa_mono (same_new nH) g))

def inW (i : Int) : Bool := decide (-(2 ^ 64) < i) && decide (i < 2 ^ 64)
theorem inW_of {i : Int} (h : inW i = true) : -(2 ^ 64) < i ∧ i < 2 ^ 64 := by
  unfold inW at h
  rw [Bool.and_eq_true] at h
  exact ⟨of_decide_eq_true h.1, of_decide_eq_true h.2⟩
def dAdd : D → D → Option D
  | .int i, .int j => some (.int (i + j))
  | .str p, .str q => if p.length + q.length ≤ cap then some (.str (p ++ q)) else none
  | .tuple p, .tuple q => if p.length + q.length ≤ cap then some (.tuple (p ++ q)) else none
  | _, _ => none
def dSub : D → D → Option D
  | .int i, .int j => some (.int (i - j))
  | _, _ => none
def dMul : D → D → Option D
  | .int i, .int j => if (inW i || inW j) = true then some (.int (i * j)) else none
  | .tuple p, .int k => if p ≠ [] ∧ p.length ≤ 1000 ∧ -1000 ≤ k ∧ k ≤ 1000 then some (.tuple (List.replicate k.toNat p).flatten) else none
  | _, _ => none
def dFdiv : D → D → Option D
  | .int i, .int j => if 0 < j ∧ j.natAbs.log2 < 9000 then some (.int (i / j)) else none
  | _, _ => none
def dMod : D → D → Option D
  | .int i, .int j => if 0 < j then some (.int (i % j)) else none
  | _, _ => none
def dPow : D → D → Option D
  | .int i, .int j => if 0 ≤ j ∧ j ≤ 1000000 ∧ i.natAbs < 2 ^ 64 then some (.int (i ^ j.toNat)) else none
  | _, _ => none
def dNeg : D → Option D
  | .int i => some (.int (-i))
  | _ => none
def dCmp (p : Int → Int → Bool) : D → D → Option D
  | .int i, .int j => some (.bool (p i j))
  | _, _ => none
def dEq (a b : D) : Option D := if (SeqAt.shaped a && SeqAt.shaped b) = true then some (.bool (PyData.eqv a b)) else none
def dNe (a b : D) : Option D := if (SeqAt.shaped a && SeqAt.shaped b) = true then some (.bool (!PyData.eqv a b)) else none
def dIs : D → D → Option D
  | .none, .none => some (.bool true)
  | .bool _, .none => some (.bool false)
  | .int _, .none => some (.bool false)
  | .str _, .none => some (.bool false)
  | .tuple _, .none => some (.bool false)
  | .list _, .none => some (.bool false)
  | .bool p, .bool q => some (.bool (decide (p = q)))
  | _, _ => none
def dIsNot (a b : D) : Option D := (dIs a b).bind fun z => (isB z).map fun c => .bool (!c)

def rAddA (K : PySem.W.Frag) : R2 := fun x y H Q => rI0 (fun i j => .int (i + j)) x y H Q ∨ (∃ i j, x = V.str i ∧ y = .str j ∧ i.length + j.length ≤ sizeLine ∧ Q (.str (i ++ j)) H) ∨ rCatA K x y H Q
theorem op_addA {X : Cx} : OpR X (binaryOp .Add) (rAddA X.K) := op_add.or (op_add_str.or op_catA)
theorem rd_add : RD K (rAddA K) dAdd := by
  refine ⟨fun {H T x y a b d} dis ha hb h Q q => ?_⟩
  unfold dAdd at h
  split at h
  · cases h
    cases dp_int ha
    cases dp_int hb
    exact .inl ⟨_, _, rfl, rfl, q _ H (Same.refl H) dis (.int _)⟩
  · split at h
    · rename_i hz
      cases h
      cases dp_str ha
      cases dp_str hb
      exact .inr (.inl ⟨_, _, rfl, rfl, cap_line hz, q _ H (Same.refl H) dis (.str _)⟩)
    · cases h
  · split at h
    · rename_i p q' hz
      cases h
      obtain ⟨p1, xs, rfl, hx, gx⟩ := dp_tup ha
      obtain ⟨p2, ys, rfl, hy, gy⟩ := dp_tup hb
      refine .inr (.inr ⟨p1, p2, xs, ys, rfl, rfl, sqt_ov dis hx, sqt_ov dis hy, cap_line (by rw [dpa_len gx, dpa_len gy]; exact hz), fun e => ?_, fun _ e => ?_, fun _ _ r nr => ?_⟩)
      · rw [(dpa_nil_iff gx).mpr e, List.nil_append] at q
        exact q _ H (Same.refl H) dis hb
      · rw [(dpa_nil_iff gy).mpr e, List.append_nil] at q
        exact q _ H (Same.refl H) dis ha
      · exact tup_new (Same.refl H) dis nr (dpa_append gx gy) q
    · cases h
  · cases h
theorem rd_I0 {g : Int → Int → V} {f : D → D → Option D} (e : ∀ i j, ∃ d, f (.int i) (.int j) = some d ∧ ∀ H, Dp K H (g i j) d) (o : ∀ a b d, f a b = some d → ∃ i j, a = .int i ∧ b = .int j) : RD K (rI0 g) f := by
  refine ⟨fun {H T x y a b d} dis ha hb h Q q => ?_⟩
  obtain ⟨i, j, rfl, rfl⟩ := o a b d h
  obtain ⟨d', h', g'⟩ := e i j
  rw [h] at h'
  cases h'
  cases dp_int ha
  cases dp_int hb
  exact ⟨i, j, rfl, rfl, q _ H (Same.refl H) dis (g' H)⟩
theorem rd_sub : RD K (rI0 fun i j => .int (i - j)) dSub := rd_I0 (fun i j => ⟨_, rfl, fun _ => .int _⟩) fun a b d h => by
  unfold dSub at h
  split at h
  · exact ⟨_, _, rfl, rfl⟩
  · cases h
theorem rd_cmp {p : Int → Int → Bool} : RD K (rI0 fun i j => .bl (p i j)) (dCmp p) := rd_I0 (fun i j => ⟨_, rfl, fun _ => .bl _⟩) fun a b d h => by
  unfold dCmp at h
  split at h
  · exact ⟨_, _, rfl, rfl⟩
  · cases h
theorem rd_lt : RD K (rI0 fun i j => .bl (decide (i < j))) (dCmp fun i j => decide (i < j)) := rd_cmp
theorem rd_le : RD K (rI0 fun i j => .bl (decide (i ≤ j))) (dCmp fun i j => decide (i ≤ j)) := rd_cmp
theorem rd_gt : RD K (rI0 fun i j => .bl (decide (j < i))) (dCmp fun i j => decide (j < i)) := rd_cmp
theorem rd_ge : RD K (rI0 fun i j => .bl (decide (j ≤ i))) (dCmp fun i j => decide (j ≤ i)) := rd_cmp
theorem rd_I {C : Int → Int → Prop} {g : Int → Int → V} {f : D → D → Option D} (o : ∀ a b d, f a b = some d → ∃ i j, a = .int i ∧ b = .int j ∧ C i j ∧ ∀ H, Dp K H (g i j) d) : RD K (rI C g) f := by
  refine ⟨fun {H T x y a b d} dis ha hb h Q q => ?_⟩
  obtain ⟨i, j, rfl, rfl, c, g'⟩ := o a b d h
  cases dp_int ha
  cases dp_int hb
  exact ⟨i, j, rfl, rfl, c, q _ H (Same.refl H) dis (g' H)⟩
theorem rd_fdiv : RD K (rI CDivW fun i j => .int (i / j)) dFdiv := rd_I fun a b d h => by
  unfold dFdiv at h
  split at h
  · split at h
    · rename_i c
      cases h
      exact ⟨_, _, rfl, rfl, c, fun _ => .int _⟩
    · cases h
  · cases h
theorem rd_mod : RD K (rI (fun _ j => 0 < j) fun i j => .int (i % j)) dMod := rd_I fun a b d h => by
  unfold dMod at h
  split at h
  · split at h
    · rename_i c
      cases h
      exact ⟨_, _, rfl, rfl, c, fun _ => .int _⟩
    · cases h
  · cases h
theorem rd_pow : RD K (rI CPow fun i j => .int (i ^ j.toNat)) dPow := rd_I fun a b d h => by
  unfold dPow at h
  split at h
  · split at h
    · rename_i c
      cases h
      exact ⟨_, _, rfl, rfl, c, fun _ => .int _⟩
    · cases h
  · cases h
theorem ud_neg : UD K (rU fun i => .int (-i)) dNeg := by
  refine ⟨fun {H T x a d} dis ha h Q q => ?_⟩
  unfold dNeg at h
  split at h
  · cases h
    cases dp_int ha
    exact ⟨_, rfl, q _ H (Same.refl H) dis (.int _)⟩
  · cases h
def rMulA (K : PySem.W.Frag) : R2 := fun x y H Q => rI CMul (fun i j => .int (i * j)) x y H Q ∨ rRepT K x y H Q ∨ rRep0 K x y H Q
theorem op_mulA {X : Cx} : OpR X (binaryOp .Mult) (rMulA X.K) := op_mul.or (op_repT.or op_rep0)
theorem rd_mul : RD K (rMulA K) dMul := by
  refine ⟨fun {H T x y a b d} dis ha hb h Q q => ?_⟩
  unfold dMul at h
  split at h
  · split at h
    · rename_i c
      cases h
      cases dp_int ha
      cases dp_int hb
      refine .inl ⟨_, _, rfl, rfl, ?_, q _ H (Same.refl H) dis (.int _)⟩
      rw [Bool.or_eq_true] at c
      exact c.elim (fun z => .inl (inW_of z)) fun z => .inr (inW_of z)
    · cases h
  · split at h
    · rename_i p k c
      cases h
      obtain ⟨p1, xs, rfl, hx, gx⟩ := dp_tup ha
      cases dp_int hb
      have ne : xs ≠ [] := fun e => c.1 ((dpa_nil_iff gx).mpr e)
      by_cases hk : 2 ≤ k
      · refine .inr (.inl ⟨p1, k, xs, rfl, rfl, sqt_ov dis hx, ne, hk, c.2.2.2, by rw [dpa_len gx]; exact c.2.1, fun r nr => ?_⟩)
        exact tup_new (Same.refl H) dis nr (dpa_rep gx _) q
      · refine .inr (.inr ⟨p1, k, xs, rfl, rfl, sqt_ov dis hx, ne, by omega, c.2.2.1, fun e => ?_, fun e r nr => ?_⟩)
        · have : (List.replicate k.toNat p).flatten = p := by
            subst e
            show (List.replicate 1 p).flatten = p
            simp
          rw [this] at q
          exact q _ H (Same.refl H) dis ha
        · have e0 : k.toNat = 0 := by omega
          rw [e0] at q
          exact tup_new (Same.refl H) dis nr .nil q
    · cases h
  · cases h
theorem rd_eq : RD K (rEqD K) dEq := by
  refine ⟨fun {H T x y a b d} dis ha hb h Q q => ?_⟩
  unfold dEq at h
  split at h
  · rename_i c
    rw [Bool.and_eq_true] at c
    cases h
    exact ⟨a, b, dp_ov dis ha, dp_ov dis hb, c.1, c.2, q _ H (Same.refl H) dis (.bl _)⟩
  · cases h
theorem rd_ne : RD K (rNeD K) dNe := by
  refine ⟨fun {H T x y a b d} dis ha hb h Q q => ?_⟩
  unfold dNe at h
  split at h
  · rename_i c
    rw [Bool.and_eq_true] at c
    cases h
    exact ⟨a, b, dp_ov dis ha, dp_ov dis hb, c.1, c.2, q _ H (Same.refl H) dis (.bl _)⟩
  · cases h
def rIsA : R2 := fun x y H Q => rIsN x y H Q ∨ rIsB x y H Q
def rNotA : R2 := fun x y H Q => rNotN x y H Q ∨ rNotB x y H Q
theorem op_isA {X : Cx} : OpR X (compareOp .Is) rIsA := op_isN1.or op_isBl
theorem op_notA {X : Cx} : OpR X (compareOp .IsNot) rNotA := op_notN1.or op_notBl
theorem dis_cases {a b d : D} (h : dIs a b = some d) : (b = .none ∧ ∃ c, d = .bool c ∧ ∀ H v, Dp K H v a → decide (v = .non) = c) ∨ ∃ p q, a = .bool p ∧ b = .bool q ∧ d = .bool (decide (p = q)) := by
  unfold dIs at h
  split at h <;> first
    | (cases h; exact .inl ⟨rfl, _, rfl, fun H v g => by cases g <;> simp⟩)
    | (cases h; exact .inr ⟨_, _, rfl, rfl, rfl⟩)
    | cases h
theorem rd_is : RD K rIsA dIs := by
  refine ⟨fun {H T x y a b d} dis ha hb h Q q => ?_⟩
  rcases dis_cases (K := K) h with ⟨rfl, c, rfl, g⟩ | ⟨p, q', rfl, rfl, rfl⟩
  · exact .inl ⟨dp_non hb, by rw [g H x ha]; exact q _ H (Same.refl H) dis (.bl _)⟩
  · exact .inr ⟨p, q', dp_bool ha, dp_bool hb, q _ H (Same.refl H) dis (.bl _)⟩
theorem rd_isnot : RD K rNotA dIsNot := by
  refine ⟨fun {H T x y a b d} dis ha hb h Q q => ?_⟩
  obtain ⟨z, hz, h⟩ := bind_some h
  obtain ⟨k, hk, h⟩ := map_some h
  subst h
  rcases dis_cases (K := K) hz with ⟨rfl, c, rfl, g⟩ | ⟨p, q', rfl, rfl, rfl⟩
  · cases isB_some hk
    exact .inl ⟨dp_non hb, by rw [g H x ha]; exact q _ H (Same.refl H) dis (.bl _)⟩
  · cases isB_some hk
    exact .inr ⟨p, q', dp_bool ha, dp_bool hb, q _ H (Same.refl H) dis (.bl _)⟩
end
end DD

set_option Elab.async false
set_option linter.all false
set_option maxRecDepth 100000
set_option maxHeartbeats 4000000
namespace DD
variable [TabQ] [ExQ]
open PySem PySem.Spec PyProof.Rows L2
section
variable {K : PySem.W.Frag} {H : Hp} {T : Ov} {x y v : V} {a b d : D}

/-! ### len, all, any, max, min, tuple, list, sorted -/
def dLen : List D → Option D
  | [.str z] => if z.length ≤ cap then some (.int z.length) else none
  | [.list ds] => if ds.length ≤ cap then some (.int ds.length) else none
  | [.tuple ds] => if ds.length ≤ cap then some (.int ds.length) else none
  | _ => none
def rLenA (K : PySem.W.Frag) : List V → Hp → VK → Prop := fun xs H Q => ∃ x n, xs = [x] ∧ LenV K x H n ∧ Q (.int n) H
theorem cr_len {X : Cx} : CallR X (.builtin "len") (rLenA X.K) := call_len
theorem dpa_one {vs : List V} (h : DpAll K H vs [d]) : ∃ v, vs = [v] ∧ Dp K H v d := by
  cases h with
  | cons a b => cases b; exact ⟨_, rfl, a⟩
theorem dpa_two {vs : List V} (h : DpAll K H vs [a, b]) : ∃ u v, vs = [u, v] ∧ Dp K H u a ∧ Dp K H v b := by
  cases h with
  | cons p q =>
    obtain ⟨v, rfl, r⟩ := dpa_one q
    exact ⟨_, v, rfl, p, r⟩
theorem cd_len : CD K (rLenA K) dLen := by
  refine ⟨fun {H T vs ds d} dis h e Q q => ?_⟩
  unfold dLen at e
  split at e
  · split at e
    · rename_i z hz
      cases e
      obtain ⟨v, rfl, g⟩ := dpa_one h
      cases dp_str g
      exact ⟨_, _, rfl, ⟨cap_line hz, rfl⟩, q _ H (Same.refl H) dis (.int _)⟩
    · cases e
  · split at e
    · rename_i es hz
      cases e
      obtain ⟨v, rfl, g⟩ := dpa_one h
      obtain ⟨p, xs, rfl, hx, gx⟩ := dp_lst g
      exact ⟨_, _, rfl, .inl ⟨xs, sql_ov dis hx, rfl⟩, by rw [dpa_len gx]; exact q _ H (Same.refl H) dis (.int _)⟩
    · cases e
  · split at e
    · rename_i es hz
      cases e
      obtain ⟨v, rfl, g⟩ := dpa_one h
      obtain ⟨p, xs, rfl, hx, gx⟩ := dp_tup g
      exact ⟨_, _, rfl, .inr ⟨xs, sqt_ov dis hx, rfl⟩, by rw [dpa_len gx]; exact q _ H (Same.refl H) dis (.int _)⟩
    · cases e
  · cases e
/-- a list of truths -/
def bools : List D → Option (List Bool)
  | [] => some []
  | .bool b :: r => (bools r).map fun x => b :: x
  | _ => none
theorem bools_of : ∀ {ds : List D} {bs : List Bool}, bools ds = some bs → ∀ {vs : List V}, DpAll K H vs ds → vs = bs.map V.bl
  | [], bs, h, vs, g => by cases h; cases g; rfl
  | .bool b :: r, bs, h, vs, g => by
    obtain ⟨c, hc, e⟩ := map_some h
    subst e
    cases g with
    | cons p q => rw [List.map_cons, dp_bool p, bools_of hc q]
  | .none :: _, _, h, _, _ => by cases h
  | .int _ :: _, _, h, _, _ => by cases h
  | .str _ :: _, _, h, _, _ => by cases h
  | .list _ :: _, _, h, _, _ => by cases h
  | .tuple _ :: _, _, h, _, _ => by cases h
  | .dict _ :: _, _, h, _, _ => by cases h
def dAll : List D → Option D
  | [.list ds] => (bools ds).map fun bs => .bool (bs.all id)
  | _ => none
def dAny : List D → Option D
  | [.list ds] => (bools ds).map fun bs => .bool (bs.any id)
  | _ => none
theorem cd_all : CD K (rAll K) dAll := by
  refine ⟨fun {H T vs ds d} dis h e Q q => ?_⟩
  unfold dAll at e
  split at e
  · obtain ⟨bs, hb, e⟩ := map_some e
    subst e
    obtain ⟨v, rfl, g⟩ := dpa_one h
    obtain ⟨p, xs, rfl, hx, gx⟩ := dp_lst g
    rw [bools_of hb gx] at hx
    exact ⟨p, bs, rfl, sql_ov dis hx, q _ H (Same.refl H) dis (.bl _)⟩
  · cases e
theorem cd_any : CD K (rAny K) dAny := by
  refine ⟨fun {H T vs ds d} dis h e Q q => ?_⟩
  unfold dAny at e
  split at e
  · obtain ⟨bs, hb, e⟩ := map_some e
    subst e
    obtain ⟨v, rfl, g⟩ := dpa_one h
    obtain ⟨p, xs, rfl, hx, gx⟩ := dp_lst g
    rw [bools_of hb gx] at hx
    exact ⟨p, bs, rfl, sql_ov dis hx, q _ H (Same.refl H) dis (.bl _)⟩
  · cases e
def rMax2 : List V → Hp → VK → Prop := fun xs H Q => ∃ i j, xs = [.int i, .int j] ∧ Q (.int (if j > i then j else i)) H
def rMin2 : List V → Hp → VK → Prop := fun xs H Q => ∃ i j, xs = [.int i, .int j] ∧ Q (.int (if j < i then j else i)) H
theorem cr_max2 {X : Cx} (hc : X.calm = true) : CallR X (.builtin "max") rMax2 := call_max2 hc
theorem cr_min2 {X : Cx} (hc : X.calm = true) : CallR X (.builtin "min") rMin2 := call_min2 hc
def dMax2 : List D → Option D
  | [.int i, .int j] => some (.int (if j > i then j else i))
  | _ => none
def dMin2 : List D → Option D
  | [.int i, .int j] => some (.int (if j < i then j else i))
  | _ => none
theorem cd_max2 : CD K rMax2 dMax2 := by
  refine ⟨fun {H T vs ds d} dis h e Q q => ?_⟩
  unfold dMax2 at e
  split at e
  · cases e
    obtain ⟨u, v, rfl, g1, g2⟩ := dpa_two h
    cases dp_int g1
    cases dp_int g2
    exact ⟨_, _, rfl, q _ H (Same.refl H) dis (.int _)⟩
  · cases e
theorem cd_min2 : CD K rMin2 dMin2 := by
  refine ⟨fun {H T vs ds d} dis h e Q q => ?_⟩
  unfold dMin2 at e
  split at e
  · cases e
    obtain ⟨u, v, rfl, g1, g2⟩ := dpa_two h
    cases dp_int g1
    cases dp_int g2
    exact ⟨_, _, rfl, q _ H (Same.refl H) dis (.int _)⟩
  · cases e
def rTupOf (K : PySem.W.Frag) : List V → Hp → VK → Prop := fun xs H Q => ∃ p ys, xs = [.ref p] ∧ ((SqL K H p ys ∧ ∀ l, H l = none → Q (.ref l) (upd H l (.tup ys))) ∨ (SqT K H p ys ∧ Q (.ref p) H))
theorem cr_tupOf {X : Cx} : CallR X (.type "tuple") (rTupOf X.K) := call_tuple_of
def dTupOf : List D → Option D
  | [.list ds] => some (.tuple ds)
  | [.tuple ds] => some (.tuple ds)
  | _ => none
theorem cd_tupOf : CD K (rTupOf K) dTupOf := by
  refine ⟨fun {H T vs ds d} dis h e Q q => ?_⟩
  unfold dTupOf at e
  split at e
  · cases e
    obtain ⟨v, rfl, g⟩ := dpa_one h
    obtain ⟨p, xs, rfl, hx, gx⟩ := dp_lst g
    exact ⟨p, xs, rfl, .inl ⟨sql_ov dis hx, fun l nl => tup_new (Same.refl H) dis nl gx q⟩⟩
  · cases e
    obtain ⟨v, rfl, g⟩ := dpa_one h
    obtain ⟨p, xs, rfl, hx, gx⟩ := dp_tup g
    exact ⟨p, xs, rfl, .inr ⟨sqt_ov dis hx, q _ H (Same.refl H) dis g⟩⟩
  · cases e
def rLstOf (K : PySem.W.Frag) : List V → Hp → VK → Prop := fun xs H Q => ∃ p ys, xs = [.ref p] ∧ (SqL K H p ys ∨ SqT K H p ys) ∧ ∀ l, H l = none → Q (.ref l) (upd H l (.lst ys))
theorem cr_lstOf {X : Cx} : CallR X (.type "list") (rLstOf X.K) := call_list_of
def dLstOf : List D → Option (List D)
  | [.list ds] => some ds
  | [.tuple ds] => some ds
  | _ => none
theorem cl_lstOf : CL K (rLstOf K) dLstOf := by
  refine ⟨fun {H T vs ds es} dis h e Q q => ?_⟩
  unfold dLstOf at e
  split at e
  · cases e
    obtain ⟨v, rfl, g⟩ := dpa_one h
    obtain ⟨p, xs, rfl, hx, gx⟩ := dp_lst g
    exact ⟨p, xs, rfl, .inl (sql_ov dis hx), fun l nl => q l xs H (Same.refl H) dis nl gx⟩
  · cases e
    obtain ⟨v, rfl, g⟩ := dpa_one h
    obtain ⟨p, xs, rfl, hx, gx⟩ := dp_tup g
    exact ⟨p, xs, rfl, .inr (sqt_ov dis hx), fun l nl => q l xs H (Same.refl H) dis nl gx⟩
  · cases e

/-! ### isinstance -/
def tyName : D → String
  | .none => "NoneType"
  | .bool _ => "bool"
  | .int _ => "int"
  | .str _ => "str"
  | .list _ => "list"
  | .tuple _ => "tuple"
  | .dict _ => "dict"
theorem tyX_of (dis : Dis H T) (h : Dp K H v d) : TyX K (ov H T) v (.type (tyName d)) := by
  cases h with
  | non => exact .base .non
  | bl b => exact .base (.bl b)
  | int i => exact .base (.int i)
  | str z => exact .base (.str z)
  | lst hs _ =>
    rcases sql_ov dis hs with (h | ⟨o, h⟩) | ⟨o, its, n, hk, hc, _⟩
    · exact .base (.lst h)
    · exact .base (.frz h)
    · exact .kList hk hc
  | tup hs _ =>
    rcases sqt_ov dis hs with (h | ⟨o, h⟩) | ⟨o, its, n, hk, hc, _⟩
    · exact .base (.tup h)
    · exact .fTuple h
    · exact .kTuple hk hc
/-- whether a thing is of a built-in class -/
def isName (c t : String) : Bool := t == c || (c == "int" && t == "bool")
def isIt (c : String) (d : D) : Bool := isName c (tyName d)
def dIsi (c : String) (d : D) : Option D := some (.bool (isIt c d))
def tyNames : List String := ["NoneType", "bool", "int", "str", "list", "tuple", "dict"]
theorem ty_in (d : D) : tyName d ∈ tyNames := by cases d <;> simp [tyName, tyNames]
def ClsOk (c : String) : Prop := ∀ d : D, kitB (tyName d) c = some (isIt c d)
theorem cls_by {c : String} (h : ∀ t ∈ tyNames, kitB t c = some (isName c t)) : ClsOk c := fun d => h _ (ty_in d)
theorem cls_int : ClsOk "int" := cls_by (by decide +kernel)
theorem cls_bool : ClsOk "bool" := cls_by (by decide +kernel)
theorem cls_str : ClsOk "str" := cls_by (by decide +kernel)
theorem cls_list : ClsOk "list" := cls_by (by decide +kernel)
theorem cls_tuple : ClsOk "tuple" := cls_by (by decide +kernel)
theorem ev_isi {c : String} {ta : TE} {ma : En → Option D} (hc : ClsOk c) (ha : ET K ta ma) : ET K (tCB (rIsi K) (tCons ta (tCons (tC (.ty c)) tNil))) (mUn (dIsi c) ma) := by
  refine ⟨fun {H0 T0 σ ρ H T d} G h Q q => ?_⟩
  obtain ⟨x, hx, h⟩ := bind_some h
  cases h
  refine ha.run G hx _ fun v H1 s1 d1 p1 => ?_
  exact ⟨v, .ty c, _, _, _, rfl, .ty c, tyX_of d1 p1, kit_ty (hc x), q _ H1 s1 d1 (.bl _)⟩

/-! ### truth of a value -/
def tru : D → Option Bool
  | .none => some false
  | .bool b => some b
  | .int i => some (i != 0)
  | .str z => if z.length ≤ cap then some ((z.length : Int) != 0) else none
  | .list ds => some (!ds.isEmpty)
  | .tuple ds => some (!ds.isEmpty)
  | .dict _ => none
def mTru (a : En → Option D) : En → Option Bool := fun ρ => (a ρ).bind tru
theorem emp_of {xs : List V} {ds : List D} (h : DpAll K H xs ds) : xs.isEmpty = ds.isEmpty := by cases h <;> rfl
theorem et_tru {ta : TE} {ma : En → Option D} (ha : ET K ta ma) : TTm K (tTru K ta) (mTru ma) := by
  refine ⟨fun {H0 T0 σ ρ H T b} G h Q q => ?_⟩
  obtain ⟨x, hx, h⟩ := bind_some h
  refine ha.run G hx _ fun v H1 s1 d1 p1 => ⟨b, ?_, q H1 s1 d1⟩
  unfold tru at h
  split at h
  · cases h; cases dp_non p1; rfl
  · cases h; cases dp_bool p1; rfl
  · cases h; cases dp_int p1; rfl
  · split at h
    · rename_i hz
      cases h; cases dp_str p1; exact ⟨cap_line hz, rfl⟩
    · cases h
  · cases h
    obtain ⟨p, xs, rfl, hs, g⟩ := dp_lst p1
    exact .inl ⟨xs, sql_ov d1 hs, by rw [emp_of g]⟩
  · cases h
    obtain ⟨p, xs, rfl, hs, g⟩ := dp_tup p1
    exact .inr (.inl ⟨xs, sqt_ov d1 hs, by rw [emp_of g]⟩)
  · cases h

/-! ### places, slices -/
def dIx : D → D → Option D
  | .list ds, .int i => atI ds i
  | .tuple ds, .int i => atI ds i
  | .str z, .int i => if z.length ≤ cap then (atI z.cps.toList i).map fun c => .str ⟨#[c]⟩ else none
  | _, _ => none
theorem atI_dp {xs : List V} {ds : List D} (h : DpAll K H xs ds) {i : Int} (e : atI ds i = some d) : ∃ v, atI xs i = some v ∧ Dp K H v d := by
  unfold atI at e ⊢
  rw [dpa_len h]
  obtain ⟨j, hj, e⟩ := bind_some e
  rw [hj]
  exact dpa_get h e
theorem rd_ix : RD K (rIx K) dIx := by
  refine ⟨fun {H T x y a b d} dis ha hb h Q q => ?_⟩
  unfold dIx at h
  split at h
  · obtain ⟨p, xs, rfl, hs, g⟩ := dp_lst ha
    cases dp_int hb
    obtain ⟨v, hv, gv⟩ := atI_dp g h
    exact .inl ⟨p, xs, _, v, rfl, rfl, sql_ov dis hs, hv, q v H (Same.refl H) dis gv⟩
  · obtain ⟨p, xs, rfl, hs, g⟩ := dp_tup ha
    cases dp_int hb
    obtain ⟨v, hv, gv⟩ := atI_dp g h
    exact .inr (.inl ⟨p, xs, _, v, rfl, rfl, sqt_ov dis hs, hv, q v H (Same.refl H) dis gv⟩)
  · split at h
    · rename_i z i hz
      obtain ⟨c, hc, h⟩ := map_some h
      subst h
      cases dp_str ha
      cases dp_int hb
      exact .inr (.inr ⟨z, i, c, rfl, rfl, cap_line hz, hc, q _ H (Same.refl H) dis (.str _)⟩)
    · cases h
  · cases h
/-- a slice's parts -/
structure PAm (K : PySem.W.Frag) (t : TO) (m : En → Option (Option Int)) : Prop where
  run : ∀ {H0 : Hp} {T0 : Ov} {σ : L2.St} {ρ : En} {H : Hp} {T : Ov} {o : Option Int}, Good K H0 T0 σ ρ H T → m ρ = some o →
    ∀ Q : Option Int → Hp → Prop, (∀ H', Same H H' → Dis H' T → Q o (ov H' T)) → t σ (ov H T) Q
def mNoPart : En → Option (Option Int) := fun _ => some none
def isI : D → Option Int
  | .int i => some i
  | _ => none
def mPart (a : En → Option D) : En → Option (Option Int) := fun ρ => (a ρ).bind fun x => (isI x).map some
theorem po_no : PAm K tNoPart mNoPart := ⟨fun {H0 T0 σ ρ H T o} G h Q q => by cases h; exact q H (Same.refl H) G.dis⟩
theorem po_part {ta : TE} {ma : En → Option D} (ha : ET K ta ma) : PAm K (tPart ta) (mPart ma) := by
  refine ⟨fun {H0 T0 σ ρ H T o} G h Q q => ?_⟩
  obtain ⟨x, hx, h⟩ := bind_some h
  obtain ⟨i, hi, h⟩ := map_some h
  subst h
  have e : x = .int i := by
    unfold isI at hi
    split at hi
    · cases hi; rfl
    · cases hi
  subst e
  exact ha.run G hx _ fun v H1 s1 d1 p1 => ⟨i, dp_int p1, q H1 s1 d1⟩
def cutD (ds : List D) (lo hi : Option Int) : List D := (ds.drop (HT.sIx ds.length 0 lo)).take (HT.sIx ds.length ds.length hi - HT.sIx ds.length 0 lo)
theorem dpa_cut {xs : List V} {ds : List D} (h : DpAll K H xs ds) (lo hi : Option Int) : DpAll K H (cutV xs lo hi) (cutD ds lo hi) := by
  unfold cutV cutD
  rw [dpa_len h]
  exact dpa_take _ (dpa_drop _ h)
def dSl (d : D) (lo hi : Option Int) : Option D := match d with
  | .tuple ds => some (.tuple (cutD ds lo hi))
  | .str z => if z.length ≤ cap then some (.str (cutS z lo hi)) else none
  | _ => none
def mSl (a : En → Option D) (l h : En → Option (Option Int)) : En → Option D := fun ρ => (a ρ).bind fun x => (l ρ).bind fun lo => (h ρ).bind fun hi => dSl x lo hi
def rSlX (K : PySem.W.Frag) : V → Option Int → Option Int → Hp → VK → Prop := fun x lo hi H Q => rSlA K x lo hi H Q ∨ rSlS x lo hi H Q
theorem sl_any {X : Cx} : SlR X (rSlX X.K) := SlR.or sl_tupA sl_str
theorem ev_sl {ta : TE} {tl th : TO} {ma : En → Option D} {ml mh : En → Option (Option Int)} (ha : ET K ta ma) (hl : PAm K tl ml) (hh : PAm K th mh) : ET K (tSl (rSlX K) ta tl th) (mSl ma ml mh) := by
  refine ⟨fun {H0 T0 σ ρ H T d} G h Q q => ?_⟩
  obtain ⟨x, hx, h1⟩ := bind_some h
  obtain ⟨lo, hlo, h2⟩ := bind_some h1
  obtain ⟨hi, hhi, h3⟩ := bind_some h2
  refine ha.run G hx _ fun v H1 s1 d1 p1 => ?_
  refine hl.run (G.mono s1 d1) hlo _ fun H2 s2 d2 => ?_
  refine hh.run (G.mono (s1.trans s2) d2) hhi _ fun H3 s3 d3 => ?_
  have p3 := dp_mono (s2.trans s3) p1
  have s13 := (s1.trans s2).trans s3
  unfold dSl at h3
  split at h3
  · cases h3
    obtain ⟨p, xs, rfl, hs, g⟩ := dp_tup p3
    refine .inl ⟨p, xs, rfl, sqt_ov d3 hs, fun hw => ?_, fun hw r nr => ?_⟩
    · refine q _ H3 s13 d3 ?_
      have := dpa_cut g lo hi
      unfold cutV at this
      rw [hw.1, hw.2, List.drop_zero, Nat.sub_zero, List.take_length] at this
      exact .tup hs this
    · exact tup_new (Same.refl H3) d3 nr (dpa_cut g lo hi) fun u H4 s4 d4 p4 => q u H4 (s13.trans s4) d4 p4
  · split at h3
    · rename_i hz
      cases h3
      cases dp_str p3
      exact .inr ⟨_, rfl, cap_line hz, q _ H3 s13 d3 (.str _)⟩
    · cases h3
  · cases h3
def mSlL (a : En → Option D) (l h : En → Option (Option Int)) : En → Option (List D) := fun ρ => (a ρ).bind fun x => (l ρ).bind fun lo => (h ρ).bind fun hi => match x with
  | .list ds => some (cutD ds lo hi)
  | _ => none
theorem fl_sl {ta : TE} {tl th : TO} {ma : En → Option D} {ml mh : En → Option (Option Int)} (ha : ET K ta ma) (hl : PAm K tl ml) (hh : PAm K th mh) : FL K (tSl (rSlL K) ta tl th) (mSlL ma ml mh) := by
  refine ⟨fun {H0 T0 σ ρ H T d} G h Q q => ?_⟩
  obtain ⟨x, hx, h1⟩ := bind_some h
  obtain ⟨lo, hlo, h2⟩ := bind_some h1
  obtain ⟨hi, hhi, h3⟩ := bind_some h2
  refine ha.run G hx _ fun v H1 s1 d1 p1 => ?_
  refine hl.run (G.mono s1 d1) hlo _ fun H2 s2 d2 => ?_
  refine hh.run (G.mono (s1.trans s2) d2) hhi _ fun H3 s3 d3 => ?_
  have p3 := dp_mono (s2.trans s3) p1
  split at h3
  · cases h3
    obtain ⟨p, xs, rfl, hs, g⟩ := dp_lst p3
    exact ⟨p, xs, rfl, sql_ov d3 hs, fun r nr => q r _ H3 ((s1.trans s2).trans s3) d3 nr (dpa_cut g lo hi)⟩
  · cases h3

/-! ### in -/
def dInS : D → D → Option D
  | .str p, .str z => match p.cps.toList with
    | [c] => some (.bool (decide (c ∈ z.cps.toList)))
    | _ => none
  | _, _ => none
def dNotInS (a b : D) : Option D := (dInS a b).bind fun z => (isB z).map fun c => .bool (!c)
theorem inS_cases {a b d : D} (h : dInS a b = some d) : ∃ c z, a = .str ⟨#[c]⟩ ∧ b = .str z ∧ d = .bool (decide (c ∈ z.cps.toList)) := by
  unfold dInS at h
  split at h
  · rename_i p z
    split at h
    · rename_i c e
      cases h
      refine ⟨c, z, ?_, rfl, rfl⟩
      obtain ⟨p⟩ := p
      have : p = #[c] := by
        have e' : p.toList = [c] := e
        rw [← Array.toArray_toList (xs := p), e']
      rw [this]
    · cases h
  · cases h
theorem rd_inS : RD K rInS dInS := by
  refine ⟨fun {H T x y a b d} dis ha hb h Q q => ?_⟩
  obtain ⟨c, z, rfl, rfl, rfl⟩ := inS_cases h
  exact ⟨c, z, dp_str ha, dp_str hb, q _ H (Same.refl H) dis (.bl _)⟩
theorem rd_notInS : RD K rNotInS dNotInS := by
  refine ⟨fun {H T x y a b d} dis ha hb h Q q => ?_⟩
  obtain ⟨w, hw, h⟩ := bind_some h
  obtain ⟨k, hk, h⟩ := map_some h
  subst h
  obtain ⟨c, z, rfl, rfl, rfl⟩ := inS_cases hw
  cases isB_some hk
  exact ⟨c, z, dp_str ha, dp_str hb, q _ H (Same.refl H) dis (.bl _)⟩
/-- in a list of any data -/
def dInL : D → D → Option D
  | x, .list ds => if (SeqAt.shaped x && SeqAt.shaped (.list ds)) = true then some (.bool (ds.any fun z => PyData.eqv z x)) else none
  | _, _ => none
def dNotInL (a b : D) : Option D := (dInL a b).bind fun z => (isB z).map fun c => .bool (!c)
theorem rd_inL : RD K (rInD K) dInL := by
  refine ⟨fun {H T x y a b d} dis ha hb h Q q => ?_⟩
  unfold dInL at h
  split at h
  · rename_i ds
    split at h
    · rename_i c
      rw [Bool.and_eq_true] at c
      cases h
      exact ⟨a, ds, dp_ov dis ha, dp_ov dis hb, c.1, c.2, q _ H (Same.refl H) dis (.bl _)⟩
    · cases h
  · cases h
theorem rd_notInL : RD K (rNotInD K) dNotInL := by
  refine ⟨fun {H T x y a b d} dis ha hb h Q q => ?_⟩
  obtain ⟨w, hw, h⟩ := bind_some h
  obtain ⟨k, hk, h⟩ := map_some h
  subst h
  unfold dInL at hw
  split at hw
  · rename_i ds
    split at hw
    · rename_i c
      rw [Bool.and_eq_true] at c
      cases hw
      cases isB_some hk
      exact ⟨a, ds, dp_ov dis ha, dp_ov dis hb, c.1, c.2, q _ H (Same.refl H) dis (.bl _)⟩
    · cases hw
  · cases hw
/-- in a tuple of flat data -/
def flatD : D → Bool
  | .none => true
  | .bool _ => true
  | .int _ => true
  | .str _ => true
  | _ => false
def dInT (neg : Bool) : D → D → Option D
  | x, .tuple ds => if (flatD x && ds.all flatD) = true then some (.bool (if neg then !(ds.any fun z => PyData.eqv z x) else ds.any fun z => PyData.eqv z x)) else none
  | _, _ => none
theorem flat_of (h : Dp K H v d) (f : flatD d = true) : flatV v = true := by cases h <;> first | rfl | cases f
theorem flatA_of : ∀ {xs : List V} {ds : List D}, DpAll K H xs ds → ds.all flatD = true → xs.all flatV = true
  | _, _, .nil, _ => rfl
  | _, _, .cons h t, f => by
    rw [List.all_cons, Bool.and_eq_true] at f
    rw [List.all_cons, flat_of h f.1, flatA_of t f.2]
    rfl
theorem eqV_eqv {x y : V} {a b : D} (ha : Dp K H x a) (hb : Dp K H y b) (fa : flatD a = true) (fb : flatD b = true) : eqV x y = PyData.eqv a b := by
  cases ha <;> first | (cases fa; done) | (cases hb <;> first | (cases fb; done) | (simp [eqV, PyData.eqv]; done) | rfl)
theorem inV_eqv {x : V} {a : D} (ha : Dp K H x a) (fa : flatD a = true) : ∀ {xs : List V} {ds : List D}, DpAll K H xs ds → ds.all flatD = true → inV x xs = ds.any fun z => PyData.eqv z a
  | _, _, .nil, _ => rfl
  | _, _, .cons (vs := vs) (ds := ds) h t, f => by
    rw [List.all_cons, Bool.and_eq_true] at f
    have ih := inV_eqv ha fa t f.2
    unfold inV at ih ⊢
    rw [List.any_cons, List.any_cons, ih, eqV_eqv h ha f.1 fa]
theorem rd_inT {neg : Bool} : RD K (rIn K neg) (dInT neg) := by
  refine ⟨fun {H T x y a b d} dis ha hb h Q q => ?_⟩
  unfold dInT at h
  split at h
  · rename_i ds
    split at h
    · rename_i c
      rw [Bool.and_eq_true] at c
      cases h
      obtain ⟨p, xs, rfl, hs, g⟩ := dp_tup hb
      refine ⟨p, xs, rfl, .inr (sqt_ov dis hs), flat_of ha c.1, flatA_of g c.2, ?_⟩
      rw [inV_eqv ha c.1 g c.2]
      exact q _ H (Same.refl H) dis (.bl _)
    · cases h
  · cases h
end
end DD

set_option Elab.async false
set_option linter.all false
set_option maxRecDepth 100000
set_option maxHeartbeats 4000000
namespace DD
variable [TabQ] [ExQ]
open PySem PySem.Spec PyProof.Rows L2

/-! ### mirrors of statements -/
def sNext : En → Option Fl := fun ρ => some (.nx ρ)
def sSeq (a b : En → Option Fl) : En → Option Fl := fun ρ => (a ρ).bind fun f => match f with
  | .nx ρ' => b ρ'
  | f => some f
def sIf (c : En → Option Bool) (a b : En → Option Fl) : En → Option Fl := fun ρ => (c ρ).bind fun x => if x = true then a ρ else b ρ
def sRet (a : En → Option D) : En → Option Fl := fun ρ => (a ρ).map Fl.rt
def sDrop (a : En → Option D) : En → Option Fl := fun ρ => (a ρ).map fun _ => .nx ρ
def gSet (i : Nat) (d : D) (ρ : En) : Option En := some (ρ.set i (some (.val d)))
def sAsg (a : En → Option D) (g : D → En → Option En) : En → Option Fl := fun ρ => (a ρ).bind fun d => (g d ρ).map Fl.nx
def sOwn (i : Nat) (a : En → Option (List D)) : En → Option Fl := fun ρ => (a ρ).map fun ds => .nx (ρ.set i (some (.own ds)))
def sFrz (i : Nat) (a : En → Option Fl) : En → Option Fl := fun ρ => a (frz i ρ)
def sPar (i j : Nat) (a b : En → Option D) : En → Option Fl := fun ρ => (a ρ).bind fun x => (b ρ).map fun y => .nx ((ρ.set i (some (.val x))).set j (some (.val y)))
def sBrk : En → Option Fl := fun ρ => some (.bk ρ)
def sCnt : En → Option Fl := fun ρ => some (.ct ρ)
def sStop : En → Option Fl := fun _ => none
def loop (g : D → En → Option En) (b : En → Option Fl) : List D → En → Option Fl
  | [], ρ => some (.nx ρ)
  | d :: ds, ρ => (g d ρ).bind fun ρ1 => (b ρ1).bind fun f => match f with
    | .nx ρ2 => loop g b ds ρ2
    | .ct ρ2 => loop g b ds ρ2
    | .bk ρ2 => some (.nx ρ2)
    | .rt d => some (.rt d)
def sFor (it : En → Option (List D)) (g : D → En → Option En) (b : En → Option Fl) : En → Option Fl := fun ρ => (it ρ).bind fun ds => loop g b ds ρ
def whl (c : En → Option Bool) (b : En → Option Fl) : Nat → En → Option Fl
  | 0, _ => none
  | n + 1, ρ => (c ρ).bind fun x => if x = true then (b ρ).bind fun f => match f with
      | .nx ρ2 => whl c b n ρ2
      | .ct ρ2 => whl c b n ρ2
      | .bk ρ2 => some (.nx ρ2)
      | .rt d => some (.rt d)
    else some (.nx ρ)
def sWhile (fuel : En → Nat) (c : En → Option Bool) (b : En → Option Fl) : En → Option Fl := fun ρ => whl c b (fuel ρ) ρ
def sAppend (i : Nat) (a : En → Option D) : En → Option Fl := fun ρ => match ρ[i]? with
  | some (some (.own ds)) => (a ρ).bind fun d => if ds.length < cap then some (.nx (ρ.set i (some (.own (ds ++ [d]))))) else none
  | _ => none
def sExtend (i : Nat) (a : En → Option (List D)) : En → Option Fl := fun ρ => match ρ[i]? with
  | some (some (.own ds)) => (a ρ).bind fun es => if ds.length + es.length ≤ cap then some (.nx (ρ.set i (some (.own (ds ++ es))))) else none
  | _ => none

section
variable {K : PySem.W.Frag} {t u : TS} {te ta tb : TE} {ma mb : En → Option D} {m1 m2 : En → Option Fl}
theorem st_next : TSm K tNext sNext := ⟨fun {H0 T0 σ ρ H T f} G h E q => by cases h; exact q σ H T G⟩
theorem st_brk : TSm K tBreak sBrk := ⟨fun {H0 T0 σ ρ H T f} G h E q => by cases h; exact q σ H T G⟩
theorem st_cnt : TSm K tCont sCnt := ⟨fun {H0 T0 σ ρ H T f} G h E q => by cases h; exact q σ H T G⟩
theorem st_stop {t : TS} : TSm K t sStop := ⟨fun {H0 T0 σ ρ H T f} G h E q => by cases h⟩
theorem st_seq (h1 : TSm K t m1) (h2 : TSm K u m2) : TSm K (tSeq t u) (sSeq m1 m2) := by
  refine ⟨fun {H0 T0 σ ρ H T f} G h E q => ?_⟩
  obtain ⟨x, hx, h⟩ := bind_some h
  refine h1.run G hx _ ?_
  cases x with
  | nx ρ' => exact fun σ' H' T' G' => h2.run G' h E q
  | rt d => cases h; exact q
  | bk ρ' => cases h; exact q
  | ct ρ' => cases h; exact q
theorem FlOk.mono {H0 : Hp} {T0 : Ov} {E : Ends} {f : Fl} (h : FlOk K H0 T0 E f) : FlOk K H0 T0 E f := h
theorem st_if {tc : TT} {mc : En → Option Bool} (hc : TTm K tc mc) (h1 : TSm K t m1) (h2 : TSm K u m2) : TSm K (tIfS tc t u) (sIf mc m1 m2) := by
  refine ⟨fun {H0 T0 σ ρ H T f} G h E q => ?_⟩
  obtain ⟨x, hx, h⟩ := bind_some h
  refine hc.run G hx _ fun H1 s1 d1 => ?_
  cases x with
  | true =>
    rw [if_pos rfl] at h ⊢
    exact h1.run (G.mono s1 d1) h E q
  | false =>
    rw [if_neg Bool.false_ne_true] at h ⊢
    exact h2.run (G.mono s1 d1) h E q
theorem st_ret (ha : ET K te ma) : TSm K (tRet te) (sRet ma) := by
  refine ⟨fun {H0 T0 σ ρ H T f} G h E q => ?_⟩
  obtain ⟨x, hx, h⟩ := map_some h
  subst h
  exact ha.run G hx _ fun v H1 s1 d1 p1 => q v H1 T (G.ex.trans s1) d1 G.ext p1
theorem st_drop (ha : ET K te ma) : TSm K (tDrop te) (sDrop ma) := by
  refine ⟨fun {H0 T0 σ ρ H T f} G h E q => ?_⟩
  obtain ⟨x, hx, h⟩ := map_some h
  subst h
  exact ha.run G hx _ fun v H1 s1 d1 p1 => q σ H1 T (G.mono s1 d1)
theorem tg_name (i : Nat) {vs : List Nat} (hi : i ∈ vs) : TGm K vs (gName i) (gSet i) := by
  refine ⟨fun {H0 T0 σ ρ ρ2 H T v d} G g h Q q => ?_⟩
  cases h
  refine q _ H (G.set g) (Same.refl H) ?_
  have wset : ∀ (vs : List Nat) (σ : L2.St) (x : Option V), i ∈ vs → wipe (σ.set i x) vs = wipe σ vs := by
    intro vs
    induction vs with
    | nil => intro σ x h; cases h
    | cons j r ih =>
      intro σ x h
      show (wipe (σ.set i x) r).set j none = (wipe σ r).set j none
      rcases List.mem_cons.mp h with rfl | h
      · by_cases hr : i ∈ r
        · rw [ih σ x hr]
        · have : ∀ (r : List Nat) (σ : L2.St), i ∉ r → wipe (σ.set i x) r = (wipe σ r).set i x := by
            intro r
            induction r with
            | nil => intro σ _; rfl
            | cons k r ih2 =>
              intro σ h
              show (wipe (σ.set i x) r).set k none = ((wipe σ r).set k none).set i x
              rw [ih2 σ (fun z => h (List.mem_cons_of_mem _ z)), List.set_comm _ _ (fun z : i = k => h (by rw [z]; exact List.mem_cons_self))]
          rw [this r σ hr, List.set_set]
      · rw [ih σ x h]
  exact wset vs σ _ hi
theorem st_asg {vs : List Nat} {g : TG} {mg : D → En → Option En} (ha : ET K te ma) (hg : TGm K vs g mg) : TSm K (tAsg te g) (sAsg ma mg) := by
  refine ⟨fun {H0 T0 σ ρ H T f} G h E q => ?_⟩
  obtain ⟨x, hx, h⟩ := bind_some h
  obtain ⟨ρ2, h2, h⟩ := map_some h
  subst h
  exact ha.run G hx _ fun v H1 s1 d1 p1 => hg.run (G.mono s1 d1) p1 h2 _ fun σ2 H2 G2 _ _ => q σ2 H2 T G2
theorem st_set (i : Nat) (ha : ET K te ma) : TSm K (tAsg te (gName i)) (sAsg ma (gSet i)) := st_asg ha (tg_name i (vs := [i]) List.mem_cons_self)
theorem st_own (i : Nat) {m : En → Option (List D)} (ha : FL K te m) : TSm K (tAsg te (gName i)) (sOwn i m) := by
  refine ⟨fun {H0 T0 σ ρ H T f} G h E q => ?_⟩
  obtain ⟨ds, hd, h⟩ := map_some h
  subst h
  refine ha.run G hd _ fun p xs H1 s1 d1 n1 p1 => ?_
  rw [upd_put]
  exact q _ _ _ ((G.mono s1 d1).setOwn p1 n1)
theorem st_frz (i : Nat) (h1 : TSm K t m1) : TSm K t (sFrz i m1) := by
  refine ⟨fun {H0 T0 σ ρ H T f} G h E q => ?_⟩
  obtain ⟨H', T', G', e, _⟩ := G.freeze i
  rw [e]
  exact h1.run G' h E q
theorem st_par {i j : Nat} (ha : ET K ta ma) (hb : ET K tb mb) : TSm K (tPar i j (tCons ta (tCons tb tNil))) (sPar i j ma mb) := by
  refine ⟨fun {H0 T0 σ ρ H T f} G h E q => ?_⟩
  obtain ⟨x, hx, h⟩ := bind_some h
  obtain ⟨y, hy, h⟩ := map_some h
  subst h
  refine ha.run G hx _ fun v H1 s1 d1 p1 => ?_
  refine hb.run (G.mono s1 d1) hy _ fun w H2 s2 d2 p2 => ⟨v, w, rfl, ?_⟩
  exact q _ H2 T (((G.mono (s1.trans s2) d2).set (dp_mono s2 p1)).set p2)
theorem st_append {i : Nat} (ha : ET K te ma) : TSm K (tDrop (tBM K "list" rAppend (tVar i) (tCons te tNil))) (sAppend i ma) := by
  refine ⟨fun {H0 T0 σ ρ H T f} G h E q => ?_⟩
  unfold sAppend at h
  split at h
  · rename_i ds e
    obtain ⟨x, hx, h⟩ := bind_some h
    split at h
    · rename_i hz
      cases h
      obtain ⟨p, xs, a, b, c, g⟩ := G.own i ds e
      refine ⟨.ref p, a, .inl ⟨rfl, xs, SqL.of (ov_own b)⟩, ?_⟩
      refine ha.run G hx _ fun v H1 s1 d1 p1 => ?_
      refine ⟨p, xs, v, rfl, rfl, ov_own b, cap_lt (by rw [dpa_len g]; omega), ?_⟩
      rw [upd_put]
      exact q _ _ _ ((G.mono s1 d1).turn e a b (dpa_snoc (dpa_mono s1 g) p1))
    · cases h
  · cases h
theorem st_extend {i : Nat} {m : En → Option (List D)} (ha : FL K te m) : TSm K (tDrop (tBM K "list" rExtend (tVar i) (tCons te tNil))) (sExtend i m) := by
  refine ⟨fun {H0 T0 σ ρ H T f} G h E q => ?_⟩
  unfold sExtend at h
  split at h
  · rename_i ds e
    obtain ⟨es, hx, h⟩ := bind_some h
    split at h
    · rename_i hz
      cases h
      obtain ⟨p, xs, a, b, c, g⟩ := G.own i ds e
      refine ⟨.ref p, a, .inl ⟨rfl, xs, SqL.of (ov_own b)⟩, ?_⟩
      refine ha.run G hx _ fun r ys H1 s1 d1 n1 p1 => ?_
      obtain ⟨nT, nH⟩ := ov_free n1
      have ne : p ≠ r := fun z => by rw [← z, b] at nT; cases nT
      refine ⟨p, r, xs, ys, rfl, rfl, by rw [upd_ne ne]; exact ov_own b, upd_same, cap_line (by rw [dpa_len g, dpa_len p1]; exact hz), ?_⟩
      rw [upd_ov nT, upd_put]
      have s2 : Same H1 (upd H1 r (.lst ys)) := same_new nH
      exact q _ _ _ ((G.mono (s1.trans s2) (dis_upd d1 nT nH)).turn e a b (dpa_append (dpa_mono (s1.trans s2) g) (dpa_mono s2 p1)))
    · cases h
  · cases h
theorem st_for {wi : TI} {mi : En → Option (List D)} {vs : List Nat} {g : TG} {mg : D → En → Option En} (hi : IT K wi mi) (hg : TGm K vs g mg) (hb : TSm K t m1) : TSm K (tFor wi g t) (sFor mi mg m1) := by
  refine ⟨fun {H0 T0 σ ρ H T f} G h E q => ?_⟩
  obtain ⟨ds, hd, h⟩ := bind_some h
  refine hi.run G hd _ fun J Hm s1 d1 w => ?_
  refine ⟨fun i m σ Hc => i ≤ ds.length ∧ m = ds.length - i ∧ ∃ ρ H T, Hc = ov H T ∧ Good K H0 T0 σ ρ H T ∧ Same Hm H ∧ loop mg m1 (ds.drop i) ρ = some f, ⟨ds.length, Nat.zero_le _, rfl, ρ, Hm, T, rfl, G.mono s1 d1, Same.refl Hm, h⟩, ?_⟩
  rintro i m σ1 Hc ⟨hi, rfl, ρ1, H1, T1, rfl, G1, sm, hl⟩
  by_cases hlt : i < ds.length
  · have hge : ds[i]? = some ds[i] := List.getElem?_eq_getElem hlt
    rw [List.drop_eq_getElem_cons hlt] at hl
    obtain ⟨ρ2, h2, hl⟩ := bind_some hl
    obtain ⟨f3, h3, hl⟩ := bind_some hl
    refine .inr ⟨w.go i sm G1.dis hlt, fun σ' Hc' => ∃ ρ H T, Hc' = ov H T ∧ Good K H0 T0 σ' ρ H T ∧ Same Hm H ∧ loop mg m1 (ds.drop (i + 1)) ρ = some f, fun σ' Hc' ⟨ρ', H', T', e', G', s', l'⟩ => ⟨ds.length - (i + 1), by omega, by omega, rfl, ρ', H', T', e', G', s', l'⟩, fun x Hc' y => ?_⟩
    obtain ⟨H2, rfl, s2, d2, p2⟩ := w.yld i sm G1.dis hge y
    refine hg.run (G1.mono s2 d2) p2 h2 _ fun σ3 H3 G3 s3 _ => ?_
    refine hb.run (H0 := H3) (T0 := T0) (σ := σ3) (ρ := ρ2) (H := H3) (T := T1) ⟨G3.len, G3.val, G3.own, G3.inj, G3.dis, G3.ext, Same.refl H3, G3.exc⟩ h3 _ ?_
    have s03 : Same H0 H3 := G3.ex
    cases f3 with
    | nx ρ4 => exact fun σ4 H4 T4 G4 => ⟨ρ4, H4, T4, rfl, ⟨G4.len, G4.val, G4.own, G4.inj, G4.dis, G4.ext, s03.trans G4.ex, G4.exc⟩, (sm.trans (s2.trans s3)).trans G4.ex, hl⟩
    | ct ρ4 => exact fun σ4 H4 T4 G4 => ⟨ρ4, H4, T4, rfl, ⟨G4.len, G4.val, G4.own, G4.inj, G4.dis, G4.ext, s03.trans G4.ex, G4.exc⟩, (sm.trans (s2.trans s3)).trans G4.ex, hl⟩
    | bk ρ4 =>
      cases hl
      exact fun σ4 H4 T4 G4 => q σ4 H4 T4 ⟨G4.len, G4.val, G4.own, G4.inj, G4.dis, G4.ext, s03.trans G4.ex, G4.exc⟩
    | rt d =>
      cases hl
      exact fun v H4 T4 s4 d4 e4 p4 => q v H4 T4 (s03.trans s4) d4 e4 p4
  · have e : i = ds.length := by omega
    subst e
    rw [List.drop_length] at hl
    cases hl
    exact .inl ⟨w.stop sm G1.dis, q σ1 H1 T1 G1⟩
theorem st_while {tc : TT} {mc : En → Option Bool} (fuel : En → Nat) (hc : TTm K tc mc) (hb : TSm K t m1) : TSm K (tWhile tc t) (sWhile fuel mc m1) := by
  refine ⟨fun {H0 T0 σ ρ H T f} G h E q => ?_⟩
  refine ⟨fun m σ Hc => ∃ ρ H T, Hc = ov H T ∧ Good K H0 T0 σ ρ H T ∧ whl mc m1 m ρ = some f, ⟨fuel ρ, ρ, H, T, rfl, G, h⟩, ?_⟩
  rintro m σ1 Hc ⟨ρ1, H1, T1, rfl, G1, hw⟩
  cases m with
  | zero => cases hw
  | succ n =>
    obtain ⟨x, hx, hw⟩ := bind_some hw
    refine hc.run G1 hx _ fun H2 s2 d2 => ?_
    have G2 := G1.mono s2 d2
    cases x with
    | true =>
      rw [if_pos rfl] at hw ⊢
      obtain ⟨f3, h3, hl⟩ := bind_some hw
      refine ⟨fun σ' Hc' => ∃ ρ H T, Hc' = ov H T ∧ Good K H0 T0 σ' ρ H T ∧ whl mc m1 n ρ = some f, fun σ' Hc' h' => ⟨n, Nat.lt_succ_self n, h'⟩, ?_⟩
      refine hb.run G2 h3 _ ?_
      cases f3 with
      | nx ρ4 => exact fun σ4 H4 T4 G4 => ⟨ρ4, H4, T4, rfl, G4, hl⟩
      | ct ρ4 => exact fun σ4 H4 T4 G4 => ⟨ρ4, H4, T4, rfl, G4, hl⟩
      | bk ρ4 => cases hl; exact q
      | rt d => cases hl; exact q
    | false =>
      rw [if_neg Bool.false_ne_true] at hw ⊢
      cases hw
      exact q σ1 H2 T1 G2

/-! ### what is walked -/
def its : D → Option (List D)
  | .list ds => some ds
  | .tuple ds => some ds
  | .str z => some (z.cps.toList.map fun c => .str ⟨#[c]⟩)
  | _ => none
def mIter (a : En → Option D) : En → Option (List D) := fun ρ => (a ρ).bind its
def iAny (K : PySem.W.Frag) (te : TE) : TI := fun σ H R => te σ H fun x H1 => (∃ a, x = .ref a ∧ (∃ xs, SqL K H1 a xs) ∧ R (Itl K a) H1) ∨ (∃ a, x = .ref a ∧ (∃ xs, SqT K H1 a xs) ∧ R (Itt K a) H1) ∨ ∃ z, x = .str z ∧ R (Its z) H1
theorem pi_any {X : Cx} {tg l : Expr} {tl : TE} (hl : PE X l tl) : PI X tg l (iAny X.K tl) := by
  refine ⟨fun pins s σ H R I h => ?_⟩
  refine thn (hl.run pins s σ H _ I h) fun v s1 ⟨x, H1, I1, r1, q1⟩ => ?_
  rcases q1 with ⟨a, e, ⟨xs, hq⟩, q⟩ | ⟨a, e, ⟨xs, hq⟩, q⟩ | ⟨z, e, q⟩
  · subst e
    cases r1
    obtain ⟨its, rv, p, hz⟩ := I1.list hq
    refine wpAny_pyIter_list p.isList ?_
    refine ⟨s1.heap.objs.size, [s1.heap.objs.size], _, _, H1, rfl, I1.kept (t' := s1.toks) fun b o e => Heap.get?_push_of_some _ e, turn_list a _, ⟨_, Heap.get?_push_size _ rfl, rfl, rfl⟩, fun b hb => ?_, q⟩
    have e : b = s1.heap.objs.size := by simpa using hb
    subst e
    exact I1.fpOk (Nat.le_refl _) (I1.hok.fresh (Nat.le_refl _))
  · subst e
    cases r1
    obtain ⟨its, rv, p, hz⟩ := I1.tuple hq
    refine wpAny_pyIter_tuple (show s1.heap.IsTuple a its.toArray from p) ?_
    refine ⟨s1.heap.objs.size, [s1.heap.objs.size], _, _, H1, rfl, I1.kept (t' := s1.toks) fun b o e => Heap.get?_push_of_some _ e, turn_tuple a _, ⟨_, Heap.get?_push_size _ rfl, rfl, rfl⟩, fun b hb => ?_, q⟩
    have e : b = s1.heap.objs.size := by simpa using hb
    subst e
    exact I1.fpOk (Nat.le_refl _) (I1.hok.fresh (Nat.le_refl _))
  · subst e
    obtain ⟨t, rfl⟩ := r1
    cases ha : z.cps.all (· < 128)
    · exact wpAny_pyIter_wide ha (pi_one (tk := s1.toks) I1 _ (turn_str _ z t "str_iterator" (.inr rfl)) ⟨_, Heap.get?_push_size _ rfl, rfl, rfl⟩ q)
    · exact wpAny_pyIter_ascii ha (pi_one (tk := s1.toks) I1 _ (turn_str _ z t "str_ascii_iterator" (.inl rfl)) ⟨_, Heap.get?_push_size _ rfl, rfl, rfl⟩ q)
theorem it_any {ma : En → Option D} (ha : ET K te ma) : IT K (iAny K te) (mIter ma) := by
  refine ⟨fun {H0 T0 σ ρ H T ds} G h R q => ?_⟩
  obtain ⟨x, hx, h⟩ := bind_some h
  refine ha.run G hx _ fun v H1 s1 d1 p1 => ?_
  unfold its at h
  split at h
  · cases h
    obtain ⟨p, xs, rfl, hs, g⟩ := dp_lst p1
    refine .inl ⟨p, rfl, ⟨xs, sql_ov d1 hs⟩, q _ H1 s1 d1 ⟨fun {H T} i sm dis hi => ?_, fun {H T} sm dis => ?_, fun {H T} i {x Hc d} sm dis hd y => ?_⟩⟩
    · rw [← dpa_len g] at hi
      exact ⟨xs, xs[i], sql_ov dis (sm.seq hs), by simp [hi]⟩
    · exact ⟨xs, sql_ov dis (sm.seq hs), by rw [dpa_len g]; exact Nat.le_refl _⟩
    · obtain ⟨rfl, y⟩ := y
      obtain ⟨w, hw, gw⟩ := dpa_get g hd
      have := y xs (sql_ov dis (sm.seq hs))
      rw [hw] at this
      cases this
      exact ⟨H, rfl, Same.refl H, dis, dp_mono sm gw⟩
  · cases h
    obtain ⟨p, xs, rfl, hs, g⟩ := dp_tup p1
    refine .inr (.inl ⟨p, rfl, ⟨xs, sqt_ov d1 hs⟩, q _ H1 s1 d1 ⟨fun {H T} i sm dis hi => ?_, fun {H T} sm dis => ?_, fun {H T} i {x Hc d} sm dis hd y => ?_⟩⟩)
    · rw [← dpa_len g] at hi
      exact ⟨xs, xs[i], sqt_ov dis (Same.sqt sm hs), by simp [hi]⟩
    · exact ⟨xs, sqt_ov dis (Same.sqt sm hs), by rw [dpa_len g]; exact Nat.le_refl _⟩
    · obtain ⟨rfl, y⟩ := y
      obtain ⟨w, hw, gw⟩ := dpa_get g hd
      have := y xs (sqt_ov dis (Same.sqt sm hs))
      rw [hw] at this
      cases this
      exact ⟨H, rfl, Same.refl H, dis, dp_mono sm gw⟩
  · rename_i z
    cases h
    refine .inr (.inr ⟨z, dp_str p1, q _ H1 s1 d1 ⟨fun {H T} i sm dis hi => ?_, fun {H T} sm dis => ?_, fun {H T} i {x Hc d} sm dis hd y => ?_⟩⟩)
    · rw [List.length_map, Array.length_toList] at hi
      exact hi
    · show z.cps.size ≤ _
      rw [List.length_map, Array.length_toList]
      exact Nat.le_refl _
    · obtain ⟨rfl, c, hc, rfl⟩ := y
      rw [List.getElem?_map, Array.getElem?_toList, hc] at hd
      cases hd
      exact ⟨H, rfl, Same.refl H, dis, .str _⟩
  · cases h
/-- range(n), range(a, b) -/
def upto (lo : Int) (n : Nat) : List D := (List.range n).map fun (i : Nat) => PyData.int (lo + (i : Int))
def mRange (a : En → Option (List D)) : En → Option (List D) := fun ρ => (a ρ).bind fun ds => match ds with
  | [.int j] => if -(2 ^ 62) ≤ j ∧ j < 2 ^ 62 then some (upto 0 j.toNat) else none
  | [.int i, .int j] => if -(2 ^ 62) ≤ i ∧ i < 2 ^ 62 ∧ -(2 ^ 62) ≤ j ∧ j < 2 ^ 62 then some (upto i (j - i).toNat) else none
  | _ => none
theorem wk_range {Hm : Hp} {lo : Int} {n : Nat} : Wk K (Itr lo n) Hm (upto lo n) := by
  refine ⟨fun {H T} i sm dis hi => ?_, fun {H T} sm dis => ?_, fun {H T} i {x Hc d} sm dis hd y => ?_⟩
  · unfold upto at hi
    rw [List.length_map, List.length_range] at hi
    exact hi
  · unfold upto
    rw [List.length_map, List.length_range]
    exact Nat.le_refl _
  · obtain ⟨rfl, rfl⟩ := y
    unfold upto at hd
    rw [List.getElem?_map] at hd
    by_cases hi : i < n
    · rw [List.getElem?_range hi] at hd
      cases hd
      exact ⟨H, rfl, Same.refl H, dis, .int _⟩
    · rw [List.getElem?_eq_none (by simpa using hi)] at hd
      cases hd
theorem it_range1 {ta : TA} {m : En → Option (List D)} (ha : TAm K ta m) : IT K (iRng1 ta) (mRange fun ρ => (m ρ).bind fun ds => if ds.length = 1 then some ds else none) := by
  refine ⟨fun {H0 T0 σ ρ H T ds} G h R q => ?_⟩
  obtain ⟨x, hx, h⟩ := bind_some h
  obtain ⟨y, hy, hx⟩ := bind_some hx
  split at hx
  · rename_i hl
    cases hx
    refine ha.run G hy _ fun vs H1 s1 d1 p1 => ?_
    split at h
    · split at h
      · rename_i hb
        cases h
        obtain ⟨v, rfl, g⟩ := dpa_one p1
        cases dp_int g
        exact ⟨_, rfl, hb.1, hb.2, q _ H1 s1 d1 wk_range⟩
      · cases h
    · cases hl
    · cases h
  · cases hx
theorem it_range2 {ta : TA} {m : En → Option (List D)} (ha : TAm K ta m) : IT K (iRng2 ta) (mRange fun ρ => (m ρ).bind fun ds => if ds.length = 2 then some ds else none) := by
  refine ⟨fun {H0 T0 σ ρ H T ds} G h R q => ?_⟩
  obtain ⟨x, hx, h⟩ := bind_some h
  obtain ⟨y, hy, hx⟩ := bind_some hx
  split at hx
  · rename_i hl
    cases hx
    refine ha.run G hy _ fun vs H1 s1 d1 p1 => ?_
    split at h
    · cases hl
    · split at h
      · rename_i hb
        cases h
        obtain ⟨u, v, rfl, g1, g2⟩ := dpa_two p1
        cases dp_int g1
        cases dp_int g2
        exact ⟨_, _, rfl, hb, q _ H1 s1 d1 wk_range⟩
      · cases h
    · cases h
  · cases hx

/-! ### targets of several names -/
def gNilM (ds : List D) (ρ : En) : Option En := match ds with
  | [] => some ρ
  | _ => none
def gConsM (g : D → En → Option En) (r : List D → En → Option En) (ds : List D) (ρ : En) : Option En := match ds with
  | d :: es => (g d ρ).bind fun ρ1 => r es ρ1
  | [] => none
def gTupM (n : Nat) (g : List D → En → Option En) (d : D) (ρ : En) : Option En := match d with
  | .tuple ds => if ds.length = n then g ds ρ else none
  | _ => none
theorem tgs_nil {vs : List Nat} : TGsm K vs gNil gNilM := by
  refine ⟨fun {H0 T0 σ ρ ρ2 H T xs ds} G g h Q q => ?_⟩
  unfold gNilM at h
  split at h
  · cases h
    cases g
    exact ⟨rfl, q σ H G (Same.refl H) rfl⟩
  · cases h
theorem tgs_cons {vs : List Nat} {g : TG} {gs : TGs} {mg : D → En → Option En} {mr : List D → En → Option En} (h1 : TGm K vs g mg) (h2 : TGsm K vs gs mr) : TGsm K vs (gCons g gs) (gConsM mg mr) := by
  refine ⟨fun {H0 T0 σ ρ ρ2 H T xs ds} G g h Q q => ?_⟩
  unfold gConsM at h
  split at h
  · obtain ⟨ρ1, e1, h⟩ := bind_some h
    cases g with
    | cons a b =>
      refine ⟨_, _, rfl, ?_⟩
      refine h1.run G a e1 _ fun σ2 H2 G2 s2 w2 => ?_
      exact h2.run G2 (dpa_mono s2 b) h _ fun σ3 H3 G3 s3 w3 => q σ3 H3 G3 (s2.trans s3) (w3.trans w2)
  · cases h
theorem tg_tup {vs : List Nat} {n : Nat} {gs : TGs} {mr : List D → En → Option En} (h : TGsm K vs gs mr) : TGm K vs (gTup K n gs) (gTupM n mr) := by
  refine ⟨fun {H0 T0 σ ρ ρ2 H T v d} G g e Q q => ?_⟩
  unfold gTupM at e
  split at e
  · split at e
    · rename_i hn
      obtain ⟨p, xs, rfl, hs, ga⟩ := dp_tup g
      exact ⟨p, xs, rfl, sqt_ov G.dis hs, by rw [dpa_len ga]; exact hn, h.run G ga e Q q⟩
    · cases e
  · cases e

/-! ### comprehensions -/
def wipeM (ρ : En) : List Nat → En
  | [] => ρ
  | v :: vs => (wipeM ρ vs).set v none
def coll (g : D → En → Option En) (c : En → Option Bool) (e : En → Option D) (ρ : En) : List D → Option (List D)
  | [] => some []
  | d :: ds => (g d ρ).bind fun ρ1 => (c ρ1).bind fun b => if b = true then (e ρ1).bind fun x => (coll g c e ρ ds).map fun r => x :: r else coll g c e ρ ds
def mLc (it : En → Option (List D)) (g : D → En → Option En) (c : En → Option Bool) (e : En → Option D) (vs : List Nat) : En → Option (List D) := fun ρ => (it ρ).bind fun ds => if ds.length ≤ cap then coll g c e (wipeM ρ vs) ds else none
def mYes : En → Option Bool := fun _ => some true
theorem et_yes : TTm K tYes mYes := ⟨fun {H0 T0 σ ρ H T b} G h Q q => by cases h; exact q H (Same.refl H) G.dis⟩
theorem Good.drop {K : PySem.W.Frag} {H0 H : Hp} {T0 T : Ov} {σ : L2.St} {ρ : En} (i : Nat) (G : Good K H0 T0 σ ρ H T) : Good K H0 T0 (σ.set i none) (ρ.set i none) H T := by
  refine ⟨by rw [List.length_set, List.length_set]; exact G.len, fun j x h => ?_, fun j x h => ?_, fun j k ds es p h1 h2 h3 h4 => ?_, G.dis, G.ext, G.ex, exc_set G.exc (fun _ z => by cases z)⟩
  · rcases get_set h with ⟨_, q, _⟩ | ⟨e, q⟩
    · cases q
    · obtain ⟨w, a, b⟩ := G.val j x q
      exact ⟨w, by rw [List.getElem?_set_ne (Ne.symm e)]; exact a, b⟩
  · rcases get_set h with ⟨_, q, _⟩ | ⟨e, q⟩
    · cases q
    · obtain ⟨p, xs, a, b⟩ := G.own j x q
      exact ⟨p, xs, by rw [List.getElem?_set_ne (Ne.symm e)]; exact a, b⟩
  · rcases get_set h1 with ⟨_, q, _⟩ | ⟨e1, q1⟩
    · cases q
    · rcases get_set h2 with ⟨_, q, _⟩ | ⟨e2, q2⟩
      · cases q
      · rw [List.getElem?_set_ne (Ne.symm e1)] at h3
        rw [List.getElem?_set_ne (Ne.symm e2)] at h4
        exact G.inj j k ds es p q1 q2 h3 h4
theorem Good.wipe {K : PySem.W.Frag} {H0 H : Hp} {T0 T : Ov} {σ : L2.St} {ρ : En} (G : Good K H0 T0 σ ρ H T) : ∀ vs : List Nat, Good K H0 T0 (wipe σ vs) (wipeM ρ vs) H T
  | [] => G
  | v :: vs => (Good.wipe G vs).drop v
theorem wipe_wipe (σ : L2.St) (vs : List Nat) : wipe (wipe σ vs) vs = wipe σ vs := by
  apply List.ext_getElem?
  intro i
  have key : ∀ (vs : List Nat) (σ : L2.St), (wipe σ vs)[i]? = if i ∈ vs then (if i < σ.length then some none else none) else σ[i]? := by
    intro vs
    induction vs with
    | nil => intro σ; simp [L2.wipe]
    | cons v r ih =>
      intro σ
      show ((L2.wipe σ r).set v none)[i]? = _
      by_cases h : v = i
      · subst h
        rw [List.getElem?_set]
        simp [wipe_length]
      · rw [List.getElem?_set_ne h, ih σ]
        have : (i ∈ v :: r) ↔ i ∈ r := by simp [Ne.symm h]
        simp only [this]
  rw [key vs (wipe σ vs), key vs σ, wipe_length]
  split <;> rfl
/-- one list more of one's own, known to no slot -/
theorem Good.more {K : PySem.W.Frag} {H0 H : Hp} {T0 T : Ov} {σ : L2.St} {ρ : En} {p : Addr} {xs : List V} (G : Good K H0 T0 σ ρ H T) (hp : ov H T p = none) : Good K H0 T0 σ ρ H (put T p xs) := by
  obtain ⟨hT, hH⟩ := ov_free hp
  have ne : ∀ a ys, T a = some ys → a ≠ p := fun a ys e z => by rw [z, hT] at e; cases e
  exact ⟨G.len, G.val, fun i ds h => let ⟨r, ys, a, b, c⟩ := G.own i ds h; ⟨r, ys, a, by rw [put_ne (ne r ys b)]; exact b, c⟩, G.inj, dis_put G.dis hH, fun a ys e => by rw [put_ne (ne a ys (G.ext a ys e))]; exact G.ext a ys e, G.ex, G.exc⟩
theorem put_put {T : Ov} {p : Addr} {xs ys : List V} : put (put T p xs) p ys = put T p ys := by
  funext a
  unfold put
  split <;> rfl
theorem fl_lc {wi : TI} {g : TG} {tt : TT} {te : TE} {vs : List Nat} {mi : En → Option (List D)} {mg : D → En → Option En} {mc : En → Option Bool} {me : En → Option D}
    (hi : IT K wi mi) (hg : TGm K vs g mg) (ht : TTm K tt mc) (he : ET K te me) : FL K (tLc wi g tt te vs) (mLc mi mg mc me vs) := by
  refine ⟨fun {H0 T0 σ ρ H T out} G h Q q => ?_⟩
  obtain ⟨ds, hd, h⟩ := bind_some h
  split at h
  · rename_i hz
    refine hi.run G hd _ fun J Hm s1 d1 w => ?_
    intro Dl hD
    obtain ⟨nT, nH⟩ := ov_free hD
    have G1 := (G.mono s1 d1).wipe vs
    refine ⟨fun i m Hc => i ≤ ds.length ∧ m = ds.length - i ∧ ∃ H1 acc as r, Hc = ov H1 (put T Dl acc) ∧ Same Hm H1 ∧ Dis H1 T ∧ H1 Dl = none ∧ DpAll K H1 acc as ∧ acc.length ≤ i ∧ coll mg mc me (wipeM ρ vs) (ds.drop i) = some r ∧ out = as ++ r,
      ⟨ds.length, Nat.zero_le _, rfl, Hm, [], [], out, by rw [upd_put], Same.refl Hm, d1, nH, .nil, Nat.le_refl _, h, rfl⟩, ?_⟩
    rintro i m Hc ⟨hil, rfl, H1, acc, as, r, rfl, sm, dis, nD, ga, hac, hc, eo⟩
    have dput : Dis H1 (put T Dl acc) := dis_put dis nD
    by_cases hlt : i < ds.length
    · have hge : ds[i]? = some ds[i] := List.getElem?_eq_getElem hlt
      rw [List.drop_eq_getElem_cons hlt] at hc
      obtain ⟨ρ2, h2, hc⟩ := bind_some hc
      obtain ⟨b, hb, hc⟩ := bind_some hc
      refine .inr ⟨w.go i sm dput hlt, fun Hc' => ∃ H1 acc as r, Hc' = ov H1 (put T Dl acc) ∧ Same Hm H1 ∧ Dis H1 T ∧ H1 Dl = none ∧ DpAll K H1 acc as ∧ acc.length ≤ i + 1 ∧ coll mg mc me (wipeM ρ vs) (ds.drop (i + 1)) = some r ∧ out = as ++ r,
        fun Hc' ⟨H1, acc, as, r, a1, a2, a3, a4, a5, a6, a7, a8⟩ => ⟨ds.length - (i + 1), by omega, by omega, rfl, H1, acc, as, r, a1, a2, a3, a4, a5, a6, a7, a8⟩, fun x Hc' y => ?_⟩
      obtain ⟨H2, rfl, s2, d2, p2⟩ := w.yld i sm dput hge y
      have fr : ∀ {H' : Hp}, Dis H' (put T Dl acc) → Dis H' T ∧ H' Dl = none := fun {H'} d => ⟨⟨fun a xs e => by
        by_cases z : a = Dl
        · rw [z, nT] at e; cases e
        · exact d a xs (by rw [put_ne z]; exact e), d.tab⟩, d Dl acc put_same⟩
      have G2 : Good K H0 T0 (L2.wipe σ vs) (wipeM ρ vs) H2 (put T Dl acc) := (((G.mono s1 d1).wipe vs).more hD).mono (sm.trans s2) d2
      refine hg.run G2 p2 h2 _ fun σ3 H3 G3 s3 w3 => ⟨by rw [w3, wipe_wipe], ?_⟩
      refine ht.run G3 hb _ fun H4 s4 d4 => ?_
      have G4 := G3.mono s4 d4
      cases b with
      | true =>
        rw [if_pos rfl] at hc ⊢
        obtain ⟨z, hz2, hc⟩ := bind_some hc
        obtain ⟨r', hr, hc⟩ := map_some hc
        refine he.run G4 hz2 _ fun v H5 s5 d5 p5 => ?_
        obtain ⟨dT, dn⟩ := fr d5
        refine ⟨acc, ov_own put_same, cap_lt (Nat.le_trans hac (Nat.le_trans (Nat.le_of_lt hlt) hz)), H5, acc ++ [v], as ++ [z], r', by rw [upd_put, put_put], (sm.trans s2).trans ((s3.trans s4).trans s5), dT, dn, dpa_snoc (dpa_mono (s2.trans ((s3.trans s4).trans s5)) ga) p5, by rw [List.length_append, List.length_singleton]; omega, hr, ?_⟩
        rw [eo, ← hc, List.append_assoc]
        rfl
      | false =>
        rw [if_neg Bool.false_ne_true] at hc ⊢
        obtain ⟨dT, dn⟩ := fr d4
        exact ⟨H4, acc, as, r, rfl, (sm.trans s2).trans (s3.trans s4), dT, dn, dpa_mono (s2.trans (s3.trans s4)) ga, by omega, hc, eo⟩
    · have e : i = ds.length := by omega
      subst e
      rw [List.drop_length] at hc
      cases hc
      rw [List.append_nil] at eo
      subst eo
      refine .inl ⟨w.stop sm dput, ?_⟩
      rw [← upd_put]
      have hfree : ov H1 T Dl = none := by rw [ov_none nT]; exact nD
      exact q Dl acc H1 (s1.trans sm) dis hfree ga
  · cases h

/-! ### a def -/
def start0 (N : Nat) (ds : List D) : En := ds.map (fun d => some (.val d)) ++ List.replicate (N - ds.length) none
def mDef (N : Nat) (b : En → Option Fl) (ds : List D) : Option D := (b (start0 N ds)).bind fun f => match f with
  | .rt d => some d
  | .nx _ => some .none
  | _ => none
theorem good_start {N : List Str} {vs : List V} {ds : List D} {H : Hp} {T : Ov} (h : DpAll K H vs ds) (d : Dis H T) : Good K H T (start N vs) (start0 N.length ds) H T := by
  have hl := dpa_len h
  have at0 : ∀ (i : Nat) (s : Sl), (start0 N.length ds)[i]? = some (some s) → ∃ d, ds[i]? = some d ∧ s = .val d := by
    intro i s e
    unfold start0 at e
    by_cases hi : i < ds.length
    · rw [List.getElem?_append_left (by simpa using hi), List.getElem?_map, List.getElem?_eq_getElem hi] at e
      cases e
      exact ⟨ds[i], List.getElem?_eq_getElem hi, rfl⟩
    · rw [List.getElem?_append_right (by simpa using hi), List.getElem?_replicate] at e
      split at e <;> cases e
  refine ⟨?_, fun i x e => ?_, fun i x e => ?_, fun i j as bs p e1 e2 _ _ => ?_, d, fun a xs e => e, Same.refl H, fun i c e => ?_⟩
  · unfold L2.start start0
    rw [List.length_append, List.length_append, List.length_map, List.length_map, List.length_replicate, List.length_replicate, hl]
  · obtain ⟨d, hd, es⟩ := at0 i _ e
    cases es
    obtain ⟨v, hv, g⟩ := dpa_get h hd
    refine ⟨v, ?_, g⟩
    unfold L2.start
    rw [List.getElem?_append_left (by rw [List.length_map]; exact (List.getElem?_eq_some_iff.mp hv).1), List.getElem?_map, hv]
    rfl
  · obtain ⟨d, hd, es⟩ := at0 i _ e
    cases es
  · obtain ⟨d, hd, es⟩ := at0 i _ e1
    cases es
  · obtain ⟨d, hd, es⟩ := at0 i _ e
    cases es
/-- a heap with lists of one's own on it, told apart again -/
theorem under {T0 : Ov} {X : Hp} (tab : LamX.Tabs TabQ.tabs X) (hT : ∀ a xs, T0 a = some xs → X a = some (.lst xs)) : ∃ H', X = ov H' T0 ∧ Dis H' T0 ∧ ∀ a o, X a = some o → T0 a = none → H' a = some o := by
  have key : ∀ a o, X a = some o → T0 a = none → (match T0 a with | some _ => none | none => X a) = some o := fun a o h q => by
    rw [q]; exact h
  have no : ∀ a o, X a = some o → (∀ xs, o ≠ .lst xs) → T0 a = none := fun a o h n => by
    cases q : T0 a with
    | none => rfl
    | some xs => rw [hT a xs q] at h; exact absurd (Option.some.inj h).symm (n xs)
  refine ⟨fun a => match T0 a with | some _ => none | none => X a, ?_, ⟨fun a xs h => ?_, fun p hp => ?_⟩, key⟩
  · funext a
    cases q : T0 a with
    | some xs => rw [ov_own q, hT a xs q]
    | none =>
      rw [ov_none q]
      show X a = match T0 a with | some _ => none | none => X a
      rw [q]
  · show (match T0 a with | some _ => none | none => X a) = none
    rw [h]
  · obtain ⟨ps, h1, h2, h3⟩ := tab p hp
    refine ⟨ps, key _ _ h1 (no _ _ h1 (fun _ => HO.noConfusion)), h2, fun pos cv hc => ?_⟩
    obtain ⟨c, e1, e2⟩ := h3 pos cv hc
    exact ⟨c, e1, key _ _ e2 (no _ _ e2 (fun _ => HO.noConfusion))⟩
/-- the caller's lists out of the way again -/
theorem back {H0 H : Hp} {T0 T : Ov} (d0 : Dis H0 T0) (s : Same H0 H) (d : Dis H T) (e : Ext T0 T) : ∃ H', ov H T = ov H' T0 ∧ Same H0 H' ∧ Dis H' T0 ∧ Same H H' := by
  obtain ⟨H', e1, d1, k⟩ := under (T0 := T0) (X := ov H T) (d.tab.ext (raw_ov d)) fun a xs h => ov_own (e a xs h)
  refine ⟨H', e1, fun a o h n => ?_, d1, fun a o h _ => ?_⟩
  · refine k a o (same_ov d a o (s a o h n) n) ?_
    cases q : T0 a with
    | none => rfl
    | some xs => have := d0 a xs q; rw [h] at this; cases this
  · refine k a o (raw_ov d a o h) ?_
    cases q : T0 a with
    | none => rfl
    | some xs => have := d a xs (e a xs q); rw [h] at this; cases this
theorem def_ok {P : Program} {w : World} {mg : Str → Option Value} {base : Heap} {x qual : Str} {st : Stmt} {f : Addr} {fd : FuncData} {N ps : List Str} {k : Nat} {mb : En → Option Fl} (F : Fun K x qual st f fd) (S : FnScope N ps (defScope st))
    (hbody : ∀ (cdv : Value) (A : Around) (outer : List Env) (s : Shared) (H : Hp) (E : XK), Room k (A.deeper (envOfC qual (defScope st) s.heap.objs.size f cdv)) →
      ∃ t, PSs (cxOf CX0 P w K mg base N qual (defScope st) f cdv A outer s H E).nox (defBody st) t ∧ TSm K t mb) : FnOk P w K mg base CX0 (k + 1) f fd ps (spM K ps.length (mDef N.length mb)) := by
  refine F.ok S (fun vs H Q E h => ?_) (fun cdv A outer s Hx vs Q E hr h => ?_)
  · obtain ⟨ds, d, H, T, g, hn, _⟩ := h
    rw [dpa_len g, hn]
  · obtain ⟨ds, d, H, T, g, hn, hm, rfl, dis, q⟩ := h
    obtain ⟨t, p, m⟩ := hbody cdv A outer s (ov H T) E hr
    refine ⟨t, p, ?_⟩
    obtain ⟨fl, hf, hm⟩ := bind_some hm
    refine m.run (good_start g dis) hf _ ?_
    cases fl with
    | rt d' =>
      cases hm
      intro v H' T' s1 d1 e1 p1
      obtain ⟨H2, e2, s2, d2, s3⟩ := back dis s1 d1 e1
      show Q v (ov H' T')
      rw [e2]
      exact q v H2 s2 d2 (dp_mono s3 p1)
    | nx ρ =>
      cases hm
      intro σ' H' T' G'
      obtain ⟨H2, e2, s2, d2, s3⟩ := back dis G'.ex G'.dis G'.ext
      show Q .non (ov H' T')
      rw [e2]
      exact q _ H2 s2 d2 .non
    | bk ρ => cases hm
    | ct ρ => cases hm
end
end DD

set_option Elab.async false
set_option linter.all false
set_option maxRecDepth 100000
set_option maxHeartbeats 4000000
namespace DD
variable [TabQ] [ExQ]
open PySem PySem.Spec PyProof.Rows L2
def dLt : D → D → Option D := dCmp fun i j => decide (i < j)
def dLe : D → D → Option D := dCmp fun i j => decide (i ≤ j)
def dGt : D → D → Option D := dCmp fun i j => decide (j < i)
def dGe : D → D → Option D := dCmp fun i j => decide (j ≤ i)
def lim (n : Nat) (m : List D → Option D) : List D → Option D := fun ds => if ds.length = n then m ds else none
def mRange1 (m : En → Option (List D)) : En → Option (List D) := mRange fun ρ => (m ρ).bind fun ds => if ds.length = 1 then some ds else none
def mRange2 (m : En → Option (List D)) : En → Option (List D) := mRange fun ρ => (m ρ).bind fun ds => if ds.length = 2 then some ds else none
def mIfL (c : En → Option Bool) (a b : En → Option (List D)) : En → Option (List D) := fun ρ => (c ρ).bind fun x => if x = true then a ρ else b ρ
def mStar (a : En → Option D) (b : En → Option (List D)) : En → Option (List D) := fun ρ => (a ρ).bind fun x => match x with
  | .list ds => (b ρ).map fun r => ds ++ r
  | .tuple ds => (b ρ).map fun r => ds ++ r
  | _ => none
def gLstM (n : Nat) (g : List D → En → Option En) (d : D) (ρ : En) : Option En := match d with
  | .list ds => if ds.length = n then g ds ρ else none
  | _ => none
def sPar3 (i j l : Nat) (a b c : En → Option D) : En → Option Fl := fun ρ => (a ρ).bind fun x => (b ρ).bind fun y => (c ρ).map fun z => .nx (((ρ.set i (some (.val x))).set j (some (.val y))).set l (some (.val z)))
def mCatL (a b : En → Option (List D)) : En → Option (List D) := fun ρ => (a ρ).bind fun x => (b ρ).bind fun y => if x.length + y.length ≤ cap then some (x ++ y) else none
section
variable {K : PySem.W.Frag} {te ta tb tc : TE} {ma mb mc : En → Option D}
theorem rd_lt' : RD K (rI0 fun i j => .bl (decide (i < j))) dLt := rd_lt
theorem rd_le' : RD K (rI0 fun i j => .bl (decide (i ≤ j))) dLe := rd_le
theorem rd_gt' : RD K (rI0 fun i j => .bl (decide (j < i))) dGt := rd_gt
theorem rd_ge' : RD K (rI0 fun i j => .bl (decide (j ≤ i))) dGe := rd_ge
theorem hu65 {A : Around} {k : Nat} (hr : Room k A) : A.units + 65 < cLine := by have := hr.un; omega
theorem pt_tr {X : Cx} {a : Expr} {ta : TE} (ha : PE X a ta) (he : ∀ whole, isTrue a X.env whole = (do let v ← whole; standAt a.pos; holding [v] (truthy v))) : PT X a (tTru X.K ta) := pt_truth ha he
theorem ev_call' {n : Nat} {mf : List D → Option D} {t : TA} {m : En → Option (List D)} {E : XK} (ha : TAm K t m) : ET K (tCall (spM K n mf) [] E t) (mCall (lim n mf) m) := ev_call ha
theorem it_range1' {t : TA} {m : En → Option (List D)} (ha : TAm K t m) : IT K (iRng1 t) (mRange1 m) := it_range1 ha
theorem it_range2' {t : TA} {m : En → Option (List D)} (ha : TAm K t m) : IT K (iRng2 t) (mRange2 m) := it_range2 ha
theorem fl_if {tt : TT} {m1 : En → Option Bool} {m2 m3 : En → Option (List D)} (hc : TTm K tt m1) (ha : FL K ta m2) (hb : FL K tb m3) : FL K (tIf tt ta tb) (mIfL m1 m2 m3) := by
  refine ⟨fun {H0 T0 σ ρ H T d} G h Q q => ?_⟩
  obtain ⟨x, hx, h⟩ := bind_some h
  refine hc.run G hx _ fun H1 s1 d1 => ?_
  cases x with
  | true =>
    rw [if_pos rfl] at h ⊢
    exact ha.run (G.mono s1 d1) h _ fun p xs H2 s2 d2 n2 p2 => q p xs H2 (s1.trans s2) d2 n2 p2
  | false =>
    rw [if_neg Bool.false_ne_true] at h ⊢
    exact hb.run (G.mono s1 d1) h _ fun p xs H2 s2 d2 n2 p2 => q p xs H2 (s1.trans s2) d2 n2 p2
theorem ea_star {t : TA} {m : En → Option (List D)} (ha : ET K ta ma) (hr : TAm K t m) : TAm K (StX.tStar K ta t) (mStar ma m) := by
  refine ⟨fun {H0 T0 σ ρ H T ds} G h Q q => ?_⟩
  obtain ⟨x, hx, h⟩ := bind_some h
  refine ha.run G hx _ fun v H1 s1 d1 p1 => ?_
  split at h
  · obtain ⟨r, hr2, h⟩ := map_some h
    subst h
    obtain ⟨p, xs, rfl, hs, g⟩ := dp_lst p1
    refine ⟨p, xs, rfl, .inr (sql_ov d1 hs), ?_⟩
    exact hr.run (G.mono s1 d1) hr2 _ fun vs H2 s2 d2 p2 => q _ H2 (s1.trans s2) d2 (dpa_append (dpa_mono s2 g) p2)
  · obtain ⟨r, hr2, h⟩ := map_some h
    subst h
    obtain ⟨p, xs, rfl, hs, g⟩ := dp_tup p1
    refine ⟨p, xs, rfl, .inl (sqt_ov d1 hs), ?_⟩
    exact hr.run (G.mono s1 d1) hr2 _ fun vs H2 s2 d2 p2 => q _ H2 (s1.trans s2) d2 (dpa_append (dpa_mono s2 g) p2)
  · cases h
theorem st_par3 {i j l : Nat} (ha : ET K ta ma) (hb : ET K tb mb) (hc : ET K tc mc) : TSm K (tPar3 i j l (tCons ta (tCons tb (tCons tc tNil)))) (sPar3 i j l ma mb mc) := by
  refine ⟨fun {H0 T0 σ ρ H T f} G h E q => ?_⟩
  obtain ⟨x, hx, h⟩ := bind_some h
  obtain ⟨y, hy, h⟩ := bind_some h
  obtain ⟨z, hz, h⟩ := map_some h
  subst h
  refine ha.run G hx _ fun v H1 s1 d1 p1 => ?_
  refine hb.run (G.mono s1 d1) hy _ fun w H2 s2 d2 p2 => ?_
  refine hc.run (G.mono (s1.trans s2) d2) hz _ fun u H3 s3 d3 p3 => ⟨v, w, u, rfl, ?_⟩
  exact q _ H3 T ((((G.mono ((s1.trans s2).trans s3) d3).set (dp_mono (s2.trans s3) p1)).set (dp_mono s3 p2)).set p3)
end
end DD
namespace DD
variable [TabQ] [ExQ]
open PySem PySem.Spec PyProof.Rows L2
def fuelOf (i : Nat) (ρ : En) : Nat := match ρ[i]? with
  | some (some (.val (.int k))) => k.toNat + 1
  | _ => 1
end DD

set_option Elab.async false
set_option linter.all false
set_option maxRecDepth 100000
set_option maxHeartbeats 4000000
namespace DD
variable [TabQ] [ExQ]
open PySem PySem.Spec PyProof.Rows L2

/-! ### head, *rest = a row -/
section
variable {prog : Program} {w : World} {A : Around} {E : Value → Shared → Prop} {s : Shared}
theorem star_items {t : Addr} {items : Array Value} {Q : List Value → Shared → Prop} (hl : IsTup s.heap t items) (hh : A.handled = none) (h1 : 1 ≤ items.size) (hz : items.size ≤ sizeLine)
    (h : ∀ (h' : Heap) (tk : Nat), (∀ b o, s.heap.get? b = some o → h'.get? b = some o) → Q [items.toList.headD .none, .ref h'.objs.size] { s with heap := h'.push { cls := .type "list", data := .seq (items.toList.drop 1).toArray }, toks := tk }) :
    wpAny (model prog w) A (unpackItems (.ref t) 2 (some 1)) Q E s := by
  have hne : t ≠ s.heap.objs.size := by
    obtain ⟨o, ho, _⟩ := hl
    exact Nat.ne_of_lt (Heap.lt_size ho)
  unfold unpackItems notIterableAtAll
  refine wpAny_bind (wpAny_bind (wpAny_specialOf hl.typeIs slot_tuple_iter.lookup (wpAny_pure ?_)))
  simp only [Option.isNone_some, Bool.false_eq_true, if_false]
  refine wpAny_bind (wpAny_holding (iter_tuple hl ?_))
  refine wpAny_bind (wpAny_holding (draw_tuple hne 1 0 _ _ ⟨_, Heap.get?_push_size _ rfl, rfl, rfl⟩ (hl.push _) (by omega) fun g1 st1 same1 => ?_))
  have tup1 : IsTup g1 t items := (hl.push _).extBut same1.extBut hne
  have it1 := st1
  rw [Nat.zero_add] at it1
  obtain ⟨oi, hoi, _⟩ := id it1
  obtain ⟨ot, hot, _⟩ := id tup1
  have hd : List.take 1 (List.drop 0 items.toList) = [items.toList.headD .none] := by
    cases e : items.toList with
    | nil =>
      have hz0 : items.size = 0 := by simpa using congrArg List.length e
      omega
    | cons x r => rfl
  rw [hd]
  rw [if_neg (by show ¬ (1 < 1); omega)]
  refine wpAny_bind (wpAny_holding (PySem.W.kun_collect (s := { s with heap := g1 }) (T := "tuple_iterator") (.inr (.inr (.inr rfl))) (Walks.tuple (A := A.in1) hh s.heap.objs.size t hne items) (fun j u st => st.1.typeIs) (k := 1) h1 ⟨it1, tup1⟩ (Heap.lt_size hoi) (Heap.lt_size hot) (fun g2 tk keep2 => ?_) hz))
  have keep : ∀ b o, s.heap.get? b = some o → g2.get? b = some o := fun b o e => by
    have nb : b ≠ s.heap.objs.size := Nat.ne_of_lt (Heap.lt_size e)
    exact keep2 b o nb (same1.extBut b o nb (Heap.get?_push_of_some _ e))
  have len : (items.toList.drop 1).length = items.size - 1 := by rw [List.length_drop, Array.length_toList]
  show wpAny _ _ (if (items.toList.drop 1).length < 2 - 1 - 1 then _ else _) _ _ _
  rw [if_neg (by omega)]
  show wpAny _ _ (newList ((items.toList.drop 1).take ((items.toList.drop 1).length - (2 - 1 - 1))) >>= fun d => pure ([items.toList.headD .none] ++ [d] ++ (items.toList.drop 1).drop ((items.toList.drop 1).length - (2 - 1 - 1)))) _ _ _
  have e1 : (items.toList.drop 1).take ((items.toList.drop 1).length - (2 - 1 - 1)) = items.toList.drop 1 := List.take_of_length_le (by omega)
  have e2 : (items.toList.drop 1).drop ((items.toList.drop 1).length - (2 - 1 - 1)) = [] := List.drop_of_length_le (by omega)
  rw [e1, e2]
  refine wpAny_bind (wpAny_newList ?_ (by rw [len]; omega))
  exact wpAny_pure (h g2 tk keep)
end
/-- head, *rest = a tuple -/
def gHdRest (K : PySem.W.Frag) (g1 g2 : TG) : TG := fun v σ H Q => ∃ a x xs, v = .ref a ∧ SqT K H a (x :: xs) ∧ ∀ p, H p = none → g1 x σ (upd H p (.lst xs)) fun σ' H' => g2 (.ref p) σ' H' Q
theorem pg_headRest {X : Cx} {e1 e2 : Expr} {g1 g2 : TG} {k : Nat} {p1 pos : Pos} (hc : X.calm = true) (h1 : PG X e1 g1) (h2 : PG X e2 g2)
    (ha : assignEach [e1, .Starred e2 p1] X.env = [(false, assign e1 X.env), (true, assign e2 X.env)] := by rfl) : PG X (.Tuple [e1, .Starred e2 p1] k pos) (gHdRest X.K g1 g2) := by
  refine ⟨fun pins s σ H v u Q I r hw => ?_⟩
  obtain ⟨a, x, xs, e, hq, hw⟩ := hw
  subst e
  cases r
  obtain ⟨its, rv, ht, hz⟩ := I.tuple hq
  rw [PyProof.Rows.assign_Tuple]
  refine wpAny_bind (wpAny_standAt ?_)
  unfold unpack
  rw [ha]
  have hl := rv.length
  refine wpAny_bind (wpAny_holding (star_items ht (I.ok.hd hc) (by rw [List.size_toArray, ← hl]; simp) (by rw [List.size_toArray, ← hl]; exact hz) fun h' tk kp => ?_))
  cases rv with
  | cons r1 r2 =>
    rename_i u1 us
    have I1 : Inv X pins σ H { s with heap := h', toks := tk } := I.kept kp
    have nf : H h'.objs.size = none := I1.hok.fresh (Nat.le_refl _)
    have I2 : Inv X pins σ (upd H h'.objs.size (.lst xs)) { s with heap := h'.push { cls := .type "list", data := .seq (us : List Value).toArray }, toks := tk } :=
      I1.laid (a := h'.objs.size) (o := .lst xs) (h' := h'.push { cls := .type "list", data := .seq (us : List Value).toArray }) (t' := tk) (fun b o e => Heap.get?_push_of_some _ e) (Nat.le_refl _) ⟨Nat.le_trans (Nat.le_succ _) hz, us, 0, r2, Heap.get?_push_size _ rfl⟩
    show wpAny _ _ (assignInOrder [assign e1 X.env, assign e2 X.env] [u1, .ref h'.objs.size]) _ _ _
    refine assignInOrder_cons (thn (h1.run pins _ σ _ x u1 _ I2 r1 (hw _ nf)) fun _ s3 ⟨σ3, H3, I3, q3⟩ => ?_)
    refine assignInOrder_cons (thn (h2.run pins s3 σ3 H3 (.ref h'.objs.size) _ _ I3 rfl q3) fun _ s4 q4 => ?_)
    exact assignInOrder_nil q4
def gHeadRest (m1 m2 : D → En → Option En) (d : D) (ρ : En) : Option En := match d with
  | .tuple (x :: xs) => (m1 x ρ).bind fun ρ1 => m2 (.list xs) ρ1
  | _ => none
section
variable {K : PySem.W.Frag}
theorem tg_headRest {vs : List Nat} {g1 g2 : TG} {m1 m2 : D → En → Option En} (h1 : TGm K vs g1 m1) (h2 : TGm K vs g2 m2) : TGm K vs (gHdRest K g1 g2) (gHeadRest m1 m2) := by
  refine ⟨fun {H0 T0 σ ρ ρ2 H T v d} G g h Q q => ?_⟩
  unfold gHeadRest at h
  split at h
  · rename_i y ys
    obtain ⟨ρ1, e1, h⟩ := bind_some h
    obtain ⟨a, xs, rfl, hs, ga⟩ := dp_tup g
    cases ga with
    | cons gx gr =>
      rename_i x xs
      refine ⟨a, _, _, rfl, sqt_ov G.dis hs, fun p np => ?_⟩
      obtain ⟨nT, nH⟩ := ov_free np
      rw [upd_ov nT]
      have sn : Same H (upd H p (.lst xs)) := same_new nH
      refine h1.run (G.mono sn (dis_upd G.dis nT nH)) (dp_mono sn gx) e1 _ fun σ3 H3 G3 s3 w3 => ?_
      refine h2.run G3 (dp_mono s3 (.lst (SqL.of upd_same) (dpa_mono sn gr))) h _ fun σ4 H4 G4 s4 w4 => ?_
      exact q σ4 H4 G4 ((sn.trans s3).trans s4) (w4.trans w3)
  · cases h
theorem tg_lst {vs : List Nat} {n : Nat} {gs : TGs} {mr : List D → En → Option En} (h : TGsm K vs gs mr) : TGm K vs (gLst K n gs) (gLstM n mr) := by
  refine ⟨fun {H0 T0 σ ρ ρ2 H T v d} G g e Q q => ?_⟩
  unfold gLstM at e
  split at e
  · split at e
    · rename_i hn
      obtain ⟨p, xs, rfl, hs, ga⟩ := dp_lst g
      exact ⟨p, xs, rfl, sql_ov G.dis hs, by rw [dpa_len ga]; exact hn, h.run G ga e Q q⟩
    · cases e
  · cases e
end
end DD

set_option Elab.async false
set_option linter.all false
set_option maxRecDepth 100000
set_option maxHeartbeats 4000000
namespace DD
variable [TabQ] [ExQ]
open PySem PySem.Spec PyProof.Rows L2

/-! ### zip of two, each a list or a tuple (b: it is a tuple) -/
def SqB (b : Bool) (K : PySem.W.Frag) (H : Hp) (a : Addr) (xs : List V) : Prop := if b = true then SqT K H a xs else SqL K H a xs
def HpB (b : Bool) (h : Heap) (a : Addr) (its : Array Value) : Prop := if b = true then h.IsTuple a its else h.IsList a its
def AtB (b : Bool) (h : Heap) (it a : Addr) (i : Nat) : Prop := if b = true then h.IsTupleIter it a i else h.IsListIter it a i
theorem HpB.at {b : Bool} {h h' : Heap} {a : Addr} {its : Array Value} (x : HpB b h a its) (k : ∀ o, h.get? a = some o → h'.get? a = some o) : HpB b h' a its := by
  cases b
  · exact Heap.IsList.at x k
  · exact Heap.IsTuple.at x k
theorem AtB.at {b : Bool} {h h' : Heap} {it a : Addr} {i : Nat} (x : AtB b h it a i) (k : ∀ o, h.get? it = some o → h'.get? it = some o) : AtB b h' it a i := by
  cases b
  · exact Heap.IsListIter.at x k
  · exact Heap.IsTupleIter.at x k
theorem SqB.get {b : Bool} {X : Cx} {pins : List (Addr × Obj)} {σ : L2.St} {H : Hp} {s : Shared} {a : Addr} {xs : List V} (I : Inv X pins σ H s) (h : SqB b X.K H a xs) : ∃ its : List Value, Vals xs its ∧ HpB b s.heap a its.toArray := by
  cases b
  · obtain ⟨its, rv, p, _⟩ := I.list h
    exact ⟨its, rv, p.isList⟩
  · obtain ⟨its, rv, p, _⟩ := I.tuple h
    exact ⟨its, rv, p⟩
theorem SqB.inj {b : Bool} {X : Cx} {pins : List (Addr × Obj)} {σ : L2.St} {H : Hp} {s : Shared} {a : Addr} {xs ys : List V} (I : Inv X pins σ H s) (h : SqB b X.K H a xs) (h' : SqB b X.K H a ys) : xs = ys := by
  cases b
  · exact I.list_inj h h'
  · exact I.tuple_inj h h'
theorem HpB.lt {b : Bool} {h : Heap} {a : Addr} {its : Array Value} (x : HpB b h a its) : a < h.objs.size := by
  cases b
  · obtain ⟨o, ho, _⟩ : h.IsList a its := x
    exact Heap.lt_size ho
  · obtain ⟨o, ho, _⟩ : h.IsTuple a its := x
    exact Heap.lt_size ho
theorem drawsB {prog : Program} {w : World} {A : Around} (b : Bool) (hh : A.handled = none) (it a : Addr) (hne : a ≠ it) (its : Array Value) :
    Draws prog w A it [it, a] its.size (fun i v => its[i]? = some v) (fun i h => AtB b h it a i ∧ HpB b h a its) := by
  cases b
  · exact Draws.list hh it a hne its
  · exact Draws.tuple hh it a hne its
def beB (b : Bool) (a : Addr) : Obj := { cls := .type (if b = true then "tuple_iterator" else "list_iterator"), data := .fields #[.ref a, .int 0 0] }
theorem beginsB (b : Bool) (a : Addr) (its : Array Value) : Begins (.ref a) (beB b a) fun h => HpB b h a its := by
  cases b
  · exact begins_list a its
  · exact begins_tuple a its
theorem beB_at {b : Bool} {h : Heap} {it a : Addr} (e : h.get? it = some (beB b a)) : AtB b h it a 0 := by
  cases b
  · exact ⟨_, e, rfl, rfl⟩
  · exact ⟨_, e, rfl, rfl⟩
theorem atB_obj {b : Bool} {h : Heap} {it a : Addr} {i : Nat} (x : AtB b h it a i) : ∃ o, h.get? it = some o ∧ ∀ v, o.data ≠ .cell v := by
  cases b
  · obtain ⟨o, e, _, d⟩ : h.IsListIter it a i := x
    exact ⟨o, e, fun v q => by rw [d] at q; cases q⟩
  · obtain ⟨o, e, _, d⟩ : h.IsTupleIter it a i := x
    exact ⟨o, e, fun v q => by rw [d] at q; cases q⟩
theorem apartB {b : Bool} {h : Heap} {a it : Addr} {its : Array Value} {i : Nat} (p : HpB b h a its) (q : AtB b h it a i) : a ≠ it := fun e => by
  subst e
  cases b
  · obtain ⟨o, ho, hc1, _⟩ : h.IsList a its := p
    obtain ⟨o', ho', hc2, _⟩ : h.IsListIter a a i := q
    have e := Option.some.inj (ho.symm.trans ho')
    subst e
    exact absurd (hc1.symm.trans hc2) (by decide +kernel)
  · obtain ⟨o, ho, hc1, _⟩ : h.IsTuple a its := p
    obtain ⟨o', ho', hc2, _⟩ : h.IsTupleIter a a i := q
    have e := Option.some.inj (ho.symm.trans ho')
    subst e
    exact absurd (hc1.symm.trans hc2) (by decide +kernel)
def Izz (K : PySem.W.Frag) (b1 b2 : Bool) (a b : Addr) : It :=
  ⟨fun i H => ∃ (xs ys : List V) (x y : V), SqB b1 K H a xs ∧ SqB b2 K H b ys ∧ xs[i]? = some x ∧ ys[i]? = some y,
    fun i H v H' => ∃ T x y, v = .ref T ∧ H T = none ∧ H' = upd H T (.tup [x, y]) ∧ (∀ xs, SqB b1 K H a xs → xs[i]? = some x) ∧ ∀ ys, SqB b2 K H b ys → ys[i]? = some y,
    fun i H => ∃ xs ys : List V, SqB b1 K H a xs ∧ SqB b2 K H b ys ∧ i = min xs.length ys.length⟩
theorem turn_zz {P : Program} {w : World} {K : PySem.W.Frag} {elts : List Expr} {kk : Nat} {tpos : Pos} {b1 b2 : Bool} {a b z TI TO i1 i2 : Addr} (D : ZipSep2 z TI TO i1 i2 [i1, a] [i2, b]) :
    Turn P w K (.Tuple elts kk tpos) (Izz K b1 b2 a b) [z, TI, TO, i1, i2] z (fun i h => IsZip h z TI TO .none ∧ IsTupOf2 h TI (.ref i1) (.ref i2) ∧ (∃ x y, IsTupOf2 h TO x y) ∧ AtB b1 h i1 a i ∧ AtB b2 h i2 b i) where
  mem := by simp
  obj := fun i h st c hc => by
    obtain ⟨hz, hTI, ⟨x, y, hTO⟩, h1, h2⟩ := st
    simp only [List.mem_cons, List.not_mem_nil, or_false] at hc
    rcases hc with rfl | rfl | rfl | rfl | rfl
    · exact ⟨_, hz, fun v q => nomatch q⟩
    · exact ⟨_, hTI, fun v q => nomatch q⟩
    · exact ⟨_, hTO, fun v q => nomatch q⟩
    · exact atB_obj h1
    · exact atB_obj h2
  keep := fun i h h' st k => by
    obtain ⟨hz, hTI, ⟨x, y, hTO⟩, h1, h2⟩ := st
    exact ⟨k z (by simp) _ hz, k TI (by simp) _ hTI, ⟨x, y, k TO (by simp) _ hTO⟩, h1.at fun o q => k i1 (by simp) o q, h2.at fun o q => k i2 (by simp) o q⟩
  item := by
    intro X hP hw hK hc i pins s σ H E I hf st hg
    subst hP hw hK
    obtain ⟨hz, hTI, ⟨x0, y0, hTO⟩, h1, h2⟩ := st
    obtain ⟨xs, ys, x, y, hqx, hqy, hx, hy⟩ := hg
    obtain ⟨its, rv, p⟩ := hqx.get I
    obtain ⟨its2, rv2, p2⟩ := hqy.get I
    obtain ⟨u, hu, ru⟩ := rv.get hx
    obtain ⟨u2, hu2, ru2⟩ := rv2.get hy
    have hzl : z < s.heap.objs.size := Heap.lt_size hz
    have na : a ≠ i1 := apartB p h1
    have nb : b ≠ i2 := apartB p2 h2
    have hh : X.A.in1.handled = none := I.ok.hd hc
    have j1 : i < its.toArray.size := by obtain ⟨q, _⟩ := List.getElem?_eq_some_iff.mp hu; simpa using q
    have j2 : i < its2.toArray.size := by obtain ⟨q, _⟩ := List.getElem?_eq_some_iff.mp hu2; simpa using q
    refine wpAny_pyNext_zipD2_item D (drawsB b1 hh i1 a na its.toArray) (drawsB b2 hh i2 b nb its2.toArray) hz hTI hTO ⟨h1, p⟩ ⟨h2, p2⟩ j1 j2 fun x1 x2 h' tk e1 e2 z' TO' h1' h2' hT hsz hk => ?_
    have e3 : x1 = u := by
      have : its.toArray[i]? = some u := by simpa using hu
      rw [this] at e1; exact (Option.some.inj e1).symm
    have e4 : x2 = u2 := by
      have : its2.toArray[i]? = some u2 := by simpa using hu2
      rw [this] at e2; exact (Option.some.inj e2).symm
    subst e3 e4
    refine ⟨_, rfl, wpAny_letOwnedTupleGo_zip (s := { s with heap := h', toks := tk }) z' fun h'' z'' sb => ?_⟩
    have hT2 : h''.get? s.heap.objs.size = some { cls := .type "tuple", data := .seq #[x1, x2] } := (sb.2 _ (Nat.ne_of_gt hzl)).trans hT
    have new : ObjOk X.prog X.w (upd H s.heap.objs.size (.tup [x, y])) h'' s.heap.objs.size (.tup [x, y]) :=
      ⟨by show 2 ≤ sizeLine; decide, [x1, x2], .cons ru (.cons ru2 .nil), ⟨_, hT2, rfl, _, rfl⟩⟩
    have I1 : Inv X pins σ (upd H s.heap.objs.size (.tup [x, y])) { s with heap := h'', toks := tk } :=
      I.turnedNew (t' := tk) (ch := [z, TI, TO, i1, i2]) (fun c o hb q => (sb.2 c (fun q' => hb (by simp [q']))).trans (hk c o (fun q' => hb (by simp [q'])) (fun q' => hb (by simp [q'])) (fun q' => hb (by simp [q'])) (fun q' => hb (by simp [q'])) q)) hf (Nat.le_refl _) new
    refine ⟨.ref s.heap.objs.size, _, I1, rfl, ⟨_, x, y, rfl, I.hok.fresh (Nat.le_refl _), rfl, fun l hl => by rw [hl.inj I hqx]; exact hx, fun l hl => by rw [hl.inj I hqy]; exact hy⟩, ⟨z'', ?_, ⟨x1, x2, ?_⟩, ?_, ?_⟩, fun c hcm => ?_⟩
    · exact (sb.2 _ D.TIz).trans (hk _ _ D.TIz D.TITO D.TIi1 D.TIi2 hTI)
    · exact (sb.2 _ D.TOz).trans TO'
    · exact h1'.1.at fun o q => (sb.2 _ D.zi1.symm).trans q
    · exact h2'.1.at fun o q => (sb.2 _ D.zi2.symm).trans q
    · have hlt : c < s.heap.objs.size := by
        obtain ⟨o1, w1, _⟩ := atB_obj h1
        obtain ⟨o2, w2, _⟩ := atB_obj h2
        simp only [List.mem_cons, List.not_mem_nil, or_false] at hcm
        rcases hcm with q | q | q | q | q
        · rw [q]; exact hzl
        · rw [q]; exact Heap.lt_size hTI
        · rw [q]; exact Heap.lt_size hTO
        · rw [q]; exact Heap.lt_size w1
        · rw [q]; exact Heap.lt_size w2
      rw [upd_ne (Nat.ne_of_lt hlt)]
      exact (hf c hcm).1
  done := by
    intro X hP hw hK hc i pins s σ H E I hf st hg
    subst hP hw hK
    obtain ⟨hz, hTI, ⟨x0, y0, hTO⟩, h1, h2⟩ := st
    obtain ⟨xs, ys, hqx, hqy, hend⟩ := hg
    obtain ⟨its, rv, p⟩ := hqx.get I
    obtain ⟨its2, rv2, p2⟩ := hqy.get I
    have l1 := rv.length
    have l2 := rv2.length
    have na : a ≠ i1 := apartB p h1
    have nb : b ≠ i2 := apartB p2 h2
    have hh : X.A.in1.handled = none := I.ok.hd hc
    refine wpAny_pyNext_zipD2_end D (drawsB b1 hh i1 a na its.toArray) (drawsB b2 hh i2 b nb its2.toArray) hz hTI hTO ⟨h1, p⟩ ⟨h2, p2⟩ (by simp; omega) (by simp; omega) (by simp; omega)
      fun h' tk hk => ⟨rfl, I.turnedL (t' := tk) (ch := [z, TI, TO, i1, i2]) (fun c o hb q => hk c o (fun q' => hb (by simp [q'])) (fun q' => hb (by simp [q'])) (fun q' => hb (by simp [q'])) (fun q' => hb (by simp [q'])) q) hf⟩
  self := fun A i s Q E st h => wpAny_pyIter_zip st.1 h
def iZz (K : PySem.W.Frag) (ta : TA) : TI := fun σ H R => ta σ H fun vs H1 => ∃ a b xs ys b1 b2, vs = [.ref a, .ref b] ∧ SqB b1 K H1 a xs ∧ SqB b2 K H1 b ys ∧ R (Izz K b1 b2 a b) H1
theorem pi_zipX {X : Cx} {e e2 : Expr} {ta : TA} {p pos tpos : Pos} {elts : List Expr} {kk : Nat} (hg : Gl X "zip") (hm : X.mg "zip" = none) (ha : PA X [e, e2] ta)
    (hs : starEach [e, e2] X.env = (false, eval e X.env) :: starEach [e2] X.env := by rfl) (hpl : (backTo pos (starEach [e2] X.env)).any (·.1) = false := by rfl) :
    PI X (.Tuple elts kk tpos) (.Call (.Name "zip" p) [e, e2] [] pos) (iZz X.K ta) := by
  refine ⟨fun pins s σ H R I h => ?_⟩
  refine Call_ (ld_blt I hg hm PyProof.Rows.boot_zip (PyProof.Rows.callWith_type1 (thn (ha.run pos pins s σ H _ I h) fun us s1 ⟨vs, H1, I1, r1, q1⟩ => ?_) hs hpl))
  obtain ⟨a, b, xs, ys, b1, b2, ex, hqx, hqy, q⟩ := q1
  subst ex
  cases r1 with
  | cons r rr =>
    cases rr with
    | cons r' rr =>
      cases rr
      cases r
      cases r'
      obtain ⟨its, rv, p1⟩ := hqx.get I1
      obtain ⟨its2, rv2, p2⟩ := hqy.get I1
      refine zip_begins2 (beginsB b1 a its.toArray) (beginsB b2 b its2.toArray) p1 p2 fun h' hz hTI hTO g1 g2 hsz hk => wpAny_pyIter_zip hz ?_
      have I2 : Inv X pins σ H1 { s1 with heap := h' } := I1.kept (t' := s1.toks) hk
      have D : ZipSep2 (s1.heap.objs.size + 4) (s1.heap.objs.size + 2) (s1.heap.objs.size + 3) s1.heap.objs.size (s1.heap.objs.size + 1) [s1.heap.objs.size, a] [s1.heap.objs.size + 1, b] :=
        zip_sep2 (fun c hc => by rw [List.mem_singleton.mp hc]; exact p1.lt) (fun c hc => by rw [List.mem_singleton.mp hc]; exact p2.lt)
      refine ⟨s1.heap.objs.size + 4, [s1.heap.objs.size + 4, s1.heap.objs.size + 2, s1.heap.objs.size + 3, s1.heap.objs.size, s1.heap.objs.size + 1], _, _, H1, rfl, I2, turn_zz D, ⟨hz, hTI, ⟨_, _, hTO⟩, beB_at g1, beB_at g2⟩, fun c hcm => ?_, q⟩
      have hle : s1.heap.objs.size ≤ c := by
        simp only [List.mem_cons, List.not_mem_nil, or_false] at hcm
        rcases hcm with e | e | e | e | e
        · rw [e]; exact Nat.le_add_right _ _
        · rw [e]; exact Nat.le_add_right _ _
        · rw [e]; exact Nat.le_add_right _ _
        · exact Nat.le_of_eq e.symm
        · rw [e]; exact Nat.le_add_right _ _
      exact I1.fpOk hle (I1.hok.fresh hle)

def pairs : List D → List D → List D
  | x :: xs, y :: ys => .tuple [x, y] :: pairs xs ys
  | _, _ => []
def seqD : D → Option (Bool × List D)
  | .list xs => some (false, xs)
  | .tuple xs => some (true, xs)
  | _ => none
def mZip (m : En → Option (List D)) : En → Option (List D) := fun ρ => (m ρ).bind fun ds => match ds with
  | [a, b] => (seqD a).bind fun x => (seqD b).map fun y => pairs x.2 y.2
  | _ => none
theorem pairs_len : ∀ xs ys : List D, (pairs xs ys).length = min xs.length ys.length
  | [], _ => by simp [pairs]
  | _ :: _, [] => by simp [pairs]
  | x :: xs, y :: ys => by simp [pairs, pairs_len xs ys]
theorem pairs_get : ∀ {xs ys : List D} {i : Nat} {d : D}, (pairs xs ys)[i]? = some d → ∃ x y, xs[i]? = some x ∧ ys[i]? = some y ∧ d = .tuple [x, y]
  | [], _, _, _, h => by simp [pairs] at h
  | _ :: _, [], _, _, h => by simp [pairs] at h
  | x :: xs, y :: ys, 0, d, h => by simp [pairs] at h; exact ⟨x, y, rfl, rfl, h.symm⟩
  | x :: xs, y :: ys, i + 1, d, h => by simp [pairs] at h; simpa using pairs_get h
theorem seqD_sq {K : PySem.W.Frag} {H : Hp} {v : V} {d : D} {b : Bool} {ds : List D} (h : Dp K H v d) (e : seqD d = some (b, ds)) : ∃ a xs, v = .ref a ∧ SqB b K H a xs ∧ DpAll K H xs ds := by
  cases d <;> simp [seqD] at e
  · obtain ⟨rfl, rfl⟩ := e
    obtain ⟨p, xs, rfl, hs, g⟩ := dp_lst h
    exact ⟨p, xs, rfl, hs, g⟩
  · obtain ⟨rfl, rfl⟩ := e
    obtain ⟨p, xs, rfl, hs, g⟩ := dp_tup h
    exact ⟨p, xs, rfl, hs, g⟩
theorem sqb_same {b : Bool} {K : PySem.W.Frag} {H H' : Hp} {a : Addr} {xs : List V} (e : Same H H') (h : SqB b K H a xs) : SqB b K H' a xs := by
  cases b
  · exact e.seq h
  · exact Same.sqt e h
theorem it_zipX {K : PySem.W.Frag} {ta : TA} {m : En → Option (List D)} (ha : TAm K ta m) : IT K (iZz K ta) (mZip m) := by
  refine ⟨fun {H0 T0 σ ρ H T ds} G h R q => ?_⟩
  obtain ⟨as, hx, h⟩ := bind_some h
  refine ha.run G hx _ fun vs H1 s1 d1 p1 => ?_
  split at h
  · rename_i da db
    obtain ⟨⟨b1, xs⟩, e1, h⟩ := bind_some h
    obtain ⟨⟨b2, ys⟩, e2, h⟩ := map_some h
    subst h
    obtain ⟨u, v, rfl, gu, gv⟩ := dpa_two p1
    obtain ⟨a, vx, rfl, hsx, gx⟩ := seqD_sq gu e1
    obtain ⟨b, vy, rfl, hsy, gy⟩ := seqD_sq gv e2
    have lx := dpa_len gx
    have ly := dpa_len gy
    refine ⟨a, b, vx, vy, b1, b2, rfl, sqb_same (same_ov d1) hsx, sqb_same (same_ov d1) hsy, q _ H1 s1 d1 ⟨fun {H T} i sm dis hi => ?_, fun {H T} sm dis => ?_, fun {H T} i {x Hc d} sm dis hd y => ?_⟩⟩
    · rw [pairs_len] at hi
      have i1 : i < vx.length := by rw [lx]; simp at hi; omega
      have i2 : i < vy.length := by rw [ly]; simp at hi; omega
      exact ⟨vx, vy, vx[i], vy[i], sqb_same (same_ov dis) (sqb_same sm hsx), sqb_same (same_ov dis) (sqb_same sm hsy), by simp [i1], by simp [i2]⟩
    · exact ⟨vx, vy, sqb_same (same_ov dis) (sqb_same sm hsx), sqb_same (same_ov dis) (sqb_same sm hsy), by rw [pairs_len, lx, ly]⟩
    · obtain ⟨p, xx, yy, rfl, np, rfl, ex, ey⟩ := y
      obtain ⟨dx, dy, hdx, hdy, rfl⟩ := pairs_get hd
      obtain ⟨wx, hwx, gwx⟩ := dpa_get gx hdx
      obtain ⟨wy, hwy, gwy⟩ := dpa_get gy hdy
      have := ex vx (sqb_same (same_ov dis) (sqb_same sm hsx))
      rw [hwx] at this
      cases this
      have := ey vy (sqb_same (same_ov dis) (sqb_same sm hsy))
      rw [hwy] at this
      cases this
      obtain ⟨nT, nH⟩ := ov_free np
      have sn : Same H (upd H p (.tup [xx, yy])) := same_new nH
      exact ⟨_, upd_ov nT, sn, dis_upd dis nT nH, .tup (.inl (.of upd_same)) (.cons (dp_mono sn (dp_mono sm gwx)) (.cons (dp_mono sn (dp_mono sm gwy)) .nil))⟩
  · cases h
end DD

set_option Elab.async false
set_option linter.all false
set_option maxRecDepth 100000
set_option maxHeartbeats 4000000
namespace DD
variable [TabQ] [ExQ]
open PySem PySem.Spec PyProof.Rows L2

/-! ### set(a list of ints), with what its order asks -/
section
variable {P : Program} {w : World} {A : Around} {E : Value → Shared → Prop} {s : Shared}
abbrev set0 (w : World) : Obj := { cls := .type "set", dict := none, data := .set #[] 0 (.fresh 0 0 (!w.params.followText "set-order")) }
/-- the step that fills the new set at N from the list at l -/
theorem fill_list {h0 : Heap} {l : Addr} {items : Array Value} (ns : List Int) (hh : A.handled = none) (hl : (h0.push (set0 w)).IsList l items) (hlt : l < h0.objs.size) (hi : IntsAre items.toList ns) (hb : ns.length + 1 < scanBound) {R : Result → Shared → Prop} {t : Shared} (ht : t.heap = h0.push (set0 w))
    (h : ∀ (h' : Heap) (tk c : Nat), SetR w h' h0.objs.size (fun j => decide (j ∈ ns)) c → c ≤ ns.length → (∀ b o, h0.get? b = some o → h'.get? b = some o) → R (.ok (.ret .none)) { t with heap := h', toks := tk }) :
    codeAny (model P w) A.in1.in1 (.builtin "set.update.loop" ⟨[.ref h0.objs.size, .ref (h0.push (set0 w)).objs.size], []⟩) R { t with heap := (h0.push (set0 w)).push { cls := .type "list_iterator", data := .fields #[.ref l, .int 0 0] } } := by
  have size1 : (h0.push (set0 w)).objs.size = h0.objs.size + 1 := Heap.size_push ..
  have len : items.size = ns.length := by
    have q := IntsAre.length hi
    rwa [Array.length_toList] at q
  have ne1 : l ≠ (h0.push (set0 w)).objs.size := by rw [size1]; exact Nat.ne_of_lt (Nat.lt_succ_of_lt hlt)
  have out : h0.objs.size ∉ [(h0.push (set0 w)).objs.size, l] := by
    rw [size1]
    intro m
    simp only [List.mem_cons, List.not_mem_nil, or_false] at m
    rcases m with m | m
    · exact absurd m (Nat.ne_of_lt (Nat.lt_succ_self _))
    · exact absurd m (Nat.ne_of_gt hlt)
  have at0 : ((h0.push (set0 w)).push { cls := .type "list_iterator", data := .fields #[.ref l, .int 0 0] }).get? h0.objs.size = some (set0 w) := Heap.get?_push_of_some _ (Heap.get?_push_size _ rfl)
  refine set_update_ints (P := P) (w := w) ((Walks.list (A := A.in1.in1.in1) (by simpa using hh) _ l ne1 items).toS) h0.objs.size out ns len hb (fun i v e => ?_) (items.size - 0) 0 _ (by omega) (Nat.zero_le _)
    ⟨⟨_, Heap.get?_push_size _ rfl, rfl, rfl⟩, hl.push _⟩ ⟨0, Nat.le_refl 0, setR_new_at at0⟩ fun s' c hm hc hS => ?_
  · have hil : i < ns.length := by rw [← len]; exact (Array.getElem?_eq_some_iff.mp e).1
    obtain ⟨tk, e2⟩ := IntsAre.int_at hi i v (by rw [Array.getElem?_toList]; exact e)
    refine ⟨ns[i], tk, List.getElem?_eq_getElem hil, ?_⟩
    rw [e2, List.getD_eq_getElem?_getD, List.getElem?_eq_getElem hil]
    rfl
  · obtain ⟨h', g', d', tk', os'⟩ := s'
    obtain rfl : g' = t.gens := hm.gens
    obtain rfl : d' = t.drawn := hm.drawn
    obtain rfl : os' = t.os := hm.os
    refine h h' tk' c hS (by rw [← len]; exact hc) fun b o e => hm.heap b o ?_ (Heap.get?_push_of_some _ (Heap.get?_push_of_some _ e))
    have lt := Heap.lt_size e
    rw [size1]
    intro m
    simp only [List.mem_cons, List.not_mem_nil, or_false] at m
    rcases m with m | m
    · exact absurd m (Nat.ne_of_lt lt)
    · exact absurd m (Nat.ne_of_lt (Nat.lt_succ_of_lt lt))
theorem call_setI {l : Addr} {items : Array Value} (ns : List Int) {Q : Value → Shared → Prop} (hh : A.handled = none) (hl : s.heap.IsList l items) (hit : IntsAre items.toList ns) (hb : ns.length + 1 < scanBound)
    (h : ∀ (h' : Heap) (tk c : Nat), SetR w h' s.heap.objs.size (fun j => decide (j ∈ ns)) c → c ≤ ns.length → (∀ b o, s.heap.get? b = some o → h'.get? b = some o) → Q (.ref s.heap.objs.size) { s with heap := h', toks := tk }) :
    wpAny (model P w) A (call (.type "set") [.ref l]) Q E s := by
  obtain ⟨c0, tl, hmro⟩ := F.called_set.mro
  have h0 := F.called_set.made
  have h1 := F.called_set.notType
  have h2 := F.called_set.canCreate
  have h3 := F.called_set.sub
  have h4 := F.typeCall_set_1 (.ref l)
  refine wpAny_call (codeAny_of_tree (show wpAny _ _ (callAny (.type "set") _) _ _ _ from wpAny_pure ⟨Code.quiet_builtin _ (by decide +kernel), codeAny_builtin F.entry_type_call ?_⟩))
  rw [Around.under_plain (weight_type_call_type "set" [.ref l] []) rfl]
  repeat (any_goals (first | assumption | wp_step))
  refine codeAny_mono (code_set_led1 (.ref l) (E := E) (Q₁ := fun obj s₁ => obj = .ref s.heap.objs.size ∧ s₁ = { s with heap := s.heap.push (set0 w) }) ⟨rfl, rfl⟩) fun r s₁ hr => ?_
  cases r with
  | error e => exact hr
  | ok fl =>
    cases fl with
    | ret obj =>
      obtain ⟨rfl, rfl⟩ := hr
      have at0 : (s.heap.push (set0 w)).get? s.heap.objs.size = some (set0 w) := Heap.get?_push_size _ rfl
      have ty : Shared.TypeIs { s with heap := s.heap.push (set0 w) } (.ref s.heap.objs.size) "set" := ⟨_, at0, rfl⟩
      have h5 := F.called_set.init.lookup
      have h6 := F.called_set.init.bind (.ref s.heap.objs.size)
      repeat (any_goals (first | assumption | wp_step))
      refine codeAny_mono (codeAny_call_builtin (R := wants (fun r s₂ => r = .none ∧ ∃ h' tk c, s₂ = { s with heap := h', toks := tk } ∧ SetR w h' s.heap.objs.size (fun j => decide (j ∈ ns)) c ∧ c ≤ ns.length ∧
          (∀ b o, s.heap.get? b = some o → h'.get? b = some o)) E) F.called_set.init.plain F.entry_set_init (check_set_init_1 ty ?_)) fun r₂ s₂ hr₂ => ?_
      · obtain ⟨⟨ocls, odict, odata, oslots⟩, hol, hcl, nl, hdl⟩ := hl
        simp only at hcl hdl
        subst hcl hdl
        have hol' : (s.heap.push (set0 w)).get? l = some { cls := .type "list", dict := odict, data := .seq items nl, slots := oslots } := Heap.get?_push_of_some _ hol
        have h7 := F.sub_list_set
        have h8 := F.sub_list_frozenset
        have h9 : (Value.type "list" == Value.type "dict") = false := by decide
        have hL : (s.heap.push (set0 w)).IsList l items := ⟨_, hol', rfl, nl, rfl⟩
        unfold Builtin.«set.__init__» noKeywords Builtin.Frozenset.updateFrom
        generalize hPI : pyIter = PI
        wp_walk
        subst hPI
        refine wpAny_pyIter_list hL (wpAny_bind (wpAny_runValue ?_))
        refine fill_list (A := A) (t := { s with heap := s.heap.push (set0 w) }) ns hh hL (Heap.lt_size hol) hit hb rfl fun h' tk c hS hc hk => ?_
        refine wpAny_pure ?_
        show wpAny _ _ (ret Value.none) _ _ _
        exact wpAny_pure ⟨rfl, h', tk, c, rfl, hS, hc, hk⟩
      · cases r₂ with
        | error e => exact hr₂
        | ok fl₂ =>
          cases fl₂ with
          | ret r =>
            obtain ⟨rfl, h', tk, c, rfl, hS, hc, hk⟩ := hr₂
            repeat (any_goals (first | assumption | wp_step))
            exact h _ _ _ hS hc hk
          | _ => exact hr₂.elim
    | _ => exact hr.elim
end
end DD

set_option Elab.async false
set_option linter.all false
set_option maxRecDepth 100000
set_option maxHeartbeats 4000000
namespace DD
variable [TabQ] [ExQ]
open PySem PySem.Spec PyProof.Rows L2

/-! ### l.extend(a tuple), a list + a list -/
theorem ext_tup (l : Addr) (items : Array Value) (n : Nat) (b : Addr) (items2 : Array Value) (n2 : Nat) (dd : Option Addr) (sl : Array (Option Value)) (c0 : ¬(!items.isEmpty && Builtin.List.listTooLong (items.size + items2.size)) = true) (c1 : items.size ≤ sizeLine) (c2 : items.size + items2.size ≤ sizeLine + 1) :
    Meets (Builtin.«list.extend» ⟨[.ref l, .ref b], []⟩) (fun _ R s => s.heap.get? l = some { cls := .type "list", dict := none, data := .seq items n, slots := #[] } ∧ s.heap.get? b = some { cls := .type "tuple", dict := dd, data := .seq items2 n2, slots := sl } ∧
      R (.ok (.ret Value.none)) { s with heap := s.heap.update l (Obj.mapSeq fun x => x ++ items2) }) :=
  .of_wp fun prog w A R s h => by
    obtain ⟨hp, g, d, tk, os⟩ := s
    obtain ⟨hl, hb, h⟩ := h
    have f1 := AutoSeq1.sub_tuple_tuple
    have f2 := AutoSeq1.sub_list_list
    have f3 := AutoSeq1.sub_tuple_list
    have f4 := AutoSeq1.sub_list_tuple
    have f5 : (items ++ items2).size ≤ sizeLine + 1 := by rw [Array.size_append]; exact c2
    wp_walk using (wpAny_updateSeq hl rfl (hz := c1) (_hz' := f5)), wpAny_loadPart' hl, wpAny_loadPart' hb
    exact ⟨_, rfl, h⟩
section
variable {X : Cx}
def rExtendA (K : PySem.W.Frag) : V → List V → Hp → VK → Prop := fun x vs H Q => ∃ l b xs zs, x = .ref l ∧ vs = [.ref b] ∧ H l = some (.lst xs) ∧ SqT K H b zs ∧ xs.length + zs.length ≤ sizeLine ∧ Q .non (upd H l (.lst (xs ++ zs)))
theorem mt_extendA : MtM X "list.extend" (rExtendA X.K) := by
  intro pins s σ H x vs v us Q I rx rv h
  obtain ⟨l, b, xs, zs, rfl, rfl, hH, hB, hz, q⟩ := h
  cases rx
  obtain ⟨u, rfl, ru⟩ := rv.one
  cases ru
  obtain ⟨z, its, n, r, hl, e⟩ := I.lstM hH
  obtain ⟨its2, r2, ⟨⟨cls2, dd2, data2, sl2⟩, e2, hc2, n2, hd2⟩, z2⟩ := I.tuple hB
  simp only at hc2 hd2
  subst hc2 hd2
  have l2 := r2.length
  have sz : its.toArray.size + its2.toArray.size ≤ sizeLine := by rw [List.size_toArray, List.size_toArray]; omega
  have nl : ¬ (!its.toArray.isEmpty && Builtin.List.listTooLong (its.toArray.size + its2.toArray.size)) = true := by
    rw [notLongL sz, Bool.and_false]
    exact Bool.false_ne_true
  refine call_meets F.slot_list_extend ⟨_, e, rfl⟩ F.entry_list_extend (F.args_list_extend_2 _ _)
    (ext_tup l its.toArray n b its2.toArray n2 dd2 sl2 nl (by omega) (by omega)) ⟨e, e2, ?_⟩
  refine ⟨.non, _, I.lset (its' := its ++ its2) hH e (by simp) (r.append r2) ?_, rfl, q⟩
  rw [List.length_append]
  omega
def rCatX (K : PySem.W.Frag) : R2 := fun x y H Q => ∃ l b xs zs, x = .ref l ∧ y = .ref b ∧ SqL K H l xs ∧ SqL K H b zs ∧ xs.length + zs.length ≤ sizeLine ∧ ∀ p, H p = none → Q (.ref p) (upd H p (.lst (xs ++ zs)))
theorem op_catX : OpR X (binaryOp .Add) (rCatX X.K) := by
  intro pins s σ H x y v u Q I rx ry h
  obtain ⟨l, b, xs, zs, rfl, rfl, hH, hB, hz, q⟩ := h
  cases rx
  cases ry
  obtain ⟨its, r, ⟨⟨c1, dd1, data1, sl1⟩, n, e, hc1, hn1, hd1⟩, z1⟩ := I.list hH
  obtain ⟨its2, r2, ⟨⟨c2, dd2, data2, sl2⟩, n2, e2, hc2, hn2, hd2⟩, z2⟩ := I.list hB
  simp only at hc1 hd1 hc2 hd2
  subst hc1 hd1 hc2 hd2
  have l1 := r.length
  have l2 := r2.length
  refine concat_meets ⟨_, e, rfl⟩ ⟨_, e2, rfl⟩ noFill_list_add seq_list_add PySem.F.slot_list_add PySem.F.entry_list_add (PySem.F.args_list_add_2 _ _) (list_addW l b its.toArray its2.toArray n n2 dd1 dd2 sl1 sl2 (by simp; omega)) ⟨e, e2, ?_⟩
  have ea : its.toArray ++ its2.toArray = (its ++ its2).toArray := by simp
  rw [ea]
  exact ⟨.ref s.heap.objs.size, upd H s.heap.objs.size (.lst (xs ++ zs)), I.laid (t' := s.toks) (fun _ _ z => Heap.get?_push_of_some _ z) (Nat.le_refl _) ⟨by rw [List.length_append]; exact hz, its ++ its2, 0, r.append r2, Heap.get?_push_size _ rfl⟩, rfl, q _ (I.hok.fresh (Nat.le_refl _))⟩
end
section
variable {K : PySem.W.Frag}
def sExtendA (i : Nat) (a : En → Option D) : En → Option Fl := fun ρ => match ρ[i]? with
  | some (some (.own ds)) => (a ρ).bind fun x => match x with
    | .tuple es => if ds.length + es.length ≤ cap then some (.nx (ρ.set i (some (.own (ds ++ es))))) else none
    | _ => none
  | _ => none
theorem st_extendA {i : Nat} {te : TE} {ma : En → Option D} (ha : ET K te ma) : TSm K (tDrop (tBM K "list" (rExtendA K) (tVar i) (tCons te tNil))) (sExtendA i ma) := by
  refine ⟨fun {H0 T0 σ ρ H T f} G h E q => ?_⟩
  unfold sExtendA at h
  split at h
  · rename_i ds e
    obtain ⟨x, hx, h⟩ := bind_some h
    split at h
    · rename_i es
      split at h
      · rename_i hz
        cases h
        obtain ⟨p, xs, a, b, c, g⟩ := G.own i ds e
        refine ⟨.ref p, a, .inl ⟨rfl, xs, SqL.of (ov_own b)⟩, ?_⟩
        refine ha.run G hx _ fun v H1 s1 d1 p1 => ?_
        obtain ⟨pt, zs, rfl, hs, gz⟩ := dp_tup p1
        have G1 := G.mono s1 d1
        have gx := dpa_mono s1 g
        refine ⟨p, pt, xs, zs, rfl, rfl, ov_own b, sqt_ov d1 hs, ?_, ?_⟩
        · rw [dpa_len gx, dpa_len gz]
          exact cap_line hz
        · rw [upd_put]
          exact q _ H1 _ (G1.turn e a b (dpa_append gx gz))
      · cases h
    · cases h
  · cases h
def mCatV (a : En → Option D) (b : En → Option (List D)) : En → Option (List D) := fun ρ => (a ρ).bind fun x => (b ρ).bind fun y => match x with
  | .list xs => if xs.length + y.length ≤ cap then some (xs ++ y) else none
  | _ => none
theorem fl_catV {ta tb : TE} {ma : En → Option D} {mb : En → Option (List D)} (ha : ET K ta ma) (hb : FL K tb mb) : FL K (tOp (rCatX K) ta tb) (mCatV ma mb) := by
  refine ⟨fun {H0 T0 σ ρ H T out} G h Q q => ?_⟩
  obtain ⟨x, hx, h⟩ := bind_some h
  obtain ⟨y, hy, h⟩ := bind_some h
  refine ha.run G hx _ fun v H1 s1 d1 p1 => ?_
  refine hb.run (G.mono s1 d1) hy _ fun p xs H2 s2 d2 np g2 => ?_
  split at h
  · split at h
    · rename_i hz
      cases h
      obtain ⟨a, us, rfl, hs, gu⟩ := dp_lst (dp_mono s2 p1)
      obtain ⟨nT, nH⟩ := ov_free np
      have sn : Same H2 (upd H2 p (.lst xs)) := same_new nH
      rw [upd_ov nT]
      refine ⟨a, p, us, xs, rfl, rfl, sql_ov (dis_upd d2 nT nH) (sn.seq hs), sql_ov (dis_upd d2 nT nH) (.of upd_same), by rw [dpa_len gu, dpa_len g2]; exact cap_line hz, fun p2 np2 => ?_⟩
      obtain ⟨nT2, nH2⟩ := ov_free np2
      exact q p2 _ _ ((s1.trans s2).trans sn) (dis_upd d2 nT nH) np2 (dpa_append (dpa_mono sn gu) (dpa_mono sn g2))
    · cases h
  · cases h
theorem fl_cat {ta tb : TE} {ma mb : En → Option (List D)} (ha : FL K ta ma) (hb : FL K tb mb) : FL K (tOp (rCatX K) ta tb) (mCatL ma mb) := by
  refine ⟨fun {H0 T0 σ ρ H T out} G h Q q => ?_⟩
  obtain ⟨x, hx, h⟩ := bind_some h
  obtain ⟨y, hy, h⟩ := bind_some h
  refine fl_catV (ev_list ha) hb |>.run G (ds := out) ?_ Q q
  show ((ma ρ).map PyData.list).bind _ = _
  rw [hx]
  show (mb ρ).bind _ = _
  rw [hy]
  exact h
end
end DD

set_option Elab.async false
set_option linter.all false
set_option maxRecDepth 100000
set_option maxHeartbeats 4000000
namespace DD
variable [TabQ] [ExQ]
open PySem PySem.Spec PyProof.Rows L2

/-! ### sorted(set(ints)) -/
def ins1 (x : Int) : List Int → List Int
  | [] => [x]
  | y :: r => if x < y then x :: y :: r else if x = y then y :: r else y :: ins1 x r
def sset : List Int → List Int
  | [] => []
  | x :: r => ins1 x (sset r)
theorem ins1_mem {x z : Int} : ∀ {l : List Int}, z ∈ ins1 x l ↔ z = x ∨ z ∈ l
  | [] => by simp [ins1]
  | y :: r => by
    unfold ins1
    by_cases h : x < y
    · rw [if_pos h]; simp
    · rw [if_neg h]
      by_cases h2 : x = y
      · rw [if_pos h2]; subst h2; simp
      · rw [if_neg h2]
        simp only [List.mem_cons, ins1_mem (l := r)]
        exact ⟨fun q => by rcases q with q | q | q <;> simp [q], fun q => by rcases q with q | q | q <;> simp [q]⟩
theorem ins1_sorted {x : Int} : ∀ {l : List Int}, l.Pairwise (· < ·) → (ins1 x l).Pairwise (· < ·)
  | [], _ => by simp [ins1]
  | y :: r, h => by
    obtain ⟨h1, h2⟩ := List.pairwise_cons.mp h
    unfold ins1
    by_cases c : x < y
    · rw [if_pos c]
      refine List.pairwise_cons.mpr ⟨fun z hz => ?_, h⟩
      rcases List.mem_cons.mp hz with rfl | hz
      · exact c
      · exact Int.lt_trans c (h1 z hz)
    · rw [if_neg c]
      by_cases c2 : x = y
      · rw [if_pos c2]; exact h
      · rw [if_neg c2]
        refine List.pairwise_cons.mpr ⟨fun z hz => ?_, ins1_sorted h2⟩
        rcases ins1_mem.mp hz with rfl | hz
        · omega
        · exact h1 z hz
theorem sset_mem {z : Int} : ∀ {l : List Int}, z ∈ sset l ↔ z ∈ l
  | [] => Iff.rfl
  | x :: r => by
    show z ∈ ins1 x (sset r) ↔ _
    rw [ins1_mem, sset_mem (l := r), List.mem_cons]
theorem sset_sorted : ∀ (l : List Int), (sset l).Pairwise (· < ·)
  | [] => .nil
  | x :: r => ins1_sorted (sset_sorted r)
theorem lt_uniq : ∀ {a b : List Int}, a.Pairwise (· < ·) → b.Pairwise (· < ·) → (∀ z, z ∈ a ↔ z ∈ b) → a = b
  | [], [], _, _, _ => rfl
  | [], y :: r, _, _, h => absurd ((h y).mpr List.mem_cons_self) (by simp)
  | x :: r, [], _, _, h => absurd ((h x).mp List.mem_cons_self) (by simp)
  | x :: r, y :: t, ha, hb, h => by
    obtain ⟨a1, a2⟩ := List.pairwise_cons.mp ha
    obtain ⟨b1, b2⟩ := List.pairwise_cons.mp hb
    have e : x = y := by
      rcases List.mem_cons.mp ((h x).mp List.mem_cons_self) with e | e
      · exact e
      · rcases List.mem_cons.mp ((h y).mpr List.mem_cons_self) with e2 | e2
        · exact e2.symm
        · exact absurd (Int.lt_trans (b1 x e) (a1 y e2)) (Int.lt_irrefl _)
    subst e
    refine congrArg _ (lt_uniq a2 b2 fun z => ⟨fun q => ?_, fun q => ?_⟩)
    · rcases List.mem_cons.mp ((h z).mp (List.mem_cons_of_mem _ q)) with e | e
      · exact absurd (e ▸ a1 z q) (Int.lt_irrefl _)
      · exact e
    · rcases List.mem_cons.mp ((h z).mpr (List.mem_cons_of_mem _ q)) with e | e
      · exact absurd (e ▸ b1 z q) (Int.lt_irrefl _)
      · exact e
def intsD : List D → Option (List Int)
  | [] => some []
  | .int i :: r => (intsD r).map (i :: ·)
  | _ => none
theorem ints_some : ∀ {ds : List D} {ns : List Int}, intsD ds = some ns → ds = ns.map PyData.int
  | [], _, h => by cases h; rfl
  | d :: r, ns, h => by
    cases d <;> first | exact nomatch (show none = some ns from h) | skip
    obtain ⟨ms, e, h⟩ := map_some h
    subst h
    rw [ints_some e]; rfl
theorem ints_map : ∀ ns : List Int, intsD (ns.map PyData.int) = some ns
  | [] => rfl
  | i :: r => by show (intsD _).map _ = _; rw [ints_map r]; rfl
theorem dpa_ints_v {K : PySem.W.Frag} {H : Hp} : ∀ {ns : List Int} {vs : List V}, DpAll K H vs (ns.map PyData.int) → vs = ns.map V.int
  | [], _, h => by cases h; rfl
  | i :: r, _, h => by
    cases h with
    | cons a b => rw [dp_int a, dpa_ints_v b]; rfl
section
variable {X : Cx}
def tSortedSet (K : PySem.W.Frag) (ta : TE) : TE := fun σ H Q => ta σ H fun x H1 => ∃ (l : Addr) (ns : List Int), x = V.ref l ∧ SqL K H1 l (ns.map V.int) ∧ ns.length < 63 ∧ ∀ p, H1 p = none → Q (.ref p) (upd H1 p (.lst ((sset ns).map V.int)))
theorem pe_sortedSet {a : Expr} {ta : TE} {p p2 q pos : Pos} (hg : Gl X "sorted") (hm : X.mg "sorted" = none) (hg2 : Gl X "set") (hm2 : X.mg "set" = none) (ha : PE X a ta) (hc : X.calm = true := by rfl)
    (na : starEach [a] X.env = (false, eval a X.env) :: starEach [] X.env := by rfl) : PE X (.Call (.Name "sorted" p) [.Call (.Name "set" p2) [a] [] q] [] pos) (tSortedSet X.K ta) := by
  refine ⟨fun pins s σ H Q I h => ?_⟩
  refine Call_ (ld_blt I hg hm (by boot_by_name) ?_)
  refine PyProof.Rows.callWith_builtin1 (PyProof.Rows.args_cons ?_ rfl) rfl rfl
  refine Call_ (ld_blt I hg2 hm2 boot_set ?_)
  refine PyProof.Rows.callWith_type1 (PyProof.Rows.args_cons (thn (ha.run pins s σ H _ I h) fun v s1 ⟨x, H1, I1, r1, q1⟩ => PyProof.Rows.args_nil ?_) na) na rfl
  obtain ⟨l, ns, rfl, hq, hl, q1⟩ := q1
  cases r1
  obtain ⟨its, r, pl, hz⟩ := I1.list hq
  refine call_setI ns (I1.ok.hd hc) pl.isList (by simpa using r.ints) (by unfold scanBound; omega) fun h' tk c hS hcl hk => ?_
  refine PyProof.Rows.args_nil ?_
  have I2 : Inv X pins σ H1 { s1 with heap := h', toks := tk } := I1.kept fun b o e => hk b o e
  refine sorted_set hS (I2.ok.hd hc) (by omega) fun s' p out c2 ns2 k g o hp hg hi hs hm hln => ?_
  have e : ns2 = sset ns := lt_uniq hs (sset_sorted ns) fun z => by rw [hm, sset_mem]; simp
  subst e
  have hlen : ((sset ns).map V.int).length ≤ sizeLine := by rw [List.length_map, hln, sizeLine_eq]; omega
  have hn : H1 p = none := I2.hok.fresh hp
  have J : Inv X pins σ (upd H1 p (.lst ((sset ns).map V.int))) { { s1 with heap := h', toks := tk } with heap := s'.heap, gens := s'.gens, drawn := s'.drawn, toks := s'.toks } :=
    I2.call (ch := []) (Un.laid k hp hn) (I2.hok.laid k hp ⟨hlen, out.toList, c2, vals_of_ints hi, hg⟩) (by rw [g]; exact I2.bare) (fun _ z => nomatch z)
  have e : s' = { { s1 with heap := h', toks := tk } with heap := s'.heap, gens := s'.gens, drawn := s'.drawn, toks := s'.toks } := by
    cases s'
    cases s1
    cases o
    rfl
  rw [e]
  exact ⟨.ref p, _, J, rfl, q1 p hn⟩
end
section
variable {K : PySem.W.Frag}
def mSortedSet (a : En → Option D) : En → Option (List D) := fun ρ => (a ρ).bind fun x => match x with
  | .list ds => (intsD ds).bind fun ns => if ns.length < 63 then some ((sset ns).map PyData.int) else none
  | _ => none
theorem fl_sortedSet {ta : TE} {ma : En → Option D} (ha : ET K ta ma) : FL K (tSortedSet K ta) (mSortedSet ma) := by
  refine ⟨fun {H0 T0 σ ρ H T out} G h Q q => ?_⟩
  obtain ⟨x, hx, h⟩ := bind_some h
  refine ha.run G hx _ fun v H1 s1 d1 p1 => ?_
  split at h
  · obtain ⟨ns, e, h⟩ := bind_some h
    split at h
    · rename_i hz
      cases h
      cases ints_some e
      obtain ⟨a, us, rfl, hs, gu⟩ := dp_lst p1
      cases dpa_ints_v gu
      exact ⟨a, ns, rfl, sql_ov d1 hs, hz, fun p np => q p _ H1 s1 d1 np (dpa_ints _)⟩
    · cases h
  · cases h
end

/-! ### sorted(texts) -/
def leS (a b : Str) : Bool := !ltCps b.cps.toList a.cps.toList
def insS (x : Str) : List Str → List Str
  | [] => [x]
  | y :: r => if leS x y = true then x :: y :: r else y :: insS x r
def sortS : List Str → List Str
  | [] => []
  | x :: r => insS x (sortS r)
theorem leS_iff {a b : Str} : leS a b = true ↔ a.cps.toList ≤ b.cps.toList := by
  unfold leS
  rw [ltCps_eq, ← List.not_lt]
  simp
theorem leS_trans {a b c : Str} (h : leS a b = true) (g : leS b c = true) : leS a c = true := leS_iff.mpr (List.le_trans (leS_iff.mp h) (leS_iff.mp g))
theorem leS_total (a b : Str) : leS a b = true ∨ leS b a = true := by
  by_cases h : leS a b = true
  · exact .inl h
  · refine .inr ?_
    unfold leS at h ⊢
    rw [ltCps_eq] at h ⊢
    have h' : b.cps.toList < a.cps.toList := by simpa using h
    simpa using List.le_of_lt h'
theorem leS_anti {a b : Str} (h : leS a b = true) (g : leS b a = true) : a = b := by
  have e : a.cps.toList = b.cps.toList := List.le_antisymm (leS_iff.mp h) (leS_iff.mp g)
  obtain ⟨⟨x⟩⟩ := a
  obtain ⟨⟨y⟩⟩ := b
  cases e
  rfl
theorem insS_perm (x : Str) : ∀ l : List Str, (insS x l).Perm (x :: l)
  | [] => .refl _
  | y :: r => by
    unfold insS
    split
    · exact .refl _
    · exact ((insS_perm x r).cons y).trans (.swap x y r)
theorem sortS_perm : ∀ l : List Str, (sortS l).Perm l
  | [] => .refl _
  | x :: r => (insS_perm x (sortS r)).trans ((sortS_perm r).cons x)
theorem insS_sorted {x : Str} : ∀ {l : List Str}, l.Pairwise (fun a b => leS a b = true) → (insS x l).Pairwise (fun a b => leS a b = true)
  | [], _ => by simp [insS]
  | y :: r, h => by
    obtain ⟨h1, h2⟩ := List.pairwise_cons.mp h
    unfold insS
    split
    · rename_i c
      refine List.pairwise_cons.mpr ⟨fun z hz => ?_, h⟩
      rcases List.mem_cons.mp hz with rfl | hz
      · exact c
      · exact leS_trans c (h1 z hz)
    · rename_i c
      refine List.pairwise_cons.mpr ⟨fun z hz => ?_, insS_sorted h2⟩
      rcases List.mem_cons.mp ((insS_perm x r).mem_iff.mp hz) with rfl | hz
      · exact (leS_total z y).resolve_left c
      · exact h1 z hz
theorem sortS_sorted : ∀ l : List Str, (sortS l).Pairwise (fun a b => leS a b = true)
  | [] => .nil
  | x :: r => insS_sorted (sortS_sorted r)
theorem risingS_pw : ∀ {p : Str} {l : List Str}, risingS p l = true → (p :: l).Pairwise (fun a b => leS a b = true)
  | p, [], _ => List.pairwise_singleton _ _
  | p, x :: r, h => by
    have h' : (leS p x && risingS x r) = true := h
    obtain ⟨h1, h2⟩ := Bool.and_eq_true_iff.mp h'
    have ih := risingS_pw h2
    refine List.pairwise_cons.mpr ⟨fun z hz => ?_, ih⟩
    rcases List.mem_cons.mp hz with rfl | hz
    · exact h1
    · exact leS_trans h1 ((List.pairwise_cons.mp ih).1 z hz)
theorem sortedS_pw : ∀ {l : List Str}, sortedS l = true → l.Pairwise (fun a b => leS a b = true)
  | [], _ => .nil
  | _ :: _, h => risingS_pw h
theorem sortS_uniq {l ys : List Str} (h : ys.Perm l) (g : sortedS ys = true) : ys = sortS l :=
  List.Perm.eq_of_pairwise (fun a b _ _ x y => leS_anti x y) (sortedS_pw g) (sortS_sorted l) (h.trans (sortS_perm l).symm)
def strsD : List D → Option (List Str)
  | [] => some []
  | .str x :: r => (strsD r).map (x :: ·)
  | _ => none
theorem strs_some : ∀ {ds : List D} {ns : List Str}, strsD ds = some ns → ds = ns.map PyData.str
  | [], _, h => by cases h; rfl
  | d :: r, ns, h => by
    cases d <;> first | exact nomatch (show none = some ns from h) | skip
    obtain ⟨ms, e, h⟩ := map_some h
    subst h
    rw [strs_some e]; rfl
theorem dpa_strs {K : PySem.W.Frag} {H : Hp} : ∀ ns : List Str, DpAll K H (ns.map V.str) (ns.map PyData.str)
  | [] => .nil
  | x :: r => .cons (.str x) (dpa_strs r)
theorem dpa_strs_v {K : PySem.W.Frag} {H : Hp} : ∀ {ns : List Str} {vs : List V}, DpAll K H vs (ns.map PyData.str) → vs = ns.map V.str
  | [], _, h => by cases h; rfl
  | i :: r, _, h => by
    cases h with
    | cons a b => rw [dp_str a, dpa_strs_v b]; rfl
section
variable {K : PySem.W.Frag}
def dSortedS : List D → Option (List D)
  | [.list ds] => (strsD ds).bind fun ns => if ns.length < 64 then some ((sortS ns).map PyData.str) else none
  | _ => none
theorem cl_sortedS : CL K (rSortedS K) dSortedS := by
  refine ⟨?_⟩
  intro H T vs ds out dis g h Q q
  unfold dSortedS at h
  split at h
  · obtain ⟨ns, e, h⟩ := bind_some h
    split at h
    · rename_i hz
      cases h
      cases strs_some e
      obtain ⟨v, rfl, g2⟩ := dpa_one g
      obtain ⟨a, us, rfl, hs, gu⟩ := dp_lst g2
      cases dpa_strs_v gu
      refine ⟨a, ns, rfl, sql_ov dis hs, hz, fun ys p hp hs hn => ?_⟩
      cases sortS_uniq hp hs
      exact q p _ H (Same.refl H) dis hn (dpa_strs _)
    · cases h
  · cases h
end
end DD

set_option Elab.async false
set_option linter.all false
set_option maxRecDepth 100000
set_option maxHeartbeats 4000000
namespace DD
variable [TabQ] [ExQ]
open PySem PySem.Spec PyProof.Rows L2

/-! ### a dict of the top, as data -/
def deVs (f : Value → Option D) : List Value → Option (List D)
  | [] => some []
  | u :: r => match f u, deVs f r with
    | some d, some ds => some (d :: ds)
    | _, _ => none
def deF : Value → Option D
  | .none => some .none
  | .bool b => some (.bool b)
  | .int i _ => some (.int i)
  | .str x _ => some (.str x)
  | _ => none
def deV (K : PySem.W.Frag) : Nat → Value → Option D
  | n + 1, .ref a => match K.lookup a with
    | some ⟨.type c, _, .seq its _, _⟩ => match decide (c = "tuple") && decide (its.size ≤ 1000) with
      | true => (deVs (deV K n) its.toList).map PyData.tuple
      | false => none
    | _ => none
  | _, u => deF u
def dicD (K : PySem.W.Frag) : List DictEntry → Option (List (Str × D))
  | [] => some []
  | e :: r => match e.key, deV K 3 e.val, dicD K r with
    | .str x _, some d, some ds => some ((x, d) :: ds)
    | _, _, _ => none
def dicAt (K : PySem.W.Frag) (a : Addr) : Option (List (Str × D)) := match K.lookup a with
  | some ⟨_, _, .dict es _, _⟩ => dicD K es.toList
  | _ => none
theorem deVs_ok {K : PySem.W.Frag} {f : Value → Option D} (hf : ∀ (u : Value) {d : D}, f u = some d → ∃ v, RelV v u ∧ ∀ H, Dp K H v d) : ∀ (us : List Value) {ds : List D}, deVs f us = some ds → ∃ vs, Vals vs us ∧ ∀ H, DpAll K H vs ds
  | [], _, h => by cases h; exact ⟨[], .nil, fun _ => .nil⟩
  | u :: r, ds, h => by
    unfold deVs at h
    split at h
    · rename_i d ds2 e1 e2
      cases h
      obtain ⟨v, rv, g⟩ := hf u e1
      obtain ⟨vs, rvs, gs⟩ := deVs_ok hf r e2
      exact ⟨v :: vs, .cons rv rvs, fun H => .cons (g H) (gs H)⟩
    · cases h
theorem deF_ok {K : PySem.W.Frag} (u : Value) {d : D} (h : deF u = some d) : ∃ v, RelV v u ∧ ∀ H, Dp K H v d := by
  cases u with
  | none => cases h; exact ⟨.non, rfl, fun _ => .non⟩
  | bool b => cases h; exact ⟨.bl b, rfl, fun _ => .bl b⟩
  | int i t => cases h; exact ⟨.int i, ⟨t, rfl⟩, fun _ => .int i⟩
  | str x t => cases h; exact ⟨.str x, ⟨t, rfl⟩, fun _ => .str x⟩
  | _ => cases h
theorem deV_ok {K : PySem.W.Frag} : ∀ (n : Nat) (u : Value) {d : D}, deV K n u = some d → ∃ v, RelV v u ∧ ∀ H, Dp K H v d
  | 0, u, _, h => by
    refine deF_ok u ?_
    unfold deV at h
    exact h
  | n + 1, u, d, h => by
    cases u with
    | ref a =>
      unfold deV at h
      split at h
      · rename_i c od its k sl e
        split at h
        · rename_i e2
          obtain ⟨e3, e4⟩ := Bool.and_eq_true_iff.mp e2
          have e5 : c = "tuple" := of_decide_eq_true e3
          have e6 : its.size ≤ 1000 := of_decide_eq_true e4
          obtain ⟨ds, e7, h⟩ := map_some h
          subst h e5
          obtain ⟨vs, rv, g⟩ := deVs_ok (fun u {d} h => deV_ok n u h) its.toList e7
          exact ⟨.ref a, rfl, fun H => .tup (.inr ⟨_, its, k, e, rfl, rfl, Nat.le_trans e6 (by decide), rv⟩) (g H)⟩
        · cases h
      · cases h
    | _ => exact deF_ok _ (by unfold deV at h; exact h)
def kget (kvs : List (Str × D)) (z : Str) : Option D := match kvs.find? fun kv => kv.1 == z with
  | some kv => some kv.2
  | none => none
/-- at d: the dict of these keys and data -/
structure DictC (K : PySem.W.Frag) (w : World) (d : Addr) (kvs : List (Str × D)) : Prop where
  kd : ∃ es n, KDict K w d es n ∧ es.toList.map He.keyOf = He.keysIn w.params (kvs.map (·.1))
  hit : ∀ z x, kget kvs z = some x → ∃ u v, PySem.W.nsIn K d z = some (some u) ∧ RelV v u ∧ ∀ H, Dp K H v x
  miss : ∀ z, kget kvs z = none → PySem.W.nsIn K d z = some none
theorem dicD_hit {K : PySem.W.Frag} : ∀ {l : List DictEntry} {kvs : List (Str × D)}, dicD K l = some kvs → ∀ z : Str,
    (∀ x, kget kvs z = some x → ∃ e v, l.find? (·.key.isStr z) = some e ∧ RelV v e.val ∧ ∀ H, Dp K H v x) ∧ (kget kvs z = none → l.find? (·.key.isStr z) = none)
  | [], kvs, h, z => by
    cases h
    exact ⟨fun x h => by simp [kget] at h, fun _ => rfl⟩
  | e :: r, kvs, h, z => by
    unfold dicD at h
    split at h
    · rename_i x t d ds e1 e2 e3
      cases h
      obtain ⟨i1, i2⟩ := dicD_hit e3 z
      have ek : e.key.isStr z = (x == z) := by rw [e1]; rfl
      by_cases c : (x == z) = true
      · have g : kget ((x, d) :: ds) z = some d := by unfold kget; rw [List.find?_cons_of_pos (by exact c)]
        obtain ⟨v, rv, dv⟩ := deV_ok 3 e.val e2
        refine ⟨fun y hy => ?_, fun hn => by rw [g] at hn; cases hn⟩
        rw [g] at hy
        cases hy
        exact ⟨e, v, by rw [List.find?_cons_of_pos (by rw [ek]; exact c)], rv, dv⟩
      · have g : kget ((x, d) :: ds) z = kget ds z := by unfold kget; rw [List.find?_cons_of_neg (by exact c)]
        rw [g, List.find?_cons_of_neg (by rw [ek]; exact c)]
        exact ⟨i1, i2⟩
    · cases h
theorem dictC_of {K : PySem.W.Frag} {w : World} {a : Addr} {kvs : List (Str × D)} (h1 : He.dicW K a = some (He.keysIn w.params (kvs.map (·.1)))) (h2 : dicAt K a = some kvs) : DictC K w a kvs := by
  obtain ⟨es, n, kd⟩ := He.dicW_ok h1
  have e1 : es.toList.map He.keyOf = He.keysIn w.params (kvs.map (·.1)) := by
    unfold He.dicW at h1
    rw [kd.at_] at h1
    simp only at h1
    split at h1
    · exact Option.some.inj h1
    · cases h1
  have e2 : dicD K es.toList = some kvs := by
    unfold dicAt at h2
    rw [kd.at_] at h2
    exact h2
  have nr : es.toList.any (·.refKey) = false := by
    rw [List.any_eq_false]
    intro e he
    obtain ⟨x, t, ek, _⟩ := PySem.W.KeysLit.all kd.lit e he
    simp [DictEntry.refKey, ek]
  refine ⟨⟨es, n, kd, e1⟩, fun z x hx => ?_, fun z hz => ?_⟩
  · obtain ⟨e, v, h3, rv, dv⟩ := (dicD_hit e2 z).1 x hx
    refine ⟨e.val, v, ?_, rv, dv⟩
    unfold PySem.W.nsIn
    rw [kd.at_]
    simp only
    rw [h3]
  · have h3 := (dicD_hit e2 z).2 hz
    unfold PySem.W.nsIn
    rw [kd.at_]
    simp only
    rw [h3]
    simp only
    rw [if_neg (by rw [nr]; exact Bool.false_ne_true)]
end DD

set_option Elab.async false
set_option linter.all false
set_option maxRecDepth 100000
set_option maxHeartbeats 4000000
namespace DD
variable [TabQ] [ExQ]
open PySem PySem.Spec PyProof.Rows L2

section
variable {X : Cx} {d : Addr} {kvs : List (Str × D)}
def rInK (K : PySem.W.Frag) (d : Addr) : R2 := fun x y H Q => ∃ (z : Str) (r : Option Value), x = .str z ∧ y = .ref d ∧ PySem.W.nsIn K d z = some r ∧ Q (.bl r.isSome) H
def rNotInK (K : PySem.W.Frag) (d : Addr) : R2 := fun x y H Q => ∃ (z : Str) (r : Option Value), x = .str z ∧ y = .ref d ∧ PySem.W.nsIn K d z = some r ∧ Q (.bl (!r.isSome)) H
theorem op_inK (D : DictC X.K X.w d kvs) : OpR X (compareOp .In) (rInK X.K d) := let ⟨_, _, k, _⟩ := D.kd; op_in_kd k
theorem op_notInK (D : DictC X.K X.w d kvs) : OpR X (compareOp .NotIn) (rNotInK X.K d) := let ⟨_, _, k, _⟩ := D.kd; op_notIn_kd k
def rGetK (K : PySem.W.Frag) (d : Addr) : R2 := fun x y H Q => ∃ (z : Str) (u : Value) (v : V), x = .ref d ∧ y = .str z ∧ PySem.W.nsIn K d z = some (some u) ∧ RelV v u ∧ Q v H
theorem ix_getK (D : DictC X.K X.w d kvs) : IxR X (rGetK X.K d) := by
  obtain ⟨es, n, k, _⟩ := D.kd
  intro value slice pins s σ H x y v u Q I rx ry h hs
  obtain ⟨z, u0, v0, rfl, rfl, e, r, q⟩ := h
  exact ix_kdict value slice pins s σ H _ _ v u Q I rx ry ⟨d, z, v0, rfl, rfl, ⟨es, n, u0, k.at_, k.lit, e, r⟩, q⟩ hs
def rSortedK (d : Addr) (ks : List Str) : List V → Hp → VK → Prop := fun vs H Q => vs = [V.ref d] ∧ ∀ (p : Addr), H p = none → Q (.ref p) (upd H p (.lst ((sortS ks).map V.str)))
theorem keys_of : ∀ {l : List DictEntry} {ks : List Str} {P : Params}, l.map He.keyOf = He.keysIn P ks → l.length = ks.length ∧ ∀ (j : Nat) (e : DictEntry), l[j]? = some e → ∃ x t, ks[j]? = some x ∧ e.key = .str x t
  | [], [], _, _ => ⟨rfl, fun j e h => by simp at h⟩
  | [], _ :: _, _, h => by cases h
  | _ :: _, [], _, h => by cases h
  | e :: l, k :: ks, P, h => by
    have h1 : He.keyOf e :: l.map He.keyOf = some (k, PyData.keyHash P k) :: He.keysIn P ks := h
    injection h1 with h2 h3
    obtain ⟨i1, i2⟩ := keys_of h3
    refine ⟨by simp [i1], fun j e' he => ?_⟩
    cases j with
    | zero =>
      have : e = e' := by simpa using he
      subst this
      unfold He.keyOf at h2
      split at h2
      · rename_i x t q
        obtain ⟨h5, _⟩ := Prod.mk.inj (Option.some.inj h2)
        exact ⟨x, t, by rw [h5]; rfl, q⟩
      · cases h2
    | succ j =>
      obtain ⟨x, t, a, b⟩ := i2 j e' (by simpa using he)
      exact ⟨x, t, by simpa using a, b⟩
end
section
variable {K : PySem.W.Frag} {w : World} {d : Addr} {kvs : List (Str × D)}
def dInK (kvs : List (Str × D)) : D → Option D
  | .str z => some (.bool (kget kvs z).isSome)
  | _ => none
def dNotInK (kvs : List (Str × D)) : D → Option D
  | .str z => some (.bool (!(kget kvs z).isSome))
  | _ => none
def dGetK (kvs : List (Str × D)) : D → Option D
  | .str z => kget kvs z
  | _ => none
theorem DictC.any (C : DictC K w d kvs) (z : Str) : ∃ r, PySem.W.nsIn K d z = some r ∧ r.isSome = (kget kvs z).isSome := by
  cases e : kget kvs z with
  | none => exact ⟨none, C.miss z e, rfl⟩
  | some x =>
    obtain ⟨u, v, h, _⟩ := C.hit z x e
    exact ⟨some u, h, rfl⟩
theorem ev_inK {ta : TE} {ma : En → Option D} (C : DictC K w d kvs) (ha : ET K ta ma) : ET K (tOp (rInK K d) ta (tC (.ref d))) (mUn (dInK kvs) ma) := by
  refine ⟨fun {H0 T0 σ ρ H T y} G h Q q => ?_⟩
  obtain ⟨x, hx, h⟩ := bind_some h
  refine ha.run G hx _ fun v H1 s1 d1 p1 => ?_
  unfold dInK at h
  split at h
  · rename_i z
    cases h
    obtain ⟨r, e1, e2⟩ := C.any z
    refine ⟨z, r, dp_str p1, rfl, e1, ?_⟩
    rw [e2]
    exact q _ H1 s1 d1 (.bl _)
  · cases h
theorem ev_notInK {ta : TE} {ma : En → Option D} (C : DictC K w d kvs) (ha : ET K ta ma) : ET K (tOp (rNotInK K d) ta (tC (.ref d))) (mUn (dNotInK kvs) ma) := by
  refine ⟨fun {H0 T0 σ ρ H T y} G h Q q => ?_⟩
  obtain ⟨x, hx, h⟩ := bind_some h
  refine ha.run G hx _ fun v H1 s1 d1 p1 => ?_
  unfold dNotInK at h
  split at h
  · rename_i z
    cases h
    obtain ⟨r, e1, e2⟩ := C.any z
    refine ⟨z, r, dp_str p1, rfl, e1, ?_⟩
    rw [e2]
    exact q _ H1 s1 d1 (.bl _)
  · cases h
theorem ev_getK {ta : TE} {ma : En → Option D} (C : DictC K w d kvs) (ha : ET K ta ma) : ET K (tOp (rGetK K d) (tC (.ref d)) ta) (mUn (dGetK kvs) ma) := by
  refine ⟨fun {H0 T0 σ ρ H T y} G h Q q => ?_⟩
  obtain ⟨x, hx, h⟩ := bind_some h
  refine ha.run G hx _ fun v H1 s1 d1 p1 => ?_
  unfold dGetK at h
  split at h
  · rename_i z
    obtain ⟨u, v0, e1, r, g⟩ := C.hit z y h
    exact ⟨z, u, v0, rfl, dp_str p1, e1, r, q _ H1 s1 d1 (g _)⟩
  · cases h
def mSortedK (ks : List Str) : En → Option (List D) := fun _ => some ((sortS ks).map PyData.str)
theorem fl_sortedK {ks : List Str} : FL K (tCB (rSortedK d ks) (tCons (tC (.ref d)) tNil)) (mSortedK ks) := by
  refine ⟨fun {H0 T0 σ ρ H T out} G h Q q => ?_⟩
  cases h
  exact ⟨rfl, fun p np => q p _ H (Same.refl H) G.dis np (dpa_strs _)⟩

/-! ### l.index(x) -/
def dIndex (x y : D) : Option D := match x with
  | .list ds => if (SeqAt.shaped (.list ds) && SeqAt.shaped y) = true then (ds.findIdx? fun z => PyData.eqv z y).map fun j => .int (j : Nat) else none
  | _ => none
theorem ev_index {ta tb : TE} {ma mb : En → Option D} (ha : ET K ta ma) (hb : ET K tb mb) : ET K (tBM K "list" (rIndexD K) ta (tCons tb tNil)) (mOp dIndex ma mb) := by
  refine ⟨fun {H0 T0 σ ρ H T out} G h Q q => ?_⟩
  obtain ⟨x, hx, h⟩ := bind_some h
  obtain ⟨y, hy, h⟩ := bind_some h
  refine ha.run G hx _ fun v H1 s1 d1 p1 => ?_
  unfold dIndex at h
  split at h
  · rename_i _ ds _
    split at h
    · rename_i hs
      obtain ⟨h1, h2⟩ := Bool.and_eq_true_iff.mp hs
      obtain ⟨j, hj, h⟩ := map_some h
      subst h
      obtain ⟨a, us, rfl, hq, gu⟩ := dp_lst p1
      refine ⟨.inl ⟨rfl, us, sql_ov d1 hq⟩, ?_⟩
      refine hb.run (G.mono s1 d1) hy _ fun v2 H2 s2 d2 p2 => ?_
      obtain ⟨jl, j1, j2⟩ := List.findIdx?_eq_some_iff_getElem.mp hj
      refine ⟨a, v2, y, ds, j, ds[j], rfl, rfl, dp_ov d2 (dp_mono s2 (.lst hq gu)), dp_ov d2 p2, h1, h2, List.getElem?_eq_getElem jl, j1, fun m z hm hz => ?_, q _ H2 (s1.trans s2) d2 (.int _)⟩
      have ml : m < ds.length := Nat.lt_trans hm jl
      rw [List.getElem?_eq_getElem ml] at hz
      cases hz
      simpa using j2 m hm
    · cases h
  · cases h
end

/-! ### sorted(a dict of the top) -/
section
variable {X : Cx} {d : Addr} {kvs : List (Str × D)}
theorem pairs_of {P : Program} {w : World} : ∀ {l : List DictEntry} {ks : List Str}, l.map He.keyOf = He.keysIn w.params ks → Pairs (strKind P w) l (ks.zip (l.map (·.val)))
  | [], [], _ => .nil
  | [], _ :: _, h => by cases h
  | _ :: _, [], h => by cases h
  | e :: l, k :: ks, h => by
    have h1 : He.keyOf e :: l.map He.keyOf = some (k, PyData.keyHash w.params k) :: He.keysIn w.params ks := h
    injection h1 with h2 h3
    refine .cons ?_ rfl (pairs_of h3)
    unfold He.keyOf at h2
    split at h2
    · rename_i x t q
      obtain ⟨h5, _⟩ := Prod.mk.inj (Option.some.inj h2)
      rw [q, h5]
      exact strKind_is P w k t
    · cases h2
theorem strsAre_at : ∀ {vs : List Value} {ks : List Str}, vs.length = ks.length → (∀ (j : Nat) (v : Value), vs[j]? = some v → ∃ x t, ks[j]? = some x ∧ v = .str x t) → StrsAre vs ks
  | [], [], _, _ => .nil
  | [], _ :: _, h, _ => by simp at h
  | _ :: _, [], h, _ => by simp at h
  | v :: vs, k :: ks, h, g => by
    obtain ⟨x, t, e, rfl⟩ := g 0 v rfl
    have e2 : k = x := by simpa using e
    subst e2
    exact .cons k t (strsAre_at (by simpa using h) fun j u hu => by simpa using g (j + 1) u (by simpa using hu))
theorem cr_sortedK (C : DictC X.K X.w d kvs) (h64 : (kvs.map (·.1)).length < 64) (hnd : (kvs.map (·.1)).Nodup) (hcalm : X.calm = true) : CallR X (.builtin "sorted") (rSortedK d (kvs.map (·.1))) := by
  obtain ⟨es, n, k, ek⟩ := C.kd
  obtain ⟨hl, hat⟩ := keys_of ek
  intro pins s σ H xs us Q I r q
  obtain ⟨ex, q⟩ := q
  subst ex
  rw [Vals.ref1 r]
  have hle : (kvs.map (·.1)).length ≤ (es.toList.map (·.val)).length := by rw [List.length_map (as := es.toList), hl]; exact Nat.le_refl _
  have hlv : ((kvs.map (·.1)).zip (es.toList.map (·.val))).length = (kvs.map (·.1)).length := by rw [List.length_zip, List.length_map (as := es.toList), hl]; exact Nat.min_self _
  have da : s.heap.DictAt (strKind X.prog X.w) d ((kvs.map (·.1)).zip (es.toList.map (·.val))) n := by
    refine ⟨_, es, I.kIn d _ k.at_, ⟨rfl, rfl, rfl⟩, rfl, fun e he => ?_, pairs_of ek, ?_⟩
    · obtain ⟨x, t, e1, e2⟩ := PySem.W.KeysLit.all k.lit e (Array.mem_toList_iff.mpr he)
      exact ⟨x, by rw [e1]; exact strKind_is X.prog X.w x t, e2⟩
    · rw [List.map_fst_zip hle]
      exact hnd
  refine Calls.call_function_entry PyProof.Rows.kind_sorted PyProof.Rows.plain_sorted PyProof.Rows.entry_sorted (PyProof.Rows.args_sorted1 _) ?_
  unfold Builtin.«sorted»
  refine wpAny_bind (m := checkCount "sorted" 1 1 _) (wpAny_pure ?_)
  refine wpAny_bind (PySem.W.kdu_collect (A := X.A.in1) (PySem.W.kdl_dict (knd := strKind X.prog X.w) (ep := n) k.low) (I.ok.hd hcalm) da (by rw [hlv, sizeLine_eq]; omega) fun h' tk acc hk hacc => ?_)
  have al : acc.toList.length = (kvs.map (·.1)).length := by rw [Array.length_toList, hacc.1, hlv]
  have sa : StrsAre acc.toList (kvs.map (·.1)) := strsAre_at al fun j v e => by
    obtain ⟨z, x, e1, e2⟩ := hacc.2 j v (by rw [← Array.getElem?_toList]; exact e)
    obtain ⟨t, ev⟩ := Value.isStrOf_shape (x := z) (v := v) e2
    refine ⟨z, t, ?_, ev⟩
    have e3 : (((kvs.map (·.1)).zip (es.toList.map (·.val))).map (·.1))[j]? = some z := by rw [List.getElem?_map, e1]; rfl
    rw [List.map_fst_zip hle] at e3
    exact e3
  have I1 : Inv X pins σ H { s with heap := h', toks := tk } := I.kept hk
  refine wpAny_bind (wpAny_newList ?_ (by rw [al, sizeLine_eq]; omega))
  have at0 : (h'.push (seqObj "list" acc.toList.toArray 0)).get? h'.objs.size = some (seqObj "list" acc.toList.toArray 0) := Heap.get?_push_size _ rfl
  show wpAny _ _ _ _ _ { s with heap := h'.push (seqObj "list" acc.toList.toArray 0), toks := tk }
  refine wpAny_bind (wpAny_holding (wpAny_call_entry PyProof.Rows.slot_list_sort ⟨_, at0, rfl⟩ PyProof.Rows.entry_list_sort
    (list_sort_treeK strKind_oneLt (s := { s with heap := h'.push (seqObj "list" acc.toList.toArray 0), toks := tk }) at0 sa.keysOf (fun v₁ v₂ rest e => keyKind_strs (by rw [← e]; exact sa)) (by rw [al]; exact h64) fun st' hp hs => ⟨_, rfl, ?_⟩)
    (PyProof.Rows.args_list_sort _)))
  obtain ⟨ys, g1, g2, g3⟩ := sorted_out_str sa hp hs
  cases sortS_uniq g2 g3
  obtain ⟨e', he'⟩ := PyProof.Rows.sortedHeap_at (vs := acc.toList) (out := (arrOf st').map (·.2)) at0
  have hlen : ((sortS (kvs.map (·.1))).map V.str).length ≤ sizeLine := by rw [List.length_map, g2.length_eq, sizeLine_eq]; omega
  refine wpAny_pure ⟨_, rfl, .ref h'.objs.size, upd H h'.objs.size (.lst ((sortS (kvs.map (·.1))).map V.str)), I1.laid (t' := tk) (fun b u e => ?_) (Nat.le_refl _)
    (show ObjOk X.prog X.w _ _ _ (.lst ((sortS (kvs.map (·.1))).map V.str)) from ⟨hlen, ((arrOf st').map (·.2)).toList, e', vals_of_strs g1, by rw [Array.toArray_toList]; exact he'⟩), rfl, q _ (I1.hok.fresh (Nat.le_refl _))⟩
  have lt : b < h'.objs.size := Heap.lt_size e
  rw [PyProof.Rows.sortedHeap_old (Nat.ne_of_lt lt) (by rw [Heap.size_push]; exact Nat.lt_succ_of_lt lt)]
  exact Heap.get?_push_of_some _ e
end
end DD

set_option Elab.async false
set_option linter.all false
set_option maxRecDepth 100000
set_option maxHeartbeats 4000000
namespace DD
variable [TabQ] [ExQ]
open PySem PySem.Spec PyProof.Rows L2

/-! ### a comprehension of two clauses -/
def noOwn (ρ : En) : Bool := ρ.all fun s => match s with
  | some (.own _) => false
  | _ => true
theorem noOwn_get {ρ : En} (h : noOwn ρ = true) {i : Nat} {ds : List D} (e : ρ[i]? = some (some (Sl.own ds))) : False := by
  have := List.all_eq_true.mp h _ (List.mem_of_getElem? e)
  cases this
def coll2 (g : D → En → Option En) (c : En → Option Bool) (it1 : En → Option (List D)) (g1 : D → En → Option En) (c1 : En → Option Bool) (e : En → Option D) (vs1 : List Nat) (ρ : En) : List D → Option (List D)
  | [] => some []
  | d :: ds => (g d ρ).bind fun ρ1 => (c ρ1).bind fun b => if b = true then
      (if noOwn ρ1 = true then (it1 ρ1).bind fun ds1 => (coll g1 c1 e (wipeM ρ1 vs1) ds1).bind fun r1 => (coll2 g c it1 g1 c1 e vs1 ρ ds).map fun r => r1 ++ r else none)
    else coll2 g c it1 g1 c1 e vs1 ρ ds
def mLc2 (it : En → Option (List D)) (g : D → En → Option En) (c : En → Option Bool) (it1 : En → Option (List D)) (g1 : D → En → Option En) (c1 : En → Option Bool) (e : En → Option D) (vs vs1 : List Nat) : En → Option (List D) :=
  fun ρ => (it ρ).bind fun ds => (coll2 g c it1 g1 c1 e vs1 (wipeM ρ vs) ds).bind fun r => if r.length ≤ cap then some r else none
section
variable {K : PySem.W.Frag}
theorem Good.reput {H0 H : Hp} {T0 T : Ov} {σ : L2.St} {ρ : En} {p : Addr} {xs ys : List V} (G : Good K H0 T0 σ ρ H (put T p xs)) (no : noOwn ρ = true) (hT : T p = none) (hT0 : T0 p = none) (hH : H p = none) : Good K H0 T0 σ ρ H (put T p ys) := by
  refine ⟨G.len, G.val, fun i ds h => (noOwn_get no h).elim, fun i j ds es q h => (noOwn_get no h).elim, ⟨fun a zs e => ?_, G.dis.tab⟩, fun a zs e => ?_, G.ex, G.exc⟩
  · by_cases z : a = p
    · rw [z]; exact hH
    · rw [put_ne z] at e
      exact G.dis a zs (by rw [put_ne z]; exact e)
  · have z : a ≠ p := fun z => by rw [z, hT0] at e; cases e
    have := G.ext a zs e
    rw [put_ne z] at this ⊢
    exact this
theorem fl_lc2 {wi wi1 : TI} {g g1 : TG} {tt tt1 : TT} {te : TE} {vs vs1 : List Nat} {mi mi1 : En → Option (List D)} {mg mg1 : D → En → Option En} {mc mc1 : En → Option Bool} {me : En → Option D}
    (hi : IT K wi mi) (hg : TGm K vs g mg) (ht : TTm K tt mc) (hi1 : IT K wi1 mi1) (hg1 : TGm K vs1 g1 mg1) (ht1 : TTm K tt1 mc1) (he : ET K te me) : FL K (tLc2 wi g tt wi1 g1 tt1 te vs vs1) (mLc2 mi mg mc mi1 mg1 mc1 me vs vs1) := by
  refine ⟨fun {H0 T0 σ ρ H T out} G h Q q => ?_⟩
  obtain ⟨ds, hd, h⟩ := bind_some h
  obtain ⟨out0, h, hz⟩ := bind_some h
  split at hz
  · rename_i hz0
    cases hz
    refine hi.run G hd _ fun J Hm s1 d1 w => ?_
    intro Dl hD
    obtain ⟨nT, nH⟩ := ov_free hD
    have nT0 : T0 Dl = none := by
      cases e : T0 Dl with
      | none => rfl
      | some zs => rw [G.ext Dl zs e] at nT; cases nT
    have fr : ∀ {H' : Hp} {acc : List V}, Dis H' (put T Dl acc) → Dis H' T ∧ H' Dl = none := fun {H' acc} d => ⟨⟨fun a xs e => by
      by_cases z : a = Dl
      · rw [z, nT] at e; cases e
      · exact d a xs (by rw [put_ne z]; exact e), d.tab⟩, d Dl acc put_same⟩
    refine ⟨fun i m Hc => i ≤ ds.length ∧ m = ds.length - i ∧ ∃ H1 acc as r, Hc = ov H1 (put T Dl acc) ∧ Same Hm H1 ∧ Dis H1 T ∧ H1 Dl = none ∧ DpAll K H1 acc as ∧ coll2 mg mc mi1 mg1 mc1 me vs1 (wipeM ρ vs) (ds.drop i) = some r ∧ out = as ++ r,
      ⟨ds.length, Nat.zero_le _, rfl, Hm, [], [], out, by rw [upd_put], Same.refl Hm, d1, nH, .nil, h, rfl⟩, ?_⟩
    rintro i m Hc ⟨hil, rfl, H1, acc, as, r, rfl, sm, dis, nD, ga, hc, eo⟩
    have dput : Dis H1 (put T Dl acc) := dis_put dis nD
    by_cases hlt : i < ds.length
    · have hge : ds[i]? = some ds[i] := List.getElem?_eq_getElem hlt
      rw [List.drop_eq_getElem_cons hlt] at hc
      obtain ⟨ρ2, h2, hc⟩ := bind_some hc
      obtain ⟨b, hb, hc⟩ := bind_some hc
      refine .inr ⟨w.go i sm dput hlt, fun Hc' => ∃ H1 acc as r, Hc' = ov H1 (put T Dl acc) ∧ Same Hm H1 ∧ Dis H1 T ∧ H1 Dl = none ∧ DpAll K H1 acc as ∧ coll2 mg mc mi1 mg1 mc1 me vs1 (wipeM ρ vs) (ds.drop (i + 1)) = some r ∧ out = as ++ r,
        fun Hc' ⟨H1, acc, as, r, a1, a2, a3, a4, a5, a7, a8⟩ => ⟨ds.length - (i + 1), by omega, by omega, rfl, H1, acc, as, r, a1, a2, a3, a4, a5, a7, a8⟩, fun x Hc' y => ?_⟩
      obtain ⟨H2, rfl, s2, d2, p2⟩ := w.yld i sm dput hge y
      have G2 : Good K H0 T0 (L2.wipe σ vs) (wipeM ρ vs) H2 (put T Dl acc) := (((G.mono s1 d1).wipe vs).more hD).mono (sm.trans s2) d2
      refine hg.run G2 p2 h2 _ fun σ3 H3 G3 s3 w3 => ⟨by rw [w3, wipe_wipe], ?_⟩
      refine ht.run G3 hb _ fun H4 s4 d4 => ?_
      have G4 := G3.mono s4 d4
      cases b with
      | true =>
        rw [if_pos rfl] at hc ⊢
        split at hc
        · rename_i no
          obtain ⟨ds1, hd1, hc⟩ := bind_some hc
          obtain ⟨r1, hr1, hc⟩ := bind_some hc
          obtain ⟨r2, hr2, hc⟩ := map_some hc
          subst hc
          refine hi1.run G4 hd1 _ fun J1 Hn s5 d5 w1 => ?_
          have G5 := G4.mono s5 d5
          have sB : Same H1 Hn := s2.trans ((s3.trans s4).trans s5)
          obtain ⟨dT5, dn5⟩ := fr d5
          refine ⟨fun j k Hc => j ≤ ds1.length ∧ k = ds1.length - j ∧ ∃ H1 acc as r, Hc = ov H1 (put T Dl acc) ∧ Same Hn H1 ∧ Dis H1 T ∧ H1 Dl = none ∧ DpAll K H1 acc as ∧ coll mg1 mc1 me (wipeM ρ2 vs1) (ds1.drop j) = some r ∧ out = as ++ (r ++ r2),
            ⟨ds1.length, Nat.zero_le _, rfl, Hn, acc, as, r1, rfl, Same.refl Hn, dT5, dn5, dpa_mono sB ga, hr1, eo⟩, ?_⟩
          rintro j k Hc ⟨hjl, rfl, K1, ac, bs, rr, rfl, sk, dk, nk, gk, hk, ek⟩
          have dputk : Dis K1 (put T Dl ac) := dis_put dk nk
          by_cases hjt : j < ds1.length
          · have hje : ds1[j]? = some ds1[j] := List.getElem?_eq_getElem hjt
            rw [List.drop_eq_getElem_cons hjt] at hk
            obtain ⟨ρ6, h6, hk⟩ := bind_some hk
            obtain ⟨b1, hb1, hk⟩ := bind_some hk
            refine .inr ⟨w1.go j sk dputk hjt, fun Hc' => ∃ H1 acc as r, Hc' = ov H1 (put T Dl acc) ∧ Same Hn H1 ∧ Dis H1 T ∧ H1 Dl = none ∧ DpAll K H1 acc as ∧ coll mg1 mc1 me (wipeM ρ2 vs1) (ds1.drop (j + 1)) = some r ∧ out = as ++ (r ++ r2),
              fun Hc' ⟨H1, acc, as, r, a1, a2, a3, a4, a5, a7, a8⟩ => ⟨ds1.length - (j + 1), by omega, by omega, rfl, H1, acc, as, r, a1, a2, a3, a4, a5, a7, a8⟩, fun x6 Hc6 y6 => ?_⟩
            obtain ⟨K2, rfl, s6, d6, p6⟩ := w1.yld j sk dputk hje y6
            have G6 : Good K H0 T0 (L2.wipe σ3 vs1) (wipeM ρ2 vs1) K2 (put T Dl ac) := ((((G5.reput no nT nT0 dn5 (ys := ac)).mono sk dputk).mono s6 d6).wipe vs1)
            refine hg1.run G6 p6 h6 _ fun σ7 K3 G7 s7 w7 => ⟨by rw [w7, wipe_wipe], ?_⟩
            refine ht1.run G7 hb1 _ fun K4 s8 d8 => ?_
            have G8 := G7.mono s8 d8
            cases b1 with
            | true =>
              rw [if_pos rfl] at hk ⊢
              obtain ⟨z, hz2, hk⟩ := bind_some hk
              obtain ⟨r', hr', hk⟩ := map_some hk
              refine he.run G8 hz2 _ fun v K5 s9 d9 p9 => ?_
              obtain ⟨dT, dn⟩ := fr d9
              have sQ : Same K1 K5 := s6.trans ((s7.trans s8).trans s9)
              refine ⟨ac, ov_own put_same, ?_, K5, ac ++ [v], bs ++ [z], r', by rw [upd_put, put_put], sk.trans sQ, dT, dn, dpa_snoc (dpa_mono sQ gk) p9, hr', ?_⟩
              · refine cap_lt (Nat.le_trans ?_ hz0)
                rw [dpa_len gk, ek, List.length_append]
                omega
              · rw [ek, ← hk, List.append_assoc]
                rfl
            | false =>
              rw [if_neg Bool.false_ne_true] at hk ⊢
              obtain ⟨dT, dn⟩ := fr d8
              have sQ : Same K1 K4 := s6.trans (s7.trans s8)
              exact ⟨K4, ac, bs, rr, rfl, sk.trans sQ, dT, dn, dpa_mono sQ gk, hk, ek⟩
          · have e : j = ds1.length := by omega
            subst e
            rw [List.drop_length] at hk
            cases hk
            refine .inl ⟨w1.stop sk dputk, K1, ac, bs, r2, rfl, ?_, dk, nk, gk, hr2, ?_⟩
            · exact sm.trans (sB.trans sk)
            · rw [ek]; rfl
        · cases hc
      | false =>
        rw [if_neg Bool.false_ne_true] at hc ⊢
        obtain ⟨dT, dn⟩ := fr d4
        exact ⟨H4, acc, as, r, rfl, sm.trans (s2.trans (s3.trans s4)), dT, dn, dpa_mono (s2.trans (s3.trans s4)) ga, hc, eo⟩
    · have e : i = ds.length := by omega
      subst e
      rw [List.drop_length] at hc
      cases hc
      rw [List.append_nil] at eo
      subst eo
      refine .inl ⟨w.stop sm dput, ?_⟩
      rw [← upd_put]
      have hfree : ov H1 T Dl = none := by rw [ov_none nT]; exact nD
      exact q Dl acc H1 (s1.trans sm) dis hfree ga
  · cases hz
end
end DD

set_option Elab.async false
set_option linter.all false
set_option maxRecDepth 100000
set_option maxHeartbeats 4000000
namespace DD
variable [TabQ] [ExQ]
open PySem PySem.Spec PyProof.Rows L2
/-! ### a dict of the top, from what the top's heap shows -/
def keyS (e : DictEntry) : Option Str := match e.key with
  | .str x _ => some x
  | _ => none
def Ents (K : PySem.W.Frag) : List (Option Str × Value) → Option (List (Str × D))
  | [] => some []
  | (k, v) :: r => match k, deV K 3 v, Ents K r with
    | some x, some d, some ds => some ((x, d) :: ds)
    | _, _, _ => none
theorem ents_nil {K : PySem.W.Frag} : Ents K [] = some [] := rfl
theorem ents_cons {K : PySem.W.Frag} {k : Str} {v : Value} {d : D} {l : List (Option Str × Value)} {ds : List (Str × D)} (h : deV K 3 v = some d) (r : Ents K l = some ds) : Ents K ((some k, v) :: l) = some ((k, d) :: ds) := by
  unfold Ents
  rw [h, r]
theorem deV_tup {K : PySem.W.Frag} {a : Addr} {od : Option Addr} {its : Array Value} {n : Nat} {sl : Array (Option Value)} {ds : List D} (t : K.lookup a = some ⟨.type "tuple", od, .seq its n, sl⟩) (z : its.size ≤ 1000) (u : deVs (deV K 2) its.toList = some ds) : deV K 3 (.ref a) = some (.tuple ds) := by
  unfold deV
  rw [t]
  show (match decide ("tuple" = "tuple") && decide (its.size ≤ 1000) with
      | true => (deVs (deV K 2) its.toList).map PyData.tuple
      | false => none) = _
  rw [decide_eq_true z, u]
  rfl
theorem dicD_ents {K : PySem.W.Frag} : ∀ l : List DictEntry, dicD K l = Ents K (l.map fun e => (keyS e, e.val))
  | [] => rfl
  | e :: r => by
    unfold dicD
    show _ = Ents K ((keyS e, e.val) :: r.map fun e => (keyS e, e.val))
    unfold Ents
    rw [dicD_ents r]
    have : keyS e = (match e.key with
      | .str x _ => some x
      | _ => none) := rfl
    rw [this]
    cases e.key <;> cases deV K 3 e.val <;> cases Ents K (r.map fun e => (keyS e, e.val)) <;> rfl
theorem keys_lit {P : Params} : ∀ {l : List DictEntry} {L : List (Option Str × Value)} {K : PySem.W.Frag} {kvs : List (Str × D)}, PySem.W.KeysLit P l → l.map (fun e => (keyS e, e.val)) = L → Ents K L = some kvs → l.map He.keyOf = He.keysIn P (kvs.map (·.1))
  | [], L, K, kvs, _, h, g => by
    subst h
    cases g
    rfl
  | e :: r, L, K, kvs, y, h, g => by
    subst h
    obtain ⟨⟨x, t, e1, e2⟩, y2⟩ := y
    have g' : (match keyS e, deV K 3 e.val, Ents K (r.map fun e => (keyS e, e.val)) with
      | some x, some d, some ds => some ((x, d) :: ds)
      | _, _, _ => none) = some kvs := g
    have ke : keyS e = some x := by unfold keyS; rw [e1]
    rw [ke] at g'
    split at g'
    · rename_i x2 d ds q1 q2 q3
      cases q1
      cases g'
      have ih := keys_lit (K := K) y2 rfl q3
      show He.keyOf e :: r.map He.keyOf = some (x, PyData.keyHash P x) :: He.keysIn P (ds.map (·.1))
      rw [ih]
      have : He.keyOf e = some (x, PyData.keyHash P x) := by
        unfold He.keyOf
        rw [e1, e2]
      rw [this]
    · cases g'
theorem dictC_mk {K : PySem.W.Frag} {w : World} {a : Addr} {es : Array DictEntry} {n : Nat} {L : List (Option Str × Value)} {kvs : List (Str × D)} (l : K.lookup a = some ⟨.type "dict", none, .dict es n, #[]⟩) (y : PySem.W.KeysLit w.params es.toList) (z : (a == sysModules) = false)
    (v : es.toList.map (fun e => (keyS e, e.val)) = L) (g : Ents K L = some kvs) : DictC K w a kvs := by
  have kl := keys_lit y v g
  refine dictC_of (w := w) ?_ ?_
  · unfold He.dicW
    rw [l]
    show (match decide ("dict" = "dict") && ((#[] : Array (Option Value)).isEmpty && !(a == sysModules)) with
      | true => some (es.toList.map He.keyOf)
      | false => none) = _
    rw [z, kl]
    rfl
  · unfold dicAt
    rw [l]
    show dicD K es.toList = _
    rw [dicD_ents, v, g]
end DD

set_option Elab.async false
set_option linter.all false
namespace DD
variable [TabQ] [ExQ]
open PySem PySem.Spec PyProof.Rows L2
/-! ### a list + a list, both of any form -/
section
variable {K : PySem.W.Frag}
def mCatE (a b : En → Option D) : En → Option (List D) := fun ρ => (a ρ).bind fun x => (b ρ).bind fun y => match x, y with
  | .list xs, .list ys => if xs.length + ys.length ≤ cap then some (xs ++ ys) else none
  | _, _ => none
theorem fl_catE {ta tb : TE} {ma mb : En → Option D} (ha : ET K ta ma) (hb : ET K tb mb) : FL K (tOp (rCatX K) ta tb) (mCatE ma mb) := by
  refine ⟨fun {H0 T0 σ ρ H T out} G h Q q => ?_⟩
  obtain ⟨x, hx, h⟩ := bind_some h
  obtain ⟨y, hy, h⟩ := bind_some h
  refine ha.run G hx _ fun v H1 s1 d1 p1 => hb.run (G.mono s1 d1) hy _ fun v2 H2 s2 d2 p2 => ?_
  split at h
  · rename_i xs ys
    split at h
    · rename_i hz
      cases h
      obtain ⟨a, us, rfl, hs, gu⟩ := dp_lst (dp_mono s2 p1)
      obtain ⟨b, ws, rfl, hs2, gw⟩ := dp_lst p2
      exact ⟨a, b, us, ws, rfl, rfl, sql_ov d2 hs, sql_ov d2 hs2, by rw [dpa_len gu, dpa_len gw]; exact cap_line hz, fun p np => q p _ H2 (s1.trans s2) d2 np (dpa_append gu gw)⟩
    · cases h
  · cases h
end
end DD

set_option Elab.async false
set_option linter.all false
set_option maxRecDepth 100000
set_option maxHeartbeats 4000000
/-! sets of texts: made of a list, put in a row -/
namespace DD
variable [TabQ] [ExQ]
open PySem PySem.Spec PyProof.Rows L2
def txtOf : Value → Str
  | .str x _ => x
  | _ => ""
def addS (m : List Str) (k : Str) : List Str := if k ∈ m then m else k :: m
theorem addS_mem {m : List Str} {k z : Str} : z ∈ addS m k ↔ z ∈ m ∨ z = k := by
  unfold addS
  split
  · rename_i h
    exact ⟨.inl, fun q => q.elim id fun e => e ▸ h⟩
  · rw [List.mem_cons]; exact Or.comm
theorem addS_nd {m : List Str} {k : Str} (h : m.Nodup) : (addS m k).Nodup := by
  unfold addS
  split
  · exact h
  · exact List.nodup_cons.mpr ⟨by assumption, h⟩
theorem addS_len {m : List Str} {k : Str} : (addS m k).length ≤ m.length + 1 := by
  unfold addS
  split
  · omega
  · rw [List.length_cons]; omega
section
variable {P : Program} {w : World}
/-- the set of texts at a: its members m, each once; it can be walked -/
def TxS (P : Program) (w : World) (h : Heap) (a : Addr) (m : List Str) : Prop :=
  ∃ o es ep t, h.get? a = some o ∧ o.ExactSet ∧ o.data = .set es ep t ∧ ElemsOf (PySem.strKind P w) es.toList ∧ (es.toList.map fun e => txtOf e.2).Perm m ∧ m.Nodup ∧
    es.size < scanBound ∧ t.fits es.size = true ∧ Ris t.place.toList ∧ (w.params.followText "set-order" = true ∨ t.led = true)
theorem TxS.at {h h' : Heap} {a : Addr} {m : List Str} (R : TxS P w h a m) (k : ∀ o, h.get? a = some o → h'.get? a = some o) : TxS P w h' a m := by
  obtain ⟨o, es, ep, t, ho, r⟩ := R
  exact ⟨o, es, ep, t, k o ho, r⟩
theorem tx_is {k : Str} {v : Value} (h : (PySem.strKind P w).is k v = true) : ∃ t, v = .str k t := Value.isStrOf_shape h
theorem tx_of {l : List (Int × Value)} (g : ElemsOf (PySem.strKind P w) l) {e : Int × Value} (he : e ∈ l) (k : Str) : (PySem.strKind P w).is k e.2 = true ↔ txtOf e.2 = k := by
  obtain ⟨⟨k0, h0, _⟩, _⟩ := g e he
  obtain ⟨t, q⟩ := tx_is h0
  rw [q]
  constructor
  · intro z
    obtain ⟨t2, q2⟩ := tx_is z
    cases q2
    rfl
  · intro z
    have z' : k0 = k := z
    subst z'
    exact PySem.strKind_is P w _ t
theorem tx_mem {l : List (Int × Value)} {m : List Str} (g : ElemsOf (PySem.strKind P w) l) (pm : (l.map fun e => txtOf e.2).Perm m) (k : Str) : k ∈ m ↔ ∃ e ∈ l, (PySem.strKind P w).is k e.2 = true := by
  rw [← pm.mem_iff, List.mem_map]
  exact ⟨fun ⟨e, he, q⟩ => ⟨e, he, (tx_of g he k).2 q⟩, fun ⟨e, he, q⟩ => ⟨e, he, (tx_of g he k).1 q⟩⟩
theorem tx_new {h : Heap} {a : Addr} (ho : h.get? a = some (set0 w)) : TxS P w h a [] := by
  refine ⟨_, #[], 0, _, ho, ⟨rfl, rfl, rfl⟩, rfl, fun e he => ?_, ?_, List.nodup_nil, by decide, by rfl, List.Pairwise.nil, ?_⟩
  · simp at he
  · exact List.Perm.refl _
  · show _ ∨ (!w.params.followText "set-order") = true
    cases w.params.followText "set-order" with
    | true => exact .inl rfl
    | false => exact .inr rfl
end
section
variable {P : Program} {w : World} {A : Around} {E : Value → Shared → Prop} {s : Shared} {a : Addr}
theorem put_at {h : Heap} {o : Obj} {es es' : Array (Int × Value)} {ep : Nat} {t t' : SetTable} (ho : h.get? a = some o) (hd : o.data = .set es ep t) :
    (h.update a (Obj.putSet es' t')).get? a = some { o with data := .set es' (ep + 1) t' } := by
  have e1 := putSet_of es' t' hd
  have e2 := Heap.get?_update_self (Obj.putSet es' t') ho (by rw [e1]; rfl)
  rw [e1] at e2; exact e2
/-- the new member is laid, the table made wider where it is too full -/
theorem tx_laid {gv : Bool → Sem Unit} (hg : ∀ (b : Bool) (s₁ : Shared) (Q' : Unit → Shared → Prop), Q' () s₁ → wpAny (model P w) A (gv b) Q' E s₁)
    {o : Obj} {es es1 : Array (Int × Value)} {ep : Nat} {t t2 : SetTable} {m : List Str} (ho : s.heap.get? a = some o) (hex : o.ExactSet) (hd : o.data = .set es ep t)
    (g1 : ElemsOf (PySem.strKind P w) es1.toList) (pm1 : (es1.toList.map fun e => txtOf e.2).Perm m) (nd : m.Nodup) (hb1 : es1.size < scanBound) (hf2 : t2.fits es1.size = true) (hr : Ris t2.place.toList)
    (hl : w.params.followText "set-order" = true ∨ t2.led = true) {wasD : Bool} {R : Option Bool → Shared → Prop} (hR : ∀ h', Heap.SameBut a s.heap h' → TxS P w h' a m → R (some true) { s with heap := h' }) :
    wpAny (model P w) A (do
        storeSet a es1 t2
        if (!wasD && t2.tooFull) = true then do
            gv (relayAll t2 es1 (SetTable.grown es1.size)).2.2
            storeSet a (relayAll t2 es1 (SetTable.grown es1.size)).1 (relayAll t2 es1 (SetTable.grown es1.size)).2.1
            pure (some true)
          else pure (some true)) R E s := by
  refine wpAny_bind (wpAny_storeSet_of ho hd ?_ (fits_of_scanBound hb1))
  have ho1 := put_at (es' := es1) (t' := t2) ho hd
  have sb := Heap.SameBut.update s.heap a (Obj.putSet es1 t2)
  split
  · have q1 := relayAll_perm t2 es1 (SetTable.grown es1.size)
    have q2 := relayAll_fits t2 es1 (SetTable.grown es1.size)
    have q3 := L2.relayAll_ris t2 es1 (SetTable.grown es1.size)
    have q4 := L2.relayAll_led t2 es1 (SetTable.grown es1.size)
    generalize relayAll t2 es1 (SetTable.grown es1.size) = W at q1 q2 q3 q4 ⊢
    obtain ⟨es2, t3, gave⟩ := W
    simp only at q1 q2 q3 q4 ⊢
    have hz : es2.size = es1.size := by rw [← Array.length_toList, q1.length_eq, Array.length_toList]
    have hb2 : es2.size < scanBound := by rw [hz]; exact hb1
    refine wpAny_bind (hg _ _ _ (wpAny_bind (wpAny_storeSet_of ho1 rfl ?_ (fits_of_scanBound hb2))))
    refine wpAny_pure (hR _ (sb.trans (Heap.SameBut.update _ a _)) ⟨_, es2, _, t3, put_at (es' := es2) (t' := t3) ho1 rfl, hex, rfl, g1.perm q1, (q1.map _).trans pm1, nd, hb2, q2, q3, hl.imp id fun z => by rw [q4]; exact z⟩)
  · exact wpAny_pure (hR _ sb ⟨_, es1, _, t2, ho1, hex, rfl, g1, pm1, nd, hb1, hf2, hr, hl⟩)
theorem tx_add {m : List Str} {k : Str} {tk : Tok} {Q : Bool → Shared → Prop} (R : TxS P w s.heap a m) (room : m.length + 1 < scanBound)
    (hQ : ∀ b h', Heap.SameBut a s.heap h' → TxS P w h' a (addS m k) → Q b { s with heap := h' }) :
    wpAny (model P w) A (setAddHashed a (.str k tk) ((PySem.strKind P w).hash k)) Q E s := by
  obtain ⟨o, es, ep, t, ho, hex, hd, g, pm, nd, hb, hf, hr, hl⟩ := R
  have hkey : (PySem.strKind P w).is k (.str k tk) = true := PySem.strKind_is P w k tk
  have hsc : (Value.str k tk).scannable = true := rfl
  unfold setAddHashed; unfold setAddHashedIn
  refine wpAny_holding (wpAny_bind (wpAny_setState_of ho hd hf ?_))
  simp only [byScan_of hsc hb g, ↓reduceIte]; unfold setAddByScan
  refine wpAny_bind (wpAny_bind (wpAny_rule (wpAny_bind (wpAny_setScan_of hkey ho hd hf g ?_))))
  cases hfi : List.findIdx? (fun e => (PySem.strKind P w).is k e.2) es.toList with
  | some j =>
    simp only
    obtain ⟨hj, pj, _⟩ := List.findIdx?_eq_some_iff_getElem.mp hfi
    have hin : k ∈ m := (tx_mem g pm k).2 ⟨es.toList[j], List.getElem_mem hj, pj⟩
    refine wpAny_pure (wpAny_pure (hQ _ s.heap (Heap.SameBut.refl a s.heap) ⟨o, es, ep, t, ho, hex, hd, g, ?_, addS_nd nd, hb, hf, hr, hl⟩))
    unfold addS; rw [if_pos hin]; exact pm
  | none =>
    simp only
    have hnk : k ∉ m := fun z => by
      obtain ⟨e, he, q⟩ := (tx_mem g pm k).1 z
      exact absurd (List.findIdx?_eq_none_iff.mp hfi e he) (by rw [q]; decide)
    have hgv : ∀ (b : Bool) {s₁ : Shared} {Q' : Unit → Shared → Prop}, Q' () s₁ → wpAny (model P w) A (match b with | true => rule "set.scan.the-table-gave-way" | false => pure ()) Q' E s₁ := fun b => by
      intro s₁ Q' q
      cases b with
      | true => exact wpAny_rule q
      | false => exact wpAny_pure q
    have q1 := layNew_perm t es ((PySem.strKind P w).hash k) (.str k tk)
    have q2 := layNew_fits t es ((PySem.strKind P w).hash k) (.str k tk)
    have q3 := L2.layNew_ris t es ((PySem.strKind P w).hash k) (.str k tk) hr
    have q4 := L2.layNew_led t es ((PySem.strKind P w).hash k) (.str k tk)
    generalize layNew t es ((PySem.strKind P w).hash k) (.str k tk) = W at q1 q2 q3 q4 ⊢
    obtain ⟨es1, t1, wasD, gave⟩ := W
    simp only at q1 q2 q3 q4 ⊢
    rw [Array.toList_push] at q1
    have g1 : ElemsOf (PySem.strKind P w) es1.toList := (g.push hkey hsc).perm q1
    have pm1 : (es1.toList.map fun e => txtOf e.2).Perm (addS m k) := by
      have z := q1.map fun e => txtOf e.2
      rw [List.map_append] at z
      unfold addS; rw [if_neg hnk]
      exact z.trans ((List.perm_append_singleton _ _).trans (pm.cons k))
    have hz : es1.size = m.length + 1 := by
      rw [← Array.length_toList, q1.length_eq, List.length_append]
      have := pm.length_eq
      rw [List.length_map] at this
      rw [this]; rfl
    have hb1 : es1.size < scanBound := by rw [hz]; exact room
    have hled : w.params.followText "set-order" = true ∨ t1.led = true := hl.imp id fun z => by rw [q4]; exact z
    refine wpAny_bind (hgv _ ?_)
    split
    · refine wpAny_bind ?_
      rw [hashByValue_scannable 8 hsc]
      refine wpAny_pure (tx_laid ?_ ho hex hd g1 pm1 (addS_nd nd) hb1 ?_ ?_ ?_ ?_)
      · intro b s₁ Q' q; exact hgv b q
      · first | (split <;> first | exact q2 | exact SetTable.fits_plain_off q2) | exact q2
      · first | (split <;> exact q3) | exact q3
      · first | (split <;> exact hled) | exact hled
      · intro h' sb r; simp only; exact wpAny_pure (hQ _ h' sb r)
    · refine wpAny_bind (wpAny_pure ?_)
      simp only [↓reduceIte]
      refine tx_laid ?_ ho hex hd g1 pm1 (addS_nd nd) hb1 q2 q3 hled ?_
      · intro b s₁ Q' q; exact hgv b q
      · intro h' sb r; simp only; exact wpAny_pure (hQ _ h' sb r)
end
def nubS (xs : List Str) : List Str := xs.foldl addS []
theorem nubS_snoc (xs : List Str) (k : Str) : nubS (xs ++ [k]) = addS (nubS xs) k := by unfold nubS; rw [List.foldl_append]; rfl
section
variable {P : Program} {w : World} {A : Around} {E : Value → Shared → Prop} {s : Shared}
theorem tx_loop {I : Addr} {fp wr : List Addr} {G : Array GenState → Array GenState → Prop} {n : Nat} {Pv : Nat → Value → Prop} {St : Nat → Shared → Prop} {R : Result → Shared → Prop}
    (W : WalksS P w A.in1 I fp wr G n Pv St) (S : Addr) (hSf : S ∉ fp) (xs : List Str) (hn : n = xs.length) (hb : xs.length + 1 < scanBound) (hval : ∀ i v, Pv i v → ∃ k t, xs[i]? = some k ∧ v = .str k t) :
    ∀ (k i : Nat) (s : Shared), n - i = k → i ≤ n → St i s → (nubS (xs.take i)).length ≤ i → TxS P w s.heap S (nubS (xs.take i)) →
      (∀ s', Moved (S :: wr) G s s' → TxS P w s'.heap S (nubS xs) → (nubS xs).length ≤ n → R (.ok (.ret .none)) s') →
      codeAny (model P w) A (.builtin "set.update.loop" ⟨[.ref S, .ref I], []⟩) R s := by
  have hSw : S ∉ wr := fun h => hSf (W.sub _ h)
  have hsub : ∀ b ∈ wr, b ∈ S :: wr := fun b hb => List.mem_cons_of_mem _ hb
  intro k
  induction k with
  | zero =>
    intro i s hk hi hst hc hS hR
    have hin : i = n := by omega
    subst hin
    refine codeAny_builtin F.entry_set_update_loop ?_
    rw [Around.under_plainId F.plain_set_update_loop _]
    have e : xs.take i = xs := List.take_of_length_le (by omega)
    rw [e] at hS hc
    refine wpAny_bind (m := pyNext (.ref I)) (W.done s _ _ hst fun s' hm => ?_)
    exact wpAny_pure (hR s' (hm.mono hsub) (hS.at fun o e => hm.heap S o hSw e) hc)
  | succ k ih =>
    intro i s hk hi hst hc hS hR
    have hlt : i < n := by omega
    refine codeAny_builtin F.entry_set_update_loop ?_
    rw [Around.under_plainId F.plain_set_update_loop _]
    refine wpAny_bind (m := pyNext (.ref I)) (W.item i s _ _ hlt hst fun v s' hP hst' hm => ?_)
    obtain ⟨z, t, hz, rfl⟩ := hval i v hP
    have hS' : TxS P w s'.heap S (nubS (xs.take i)) := hS.at fun o e => hm.heap S o hSw e
    refine wpAny_bind (m := holding [Value.str z t] (setAdd S (.str z t))) (wpAny_holding ?_)
    unfold setAdd
    refine wpAny_holding (wpAny_bind ((PySem.strKind P w).pyHash (k := z) (PySem.strKind_is _ _ _ _) ?_))
    refine tx_add (s := { s' with toks := s'.toks + 1 }) hS' (by omega) fun b h' sb hS2 => ?_
    have e1 : xs.take (i + 1) = xs.take i ++ [z] := by rw [List.take_add_one, hz]; rfl
    have hS3 : TxS P w h' S (nubS (xs.take (i + 1))) := by rw [e1, nubS_snoc]; exact hS2
    have hc3 : (nubS (xs.take (i + 1))).length ≤ i + 1 := by
      rw [e1, nubS_snoc]
      exact Nat.le_trans addS_len (by omega)
    refine wpAny_pure ⟨plainId_quiet F.plain_set_update_loop _, ih (i + 1) _ (by omega) hlt (W.frame _ s' _ _ hst' (Nat.le_succ _) fun b hb o e => ?_) hc3 hS3 fun s'' hm2 hS4 hc4 => ?_⟩
    · exact (sb.2 b fun h : b = S => hSf (h ▸ hb)).trans e
    · refine hR s'' (Moved.trans W.gtrans ((hm.mono hsub).then_heap (Nat.le_succ _) fun b o hb e => ?_) hm2) hS4 hc4
      exact (sb.2 b fun h : b = S => hb (h ▸ List.mem_cons_self)).trans e
theorem strs_nth : ∀ {us : List Value} {ys : List Str}, StrsAre us ys → ∀ (i : Nat) (v : Value), us[i]? = some v → ∃ t, v = .str (ys.getD i Str.empty) t
  | _, _, .nil, i, v, h => by simp at h
  | _, _, .cons x t _, 0, v, h => by
    simp at h
    exact ⟨t, by rw [← h]; rfl⟩
  | _, _, .cons x t r, i + 1, v, h => by
    obtain ⟨t2, q⟩ := strs_nth r i v (by simpa using h)
    exact ⟨t2, by rw [q]; rfl⟩
/-- the step that fills the new set from the list of texts at l -/
theorem fillTx {h0 : Heap} {l : Addr} {items : Array Value} (xs : List Str) (hh : A.handled = none) (hl : (h0.push (set0 w)).IsList l items) (hlt : l < h0.objs.size) (hi : StrsAre items.toList xs) (hb : xs.length + 1 < scanBound) {R : Result → Shared → Prop} {t : Shared} (ht : t.heap = h0.push (set0 w))
    (h : ∀ (h' : Heap) (tk : Nat), TxS P w h' h0.objs.size (nubS xs) → (nubS xs).length ≤ xs.length → (∀ b o, h0.get? b = some o → h'.get? b = some o) → R (.ok (.ret .none)) { t with heap := h', toks := tk }) :
    codeAny (model P w) A.in1.in1 (.builtin "set.update.loop" ⟨[.ref h0.objs.size, .ref (h0.push (set0 w)).objs.size], []⟩) R { t with heap := (h0.push (set0 w)).push { cls := .type "list_iterator", data := .fields #[.ref l, .int 0 0] } } := by
  have size1 : (h0.push (set0 w)).objs.size = h0.objs.size + 1 := Heap.size_push ..
  have len : items.size = xs.length := by
    have q := StrsAre.length hi
    rwa [Array.length_toList] at q
  have ne1 : l ≠ (h0.push (set0 w)).objs.size := by rw [size1]; exact Nat.ne_of_lt (Nat.lt_succ_of_lt hlt)
  have out : h0.objs.size ∉ [(h0.push (set0 w)).objs.size, l] := by
    rw [size1]
    intro m
    simp only [List.mem_cons, List.not_mem_nil, or_false] at m
    rcases m with m | m
    · exact absurd m (Nat.ne_of_lt (Nat.lt_succ_self _))
    · exact absurd m (Nat.ne_of_gt hlt)
  have at0 : ((h0.push (set0 w)).push { cls := .type "list_iterator", data := .fields #[.ref l, .int 0 0] }).get? h0.objs.size = some (set0 w) := Heap.get?_push_of_some _ (Heap.get?_push_size _ rfl)
  refine tx_loop (P := P) (w := w) ((Walks.list (A := A.in1.in1.in1) (by simpa using hh) _ l ne1 items).toS) h0.objs.size out xs len hb (fun i v e => ?_) (items.size - 0) 0 _ (by omega) (Nat.zero_le _)
    ⟨⟨_, Heap.get?_push_size _ rfl, rfl, rfl⟩, hl.push _⟩ (Nat.le_refl 0) (tx_new at0) fun s' hm hS hc => ?_
  · obtain ⟨tk, e2⟩ := strs_nth hi i v (by rw [Array.getElem?_toList]; exact e)
    have hil : i < xs.length := by rw [← len]; exact (Array.getElem?_eq_some_iff.mp e).1
    refine ⟨xs[i], tk, List.getElem?_eq_getElem hil, ?_⟩
    rw [e2, List.getD_eq_getElem?_getD, List.getElem?_eq_getElem hil]
    rfl
  · obtain ⟨h', g', d', tk', os'⟩ := s'
    obtain rfl : g' = t.gens := hm.gens
    obtain rfl : d' = t.drawn := hm.drawn
    obtain rfl : os' = t.os := hm.os
    refine h h' tk' hS (by rw [← len]; exact hc) fun b o e => hm.heap b o ?_ (Heap.get?_push_of_some _ (Heap.get?_push_of_some _ e))
    have lt := Heap.lt_size e
    rw [size1]
    intro m
    simp only [List.mem_cons, List.not_mem_nil, or_false] at m
    rcases m with m | m
    · exact absurd m (Nat.ne_of_lt lt)
    · exact absurd m (Nat.ne_of_lt (Nat.lt_succ_of_lt lt))
theorem call_setTx {l : Addr} {items : Array Value} (xs : List Str) {Q : Value → Shared → Prop} (hh : A.handled = none) (hl : s.heap.IsList l items) (hit : StrsAre items.toList xs) (hb : xs.length + 1 < scanBound)
    (h : ∀ (h' : Heap) (tk : Nat), TxS P w h' s.heap.objs.size (nubS xs) → (nubS xs).length ≤ xs.length → (∀ b o, s.heap.get? b = some o → h'.get? b = some o) → Q (.ref s.heap.objs.size) { s with heap := h', toks := tk }) :
    wpAny (model P w) A (call (.type "set") [.ref l]) Q E s := by
  obtain ⟨c0, tl, hmro⟩ := F.called_set.mro
  have h0 := F.called_set.made
  have h1 := F.called_set.notType
  have h2 := F.called_set.canCreate
  have h3 := F.called_set.sub
  have h4 := F.typeCall_set_1 (.ref l)
  refine wpAny_call (codeAny_of_tree (show wpAny _ _ (callAny (.type "set") _) _ _ _ from wpAny_pure ⟨Code.quiet_builtin _ (by decide +kernel), codeAny_builtin F.entry_type_call ?_⟩))
  rw [Around.under_plain (weight_type_call_type "set" [.ref l] []) rfl]
  repeat (any_goals (first | assumption | wp_step))
  refine codeAny_mono (code_set_led1 (.ref l) (E := E) (Q₁ := fun obj s₁ => obj = .ref s.heap.objs.size ∧ s₁ = { s with heap := s.heap.push (set0 w) }) ⟨rfl, rfl⟩) fun r s₁ hr => ?_
  cases r with
  | error e => exact hr
  | ok fl =>
    cases fl with
    | ret obj =>
      obtain ⟨rfl, rfl⟩ := hr
      have at0 : (s.heap.push (set0 w)).get? s.heap.objs.size = some (set0 w) := Heap.get?_push_size _ rfl
      have ty : Shared.TypeIs { s with heap := s.heap.push (set0 w) } (.ref s.heap.objs.size) "set" := ⟨_, at0, rfl⟩
      have h5 := F.called_set.init.lookup
      have h6 := F.called_set.init.bind (.ref s.heap.objs.size)
      repeat (any_goals (first | assumption | wp_step))
      refine codeAny_mono (codeAny_call_builtin (R := wants (fun r s₂ => r = .none ∧ ∃ h' tk, s₂ = { s with heap := h', toks := tk } ∧ TxS P w h' s.heap.objs.size (nubS xs) ∧ (nubS xs).length ≤ xs.length ∧
          (∀ b o, s.heap.get? b = some o → h'.get? b = some o)) E) F.called_set.init.plain F.entry_set_init (check_set_init_1 ty ?_)) fun r₂ s₂ hr₂ => ?_
      · obtain ⟨⟨ocls, odict, odata, oslots⟩, hol, hcl, nl, hdl⟩ := hl
        simp only at hcl hdl
        subst hcl hdl
        have hol' : (s.heap.push (set0 w)).get? l = some { cls := .type "list", dict := odict, data := .seq items nl, slots := oslots } := Heap.get?_push_of_some _ hol
        have h7 := F.sub_list_set
        have h8 := F.sub_list_frozenset
        have h9 : (Value.type "list" == Value.type "dict") = false := by decide
        have hL : (s.heap.push (set0 w)).IsList l items := ⟨_, hol', rfl, nl, rfl⟩
        unfold Builtin.«set.__init__» noKeywords Builtin.Frozenset.updateFrom
        generalize hPI : pyIter = PI
        wp_walk
        subst hPI
        refine wpAny_pyIter_list hL (wpAny_bind (wpAny_runValue ?_))
        refine fillTx (A := A) (t := { s with heap := s.heap.push (set0 w) }) xs hh hL (Heap.lt_size hol) hit hb rfl fun h' tk hS hc hk => ?_
        refine wpAny_pure ?_
        show wpAny _ _ (ret Value.none) _ _ _
        exact wpAny_pure ⟨rfl, h', tk, rfl, hS, hc, hk⟩
      · cases r₂ with
        | error e => exact hr₂
        | ok fl₂ =>
          cases fl₂ with
          | ret r =>
            obtain ⟨rfl, h', tk, rfl, hS, hc, hk⟩ := hr₂
            repeat (any_goals (first | assumption | wp_step))
            exact h _ _ hS hc hk
          | _ => exact hr₂.elim
    | _ => exact hr.elim
/-- the members as texts -/
theorem strs_vals : ∀ {vs : List Value}, (∀ v ∈ vs, ∃ k t, v = Value.str k t) → StrsAre vs (vs.map txtOf)
  | [], _ => .nil
  | v :: r, h => by
    obtain ⟨k, t, rfl⟩ := h v List.mem_cons_self
    exact .cons k t (strs_vals fun u hu => h u (List.mem_cons_of_mem _ hu))
/-- sorted(set of texts) -/
theorem sortTx {a : Addr} {m : List Str} {Q : Value → Shared → Prop} (R : TxS P w s.heap a m) (hh : A.handled = none) (h64 : m.length < 64)
    (hQ : ∀ s' p (out : Array Value) (c : Nat), (∀ b o, s.heap.get? b = some o → s'.heap.get? b = some o) → s'.gens = s.gens → s'.os = s.os → s.heap.objs.size ≤ p →
      s'.heap.get? p = some (seqObj "list" out c) → StrsAre out.toList (sortS m) → Q (.ref p) s') :
    wpAny (model P w) A (call (.builtin "sorted") [.ref a]) Q E s := by
  obtain ⟨o, es, ep, t, ho, hex, hd, g, pm, nd, hb, hf, hr, hl⟩ := R
  refine Calls.call_function_entry kind_sorted plain_sorted entry_sorted (args_sorted1 _) ?_
  unfold Builtin.«sorted»
  refine wpAny_bind (m := checkCount "sorted" 1 1 _) (wpAny_pure (wpAny_bind (L2.collect_set (A := A.in1) hh ⟨o, ho, hex.1, hd⟩ hf hb hr hl fun s1 vs k1 hz g1 o1 pv => ?_)))
  have len : vs.length = m.length := by
    have q := pm.length_eq
    rw [List.length_map] at q
    rw [pv.length_eq, List.length_map, q]
  have hS : StrsAre vs (vs.map txtOf) := strs_vals fun v hv => by
    obtain ⟨e, he, q⟩ := List.mem_map.mp (pv.mem_iff.mp hv)
    obtain ⟨⟨k, hk, _⟩, _⟩ := g e he
    obtain ⟨t0, q2⟩ := tx_is hk
    exact ⟨k, t0, by rw [← q]; exact q2⟩
  have pk : (vs.map txtOf).Perm m := by
    have q := pv.map txtOf
    rw [List.map_map] at q
    exact q.trans pm
  refine wpAny_bind (wpAny_newList ?_ (by rw [len, sizeLine_eq]; omega))
  have hoL : (s1.heap.push (seqObj "list" vs.toArray 0)).get? s1.heap.objs.size = some (seqObj "list" vs.toArray 0) := Heap.get?_push_size _ rfl
  refine wpAny_bind (wpAny_holding (wpAny_call_entry PyProof.Rows.slot_list_sort ⟨_, hoL, rfl⟩ PyProof.Rows.entry_list_sort
    (list_sort_treeK strKind_oneLt (s := { s1 with heap := s1.heap.push (seqObj "list" vs.toArray 0) }) hoL hS.keysOf (fun v₁ v₂ rest e => keyKind_strs (by rw [← e]; exact hS)) (by rw [len]; exact h64) fun st' hp hs => ⟨_, rfl, ?_⟩)
    (PyProof.Rows.args_list_sort _)))
  obtain ⟨ys, u1, u2, u3⟩ := sorted_out_str hS hp hs
  obtain ⟨c, hc⟩ := sortedHeap_at (vs := vs) (out := (arrOf st').map (·.2)) hoL
  cases sortS_uniq (u2.trans pk) u3
  refine wpAny_pure ⟨_, rfl, hQ _ s1.heap.objs.size _ c (fun b u e => ?_) g1 o1 hz hc (by simpa using u1)⟩
  have q := k1 b u e
  have hlt := Heap.lt_size q
  show (sortedHeap (s1.heap.push (seqObj "list" vs.toArray 0)) s1.heap.objs.size vs ((arrOf st').map (·.2))).get? b = some u
  rw [sortedHeap_old (Nat.ne_of_lt hlt) (by rw [size_push']; exact Nat.lt_succ_of_lt hlt)]
  exact Heap.get?_push_of_some _ q
end
/-- the texts of a list, each once, rising -/
def ssetS (xs : List Str) : List Str := sortS (nubS xs)
section
variable {X : Cx}
def tSortTx (K : PySem.W.Frag) (ta : TE) : TE := fun σ H Q => ta σ H fun x H1 => ∃ (l : Addr) (xs : List Str), x = V.ref l ∧ SqL K H1 l (xs.map V.str) ∧ xs.length < 63 ∧ ∀ p, H1 p = none → Q (.ref p) (upd H1 p (.lst ((ssetS xs).map V.str)))
theorem pe_sortTx {a : Expr} {ta : TE} {p p2 q pos : Pos} (hg : Gl X "sorted") (hm : X.mg "sorted" = none) (hg2 : Gl X "set") (hm2 : X.mg "set" = none) (ha : PE X a ta) (hc : X.calm = true := by rfl)
    (na : starEach [a] X.env = (false, eval a X.env) :: starEach [] X.env := by rfl) : PE X (.Call (.Name "sorted" p) [.Call (.Name "set" p2) [a] [] q] [] pos) (tSortTx X.K ta) := by
  refine ⟨fun pins s σ H Q I h => ?_⟩
  refine Call_ (ld_blt I hg hm (by boot_by_name) ?_)
  refine PyProof.Rows.callWith_builtin1 (PyProof.Rows.args_cons ?_ rfl) rfl rfl
  refine Call_ (ld_blt I hg2 hm2 boot_set ?_)
  refine PyProof.Rows.callWith_type1 (PyProof.Rows.args_cons (thn (ha.run pins s σ H _ I h) fun v s1 ⟨x, H1, I1, r1, q1⟩ => PyProof.Rows.args_nil ?_) na) na rfl
  obtain ⟨l, xs, rfl, hq, hl, q1⟩ := q1
  cases r1
  obtain ⟨its, r, pl, hz⟩ := I1.list hq
  refine call_setTx (P := X.prog) xs (I1.ok.hd hc) pl.isList (by simpa using strsAre_of r) (by unfold scanBound; omega) fun h' tk hS hcl hk => ?_
  refine PyProof.Rows.args_nil ?_
  have I2 : Inv X pins σ H1 { s1 with heap := h', toks := tk } := I1.kept fun b o e => hk b o e
  refine sortTx hS (I2.ok.hd hc) (by omega) fun s' p out c2 k g o hp hg hi => ?_
  have hlen : ((ssetS xs).map V.str).length ≤ sizeLine := by
    have : (ssetS xs).length = (nubS xs).length := (sortS_perm _).length_eq
    rw [List.length_map, this, sizeLine_eq]; omega
  have hn : H1 p = none := I2.hok.fresh hp
  have J : Inv X pins σ (upd H1 p (.lst ((ssetS xs).map V.str))) { { s1 with heap := h', toks := tk } with heap := s'.heap, gens := s'.gens, drawn := s'.drawn, toks := s'.toks } :=
    I2.call (ch := []) (Un.laid k hp hn) (I2.hok.laid k hp ⟨hlen, out.toList, c2, vals_of_strs hi, hg⟩) (by rw [g]; exact I2.bare) (fun _ z => nomatch z)
  have e : s' = { { s1 with heap := h', toks := tk } with heap := s'.heap, gens := s'.gens, drawn := s'.drawn, toks := s'.toks } := by
    cases s'; cases s1; cases o; rfl
  rw [e]
  exact ⟨.ref p, _, J, rfl, q1 p hn⟩
end
section
variable {K : PySem.W.Frag}
def mSortTx (a : En → Option D) : En → Option (List D) := fun ρ => (a ρ).bind fun x => match x with
  | .list ds => (strsD ds).bind fun ns => if ns.length < 63 then some ((ssetS ns).map PyData.str) else none
  | _ => none
theorem fl_sortTx {ta : TE} {ma : En → Option D} (ha : ET K ta ma) : FL K (tSortTx K ta) (mSortTx ma) := by
  refine ⟨fun {H0 T0 σ ρ H T out} G h Q q => ?_⟩
  obtain ⟨x, hx, h⟩ := bind_some h
  refine ha.run G hx _ fun v H1 s1 d1 p1 => ?_
  split at h
  · obtain ⟨ns, e, h⟩ := bind_some h
    split at h
    · rename_i hz
      cases h
      cases strs_some e
      obtain ⟨a, us, rfl, hs, gu⟩ := dp_lst p1
      cases dpa_strs_v gu
      exact ⟨a, ns, rfl, sql_ov d1 hs, hz, fun p np => q p _ H1 s1 d1 np (dpa_strs _)⟩
    · cases h
  · cases h
theorem strs_map : ∀ ns : List Str, strsD (ns.map PyData.str) = some ns
  | [] => rfl
  | i :: r => by show (strsD _).map _ = _; rw [strs_map r]; rfl
theorem sortTx_of {a : En → Option D} {ρ : En} {ns : List Str} (h : a ρ = some (.list (ns.map .str))) (hz : ns.length < 63) : mSortTx a ρ = some ((ssetS ns).map .str) := by
  unfold mSortTx
  rw [h]
  show (strsD (ns.map PyData.str)).bind _ = _
  rw [strs_map]
  exact if_pos hz
end
end DD

set_option Elab.async false
set_option linter.all false
set_option maxRecDepth 100000
set_option maxHeartbeats 4000000
/-! a second name for one of two lists of one's own, to which something is appended at once -/
namespace DD
variable [TabQ] [ExQ]
open PySem PySem.Spec PyProof.Rows L2
section
variable {K : PySem.W.Frag} {H0 H : Hp} {T0 T : Ov} {σ : L2.St} {ρ : En}
/-- a slot gets a value of which nothing is known -/
theorem Good.hide {i : Nat} {v : Option V} (G : Good K H0 T0 σ ρ H T) : Good K H0 T0 (σ.set i v) (ρ.set i none) H T := by
  refine ⟨by rw [List.length_set, List.length_set]; exact G.len, fun j x h => ?_, fun j x h => ?_, fun j k ds es p h1 h2 h3 h4 => ?_, G.dis, G.ext, G.ex, exc_set G.exc (fun _ z => by cases z)⟩
  · rcases get_set h with ⟨_, q, _⟩ | ⟨e, q⟩
    · cases q
    · obtain ⟨w, a, b⟩ := G.val j x q
      exact ⟨w, by rw [List.getElem?_set_ne (Ne.symm e)]; exact a, b⟩
  · rcases get_set h with ⟨_, q, _⟩ | ⟨e, q⟩
    · cases q
    · obtain ⟨p, xs, a, b⟩ := G.own j x q
      exact ⟨p, xs, by rw [List.getElem?_set_ne (Ne.symm e)]; exact a, b⟩
  · rcases get_set h1 with ⟨_, q, _⟩ | ⟨e1, q1⟩
    · cases q
    · rcases get_set h2 with ⟨_, q, _⟩ | ⟨e2, q2⟩
      · cases q
      · rw [List.getElem?_set_ne (Ne.symm e1)] at h3
        rw [List.getElem?_set_ne (Ne.symm e2)] at h4
        exact G.inj j k ds es p q1 q2 h3 h4
end
def sAli (w : Nat) (c : En → Option Bool) (i j : Nat) (a : En → Option D) : En → Option Fl := fun ρ => (c ρ).bind fun b =>
  if w < ρ.length then match ρ[if b = true then i else j]? with
    | some (some (.own _)) => sAppend (if b = true then i else j) a (ρ.set w none)
    | _ => none
  else none
section
variable {K : PySem.W.Frag} {tc : TT} {te : TE} {mc : En → Option Bool} {ma : En → Option D} {t u v : TS} {m : En → Option Fl}
theorem st_ali {w i j : Nat} (hc : TTm K tc mc) (ha : ET K te ma) :
    TSm K (tSeq (tAsg (tIf tc (tVar i) (tVar j)) (gName w)) (tDrop (tBM K "list" rAppend (tVar w) (tCons te tNil)))) (sAli w mc i j ma) := by
  refine ⟨fun {H0 T0 σ ρ H T f} G h E q => ?_⟩
  obtain ⟨b, hb, h⟩ := bind_some h
  split at h
  · rename_i hw
    split at h
    · rename_i ds0 e0
      refine hc.run G hb _ fun H1 s1 d1 => ?_
      have G1 := G.mono s1 d1
      unfold sAppend at h
      split at h
      · rename_i ds e
        obtain ⟨x, hx, h⟩ := bind_some h
        split at h
        · rename_i hz
          cases h
          obtain ⟨p0, xs0, a0, b0, c0, g0⟩ := G1.own _ ds0 e0
          have G2 := G1.hide (i := w) (v := some (.ref p0))
          have lw : w < σ.length := by rw [← G.len]; exact hw
          have nw : ¬ w = (if b = true then i else j) := fun z => by
            rw [← z, set_self hw] at e
            cases e
          have sk : (σ.set w (some (V.ref p0)))[if b = true then i else j]? = some (some (.ref p0)) := by rw [List.getElem?_set_ne nw]; exact a0
          have core : ∃ v, (σ.set w (some (V.ref p0)))[w]? = some (some v) ∧ (tyV K "list" v (ov H1 T) ∧ tCons te tNil (σ.set w (some (V.ref p0))) (ov H1 T) fun xs H2 => rAppend v xs H2 fun _ H3 => E.nx (σ.set w (some (V.ref p0))) H3) := by
            refine ⟨.ref p0, set_self lw, .inl ⟨rfl, xs0, SqL.of (ov_own b0)⟩, ?_⟩
            refine ha.run G2 hx _ fun y H2 s2 d2 p2 => ?_
            obtain ⟨p, xs, a, b', c, g⟩ := (G2.mono s2 d2).own _ ds e
            rw [sk] at a
            cases a
            refine ⟨p0, xs, y, rfl, rfl, ov_own b', cap_lt (by rw [dpa_len g]; omega), ?_⟩
            rw [upd_put]
            exact q _ _ _ ((G2.mono s2 d2).turn e sk b' (dpa_snoc g p2))
          cases b with
          | true => exact ⟨.ref p0, a0, core⟩
          | false => exact ⟨.ref p0, a0, core⟩
        · cases h
      · cases h
    · cases h
  · cases h
theorem st_assoc (h : TSm K (tSeq (tSeq t u) v) m) : TSm K (tSeq t (tSeq u v)) m := ⟨fun G q E k => h.run G q E k⟩
end
end DD

set_option Elab.async false
set_option linter.all false
set_option maxRecDepth 100000
set_option maxHeartbeats 4000000
/-! several names get new lists at once -/
namespace DD
variable [TabQ] [ExQ]
open PySem PySem.Spec PyProof.Rows L2
section
variable {K : PySem.W.Frag} {H0 H : Hp} {T0 T : Ov} {σ : L2.St} {ρ : En}
theorem Good.lay {p : Addr} {xs : List V} (G : Good K H0 T0 σ ρ H T) (hp : ov H T p = none) : Good K H0 T0 σ ρ H (put T p xs) := by
  obtain ⟨hT, hH⟩ := ov_free hp
  refine ⟨G.len, G.val, fun i ds h => ?_, G.inj, dis_put G.dis hH, fun a ys e => ?_, G.ex, G.exc⟩
  · obtain ⟨r, ys, a, b, c⟩ := G.own i ds h
    exact ⟨r, ys, a, by rw [put_ne fun z => by rw [z, hT] at b; cases b]; exact b, c⟩
  · have := G.ext a ys e
    rw [put_ne fun z => by rw [z, hT] at this; cases this]
    exact this
theorem Good.apart {p : Addr} (G : Good K H0 T0 σ ρ H T) (h : T p = none) : ∀ (j : Nat) (es : List D), ρ[j]? = some (some (Sl.own es)) → σ[j]? ≠ some (some (.ref p)) := fun j es e z => by
  obtain ⟨r, ys, a, b, _⟩ := G.own j es e
  rw [z] at a
  cases a
  rw [h] at b
  cases b
theorem Good.new0 {p : Addr} (G : Good K H0 T0 σ ρ H T) (h : T p = none) : T0 p = none := by
  cases e : T0 p with
  | none => rfl
  | some ys => have := G.ext p ys e; rw [h] at this; cases this
/-- a list that is laid gets its name -/
theorem Good.adopt {i : Nat} {p : Addr} {xs : List V} {ds : List D} (G : Good K H0 T0 σ ρ H T) (hp : T p = some xs) (h0 : T0 p = none) (g : DpAll K H xs ds)
    (hn : ∀ (j : Nat) (es : List D), ρ[j]? = some (some (Sl.own es)) → σ[j]? ≠ some (some (.ref p))) : Good K H0 T0 (σ.set i (some (.ref p))) (ρ.set i (some (Sl.own ds))) H T := by
  refine ⟨by rw [List.length_set, List.length_set]; exact G.len, fun j x h => ?_, fun j x h => ?_, fun j k as bs r h1 h2 h3 h4 => ?_, G.dis, G.ext, G.ex, exc_set G.exc (fun _ z => by cases z)⟩
  · rcases get_set h with ⟨_, q, _⟩ | ⟨e, q⟩
    · cases q
    · obtain ⟨w, a, b⟩ := G.val j x q
      exact ⟨w, by rw [List.getElem?_set_ne (Ne.symm e)]; exact a, b⟩
  · rcases get_set h with ⟨e, q, l⟩ | ⟨e, q⟩
    · cases q
      subst e
      exact ⟨p, xs, set_self (by rw [← G.len]; exact l), hp, h0, g⟩
    · obtain ⟨r, ys, a, b⟩ := G.own j x q
      exact ⟨r, ys, by rw [List.getElem?_set_ne (Ne.symm e)]; exact a, b⟩
  · rcases get_set h1 with ⟨e1, q1, l1⟩ | ⟨e1, q1⟩
    · rcases get_set h2 with ⟨e2, q2, l2⟩ | ⟨e2, q2⟩
      · rw [e1, e2]
      · subst e1
        rw [set_self (by rw [← G.len]; exact l1)] at h3
        cases h3
        rw [List.getElem?_set_ne (Ne.symm e2)] at h4
        exact absurd h4 (hn k bs q2)
    · rcases get_set h2 with ⟨e2, q2, l2⟩ | ⟨e2, q2⟩
      · subst e2
        rw [set_self (by rw [← G.len]; exact l2)] at h4
        cases h4
        rw [List.getElem?_set_ne (Ne.symm e1)] at h3
        exact absurd h3 (hn j as q1)
      · rw [List.getElem?_set_ne (Ne.symm e1)] at h3
        rw [List.getElem?_set_ne (Ne.symm e2)] at h4
        exact G.inj j k as bs r q1 q2 h3 h4
/-- the other slots stay apart -/
theorem apart_set {i : Nat} {p q : Addr} {ds : List D} (ne : p ≠ q) (h : ∀ (j : Nat) (es : List D), ρ[j]? = some (some (Sl.own es)) → σ[j]? ≠ some (some (.ref q))) (l : ρ.length = σ.length) :
    ∀ (j : Nat) (es : List D), (ρ.set i (some (Sl.own ds)))[j]? = some (some (Sl.own es)) → (σ.set i (some (.ref p)))[j]? ≠ some (some (.ref q)) := fun j es e z => by
  rcases get_set e with ⟨e1, _, l1⟩ | ⟨e1, q1⟩
  · subst e1
    rw [set_self (by rw [← l]; exact l1)] at z
    cases z
    exact ne rfl
  · rw [List.getElem?_set_ne (Ne.symm e1)] at z
    exact h j es q1 z
end
def sParOV (i j : Nat) (a : En → Option (List D)) (b : En → Option D) : En → Option Fl := fun ρ => (a ρ).bind fun x => (b ρ).map fun y => .nx ((ρ.set i (some (.own x))).set j (some (.val y)))
def sParOO (i j : Nat) (a b : En → Option (List D)) : En → Option Fl := fun ρ => (a ρ).bind fun x => (b ρ).map fun y => .nx ((ρ.set i (some (.own x))).set j (some (.own y)))
def sParOOO (i j l : Nat) (a b c : En → Option (List D)) : En → Option Fl := fun ρ => (a ρ).bind fun x => (b ρ).bind fun y => (c ρ).map fun z => .nx (((ρ.set i (some (.own x))).set j (some (.own y))).set l (some (.own z)))
section
variable {K : PySem.W.Frag} {ta tb tc : TE}
theorem st_parOV {i j : Nat} {ma : En → Option (List D)} {mb : En → Option D} (ha : FL K ta ma) (hb : ET K tb mb) : TSm K (tPar i j (tCons ta (tCons tb tNil))) (sParOV i j ma mb) := by
  refine ⟨fun {H0 T0 σ ρ H T f} G h E q => ?_⟩
  obtain ⟨x, hx, h⟩ := bind_some h
  obtain ⟨y, hy, h⟩ := map_some h
  subst h
  refine ha.run G hx _ fun p xs H1 s1 d1 n1 p1 => ?_
  rw [upd_put]
  have G0 := G.mono s1 d1
  have nT := (ov_free n1).1
  have G1 := G0.lay (xs := xs) n1
  refine hb.run G1 hy _ fun w H2 s2 d2 p2 => ⟨.ref p, w, rfl, ?_⟩
  have G2 := G1.mono s2 d2
  exact q _ H2 _ ((G2.adopt put_same (G0.new0 nT) (dpa_mono s2 p1) (G0.apart nT)).set p2)
theorem st_parOO {i j : Nat} {ma mb : En → Option (List D)} (ha : FL K ta ma) (hb : FL K tb mb) : TSm K (tPar i j (tCons ta (tCons tb tNil))) (sParOO i j ma mb) := by
  refine ⟨fun {H0 T0 σ ρ H T f} G h E q => ?_⟩
  obtain ⟨x, hx, h⟩ := bind_some h
  obtain ⟨y, hy, h⟩ := map_some h
  subst h
  refine ha.run G hx _ fun p xs H1 s1 d1 n1 p1 => ?_
  rw [upd_put]
  have G0 := G.mono s1 d1
  have nT := (ov_free n1).1
  have G1 := G0.lay (xs := xs) n1
  refine hb.run G1 hy _ fun r ys H2 s2 d2 n2 p2 => ⟨.ref p, .ref r, rfl, ?_⟩
  rw [upd_put]
  have G2 := G1.mono s2 d2
  have nT2 := (ov_free n2).1
  have ne : p ≠ r := fun z => by rw [← z, put_same] at nT2; cases nT2
  have G3 := G2.lay (xs := ys) n2
  have A := G3.adopt (i := i) (by rw [put_ne ne]; exact put_same) (G0.new0 nT) (dpa_mono s2 p1) (G0.apart nT)
  exact q _ H2 _ (A.adopt put_same (G2.new0 nT2) p2 (apart_set ne (G2.apart nT2) G.len))
theorem st_parOOO {i j l : Nat} {ma mb mc : En → Option (List D)} (ha : FL K ta ma) (hb : FL K tb mb) (hc : FL K tc mc) : TSm K (tPar3 i j l (tCons ta (tCons tb (tCons tc tNil)))) (sParOOO i j l ma mb mc) := by
  refine ⟨fun {H0 T0 σ ρ H T f} G h E q => ?_⟩
  obtain ⟨x, hx, h⟩ := bind_some h
  obtain ⟨y, hy, h⟩ := bind_some h
  obtain ⟨z, hz, h⟩ := map_some h
  subst h
  refine ha.run G hx _ fun p xs H1 s1 d1 n1 p1 => ?_
  rw [upd_put]
  have G0 := G.mono s1 d1
  have nT := (ov_free n1).1
  have G1 := G0.lay (xs := xs) n1
  refine hb.run G1 hy _ fun r ys H2 s2 d2 n2 p2 => ?_
  rw [upd_put]
  have G2 := G1.mono s2 d2
  have nT2 := (ov_free n2).1
  have ne : p ≠ r := fun z => by rw [← z, put_same] at nT2; cases nT2
  have G3 := G2.lay (xs := ys) n2
  refine hc.run G3 hz _ fun u zs H3 s3 d3 n3 p3 => ⟨.ref p, .ref r, .ref u, rfl, ?_⟩
  rw [upd_put]
  have G4 := G3.mono s3 d3
  have nT3 := (ov_free n3).1
  have ne2 : r ≠ u := fun z => by rw [← z, put_same] at nT3; cases nT3
  have ne3 : p ≠ u := fun z => by rw [← z, put_ne ne, put_same] at nT3; cases nT3
  have G5 := G4.lay (xs := zs) n3
  have A := G5.adopt (i := i) (by rw [put_ne ne3, put_ne ne]; exact put_same) (G0.new0 nT) (dpa_mono (s2.trans s3) p1) (G0.apart nT)
  have B := A.adopt (i := j) (by rw [put_ne ne2]; exact put_same) (G2.new0 nT2) (dpa_mono s3 p2) (apart_set ne (G2.apart nT2) G.len)
  exact q _ H3 _ (B.adopt put_same (G4.new0 nT3) p3 (apart_set ne2 (apart_set ne3 (G4.apart nT3) G.len) (by rw [List.length_set, List.length_set]; exact G.len)))
end
section
variable {K : PySem.W.Frag} {ta tb tc : TE}
/-- three new lists by way of a tuple -/
theorem st_tupOOO {i j l : Nat} {ma mb mc : En → Option (List D)} (ha : FL K ta ma) (hb : FL K tb mb) (hc : FL K tc mc) :
    TSm K (tAsg (tTup (tCons ta (tCons tb (tCons tc tNil)))) (gTup K 3 (gCons (gName i) (gCons (gName j) (gCons (gName l) gNil))))) (sParOOO i j l ma mb mc) := by
  refine ⟨fun {H0 T0 σ ρ H T f} G h E q => ?_⟩
  obtain ⟨x, hx, h⟩ := bind_some h
  obtain ⟨y, hy, h⟩ := bind_some h
  obtain ⟨z, hz, h⟩ := map_some h
  subst h
  refine ha.run G hx _ fun p xs H1 s1 d1 n1 p1 => ?_
  rw [upd_put]
  have G0 := G.mono s1 d1
  have nT := (ov_free n1).1
  have G1 := G0.lay (xs := xs) n1
  refine hb.run G1 hy _ fun r ys H2 s2 d2 n2 p2 => ?_
  rw [upd_put]
  have G2 := G1.mono s2 d2
  have nT2 := (ov_free n2).1
  have ne : p ≠ r := fun z => by rw [← z, put_same] at nT2; cases nT2
  have G3 := G2.lay (xs := ys) n2
  refine hc.run G3 hz _ fun u zs H3 s3 d3 n3 p3 => ?_
  rw [upd_put]
  have G4 := G3.mono s3 d3
  have nT3 := (ov_free n3).1
  have ne2 : r ≠ u := fun z => by rw [← z, put_same] at nT3; cases nT3
  have ne3 : p ≠ u := fun z => by rw [← z, put_ne ne, put_same] at nT3; cases nT3
  have G5 := G4.lay (xs := zs) n3
  refine ⟨(show 3 ≤ sizeLine by decide), fun t nt => ?_⟩
  obtain ⟨tT, tH⟩ := ov_free nt
  rw [upd_ov tT]
  have s4 : Same H3 (upd H3 t (.tup [.ref p, .ref r, .ref u])) := same_new tH
  have G6 := G5.mono s4 (dis_upd G5.dis tT tH)
  refine ⟨t, [.ref p, .ref r, .ref u], rfl, sqt_ov G6.dis (SqT.of upd_same), rfl, .ref p, _, rfl, .ref r, _, rfl, .ref u, _, rfl, rfl, ?_⟩
  have A := G6.adopt (i := i) (by rw [put_ne ne3, put_ne ne]; exact put_same) (G0.new0 nT) (dpa_mono ((s2.trans s3).trans s4) p1) (G0.apart nT)
  have B := A.adopt (i := j) (by rw [put_ne ne2]; exact put_same) (G2.new0 nT2) (dpa_mono (s3.trans s4) p2) (apart_set ne (G2.apart nT2) G.len)
  exact q _ _ _ (B.adopt put_same (G4.new0 nT3) (dpa_mono s4 p3) (apart_set ne2 (apart_set ne3 (G4.apart nT3) G.len) (by rw [List.length_set, List.length_set]; exact G.len)))
end
end DD

set_option Elab.async false
set_option linter.all false
set_option maxRecDepth 100000
set_option maxHeartbeats 4000000
/-! in, of a list or a tuple of flat data -/
namespace DD
variable [TabQ] [ExQ]
open PySem PySem.Spec PyProof.Rows L2
section
variable {K : PySem.W.Frag}
def dInX (neg : Bool) : D → D → Option D
  | x, .list ds => if (flatD x && ds.all flatD) = true then some (.bool (if neg then !(ds.any fun z => PyData.eqv z x) else ds.any fun z => PyData.eqv z x)) else none
  | x, .tuple ds => if (flatD x && ds.all flatD) = true then some (.bool (if neg then !(ds.any fun z => PyData.eqv z x) else ds.any fun z => PyData.eqv z x)) else none
  | _, _ => none
theorem rd_inX {neg : Bool} : RD K (rIn K neg) (dInX neg) := by
  refine ⟨fun {H T x y a b d} dis ha hb h Q q => ?_⟩
  unfold dInX at h
  split at h
  · rename_i ds
    split at h
    · rename_i c
      rw [Bool.and_eq_true] at c
      cases h
      obtain ⟨p, xs, rfl, hs, g⟩ := dp_lst hb
      refine ⟨p, xs, rfl, .inl (sql_ov dis hs), flat_of ha c.1, flatA_of g c.2, ?_⟩
      rw [inV_eqv ha c.1 g c.2]
      exact q _ H (Same.refl H) dis (.bl _)
    · cases h
  · rename_i ds
    split at h
    · rename_i c
      rw [Bool.and_eq_true] at c
      cases h
      obtain ⟨p, xs, rfl, hs, g⟩ := dp_tup hb
      refine ⟨p, xs, rfl, .inr (sqt_ov dis hs), flat_of ha c.1, flatA_of g c.2, ?_⟩
      rw [inV_eqv ha c.1 g c.2]
      exact q _ H (Same.refl H) dis (.bl _)
    · cases h
  · cases h
/-! texts in a row of texts -/
theorem flat_strs_all (l : List Str) : (l.map PyData.str).all flatD = true := by
  rw [List.all_eq_true]
  intro x hx
  obtain ⟨y, _, rfl⟩ := List.mem_map.mp hx
  rfl
theorem eqv_str (a b : Str) : PyData.eqv (.str a) (.str b) = decide (a = b) := by
  show (a == b) = decide (a = b)
  by_cases h : a = b
  · subst h; simp
  · simp [h]
theorem any_strs (n : Str) (l : List Str) : ((l.map PyData.str).any fun z => PyData.eqv z (.str n)) = decide (n ∈ l) := by
  induction l with
  | nil => rfl
  | cons x r ih =>
    rw [List.map_cons, List.any_cons, ih, eqv_str]
    by_cases h : x = n
    · subst h; simp
    · have h2 : ¬ n = x := fun z => h z.symm
      simp [h, h2]
theorem inX_l (n : Str) (l : List Str) : dInX false (.str n) (.list (l.map .str)) = some (.bool (decide (n ∈ l))) := by
  show (if (true && (l.map PyData.str).all flatD) = true then some (PyData.bool (if false = true then !((l.map PyData.str).any fun z => PyData.eqv z (.str n)) else (l.map PyData.str).any fun z => PyData.eqv z (.str n))) else none) = _
  rw [flat_strs_all, any_strs]
  rfl
theorem inX_t (n : Str) (l : List Str) : dInX false (.str n) (.tuple (l.map .str)) = some (.bool (decide (n ∈ l))) := by
  show (if (true && (l.map PyData.str).all flatD) = true then some (PyData.bool (if false = true then !((l.map PyData.str).any fun z => PyData.eqv z (.str n)) else (l.map PyData.str).any fun z => PyData.eqv z (.str n))) else none) = _
  rw [flat_strs_all, any_strs]
  rfl
theorem ninX_l (n : Str) (l : List Str) : dInX true (.str n) (.list (l.map .str)) = some (.bool (!decide (n ∈ l))) := by
  show (if (true && (l.map PyData.str).all flatD) = true then some (PyData.bool (if true = true then !((l.map PyData.str).any fun z => PyData.eqv z (.str n)) else (l.map PyData.str).any fun z => PyData.eqv z (.str n))) else none) = _
  rw [flat_strs_all, any_strs]
  rfl
theorem ninX_t (n : Str) (l : List Str) : dInX true (.str n) (.tuple (l.map .str)) = some (.bool (!decide (n ∈ l))) := by
  show (if (true && (l.map PyData.str).all flatD) = true then some (PyData.bool (if true = true then !((l.map PyData.str).any fun z => PyData.eqv z (.str n)) else (l.map PyData.str).any fun z => PyData.eqv z (.str n))) else none) = _
  rw [flat_strs_all, any_strs]
  rfl
end
end DD

set_option Elab.async false
set_option linter.all false
set_option maxRecDepth 100000
set_option maxHeartbeats 4000000
/-! how many texts there are in a row; tuples of the top -/
namespace DD
variable [TabQ] [ExQ]
open PySem PySem.Spec PyProof.Rows L2
section
variable {P : Program} {w : World} {A : Around} {E : Value → Shared → Prop} {s : Shared}
/-- the step that fills the new set from the tuple of texts at l -/
theorem fillTxT {h0 : Heap} {l : Addr} {items : Array Value} (xs : List Str) (hh : A.handled = none) (hl : (h0.push (set0 w)).IsTuple l items) (hlt : l < h0.objs.size) (hi : StrsAre items.toList xs) (hb : xs.length + 1 < scanBound) {R : Result → Shared → Prop} {t : Shared} (ht : t.heap = h0.push (set0 w))
    (h : ∀ (h' : Heap) (tk : Nat), TxS P w h' h0.objs.size (nubS xs) → (nubS xs).length ≤ xs.length → (∀ b o, h0.get? b = some o → h'.get? b = some o) → R (.ok (.ret .none)) { t with heap := h', toks := tk }) :
    codeAny (model P w) A.in1.in1 (.builtin "set.update.loop" ⟨[.ref h0.objs.size, .ref (h0.push (set0 w)).objs.size], []⟩) R { t with heap := (h0.push (set0 w)).push { cls := .type "tuple_iterator", data := .fields #[.ref l, .int 0 0] } } := by
  have size1 : (h0.push (set0 w)).objs.size = h0.objs.size + 1 := Heap.size_push ..
  have len : items.size = xs.length := by
    have q := StrsAre.length hi
    rwa [Array.length_toList] at q
  have ne1 : l ≠ (h0.push (set0 w)).objs.size := by rw [size1]; exact Nat.ne_of_lt (Nat.lt_succ_of_lt hlt)
  have out : h0.objs.size ∉ [(h0.push (set0 w)).objs.size, l] := by
    rw [size1]
    intro m
    simp only [List.mem_cons, List.not_mem_nil, or_false] at m
    rcases m with m | m
    · exact absurd m (Nat.ne_of_lt (Nat.lt_succ_self _))
    · exact absurd m (Nat.ne_of_gt hlt)
  have at0 : ((h0.push (set0 w)).push { cls := .type "tuple_iterator", data := .fields #[.ref l, .int 0 0] }).get? h0.objs.size = some (set0 w) := Heap.get?_push_of_some _ (Heap.get?_push_size _ rfl)
  refine tx_loop (P := P) (w := w) ((Walks.tuple (A := A.in1.in1.in1) (by simpa using hh) _ l ne1 items).toS) h0.objs.size out xs len hb (fun i v e => ?_) (items.size - 0) 0 _ (by omega) (Nat.zero_le _)
    ⟨⟨_, Heap.get?_push_size _ rfl, rfl, rfl⟩, hl.push _⟩ (Nat.le_refl 0) (tx_new at0) fun s' hm hS hc => ?_
  · obtain ⟨tk, e2⟩ := strs_nth hi i v (by rw [Array.getElem?_toList]; exact e)
    have hil : i < xs.length := by rw [← len]; exact (Array.getElem?_eq_some_iff.mp e).1
    refine ⟨xs[i], tk, List.getElem?_eq_getElem hil, ?_⟩
    rw [e2, List.getD_eq_getElem?_getD, List.getElem?_eq_getElem hil]
    rfl
  · obtain ⟨h', g', d', tk', os'⟩ := s'
    obtain rfl : g' = t.gens := hm.gens
    obtain rfl : d' = t.drawn := hm.drawn
    obtain rfl : os' = t.os := hm.os
    refine h h' tk' hS (by rw [← len]; exact hc) fun b o e => hm.heap b o ?_ (Heap.get?_push_of_some _ (Heap.get?_push_of_some _ e))
    have lt := Heap.lt_size e
    rw [size1]
    intro m
    simp only [List.mem_cons, List.not_mem_nil, or_false] at m
    rcases m with m | m
    · exact absurd m (Nat.ne_of_lt lt)
    · exact absurd m (Nat.ne_of_lt (Nat.lt_succ_of_lt lt))
theorem call_setTxT {l : Addr} {items : Array Value} (xs : List Str) {Q : Value → Shared → Prop} (hh : A.handled = none) (hl : s.heap.IsTuple l items) (hit : StrsAre items.toList xs) (hb : xs.length + 1 < scanBound)
    (h : ∀ (h' : Heap) (tk : Nat), TxS P w h' s.heap.objs.size (nubS xs) → (nubS xs).length ≤ xs.length → (∀ b o, s.heap.get? b = some o → h'.get? b = some o) → Q (.ref s.heap.objs.size) { s with heap := h', toks := tk }) :
    wpAny (model P w) A (call (.type "set") [.ref l]) Q E s := by
  obtain ⟨c0, tl, hmro⟩ := F.called_set.mro
  have h0 := F.called_set.made
  have h1 := F.called_set.notType
  have h2 := F.called_set.canCreate
  have h3 := F.called_set.sub
  have h4 := F.typeCall_set_1 (.ref l)
  refine wpAny_call (codeAny_of_tree (show wpAny _ _ (callAny (.type "set") _) _ _ _ from wpAny_pure ⟨Code.quiet_builtin _ (by decide +kernel), codeAny_builtin F.entry_type_call ?_⟩))
  rw [Around.under_plain (weight_type_call_type "set" [.ref l] []) rfl]
  repeat (any_goals (first | assumption | wp_step))
  refine codeAny_mono (code_set_led1 (.ref l) (E := E) (Q₁ := fun obj s₁ => obj = .ref s.heap.objs.size ∧ s₁ = { s with heap := s.heap.push (set0 w) }) ⟨rfl, rfl⟩) fun r s₁ hr => ?_
  cases r with
  | error e => exact hr
  | ok fl =>
    cases fl with
    | ret obj =>
      obtain ⟨rfl, rfl⟩ := hr
      have at0 : (s.heap.push (set0 w)).get? s.heap.objs.size = some (set0 w) := Heap.get?_push_size _ rfl
      have ty : Shared.TypeIs { s with heap := s.heap.push (set0 w) } (.ref s.heap.objs.size) "set" := ⟨_, at0, rfl⟩
      have h5 := F.called_set.init.lookup
      have h6 := F.called_set.init.bind (.ref s.heap.objs.size)
      repeat (any_goals (first | assumption | wp_step))
      refine codeAny_mono (codeAny_call_builtin (R := wants (fun r s₂ => r = .none ∧ ∃ h' tk, s₂ = { s with heap := h', toks := tk } ∧ TxS P w h' s.heap.objs.size (nubS xs) ∧ (nubS xs).length ≤ xs.length ∧
          (∀ b o, s.heap.get? b = some o → h'.get? b = some o)) E) F.called_set.init.plain F.entry_set_init (check_set_init_1 ty ?_)) fun r₂ s₂ hr₂ => ?_
      · obtain ⟨⟨ocls, odict, odata, oslots⟩, hol, hcl, nl, hdl⟩ := hl
        simp only at hcl hdl
        subst hcl hdl
        have hol' : (s.heap.push (set0 w)).get? l = some { cls := .type "tuple", dict := odict, data := .seq items nl, slots := oslots } := Heap.get?_push_of_some _ hol
        have h7 := F.sub_tuple_set
        have h8 := F.sub_tuple_frozenset
        have h9 : (Value.type "tuple" == Value.type "dict") = false := by decide
        have hL : (s.heap.push (set0 w)).IsTuple l items := ⟨_, hol', rfl, nl, rfl⟩
        unfold Builtin.«set.__init__» noKeywords Builtin.Frozenset.updateFrom
        generalize hPI : pyIter = PI
        wp_walk
        subst hPI
        refine wpAny_pyIter_tuple hL (wpAny_bind (wpAny_runValue ?_))
        refine fillTxT (A := A) (t := { s with heap := s.heap.push (set0 w) }) xs hh hL (Heap.lt_size hol) hit hb rfl fun h' tk hS hc hk => ?_
        refine wpAny_pure ?_
        show wpAny _ _ (ret Value.none) _ _ _
        exact wpAny_pure ⟨rfl, h', tk, rfl, hS, hc, hk⟩
      · cases r₂ with
        | error e => exact hr₂
        | ok fl₂ =>
          cases fl₂ with
          | ret r =>
            obtain ⟨rfl, h', tk, rfl, hS, hc, hk⟩ := hr₂
            repeat (any_goals (first | assumption | wp_step))
            exact h _ _ hS hc hk
          | _ => exact hr₂.elim
    | _ => exact hr.elim
end
section
variable {X : Cx}
def tLenTx (K : PySem.W.Frag) (ta : TE) : TE := fun σ H Q => ta σ H fun x H1 => ∃ (l : Addr) (xs : List Str), x = V.ref l ∧ (SqL K H1 l (xs.map V.str) ∨ SqT K H1 l (xs.map V.str)) ∧ xs.length < 63 ∧ Q (.int ((nubS xs).length : Nat)) H1
theorem pe_lenTx {a : Expr} {ta : TE} {p p2 q pos : Pos} (hg : Gl X "len") (hm : X.mg "len" = none) (hg2 : Gl X "set") (hm2 : X.mg "set" = none) (ha : PE X a ta) (hc : X.calm = true := by rfl)
    (na : starEach [a] X.env = (false, eval a X.env) :: starEach [] X.env := by rfl) : PE X (.Call (.Name "len" p) [.Call (.Name "set" p2) [a] [] q] [] pos) (tLenTx X.K ta) := by
  refine ⟨fun pins s σ H Q I h => ?_⟩
  refine Call_ (ld_blt I hg hm boot_len ?_)
  refine PyProof.Rows.callWith_builtin1 (PyProof.Rows.args_cons ?_ rfl) rfl rfl
  refine Call_ (ld_blt I hg2 hm2 boot_set ?_)
  refine PyProof.Rows.callWith_type1 (PyProof.Rows.args_cons (thn (ha.run pins s σ H _ I h) fun v s1 ⟨x, H1, I1, r1, q1⟩ => PyProof.Rows.args_nil ?_) na) na rfl
  obtain ⟨l, xs, rfl, hq, h1, q1⟩ := q1
  cases r1
  have fin : ∀ (h' : Heap) (tk : Nat), TxS X.prog X.w h' s1.heap.objs.size (nubS xs) → (nubS xs).length ≤ xs.length → (∀ b o, s1.heap.get? b = some o → h'.get? b = some o) →
      wpAny (model X.prog X.w) X.A (spliced (backTo pos (starEach [] X.env))) (fun vs s₂ => wpAny (model X.prog X.w) X.A (call (.builtin "len") (Value.ref s1.heap.objs.size :: vs)) (EP X pins σ Q) X.xe s₂) X.xe { s1 with heap := h', toks := tk } := fun h' tk hS hl hk => by
    refine PyProof.Rows.args_nil ?_
    obtain ⟨o, es, ep, t, ho, hex, hd, _, pm, _, _, hf, _⟩ := hS
    have hn : es.size = (nubS xs).length := by
      have := pm.length_eq
      rw [List.length_map] at this
      exact this
    have I2 : Inv X pins σ H1 { s1 with heap := h', toks := tk } := I1.kept fun b o e => hk b o e
    refine call_len_set ho hex hd hf (by rw [hn]; omega) ⟨.int ((nubS xs).length : Nat), H1, I2.tok _, ⟨_, by rw [hn]⟩, q1⟩
  rcases hq with hq | hq
  · obtain ⟨its, r, pl, hz⟩ := I1.list hq
    exact call_setTx (P := X.prog) xs (I1.ok.hd hc) pl.isList (by simpa using strsAre_of r) (by unfold scanBound; omega) fun h' tk hS hl hk => fin h' tk hS hl hk
  · obtain ⟨its, r, pl, hz⟩ := I1.tuple hq
    exact call_setTxT (P := X.prog) xs (I1.ok.hd hc) pl (by simpa using strsAre_of r) (by unfold scanBound; omega) fun h' tk hS hl hk => fin h' tk hS hl hk
end
section
variable {K : PySem.W.Frag}
def mLenTx (a : En → Option D) : En → Option D := fun ρ => (a ρ).bind fun x => match x with
  | .list ds => (strsD ds).bind fun ns => if ns.length < 63 then some (.int ((nubS ns).length : Nat)) else none
  | .tuple ds => (strsD ds).bind fun ns => if ns.length < 63 then some (.int ((nubS ns).length : Nat)) else none
  | _ => none
theorem ev_lenTx {ta : TE} {ma : En → Option D} (ha : ET K ta ma) : ET K (tLenTx K ta) (mLenTx ma) := by
  refine ⟨fun {H0 T0 σ ρ H T d} G h Q q => ?_⟩
  obtain ⟨x, hx, h⟩ := bind_some h
  refine ha.run G hx _ fun v H1 s1 d1 p1 => ?_
  split at h
  · obtain ⟨ns, e, h⟩ := bind_some h
    split at h
    · rename_i hz
      cases h
      cases strs_some e
      obtain ⟨a, us, rfl, hs, gu⟩ := dp_lst p1
      cases dpa_strs_v gu
      exact ⟨a, ns, rfl, .inl (sql_ov d1 hs), hz, q _ H1 s1 d1 (.int _)⟩
    · cases h
  · obtain ⟨ns, e, h⟩ := bind_some h
    split at h
    · rename_i hz
      cases h
      cases strs_some e
      obtain ⟨a, us, rfl, hs, gu⟩ := dp_tup p1
      cases dpa_strs_v gu
      exact ⟨a, ns, rfl, .inr (sqt_ov d1 hs), hz, q _ H1 s1 d1 (.int _)⟩
    · cases h
  · cases h
/-- a tuple of the top -/
theorem tup_const {a : Addr} {od : Option Addr} {its : Array Value} {n : Nat} {sl : Array (Option Value)} {ds : List D} (t : K.lookup a = some ⟨.type "tuple", od, .seq its n, sl⟩) (z : its.size ≤ 1000) (u : deVs (deV K 2) its.toList = some ds) :
    ∀ H, Dp K H (.ref a) (.tuple ds) := by
  obtain ⟨v, r, g⟩ := deV_ok 3 _ (deV_tup t z u)
  have : v = .ref a := by
    cases v <;> first | (cases r; rfl) | (obtain ⟨_, z⟩ := r; cases z) | cases r
  subst this
  exact g
end
end DD

set_option Elab.async false
set_option linter.all false
set_option maxRecDepth 100000
set_option maxHeartbeats 4000000
/-! sorted of a tuple of texts; slices of lists of which nothing is known -/
namespace DD
variable [TabQ] [ExQ]
open PySem PySem.Spec PyProof.Rows L2
section
variable {P : Program} {w : World} {A : Around} {E : Value → Shared → Prop} {s : Shared}
abbrev fillH (h : Heap) (vs : List Value) : Heap := (h.push (seqObj "list" #[] 0)).update h.objs.size (Obj.mapSeq (· ++ vs.toArray))
theorem fromTup {l : Addr} {vs : List Value} {Q : List Value → Shared → Prop} (hl : s.heap.IsTuple l vs.toArray) (hz : vs.length ≤ sizeLine) (h : Q vs { s with heap := fillH s.heap vs }) :
    wpAny (model P w) A (collect (.ref l)) Q E s := by
  obtain ⟨o, ho, hc, n, hd⟩ := id hl
  have hn : (s.heap.push (seqObj "list" #[] 0)).get? s.heap.objs.size = some (seqObj "list" #[] 0) := Heap.get?_push_size _ rfl
  have ho1 : (s.heap.push (seqObj "list" #[] 0)).get? l = some o := Heap.get?_push_of_some _ ho
  have h1 : (Value.type "tuple" == Value.type "list") = false := by decide
  have h2 : (Value.type "tuple" == Value.type "tuple") = true := by decide
  unfold collect
  refine wpAny_bind (wpAny_runValue (codeAny_builtin entry_proto_collect' ?_))
  show wpAny _ _ (do again (.builtin "list.__iadd__" ⟨[← newList [], .ref l], []⟩)) _ _ s
  refine wpAny_bind (wpAny_newList (wpAny_pure ⟨Code.quiet_builtin _ (by decide +kernel), codeAny_builtin entry_list_iadd' (show wpAny _ _ (Builtin.List.listExtendWith (.ref s.heap.objs.size) (.ref l) (.ref s.heap.objs.size)) _ _ { s with heap := s.heap.push (seqObj "list" #[] 0) } from ?_)⟩))
  unfold Builtin.List.listExtendWith
  refine wpAny_bind (wpAny_typeOf (T := "tuple") ⟨o, ho1, hc⟩ ?_)
  rw [if_pos (by rw [h1, h2]; simp)]
  refine wpAny_bind (listItems_at ho1 hd (wpAny_bind (listItems_at (xs := #[]) (n := 0) hn rfl ?_)))
  rw [if_neg (by simp)]
  refine wpAny_bind (listUpdate_at (xs := #[]) (n := 0) hn rfl (wpAny_pure ?_) (Nat.zero_le _) ?_)
  · show wpAny (model P w) A (load s.heap.objs.size >>= _) Q E { s with heap := fillH s.heap vs }
    refine wpAny_bind (wpAny_load (get?_update_seq hn _) ?_)
    have e : ((#[] : Array Value) ++ vs.toArray).toList = vs := by simp
    show wpAny _ _ (pure ((#[] : Array Value) ++ vs.toArray).toList) Q E _
    rw [e]; exact wpAny_pure h
  · show (#[] ++ vs.toArray).size ≤ sizeLine + 1
    simp only [Array.size_append, List.size_toArray, List.length_nil]; omega
theorem sortTup {l : Addr} {vs : List Value} {xs : List Str} {Q : Value → Shared → Prop} (hl : s.heap.IsTuple l vs.toArray) (hS : StrsAre vs xs) (h64 : vs.length < 64)
    (h : ∀ out : Array Value, StrsAre out.toList (sortS xs) → Q (.ref (s.heap.objs.size + 1)) { s with heap := sortedAll s.heap vs out }) :
    wpAny (model P w) A (call (.builtin "sorted") [.ref l]) Q E s := by
  refine Calls.call_function_entry kind_sorted plain_sorted entry_sorted (args_sorted1 _) ?_
  unfold Builtin.«sorted»
  have hz : vs.length ≤ sizeLine := by rw [sizeLine_eq]; omega
  refine wpAny_bind (m := checkCount "sorted" 1 1 _) (wpAny_pure (wpAny_bind (fromTup hl hz (wpAny_bind (wpAny_newList ?_ hz)))))
  have sz : (fillH s.heap vs).objs.size = s.heap.objs.size + 1 := by
    unfold fillH
    rw [Heap.size_update, size_push']
  have hoL : ((fillH s.heap vs).push (seqObj "list" vs.toArray 0)).get? (s.heap.objs.size + 1) = some (seqObj "list" vs.toArray 0) := by rw [← sz]; exact Heap.get?_push_size _ rfl
  show wpAny _ _ _ _ _ { s with heap := (fillH s.heap vs).push (seqObj "list" vs.toArray 0) }
  rw [sz]
  refine wpAny_bind (wpAny_holding (wpAny_call_entry PyProof.Rows.slot_list_sort ⟨_, hoL, rfl⟩ PyProof.Rows.entry_list_sort
    (list_sort_treeK strKind_oneLt (s := { s with heap := (fillH s.heap vs).push (seqObj "list" vs.toArray 0) }) hoL hS.keysOf (fun v₁ v₂ rest e => keyKind_strs (by rw [← e]; exact hS)) h64 fun st' hp hs => ⟨_, rfl, ?_⟩)
    (PyProof.Rows.args_list_sort _)))
  obtain ⟨ys, u1, u2, u3⟩ := sorted_out_str hS hp hs
  cases sortS_uniq u2 u3
  exact wpAny_pure ⟨_, rfl, h _ (by simpa using u1)⟩
end
section
variable {X : Cx}
def rSortT (K : PySem.W.Frag) : List V → Hp → VK → Prop := fun vs H Q => ∃ (a : Addr) (xs : List Str), vs = [V.ref a] ∧ (SqL K H a (xs.map V.str) ∨ SqT K H a (xs.map V.str)) ∧ xs.length < 64 ∧ ∀ p, H p = none → Q (.ref p) (upd H p (.lst ((sortS xs).map V.str)))
theorem cr_sortT' : CallR X (.builtin "sorted") (rSortT X.K) := by
  intro pins s σ H vs us Q I r h
  obtain ⟨a, xs, rfl, hs | hs, h64, q⟩ := h
  · exact cr_sortedS pins s σ H _ us Q I r ⟨a, xs, rfl, hs, h64, fun ys p h1 h2 h3 => by cases sortS_uniq h1 h2; exact q p h3⟩
  · obtain ⟨its, rv, hl, hz⟩ := I.tuple hs
    rw [Vals.ref1 r]
    have len := rv.length
    rw [List.length_map] at len
    refine sortTup hl rv.strs (by rw [← len]; exact h64) fun out h1 => ?_
    obtain ⟨ep, he⟩ := PyProof.Rows.sortedAll_at s.heap its out
    have hlen : ((sortS xs).map V.str).length ≤ sizeLine := by rw [List.length_map, (sortS_perm xs).length_eq, sizeLine_eq]; omega
    exact ⟨.ref _, upd H (s.heap.objs.size + 1) (.lst ((sortS xs).map V.str)), I.laid (t' := s.toks) (fun _ _ => PyProof.Rows.sortedAll_old) (Nat.le_succ _) ⟨hlen, out.toList, ep, vals_of_strs h1, he⟩, rfl, q _ (I.hok.fresh (Nat.le_succ _))⟩
end
section
variable {K : PySem.W.Frag}
def dSortT : List D → Option (List D)
  | [.list ds] => (strsD ds).bind fun ns => if ns.length < 64 then some ((sortS ns).map PyData.str) else none
  | [.tuple ds] => (strsD ds).bind fun ns => if ns.length < 64 then some ((sortS ns).map PyData.str) else none
  | _ => none
theorem cl_sortT : CL K (rSortT K) dSortT := by
  refine ⟨?_⟩
  intro H T vs ds out dis g h Q q
  unfold dSortT at h
  split at h
  · obtain ⟨ns, e, h⟩ := bind_some h
    split at h
    · rename_i hz
      cases h
      cases strs_some e
      obtain ⟨v, rfl, g2⟩ := dpa_one g
      obtain ⟨a, us, rfl, hs, gu⟩ := dp_lst g2
      cases dpa_strs_v gu
      exact ⟨a, ns, rfl, .inl (sql_ov dis hs), hz, fun p hn => q p _ H (Same.refl H) dis hn (dpa_strs _)⟩
    · cases h
  · obtain ⟨ns, e, h⟩ := bind_some h
    split at h
    · rename_i hz
      cases h
      cases strs_some e
      obtain ⟨v, rfl, g2⟩ := dpa_one g
      obtain ⟨a, us, rfl, hs, gu⟩ := dp_tup g2
      cases dpa_strs_v gu
      exact ⟨a, ns, rfl, .inr (sqt_ov dis hs), hz, fun p hn => q p _ H (Same.refl H) dis hn (dpa_strs _)⟩
    · cases h
  · cases h
/-! slices of lists, tuples and texts -/
def dSlY (d : D) (lo hi : Option Int) : Option D := match d with
  | .list ds => some (.list (cutD ds lo hi))
  | d => dSl d lo hi
def mSlY (a : En → Option D) (l h : En → Option (Option Int)) : En → Option D := fun ρ => (a ρ).bind fun x => (l ρ).bind fun lo => (h ρ).bind fun hi => dSlY x lo hi
def rSlY (K : PySem.W.Frag) : V → Option Int → Option Int → Hp → VK → Prop := fun x lo hi H Q => rSlX K x lo hi H Q ∨ rSlL K x lo hi H Q
theorem sl_any2 {X : Cx} : SlR X (rSlY X.K) := SlR.or sl_any sl_list
theorem ev_slY {ta : TE} {tl th : TO} {ma : En → Option D} {ml mh : En → Option (Option Int)} (ha : ET K ta ma) (hl : PAm K tl ml) (hh : PAm K th mh) : ET K (tSl (rSlY K) ta tl th) (mSlY ma ml mh) := by
  refine ⟨fun {H0 T0 σ ρ H T d} G h Q q => ?_⟩
  obtain ⟨x, hx, h1⟩ := bind_some h
  obtain ⟨lo, hlo, h2⟩ := bind_some h1
  obtain ⟨hi, hhi, h3⟩ := bind_some h2
  refine ha.run G hx _ fun v H1 s1 d1 p1 => ?_
  refine hl.run (G.mono s1 d1) hlo _ fun H2 s2 d2 => ?_
  refine hh.run ((G.mono s1 d1).mono s2 d2) hhi _ fun H3 s3 d3 => ?_
  have p3 := dp_mono (s2.trans s3) p1
  unfold dSlY at h3
  split at h3
  · cases h3
    obtain ⟨p, xs, rfl, hs, g⟩ := dp_lst p3
    refine .inr ⟨p, xs, rfl, sql_ov d3 hs, fun r nr => ?_⟩
    obtain ⟨nT, nH⟩ := ov_free nr
    rw [upd_ov nT]
    have s4 : Same H3 (upd H3 r (.lst (cutV xs lo hi))) := same_new nH
    exact q _ _ (((s1.trans s2).trans s3).trans s4) (dis_upd d3 nT nH) (.lst (SqL.of upd_same) (dpa_mono s4 (dpa_cut g lo hi)))
  · have E0 : ET K (tSl (rSlX K) ta tl th) (mSl ma ml mh) := ev_sl ha hl hh
    refine .inl ?_
    unfold dSl at h3
    split at h3
    · rename_i ds _
      cases h3
      obtain ⟨p, xs, rfl, hs, g⟩ := dp_tup p3
      refine .inl ⟨p, xs, rfl, sqt_ov d3 hs, fun hw => ?_, fun hw r nr => ?_⟩
      · have e : cutD ds lo hi = ds := by
          unfold cutD
          rw [← dpa_len g, hw.1, hw.2]
          rw [dpa_len g]
          simp
        exact q _ H3 ((s1.trans s2).trans s3) d3 (by rw [e]; exact p3)
      · obtain ⟨nT, nH⟩ := ov_free nr
        rw [upd_ov nT]
        have s4 : Same H3 (upd H3 r (.tup (cutV xs lo hi))) := same_new nH
        exact q _ _ (((s1.trans s2).trans s3).trans s4) (dis_upd d3 nT nH) (.tup (SqT.of upd_same) (dpa_mono s4 (dpa_cut g lo hi)))
    · rename_i z _
      split at h3
      · rename_i hz
        cases h3
        cases dp_str p3
        exact .inr ⟨z, rfl, cap_line hz, q _ H3 ((s1.trans s2).trans s3) d3 (.str _)⟩
      · cases h3
    · cases h3
end
end DD

set_option Elab.async false
set_option linter.all false
set_option maxRecDepth 100000
set_option maxHeartbeats 4000000
/-! what may be raised, and caught; item = .., str(..), join, split -/
namespace DD
variable [TabQ] [ExQ]
open PySem PySem.Spec PyProof.Rows L2
/-- what a def comes to: a datum, or an exception of the class with this name -/
inductive Rs where
  | ok (d : D)
  | ex (c : Nat)
inductive FlX where
  | fl (f : Fl)
  | ex (c : Nat) (ρ : En)
section
variable (K : PySem.W.Frag) (cl : Nat → Addr)
def RsOk (H : Hp) (T : Ov) (Q : VK) (E : XK) : Rs → Prop
  | .ok d => ∀ v H', Same H H' → Dis H' T → Dp K H' v d → Q v (ov H' T)
  | .ex c => ∀ H', Same H H' → Dis H' T → E (.ref (cl c)) none (ov H' T)
def spX (n : Nat) (m : List D → Option Rs) : Sp := fun vs Hx Q E => ∃ ds r H T, DpAll K H vs ds ∧ ds.length = n ∧ m ds = some r ∧ Hx = ov H T ∧ Dis H T ∧ RsOk K cl H T Q E r
structure EX (te : WX → TE) (m : En → Option Rs) : Prop where
  run : ∀ {H0 : Hp} {T0 : Ov} {σ : L2.St} {ρ : En} {H : Hp} {T : Ov} {r : Rs}, Good K H0 T0 σ ρ H T → m ρ = some r → ∀ (W : WX) (Q : VK), RsOk K cl H T Q (fun c d h => W c d σ h) r → te W σ (ov H T) Q
def FlXOk (H0 : Hp) (T0 : Ov) (E : Ends) (W : WX) : FlX → Prop
  | .fl f => FlOk K H0 T0 E f
  | .ex c ρ => ∀ σ H T, Good K H0 T0 σ ρ H T → W (.ref (cl c)) none σ (ov H T)
structure SX (t : WX → TS) (m : En → Option FlX) : Prop where
  run : ∀ {H0 : Hp} {T0 : Ov} {σ : L2.St} {ρ : En} {H : Hp} {T : Ov} {x : FlX}, Good K H0 T0 σ ρ H T → m ρ = some x → ∀ (W : WX) (E : Ends), FlXOk K cl H0 T0 E W x → t W E σ (ov H T)
end
def okR : Rs → Option D
  | .ok d => some d
  | .ex _ => none
def limX (n : Nat) (m : List D → Option Rs) : List D → Option D := fun ds => if ds.length = n then (m ds).bind okR else none
def xLift (m : En → Option D) : En → Option Rs := fun ρ => (m ρ).map .ok
def xCall (n : Nat) (mf : List D → Option Rs) (m : En → Option (List D)) : En → Option Rs := fun ρ => (m ρ).bind fun ds => if ds.length = n then mf ds else none
def xThen (f : List D → Option D) (m : En → Option Rs) : En → Option Rs := fun ρ => (m ρ).bind fun r => match r with
  | .ok d => (f [d]).map .ok
  | .ex c => some (.ex c)
def xFl (m : En → Option Fl) : En → Option FlX := fun ρ => (m ρ).map .fl
def xSeq (a b : En → Option FlX) : En → Option FlX := fun ρ => (a ρ).bind fun x => match x with
  | .fl (.nx ρ') => b ρ'
  | x => some x
def xIf (c : En → Option Bool) (a b : En → Option FlX) : En → Option FlX := fun ρ => (c ρ).bind fun x => if x = true then a ρ else b ρ
def xRet (m : En → Option Rs) : En → Option FlX := fun ρ => (m ρ).bind fun r => match r with
  | .ok d => some (.fl (.rt d))
  | .ex c => some (.ex c ρ)
def xDrop (m : En → Option Rs) : En → Option FlX := fun ρ => (m ρ).bind fun r => match r with
  | .ok _ => some (.fl (.nx ρ))
  | .ex c => some (.ex c ρ)
def xSet (i : Nat) (m : En → Option Rs) : En → Option FlX := fun ρ => (m ρ).bind fun r => match r with
  | .ok d => some (.fl (.nx (ρ.set i (some (.val d)))))
  | .ex c => some (.ex c ρ)
def xRaise (c : Nat) : En → Option FlX := fun ρ => some (.ex c ρ)
def xDef (N : Nat) (b : En → Option FlX) (ds : List D) : Option Rs := (b (start0 N ds)).bind fun x => match x with
  | .fl (.rt d) => some (.ok d)
  | .fl (.nx _) => some (.ok .none)
  | .ex c _ => some (.ex c)
  | _ => none
section
variable {K : PySem.W.Frag} {cl : Nat → Addr}
theorem passNo {X : Cx} (σ : L2.St) : PassesAt (L2.CX X.prog X.w) X σ (fun _ _ _ => False) := fun _ _ _ _ _ _ c => by
  obtain ⟨_, _, _, _, _, _, _, _, _, _, _, _, z⟩ := c
  exact z.elim
theorem ev_callX {n : Nat} {mf : List D → Option Rs} {t : TA} {m : En → Option (List D)} {E : L2.St → XK} (ha : TAm K t m) : ET K (tCallS (spX K cl n mf) E t) (mCall (limX n mf) m) := by
  refine ⟨fun {H0 T0 σ ρ H T d} G h Q q => ?_⟩
  obtain ⟨x, hx, h⟩ := bind_some h
  refine ha.run G hx _ fun vs H1 s1 d1 p1 => ?_
  unfold limX at h
  split at h
  · rename_i hn
    obtain ⟨r, hr, h⟩ := bind_some h
    cases r with
    | ok d' =>
      cases h
      exact ⟨x, .ok d, H1, T, p1, hn, hr, rfl, d1, fun v H' s2 d2 p2 => q v H' (s1.trans s2) d2 p2⟩
    | ex c => cases h
  · cases h
theorem ex_lift {te : TE} {m : En → Option D} (h : ET K te m) : EX K cl (fun _ => te) (xLift m) := by
  refine ⟨fun {H0 T0 σ ρ H T r} G hm W Q q => ?_⟩
  obtain ⟨d, hd, e⟩ := map_some hm
  subst e
  exact h.run G hd Q q
theorem ex_call {n : Nat} {mf : List D → Option Rs} {t : TA} {m : En → Option (List D)} (ha : TAm K t m) : EX K cl (fun W => tCallS (spX K cl n mf) (WE W) t) (xCall n mf m) := by
  refine ⟨fun {H0 T0 σ ρ H T r} G h W Q q => ?_⟩
  obtain ⟨x, hx, h⟩ := bind_some h
  refine ha.run G hx _ fun vs H1 s1 d1 p1 => ?_
  split at h
  · rename_i hn
    refine ⟨x, r, H1, T, p1, hn, h, rfl, d1, ?_⟩
    cases r with
    | ok d => exact fun v H' s2 d2 p2 => q v H' (s1.trans s2) d2 p2
    | ex c => exact fun H' s2 d2 => q H' (s1.trans s2) d2
  · cases h
theorem ex_then {te : WX → TE} {m : En → Option Rs} {mf : List D → Option D} {E : XK} (h : EX K cl te m) : EX K cl (fun W => tCall (spM K 1 mf) [] E (tCons (te W) tNil)) (xThen (lim 1 mf) m) := by
  refine ⟨fun {H0 T0 σ ρ H T r} G hm W Q q => ?_⟩
  obtain ⟨r1, h1, hm⟩ := bind_some hm
  cases r1 with
  | ok d =>
    obtain ⟨d2, h2, e⟩ := map_some hm
    subst e
    refine h.run G h1 W _ fun v H1 s1 d1 p1 => ?_
    show spM K 1 mf ([v] ++ []) (ov H1 T) Q E
    exact ⟨[d], d2, H1, T, .cons p1 .nil, rfl, h2, rfl, d1, fun w H3 s3 d3 p3 => q w H3 (s1.trans s3) d3 p3⟩
  | ex c =>
    cases hm
    exact h.run G h1 W _ q
theorem sx_lift {t : TS} {m : En → Option Fl} (h : TSm K t m) : SX K cl (fun _ => t) (xFl m) := by
  refine ⟨fun {H0 T0 σ ρ H T x} G hm W E q => ?_⟩
  obtain ⟨f, hf, e⟩ := map_some hm
  subst e
  exact h.run G hf E q
theorem sx_seq {t u : WX → TS} {m1 m2 : En → Option FlX} (h1 : SX K cl t m1) (h2 : SX K cl u m2) : SX K cl (fun W => tSeq (t W) (u W)) (xSeq m1 m2) := by
  refine ⟨fun {H0 T0 σ ρ H T x} G h W E q => ?_⟩
  obtain ⟨y, hy, h⟩ := bind_some h
  refine h1.run G hy W _ ?_
  cases y with
  | fl f =>
    cases f with
    | nx ρ' => exact fun σ' H' T' G' => h2.run G' h W E q
    | rt d => cases h; exact q
    | bk ρ' => cases h; exact q
    | ct ρ' => cases h; exact q
  | ex c ρ' => cases h; exact q
theorem sx_if {tc : TT} {mc : En → Option Bool} {t u : WX → TS} {m1 m2 : En → Option FlX} (hc : TTm K tc mc) (h1 : SX K cl t m1) (h2 : SX K cl u m2) : SX K cl (fun W => tIfS tc (t W) (u W)) (xIf mc m1 m2) := by
  refine ⟨fun {H0 T0 σ ρ H T f} G h W E q => ?_⟩
  obtain ⟨x, hx, h⟩ := bind_some h
  refine hc.run G hx _ fun H1 s1 d1 => ?_
  cases x with
  | true =>
    rw [if_pos rfl] at h ⊢
    exact h1.run (G.mono s1 d1) h W E q
  | false =>
    rw [if_neg Bool.false_ne_true] at h ⊢
    exact h2.run (G.mono s1 d1) h W E q
theorem sx_ret {te : WX → TE} {m : En → Option Rs} (h : EX K cl te m) : SX K cl (fun W => tRet (te W)) (xRet m) := by
  refine ⟨fun {H0 T0 σ ρ H T x} G hm W E q => ?_⟩
  obtain ⟨r, hr, hm⟩ := bind_some hm
  refine h.run G hr W _ ?_
  cases r with
  | ok d => cases hm; exact fun v H1 s1 d1 p1 => q v H1 T (G.ex.trans s1) d1 G.ext p1
  | ex c => cases hm; exact fun H1 s1 d1 => q σ H1 T (G.mono s1 d1)
theorem sx_drop {te : WX → TE} {m : En → Option Rs} (h : EX K cl te m) : SX K cl (fun W => tDrop (te W)) (xDrop m) := by
  refine ⟨fun {H0 T0 σ ρ H T x} G hm W E q => ?_⟩
  obtain ⟨r, hr, hm⟩ := bind_some hm
  refine h.run G hr W _ ?_
  cases r with
  | ok d => cases hm; exact fun v H1 s1 d1 p1 => q σ H1 T (G.mono s1 d1)
  | ex c => cases hm; exact fun H1 s1 d1 => q σ H1 T (G.mono s1 d1)
theorem sx_set {te : WX → TE} {m : En → Option Rs} (i : Nat) (h : EX K cl te m) : SX K cl (fun W => tAsg (te W) (gName i)) (xSet i m) := by
  refine ⟨fun {H0 T0 σ ρ H T x} G hm W E q => ?_⟩
  obtain ⟨r, hr, hm⟩ := bind_some hm
  refine h.run G hr W _ ?_
  cases r with
  | ok d => cases hm; exact fun v H1 s1 d1 p1 => q _ H1 T ((G.mono s1 d1).set p1)
  | ex c => cases hm; exact fun H1 s1 d1 => q σ H1 T (G.mono s1 d1)
theorem sx_raise (c : Nat) : SX K cl (fun W _ σ H => W (.ref (cl c)) none σ H) (xRaise c) := by
  refine ⟨fun {H0 T0 σ ρ H T x} G hm W E q => ?_⟩
  cases hm
  exact q σ H T G
/-- a def that may raise -/
theorem def_okX {P : Program} {w : World} {mg : Str → Option Value} {base : Heap} {x qual : Str} {st : Stmt} {f : Addr} {fd : FuncData} {N ps : List Str} {k : Nat} {mb : En → Option FlX} (F : Fun K x qual st f fd) (S : FnScope N ps (defScope st))
    (hbody : ∀ (cdv : Value) (A : Around) (outer : List Env) (s : Shared) (H : Hp) (E : XK), Room k (A.deeper (envOfC qual (defScope st) s.heap.objs.size f cdv)) →
      ∃ t : WX → TS, PSs (cxOf (L2.CX P w) P w K mg base N qual (defScope st) f cdv A outer s H E) (defBody st) (t fun c d _ h => E c d h) ∧ SX K cl t mb) : FnOk P w K mg base (L2.CX P w) (k + 1) f fd ps (spX K cl ps.length (xDef N.length mb)) := by
  refine F.okX S (fun vs H Q E h => ?_) (fun cdv A outer s Hx vs Q E hr h => ?_)
  · obtain ⟨ds, r, H, T, g, hn, _⟩ := h
    rw [dpa_len g, hn]
  · obtain ⟨ds, r, H, T, g, hn, hm, rfl, dis, q⟩ := h
    obtain ⟨t, p, m⟩ := hbody cdv A outer s (ov H T) E hr
    refine ⟨_, p, ?_⟩
    obtain ⟨y, hy, hm⟩ := bind_some hm
    refine m.run (good_start g dis) hy _ _ ?_
    cases y with
    | fl fl =>
      cases fl with
      | rt d' =>
        cases hm
        intro v H' T' s1 d1 e1 p1
        obtain ⟨H2, e2, s2, d2, s3⟩ := back dis s1 d1 e1
        show Q v (ov H' T')
        rw [e2]
        exact q v H2 s2 d2 (dp_mono s3 p1)
      | nx ρ =>
        cases hm
        intro σ' H' T' G'
        obtain ⟨H2, e2, s2, d2, s3⟩ := back dis G'.ex G'.dis G'.ext
        show Q .non (ov H' T')
        rw [e2]
        exact q _ H2 s2 d2 .non
      | bk ρ => cases hm
      | ct ρ => cases hm
    | ex c ρ =>
      cases hm
      intro σ' H' T' G'
      obtain ⟨H2, e2, s2, d2, s3⟩ := back dis G'.ex G'.dis G'.ext
      show E (.ref (cl c)) none (ov H' T')
      rw [e2]
      exact q H2 s2 d2
/-! caught -/
/-- the suite, for exceptions of one class -/
theorem pss_cls {X : Cx} {C : Addr} {oe : Obj} {cls : Value} {d : Option Addr} {b : List Stmt} {t : TS} (hz : Zc cls d oe) (h : Zc (.ref C) none oe → PSs X b t) : PSs X b (fun D σ H => (cls = .ref C ∧ d = none) ∧ t D σ H) :=
  ⟨fun pins s σ H D I q => by
    obtain ⟨⟨rfl, rfl⟩, q⟩ := q
    exact (h hz).run pins s σ H D I q⟩
/-- what an expression of a suite comes to, the exception at a in slot i -/
structure SB (i : Nat) (te : Addr → TE) (v : V) : Prop where
  run : ∀ (a : Addr) (σ : L2.St) (H : Hp) (Q : VK), σ[i]? = some (some (.ref a)) → Q v H → te a σ H Q
structure SBT (i : Nat) (tt : Addr → TT) (b : Bool) : Prop where
  run : ∀ (a : Addr) (σ : L2.St) (H : Hp) (Q : Bool → Hp → Prop), σ[i]? = some (some (.ref a)) → Q b H → tt a σ H Q
theorem sb_is {i : Nat} {D Y : Addr} {b : Bool} (k : PySem.W.kitOne K (.ref D) (.ref Y) = some b) : SB i (fun a => tCB (rIsE K D a) (tCons (tVar i) (tCons (tC (.ref Y)) tNil))) (.bl b) :=
  ⟨fun a σ H Q h q => ⟨.ref a, h, .ref Y, .ref Y, b, rfl, fun _ r => r, k, q⟩⟩
theorem sb_and {i : Nat} {ta tb : Addr → TE} {b c : Bool} (h1 : SB i ta (.bl b)) (h2 : SB i tb (.bl c)) : SB i (fun a => tAndV (ta a) (tb a)) (.bl (b && c)) :=
  ⟨fun a σ H Q h q => h1.run a σ H _ h ⟨b, rfl, by
    cases b with
    | true => rw [if_pos rfl]; exact h2.run a σ H Q h q
    | false => rw [if_neg Bool.false_ne_true]; exact q⟩⟩
theorem sb_not {i : Nat} {ta : Addr → TE} {b : Bool} (h1 : SB i ta (.bl b)) : SB i (fun a => tNotV (ta a)) (.bl (!b)) := ⟨fun a σ H Q h q => h1.run a σ H _ h ⟨b, rfl, q⟩⟩
theorem sb_c {i : Nat} {v : V} : SB i (fun _ => tC v) v := ⟨fun a σ H Q h q => q⟩
theorem sbt_tru {i : Nat} {ta : Addr → TE} {b : Bool} (h1 : SB i ta (.bl b)) : SBT i (fun a => tTru K (ta a)) b := ⟨fun a σ H Q h q => h1.run a σ H _ h ⟨b, rfl, q⟩⟩
theorem sb_if {i : Nat} {tt : Addr → TT} {ta tb : Addr → TE} {b : Bool} {v w : V} (h : SBT i tt b) (h1 : SB i ta v) (h2 : SB i tb w) : SB i (fun a => tIf (tt a) (ta a) (tb a)) (if b = true then v else w) :=
  ⟨fun a σ H Q e q => h.run a σ H _ e (by
    cases b with
    | true => rw [if_pos rfl] at q ⊢; exact h1.run a σ H Q e q
    | false => rw [if_neg Bool.false_ne_true] at q ⊢; exact h2.run a σ H Q e q)⟩
def sTry (i : Nat) (c0 : Nat) (d0 : D) (b : En → Option FlX) : En → Option Fl := fun ρ => (b ρ).bind fun x => match x with
  | .fl f => some f
  | .ex c ρ' => if c = c0 ∧ i < ρ'.length then some (.rt d0) else none
/-- try: .. except c as e: return .. -/
theorem st_try {i : Nat} {c0 : Nat} {C : Addr} {d0 : D} {v0 : V} {tb : WX → TS} {te : Addr → TE} {mb : En → Option FlX} (hb : SX K cl tb mb) (hx : PySem.W.exmOne K (.ref (cl c0)) (.ref C) = some true) (hs : SB i te v0) (hd : ∀ H, Dp K H v0 d0) :
    TSm K (fun D σ H => tb (wAs K (.ref C) i (fun a cls d D σ H => (cls = .ref (cl c0) ∧ d = none) ∧ tRet (te a) D σ H) (fun _ _ _ _ => False) D) D σ H) (sTry i c0 d0 mb) := by
  refine ⟨fun {H0 T0 σ ρ H T f} G h E q => ?_⟩
  obtain ⟨x, hx1, h⟩ := bind_some h
  refine hb.run G hx1 _ E ?_
  cases x with
  | fl f' => cases h; exact q
  | ex c ρ' =>
    by_cases hc : c = c0 ∧ i < ρ'.length
    · have h' : some (Fl.rt d0) = some f := by
        have : (if c = c0 ∧ i < ρ'.length then some (Fl.rt d0) else none) = some f := h
        rwa [if_pos hc] at this
      cases h'
      obtain ⟨rfl, hi⟩ := hc
      intro σ' H' T' G'
      refine ⟨true, hx, fun _ a na => ⟨⟨rfl, rfl⟩, ?_⟩, fun z => (nomatch z)⟩
      exact hs.run a _ _ _ (set_self (by rw [← G'.len]; exact hi)) (q v0 H' T' G'.ex G'.dis G'.ext (hd _))
    · have : (if c = c0 ∧ i < ρ'.length then some (Fl.rt d0) else none) = some f := h
      rw [if_neg hc] at this
      cases this
/-! item = value, str, join, split -/
theorem dpa_set {H : Hp} : ∀ {xs : List V} {ds : List D} {v : V} {d : D} (j : Nat), DpAll K H xs ds → Dp K H v d → DpAll K H (xs.set j v) (ds.set j d)
  | _, _, _, _, _, .nil, _ => .nil
  | _, _, _, _, 0, .cons _ t, g => .cons g t
  | _, _, _, _, j + 1, .cons h t, g => .cons h (dpa_set j t g)
def sItem (i : Nat) (mk ma : En → Option D) : En → Option Fl := fun ρ => match ρ[i]? with
  | some (some (.own ds)) => (ma ρ).bind fun d => (mk ρ).bind fun k => match k with
    | .int k => (ixN ds.length k).map fun j => .nx (ρ.set i (some (.own (ds.set j d))))
    | _ => none
  | _ => none
theorem st_item {i : Nat} {te tk : TE} {mk ma : En → Option D} (ha : ET K te ma) (hk : ET K tk mk) : TSm K (tAsg te (gSub (tVar i) tk rSetL)) (sItem i mk ma) := by
  refine ⟨fun {H0 T0 σ ρ H T f} G h E q => ?_⟩
  unfold sItem at h
  split at h
  · rename_i ds e
    obtain ⟨d, hd, h⟩ := bind_some h
    obtain ⟨kd, hkd, h⟩ := bind_some h
    split at h
    · rename_i k
      obtain ⟨j, hj, h⟩ := map_some h
      subst h
      refine ha.run G hd _ fun v H1 s1 d1 p1 => ?_
      have G1 := G.mono s1 d1
      obtain ⟨p, xs, a, b, c, g⟩ := G1.own i ds e
      refine ⟨.ref p, a, ?_⟩
      refine hk.run G1 hkd _ fun u H2 s2 d2 p2 => ?_
      have G2 := G1.mono s2 d2
      obtain ⟨p', xs', a', b', c', g'⟩ := G2.own i ds e
      rw [a] at a'
      cases a'
      rw [b] at b'
      cases b'
      cases p2
      refine ⟨p, xs, k, j, rfl, rfl, ov_own b, by rw [dpa_len g']; exact hj, ?_⟩
      rw [upd_put]
      exact q _ _ _ (G2.turn e a b (dpa_set j g' (dp_mono s2 p1)))
    · cases h
  · cases h
def rStrA : List V → Hp → VK → Prop := fun xs H Q => (∃ i, xs = [V.int i] ∧ i.natAbs.log2 < 1920 ∧ Q (.str (toString i)) H) ∨ ∃ a, xs = [V.str a] ∧ Q (.str a) H
theorem cr_strA {X : Cx} : CallR X (.type "str") rStrA := by
  intro pins s σ H xs us Q I r h
  rcases h with h | h
  · exact call_str_int pins s σ H xs us Q I r h
  · exact SkE.call_str_str pins s σ H xs us Q I r h
def strI (i : Int) : Str := toString i
def dStrA : List D → Option D
  | [.int i] => if i.natAbs.log2 < 1920 then some (.str (strI i)) else none
  | [.str a] => some (.str a)
  | _ => none
theorem cd_strA : CD K rStrA dStrA := by
  refine ⟨fun {H T vs ds d} dis h e Q q => ?_⟩
  unfold dStrA at e
  split at e
  · split at e
    · rename_i hz
      cases e
      obtain ⟨v, rfl, g⟩ := dpa_one h
      cases g
      exact .inl ⟨_, rfl, hz, q _ H (Same.refl H) dis (.str _)⟩
    · cases e
  · cases e
    obtain ⟨v, rfl, g⟩ := dpa_one h
    cases dp_str g
    exact .inr ⟨_, rfl, q _ H (Same.refl H) dis (.str _)⟩
  · cases e
abbrev rJoinD (K : PySem.W.Frag) : V → List V → Hp → VK → Prop := fun x xs H Q => ∃ a p, ∃ ys : List Str, x = .str a ∧ xs = [.ref p] ∧ (SqL K H p (ys.map V.str) ∨ SqT K H p (ys.map V.str)) ∧ (ys.map (·.length)).sum + ys.length * a.length ≤ 16777216 ∧ Q (.str (Txt.join a ys)) H
def dJoin : D → D → Option D
  | .str a, .list ds => (strsD ds).bind fun ns => if (ns.map (·.length)).sum + ns.length * a.length ≤ 16777216 then some (.str (Txt.join a ns)) else none
  | .str a, .tuple ds => (strsD ds).bind fun ns => if (ns.map (·.length)).sum + ns.length * a.length ≤ 16777216 then some (.str (Txt.join a ns)) else none
  | _, _ => none
theorem ev_join {to ta : TE} {mo ma : En → Option D} (ho : ET K to mo) (ha : ET K ta ma) : ET K (tBM K "str" (rJoinD K) to (tCons ta tNil)) (mOp dJoin mo ma) := by
  refine ⟨fun {H0 T0 σ ρ H T d} G h Q q => ?_⟩
  obtain ⟨x, hx, h⟩ := bind_some h
  obtain ⟨y, hy, h⟩ := bind_some h
  refine ho.run G hx _ fun v H1 s1 d1 p1 => ?_
  unfold dJoin at h
  split at h
  · rename_i a ds
    obtain ⟨ns, e, h⟩ := bind_some h
    split at h
    · rename_i hz
      cases h
      cases strs_some e
      cases dp_str p1
      refine ⟨rfl, ?_⟩
      refine ha.run (G.mono s1 d1) hy _ fun u H2 s2 d2 p2 => ?_
      obtain ⟨p, us, rfl, hs, gu⟩ := dp_lst p2
      cases dpa_strs_v gu
      exact ⟨_, p, ns, rfl, rfl, .inl (sql_ov d2 hs), hz, q _ H2 (s1.trans s2) d2 (.str _)⟩
    · cases h
  · rename_i a ds
    obtain ⟨ns, e, h⟩ := bind_some h
    split at h
    · rename_i hz
      cases h
      cases strs_some e
      cases dp_str p1
      refine ⟨rfl, ?_⟩
      refine ha.run (G.mono s1 d1) hy _ fun u H2 s2 d2 p2 => ?_
      obtain ⟨p, us, rfl, hs, gu⟩ := dp_tup p2
      cases dpa_strs_v gu
      exact ⟨_, p, ns, rfl, rfl, .inr (sqt_ov d2 hs), hz, q _ H2 (s1.trans s2) d2 (.str _)⟩
    · cases h
  · cases h
end
end DD
namespace DD
variable [TabQ] [ExQ]
open PySem PySem.Spec PyProof.Rows L2
theorem kit_of {K : PySem.W.Frag} {D C : Addr} {b : Bool} (hc : PySem.W.isClsIn K C = true) (ht : PySem.W.typeIn K (.ref C) = some (.type "type")) (hs : PySem.W.subIn K (.ref D) (.ref C) = some b) (hself : PySem.W.subIn K (.ref C) (.ref C) = some true) : PySem.W.kitOne K (.ref D) (.ref C) = some b := by
  unfold PySem.W.kitOne
  split
  · rename_i h
    have e : Value.ref D = Value.ref C := by simpa using h
    cases e
    rw [hself] at hs
    exact hs
  · have hc' : (PySem.W.clsIn K C).isSome = true := hc
    show (if ((PySem.W.clsIn K C).isSome && PySem.W.typeIn K (.ref C) == some (.type "type")) = true then PySem.W.subIn K (.ref D) (.ref C) else none) = some b
    rw [hc', ht]
    exact hs
end DD
namespace DD
variable [TabQ] [ExQ]
open PySem PySem.Spec PyProof.Rows L2
theorem pg_or {X : Cx} {e : Expr} {t u : TG} (h1 : PG X e t) (h2 : PG X e u) : PG X e (fun v σ H Q => t v σ H Q ∨ u v σ H Q) := by
  refine ⟨fun pins s σ H v x Q I r h => ?_⟩
  rcases h with h | h
  · exact h1.run pins s σ H v x Q I r h
  · exact h2.run pins s σ H v x Q I r h
def gAnyM (n : Nat) (g : List D → En → Option En) (d : D) (ρ : En) : Option En := match d with
  | .tuple ds => if ds.length = n then g ds ρ else none
  | .list ds => if ds.length = n then g ds ρ else none
  | _ => none
theorem tg_any {K : PySem.W.Frag} {vs : List Nat} {n : Nat} {gs : TGs} {mr : List D → En → Option En} (h : TGsm K vs gs mr) : TGm K vs (fun v σ H Q => gTup K n gs v σ H Q ∨ gLst K n gs v σ H Q) (gAnyM n mr) := by
  refine ⟨fun {H0 T0 σ ρ ρ2 H T v d} G g e Q q => ?_⟩
  unfold gAnyM at e
  split at e
  · split at e
    · rename_i hn
      obtain ⟨p, xs, rfl, hs, ga⟩ := dp_tup g
      exact .inl ⟨p, xs, rfl, sqt_ov G.dis hs, by rw [dpa_len ga]; exact hn, h.run G ga e Q q⟩
    · cases e
  · split at e
    · rename_i hn
      obtain ⟨p, xs, rfl, hs, ga⟩ := dp_lst g
      exact .inr ⟨p, xs, rfl, sql_ov G.dis hs, by rw [dpa_len ga]; exact hn, h.run G ga e Q q⟩
    · cases e
  · cases e
end DD

set_option Elab.async false
set_option linter.all false
set_option maxRecDepth 100000
set_option maxHeartbeats 4000000
/-! a text split at another -/
namespace DD
variable [TabQ] [ExQ]
open PySem PySem.Spec PyProof.Rows L2
section
variable {K : PySem.W.Frag}
abbrev rSplitD : V → List V → Hp → VK → Prop := fun x xs H Q => ∃ a b, x = .str a ∧ xs = [.str b] ∧ (b.length == 0) = false ∧ a.length + 2 ≤ sizeLine ∧ rNewStrs (Txt.split a b) H Q
def dSplit : D → D → Option D
  | .str a, .str b => if (b.length == 0) = false ∧ a.length + 2 ≤ 16777216 then some (.list ((Txt.split a b).map PyData.str)) else none
  | _, _ => none
theorem ev_split {to ta : TE} {mo ma : En → Option D} (ho : ET K to mo) (ha : ET K ta ma) : ET K (tBM K "str" rSplitD to (tCons ta tNil)) (mOp dSplit mo ma) := by
  refine ⟨fun {H0 T0 σ ρ H T d} G h Q q => ?_⟩
  obtain ⟨x, hx, h⟩ := bind_some h
  obtain ⟨y, hy, h⟩ := bind_some h
  refine ho.run G hx _ fun v H1 s1 d1 p1 => ?_
  unfold dSplit at h
  split at h
  · rename_i a b _
    split at h
    · rename_i hz
      cases h
      cases dp_str p1
      refine ⟨rfl, ?_⟩
      refine ha.run (G.mono s1 d1) hy _ fun u H2 s2 d2 p2 => ?_
      cases dp_str p2
      refine ⟨_, _, rfl, rfl, hz.1, by rw [sizeLine_eq]; exact hz.2, fun p nr => ?_⟩
      obtain ⟨nT, nH⟩ := ov_free nr
      rw [upd_ov nT]
      have s4 : Same H2 (upd H2 p (.lst ((Txt.split a b).map V.str))) := same_new nH
      exact q _ _ ((s1.trans s2).trans s4) (dis_upd d2 nT nH) (.lst (SqL.of upd_same) (dpa_mono s4 (dpa_strs _)))
    · cases h
  · cases h
end
end DD

set_option Elab.async false
set_option linter.all false
set_option maxRecDepth 100000
set_option maxHeartbeats 4000000
/-! a def that calls itself: as deep as a number tells -/
namespace DD
variable [TabQ] [ExQ]
open PySem PySem.Spec PyProof.Rows L2
section
variable {P : Program} {w : World} {K : PySem.W.Frag} {mg : Str → Option Value} {base : Heap} {CX : CXT} {k c : Nat} {f : Addr} {fd : FuncData} {ps : List Str}
theorem fn_none (h : c = ps.length) : FnOk P w K mg base CX k f fd ps (spM K c fun _ => none) := by
  refine ⟨fun vs H Q E x => ?_, fun A outer s H args us vs Q E hr e0 hb r x => ?_⟩
  · obtain ⟨ds, d, H', T, _, _, z, _⟩ := x
    cases z
  · obtain ⟨ds, d, H', T, _, _, z, _⟩ := x
    cases z
theorem fn_rec {m : Nat → List D → Option D} (hc : c = ps.length) (h0 : m 0 = fun _ => none) (hs : ∀ n, FnOk P w K mg base CX (k + n) f fd ps (spM K c (m n)) → FnOk P w K mg base CX (k + n + 1) f fd ps (spM K c (m (n + 1)))) : ∀ n, FnOk P w K mg base CX (k + n) f fd ps (spM K c (m n))
  | 0 => by
    rw [h0]
    exact fn_none hc
  | n + 1 => hs n (fn_rec hc h0 hs n)
end
end DD

set_option Elab.async false
set_option linter.all false
set_option maxRecDepth 100000
set_option maxHeartbeats 4000000
/-! int(), abs(), a sign's place in a text; suites that tell lists; several classes in one try; raising defs that call themselves -/
namespace DD
variable [TabQ] [ExQ]
open PySem PySem.Spec PyProof.Rows L2
section
variable {K : PySem.W.Frag}
def rIntA : List V → Hp → VK → Prop := fun xs H Q => ((∃ i, xs = [V.int i] ∧ Q (.int i) H) ∨ ∃ k, xs = [V.bl k] ∧ Q (.int (if k then 1 else 0)) H) ∨ ∃ a n, xs = [V.str a] ∧ PySem.intText? a = some n ∧ a.length ≤ 640 ∧ Q (.int n) H
theorem cr_intA {X : Cx} : CallR X (.type "int") rIntA := by
  intro pins s σ H xs us Q I r h
  rcases h with h | h
  · exact call_int1 pins s σ H xs us Q I r h
  · exact call_int_str pins s σ H xs us Q I r h
def dIntA : List D → Option D
  | [.int i] => some (.int i)
  | [.bool k] => some (.int (if k then 1 else 0))
  | [.str a] => if a.length ≤ 640 then (PySem.intText? a).map .int else none
  | _ => none
theorem cd_intA : CD K rIntA dIntA := by
  refine ⟨fun {H T vs ds d} dis h e Q q => ?_⟩
  unfold dIntA at e
  split at e
  · cases e
    obtain ⟨v, rfl, g⟩ := dpa_one h
    cases g
    exact .inl (.inl ⟨_, rfl, q _ H (Same.refl H) dis (.int _)⟩)
  · cases e
    obtain ⟨v, rfl, g⟩ := dpa_one h
    cases g
    exact .inl (.inr ⟨_, rfl, q _ H (Same.refl H) dis (.int _)⟩)
  · split at e
    · rename_i hz
      obtain ⟨n, hn, e⟩ := map_some e
      subst e
      obtain ⟨v, rfl, g⟩ := dpa_one h
      cases dp_str g
      exact .inr ⟨_, n, rfl, hn, hz, q _ H (Same.refl H) dis (.int _)⟩
    · cases e
  · cases e
def rAbs : List V → Hp → VK → Prop := fun xs H Q => ∃ i, xs = [V.int i] ∧ Q (.int (if i < 0 then -i else i)) H
theorem cr_abs {X : Cx} : CallR X (.builtin "abs") rAbs := call_abs
def dAbs : List D → Option D
  | [.int i] => some (.int (if i < 0 then -i else i))
  | _ => none
theorem cd_abs : CD K rAbs dAbs := by
  refine ⟨fun {H T vs ds d} dis h e Q q => ?_⟩
  unfold dAbs at e
  split at e
  · cases e
    obtain ⟨v, rfl, g⟩ := dpa_one h
    cases g
    exact ⟨_, rfl, q _ H (Same.refl H) dis (.int _)⟩
  · cases e
abbrev rSIndex : V → List V → Hp → VK → Prop := fun x xs H Q => ∃ a b i rest, x = .str a ∧ xs = [.str b] ∧ Builtin.Str.occurrences a b 0 a.length 1 = i :: rest ∧ Q (.int (i : Nat)) H
def dSIndex : D → D → Option D
  | .str a, .str b => match Builtin.Str.occurrences a b 0 a.length 1 with
    | i :: _ => some (.int (i : Nat))
    | [] => none
  | _, _ => none
theorem ev_sindex {to ta : TE} {mo ma : En → Option D} (ho : ET K to mo) (ha : ET K ta ma) : ET K (tBM K "str" rSIndex to (tCons ta tNil)) (mOp dSIndex mo ma) := by
  refine ⟨fun {H0 T0 σ ρ H T d} G h Q q => ?_⟩
  obtain ⟨x, hx, h⟩ := bind_some h
  obtain ⟨y, hy, h⟩ := bind_some h
  refine ho.run G hx _ fun v H1 s1 d1 p1 => ?_
  unfold dSIndex at h
  split at h
  · split at h
    · rename_i hz
      cases h
      cases dp_str p1
      refine ⟨rfl, ?_⟩
      refine ha.run (G.mono s1 d1) hy _ fun u H2 s2 d2 p2 => ?_
      cases dp_str p2
      exact ⟨_, _, _, _, rfl, rfl, hz, q _ H2 (s1.trans s2) d2 (.int _)⟩
    · cases h
  · cases h
/-! suites -/
structure SBD (K : PySem.W.Frag) (i : Nat) (te : Addr → TE) (d0 : D) : Prop where
  run : ∀ (a : Addr) (σ : L2.St) (H : Hp) (T : Ov) (Q : VK), σ[i]? = some (some (.ref a)) → Dis H T → (∀ v H', Same H H' → Dis H' T → Dp K H' v d0 → Q v (ov H' T)) → te a σ (ov H T) Q
structure SBA (K : PySem.W.Frag) (i : Nat) (ta : Addr → TA) (ds : List D) : Prop where
  run : ∀ (a : Addr) (σ : L2.St) (H : Hp) (T : Ov) (R : List V → Hp → Prop), σ[i]? = some (some (.ref a)) → Dis H T → (∀ vs H', Same H H' → Dis H' T → DpAll K H' vs ds → R vs (ov H' T)) → ta a σ (ov H T) R
variable {i : Nat}
theorem sbd_of {te : Addr → TE} {v0 : V} {d0 : D} (h : SB i te v0) (hd : ∀ H, Dp K H v0 d0) : SBD K i te d0 := ⟨fun a σ H T Q e dis q => h.run a σ _ Q e (q v0 H (Same.refl H) dis (hd H))⟩
theorem sba_nil : SBA K i (fun _ => tNil) [] := ⟨fun a σ H T R e dis q => q [] H (Same.refl H) dis .nil⟩
theorem sba_cons {te : Addr → TE} {ta : Addr → TA} {d : D} {ds : List D} (h1 : SBD K i te d) (h2 : SBA K i ta ds) : SBA K i (fun a => tCons (te a) (ta a)) (d :: ds) :=
  ⟨fun a σ H T R e dis q => h1.run a σ H T _ e dis fun v H1 s1 d1 p1 => h2.run a σ H1 T _ e d1 fun vs H2 s2 d2 p2 => q (v :: vs) H2 (s1.trans s2) d2 (.cons (dp_mono s2 p1) p2)⟩
theorem sbd_lst {ta : Addr → TA} {ds : List D} (h : SBA K i ta ds) (hz : ds.length ≤ cap) : SBD K i (fun a => tLst (ta a)) (.list ds) :=
  ⟨fun a σ H T Q e dis q => h.run a σ H T _ e dis fun vs H1 s1 d1 p1 => ⟨cap_line (by rw [dpa_len p1]; exact hz), fun p np => by
    obtain ⟨nT, nH⟩ := ov_free np
    rw [upd_ov nT]
    exact q _ _ (s1.trans (same_new nH)) (dis_upd d1 nT nH) (.lst (SqL.of upd_same) (dpa_mono (same_new nH) p1))⟩⟩
theorem sbd_if {tt : Addr → TT} {ta tb : Addr → TE} {b : Bool} {d e : D} (h : SBT i tt b) (h1 : SBD K i ta d) (h2 : SBD K i tb e) : SBD K i (fun a => tIf (tt a) (ta a) (tb a)) (if b = true then d else e) :=
  ⟨fun a σ H T Q z dis q => h.run a σ _ _ z (by
    cases b with
    | true => rw [if_pos rfl] at q ⊢; exact h1.run a σ H T Q z dis q
    | false => rw [if_neg Bool.false_ne_true] at q ⊢; exact h2.run a σ H T Q z dis q)⟩
variable {cl : Nat → Addr}
/-- what a suite does, by the class of what came -/
structure SU (K : PySem.W.Frag) (cl : Nat → Addr) (C : Addr) (i : Nat) (th : Addr → Value → Option Addr → TS) (f : Nat → Option D) : Prop where
  cls : ∀ c d, f c = some d → PySem.W.exmOne K (.ref (cl c)) (.ref C) = some true
  run : ∀ (c : Nat) (d0 : D), f c = some d0 → ∀ (a : Addr) (σ : L2.St) (H : Hp) (T : Ov) (E : Ends), σ[i]? = some (some (.ref a)) → Dis H T → (∀ v H', Same H H' → Dis H' T → Dp K H' v d0 → E.rt v (ov H' T)) → th a (.ref (cl c)) none E σ (ov H T)
def fOne (c0 : Nat) (d0 : D) : Nat → Option D := fun c => if c = c0 then some d0 else none
def fOr (f1 f2 : Nat → Option D) : Nat → Option D := fun c => (f1 c).or (f2 c)
theorem su_one {C : Addr} {c0 : Nat} {d0 : D} {te : Addr → TE} (hx : PySem.W.exmOne K (.ref (cl c0)) (.ref C) = some true) (h : SBD K i te d0) :
    SU K cl C i (fun a cls d D σ H => (cls = .ref (cl c0) ∧ d = none) ∧ tRet (te a) D σ H) (fOne c0 d0) := by
  refine ⟨fun c d e => ?_, fun c d e a σ H T E hs dis q => ?_⟩
  · by_cases h : c = c0
    · rw [h]; exact hx
    · have e : (if c = c0 then some d0 else none) = some d := e
      rw [if_neg h] at e
      cases e
  · by_cases hc : c = c0
    · have e : (if c = c0 then some d0 else none) = some d := e
      rw [if_pos hc] at e
      cases e
      subst hc
      exact ⟨⟨rfl, rfl⟩, h.run a σ H T _ hs dis q⟩
    · have e : (if c = c0 then some d0 else none) = some d := e
      rw [if_neg hc] at e
      cases e
theorem su_or {C : Addr} {t1 t2 : Addr → Value → Option Addr → TS} {f1 f2 : Nat → Option D} (h1 : SU K cl C i t1 f1) (h2 : SU K cl C i t2 f2) : SU K cl C i (fun a cls d D σ H => t1 a cls d D σ H ∨ t2 a cls d D σ H) (fOr f1 f2) := by
  refine ⟨fun c d e => ?_, fun c d e a σ H T E hs dis q => ?_⟩
  · have e : (f1 c).or (f2 c) = some d := e
    cases q : f1 c with
    | some x => exact h1.cls c x q
    | none => rw [q] at e; exact h2.cls c d e
  · have e : (f1 c).or (f2 c) = some d := e
    cases q' : f1 c with
    | some x =>
      rw [q'] at e
      cases e
      exact .inl (h1.run c d q' a σ H T E hs dis q)
    | none =>
      rw [q'] at e
      exact .inr (h2.run c d e a σ H T E hs dis q)
theorem pss_or {X : Cx} {b : List Stmt} {t u : TS} (h1 : PSs X b t) (h2 : PSs X b u) : PSs X b (fun D σ H => t D σ H ∨ u D σ H) :=
  ⟨fun pins s σ H D I q => q.elim (fun z => h1.run pins s σ H D I z) fun z => h2.run pins s σ H D I z⟩
/-- a raising def called with what a raising expression tells -/
def xThenX (mf : List D → Option Rs) (m : En → Option Rs) : En → Option Rs := fun ρ => (m ρ).bind fun r => match r with
  | .ok d => mf [d]
  | .ex c => some (.ex c)
theorem ex_thenX {te : WX → TE} {m : En → Option Rs} {mf : List D → Option Rs} (h : EX K cl te m) : EX K cl (fun W => tCallS (spX K cl 1 mf) (WE W) (tCons (te W) tNil)) (xThenX mf m) := by
  refine ⟨fun {H0 T0 σ ρ H T r} G hm W Q q => ?_⟩
  obtain ⟨r1, h1, hm⟩ := bind_some hm
  cases r1 with
  | ok d =>
    refine h.run G h1 W _ fun v H1 s1 d1 p1 => ?_
    show spX K cl 1 mf ([v] ++ []) (ov H1 T) Q _
    refine ⟨[d], r, H1, T, .cons p1 .nil, rfl, hm, rfl, d1, ?_⟩
    cases r with
    | ok e => exact fun w H3 s3 d3 p3 => q w H3 (s1.trans s3) d3 p3
    | ex c => exact fun H3 s3 d3 => q H3 (s1.trans s3) d3
  | ex c =>
    cases hm
    exact h.run G h1 W _ q
def xIfE (c : En → Option Bool) (a b : En → Option Rs) : En → Option Rs := fun ρ => (c ρ).bind fun x => if x = true then a ρ else b ρ
theorem ex_if {tc : TT} {mc : En → Option Bool} {t1 t2 : WX → TE} {m1 m2 : En → Option Rs} (hc : TTm K tc mc) (h1 : EX K cl t1 m1) (h2 : EX K cl t2 m2) : EX K cl (fun W => tIf tc (t1 W) (t2 W)) (xIfE mc m1 m2) := by
  refine ⟨fun {H0 T0 σ ρ H T r} G hm W Q q => ?_⟩
  obtain ⟨x, hx, h⟩ := bind_some hm
  refine hc.run G hx _ fun H1 s1 d1 => ?_
  have q1 : RsOk K cl H1 T Q (fun c d h => W c d σ h) r := by
    cases r with
    | ok d => exact fun v H2 s2 d2 p2 => q v H2 (s1.trans s2) d2 p2
    | ex c => exact fun H2 s2 d2 => q H2 (s1.trans s2) d2
  cases x with
  | true =>
    rw [if_pos rfl] at h ⊢
    exact h1.run (G.mono s1 d1) h W Q q1
  | false =>
    rw [if_neg Bool.false_ne_true] at h ⊢
    exact h2.run (G.mono s1 d1) h W Q q1
def sTryF (i : Nat) (f : Nat → Option D) (b : En → Option FlX) : En → Option Fl := fun ρ => (b ρ).bind fun x => match x with
  | .fl f => some f
  | .ex c ρ' => if i < ρ'.length then (f c).map .rt else none
/-- try: .. except c as e: return .., for several classes -/
theorem st_tryF {C : Addr} {f : Nat → Option D} {tb : WX → TS} {th : Addr → Value → Option Addr → TS} {mb : En → Option FlX} (hb : SX K cl tb mb) (hs : SU K cl C i th f) :
    TSm K (fun D σ H => tb (wAs K (.ref C) i (fun a cls d D σ H => th a cls d D σ H) (fun _ _ _ _ => False) D) D σ H) (sTryF i f mb) := by
  refine ⟨fun {H0 T0 σ ρ H T g} G h E q => ?_⟩
  obtain ⟨x, hx1, h⟩ := bind_some h
  refine hb.run G hx1 _ E ?_
  cases x with
  | fl f' => cases h; exact q
  | ex c ρ' =>
    have h : (if i < ρ'.length then (f c).map Fl.rt else none) = some g := h
    by_cases hi : i < ρ'.length
    · rw [if_pos hi] at h
      obtain ⟨d0, hd, e⟩ := map_some h
      subst e
      intro σ' H' T' G'
      refine ⟨true, hs.cls c d0 hd, fun _ a na => ?_, fun z => (nomatch z)⟩
      exact hs.run c d0 hd a _ _ _ _ (set_self (by rw [← G'.len]; exact hi)) G'.dis fun v H2 s2 d2 p2 => q v H2 T' (G'.ex.trans s2) d2 G'.ext p2
    · rw [if_neg hi] at h
      cases h
/-! a raising def that calls itself -/
variable {P : Program} {w : World} {mg : Str → Option Value} {base : Heap} {CX : CXT} {k c : Nat} {f : Addr} {fd : FuncData} {ps : List Str}
theorem fn_noneX : FnOk P w K mg base CX k f fd ps (spX K cl c fun _ => none) := by
  refine ⟨fun vs H Q E x => ?_, fun A outer s H args us vs Q E hr e0 hb r x => ?_⟩
  · obtain ⟨ds, d, H', T, _, _, z, _⟩ := x
    cases z
  · obtain ⟨ds, d, H', T, _, _, z, _⟩ := x
    cases z
theorem fn_recX {m : Nat → List D → Option Rs} (h0 : m 0 = fun _ => none) (hs : ∀ n, FnOk P w K mg base CX (k + n) f fd ps (spX K cl c (m n)) → FnOk P w K mg base CX (k + n + 1) f fd ps (spX K cl c (m (n + 1)))) : ∀ n, FnOk P w K mg base CX (k + n) f fd ps (spX K cl c (m n))
  | 0 => by
    rw [h0]
    exact fn_noneX
  | n + 1 => hs n (fn_recX h0 hs n)
end
end DD

set_option Elab.async false
set_option linter.all false
set_option maxRecDepth 100000
set_option maxHeartbeats 4000000
/-! enumerate of a list -/
namespace DD
variable [TabQ] [ExQ]
open PySem PySem.Spec PyProof.Rows L2
def nums : Nat → List D → List D
  | _, [] => []
  | n, x :: xs => .tuple [.int (n : Nat), x] :: nums (n + 1) xs
theorem nums_len : ∀ (n : Nat) (xs : List D), (nums n xs).length = xs.length
  | _, [] => rfl
  | n, x :: xs => by simp [nums, nums_len (n + 1) xs]
theorem nums_get : ∀ {n : Nat} {xs : List D} {i : Nat} {d : D}, (nums n xs)[i]? = some d → ∃ x, xs[i]? = some x ∧ d = .tuple [.int ((n + i : Nat) : Int), x]
  | _, [], _, _, h => by simp [nums] at h
  | n, x :: xs, 0, d, h => by simp [nums] at h; exact ⟨x, rfl, h.symm⟩
  | n, x :: xs, i + 1, d, h => by
    have h2 : (nums (n + 1) xs)[i]? = some d := by simpa [nums] using h
    obtain ⟨y, h3, h4⟩ := nums_get h2
    refine ⟨y, by simpa using h3, ?_⟩
    rw [h4]
    have : n + 1 + i = n + (i + 1) := by omega
    rw [this]
def mEnum (m : En → Option (List D)) : En → Option (List D) := fun ρ => (m ρ).bind fun ds => match ds with
  | [.list xs] => some (nums 0 xs)
  | _ => none
theorem it_enum {K : PySem.W.Frag} {ta : TA} {m : En → Option (List D)} (ha : TAm K ta m) : IT K (iEnum K ta) (mEnum m) := by
  refine ⟨fun {H0 T0 σ ρ H T ds} G h R q => ?_⟩
  obtain ⟨as, hx, h⟩ := bind_some h
  refine ha.run G hx _ fun vs H1 s1 d1 p1 => ?_
  split at h
  · rename_i xs _
    cases h
    obtain ⟨v, rfl, g⟩ := dpa_one p1
    obtain ⟨a, ys, rfl, hs, gy⟩ := dp_lst g
    have ly := dpa_len gy
    refine ⟨a, ys, rfl, sql_ov d1 hs, q _ H1 s1 d1 ⟨fun {H T} i sm dis hi => ?_, fun {H T} sm dis => ?_, fun {H T} i {x Hc d} sm dis hd y => ?_⟩⟩
    · rw [nums_len] at hi
      have i1 : i < ys.length := by rw [ly]; exact hi
      exact ⟨ys, ys[i], sql_ov dis (sm.seq hs), by simp [i1]⟩
    · exact ⟨ys, sql_ov dis (sm.seq hs), by rw [nums_len, ly]; exact Nat.le_refl _⟩
    · obtain ⟨p, xx, rfl, np, rfl, ex⟩ := y
      obtain ⟨dx, hdx, rfl⟩ := nums_get hd
      obtain ⟨wx, hwx, gwx⟩ := dpa_get gy hdx
      have := ex ys (sql_ov dis (sm.seq hs))
      rw [hwx] at this
      cases this
      obtain ⟨nT, nH⟩ := ov_free np
      have sn : Same H (upd H p (.tup [.int (i : Nat), xx])) := same_new nH
      refine ⟨_, upd_ov nT, sn, dis_upd dis nT nH, .tup (.inl (.of upd_same)) (.cons ?_ (.cons (dp_mono sn (dp_mono sm gwx)) .nil))⟩
      rw [Nat.zero_add]
      exact .int _
  · cases h
end DD

set_option Elab.async false
set_option linter.all false
set_option maxRecDepth 100000
set_option maxHeartbeats 4000000
/-! l.count(x); a caught exception as an argument and in suites of several statements; f(lambda: ..) -/
namespace DD
variable [TabQ]
open PySem PySem.Spec PyProof.Rows L2
section
variable [ExQ] {K : PySem.W.Frag}
def rCountD (K : PySem.W.Frag) : V → List V → Hp → VK → Prop := fun x xs H Q => ∃ (a : Addr) (y : V) (d : D) (ds : List D), x = V.ref a ∧ xs = [y] ∧ Dp K H (V.ref a) (.list ds) ∧ Dp K H y d ∧
  SeqAt.shaped (.list ds) = true ∧ SeqAt.shaped d = true ∧ Q (.int (ds.countP (fun z => PyData.eqv z d) : Nat)) H
theorem mt_countD {X : Cx} (hu : X.A.units + 65 < cLine) : MtR X "list.count" (rCountD X.K) := by
  intro pins s σ H x xs v us Q I rx rxs h
  obtain ⟨a, y, d, ds, rfl, rfl, hl, hy, sl, sd, q⟩ := h
  cases rx
  obtain ⟨uy, rfl, ry⟩ := rxs.one
  obtain ⟨bs, r1⟩ := Dp.reads I d y uy hy ry
  have hxs : PyData.canLayAll0 ds = true := SeqAt.canLay_of_shaped sl
  have room : X.A.units + 1 + min (PyData.depthAll ds) d.depth < cLine := room_in_shaped sd hu
  cases hl with
  | lst hs ha =>
    obtain ⟨its, rv, ⟨⟨cls, dd, data, sls⟩, n, ho, hc, hdn, hdt⟩, hlen⟩ := I.list hs
    simp only at hc hdt
    subst hc hdt
    obtain ⟨as, h4⟩ := Dp.readsAll I ds _ its ha rv
    have hmap : its.map (SeqAt.readOf s.heap) = ds := SeqAt.readsAll_map ds its as hxs h4
    refine call_meets PySem.F.slot_list_count ⟨_, ho, rfl⟩ PySem.F.entry_list_count (PySem.F.args_list_count_2 _ _)
      (SeqAt.list_countAt a its.toArray n dd sls uy (fun u => PyData.eqv (SeqAt.readOf s.heap u) d))
      ⟨ho, SeqAt.items_eqAt (vs := its.toArray) (show ReadsAll s.heap its.toArray.toList ds as from h4) r1 hxs (SeqAt.canLay_of_shaped sd) room, ?_⟩
    refine ⟨.int (ds.countP (fun z => PyData.eqv z d) : Nat), H, I.tok _, ⟨s.toks, ?_⟩, q⟩
    have e : its.toArray.toList.countP (fun u => PyData.eqv (SeqAt.readOf s.heap u) d) = ds.countP (fun z => PyData.eqv z d) := by
      rw [← hmap, List.countP_map]
      rfl
    rw [e]
def dCount (x y : D) : Option D := match x with
  | .list ds => if (SeqAt.shaped (.list ds) && SeqAt.shaped y) = true then some (.int (ds.countP (fun z => PyData.eqv z y) : Nat)) else none
  | _ => none
theorem ev_count {ta tb : TE} {ma mb : En → Option D} (ha : ET K ta ma) (hb : ET K tb mb) : ET K (tBM K "list" (rCountD K) ta (tCons tb tNil)) (mOp dCount ma mb) := by
  refine ⟨fun {H0 T0 σ ρ H T out} G h Q q => ?_⟩
  obtain ⟨x, hx, h⟩ := bind_some h
  obtain ⟨y, hy, h⟩ := bind_some h
  refine ha.run G hx _ fun v H1 s1 d1 p1 => ?_
  unfold dCount at h
  split at h
  · rename_i _ ds _
    split at h
    · rename_i hs
      obtain ⟨h1, h2⟩ := Bool.and_eq_true_iff.mp hs
      cases h
      obtain ⟨a, us, rfl, hq, gu⟩ := dp_lst p1
      refine ⟨.inl ⟨rfl, us, sql_ov d1 hq⟩, ?_⟩
      refine hb.run (G.mono s1 d1) hy _ fun v2 H2 s2 d2 p2 => ?_
      exact ⟨a, v2, y, ds, rfl, rfl, dp_ov d2 (dp_mono s2 (.lst hq gu)), dp_ov d2 p2, h1, h2, q _ H2 (s1.trans s2) d2 (.int _)⟩
    · cases h
  · cases h
end
/-! ### isinstance of the exception that was caught, in the suite and in a def that got it -/
section
variable {K : PySem.W.Frag}
theorem call_isA {X : Cx} {a D : Addr} {oe : Obj} (C : ExcC X.K D) (hz : Zc (.ref D) none oe) (hf : ∃ vs, oe.data = .fields vs) (hg : X.s_0.heap.get? a = some oe) (hn : X.H_0 a = none) (hfs : a ∉ X.fs) (hex : a ∉ X.ex) : CallR X (.builtin "isinstance") (rIsE X.K D a) := by
  intro pins s σ H xs us Q I r h
  obtain ⟨c, cv, b, rfl, hcv, e, q⟩ := h
  cases r with
  | cons rx rr =>
    cases rr with
    | cons rt rr =>
      cases rr
      cases rx
      have ec := hcv _ rt
      subst ec
      have hget := I.base.keep a oe hg hn hfs hex
      obtain ⟨vs, hv⟩ := hf
      have J : PySem.W.InstAt s.heap a oe D none := by
        obtain ⟨oc, od, oda, osl⟩ := oe
        obtain ⟨h1, h2⟩ := hz
        dsimp only at h1 h2 hv
        subst h1 h2 hv
        exact ⟨hget, rfl, rfl, trivial⟩
      exact PySem.W.kia_one (PySem.W.handS_kitx_exc C.hg C.hk C.hs C.hd C.ha C.hn C.ht C.hm) I.kIn J e (fun z => nomatch z) fun tk => ⟨.bl b, H, I.kept (t' := tk) fun _ _ z => z, rfl, q⟩
/-- isinstance(e, Y), by the number of e's class -/
def mIsX (i : Nat) (f : Nat → Bool) : En → Option D := fun ρ => match ρ[i]? with
  | some (some (.exc c)) => some (.bool (f c))
  | _ => none
theorem ev_isX {i c : Nat} {a D : Addr} {v : V} {cv : Value} {f : Nat → Bool} (hv : ∀ u, RelV v u → u = cv) (k : PySem.W.kitOne K (.ref D) cv = some (f c)) :
    letI : ExQ := ⟨a, c⟩
    ET K (tCB (rIsE K D a) (tCons (tVar i) (tCons (tC v) tNil))) (mIsX i f) := by
  letI : ExQ := ⟨a, c⟩
  refine ⟨fun {H0 T0 σ ρ H T d} G h Q q => ?_⟩
  unfold mIsX at h
  split at h
  · rename_i c' e
    cases h
    obtain ⟨h1, h2⟩ := G.exc i c' e
    have h2 : c' = c := h2
    rw [h2] at q
    exact ⟨.ref a, h1, v, cv, f c, rfl, hv, k, q _ H (Same.refl H) G.dis (.bl _)⟩
  · cases h
end
/-! ### a suite as a row of statements -/
def noExc : En → Bool := fun ρ => ρ.all fun x => match x with
  | some (.exc _) => false
  | _ => true
def sTryG (i : Nat) (ok : Nat → Bool) (b : En → Option FlX) (h : En → Option Fl) : En → Option Fl := fun ρ => (b ρ).bind fun x => match x with
  | .fl f => some f
  | .ex c ρ' => if (ok c && decide (i < ρ'.length) && noExc ρ') = true then (h (ρ'.set i (some (.exc c)))).bind fun f => match f with
    | .rt d => some (.rt d)
    | _ => none
    else none
section
variable {K : PySem.W.Frag} {cl : Nat → Addr}
/-- what a suite does, whatever class of those came -/
structure SG (K : PySem.W.Frag) (cl : Nat → Addr) (C : Addr) (th : Addr → Value → Option Addr → TS) (ok : Nat → Bool) (mh : En → Option Fl) : Prop where
  cls : ∀ c, ok c = true → PySem.W.exmOne K (.ref (cl c)) (.ref C) = some true
  run : ∀ c, ok c = true → ∀ a : Addr, letI : ExQ := ⟨a, c⟩; TSm K (fun E σ H => th a (.ref (cl c)) none E σ H) mh
def tSome (cl : Nat → Addr) (ok : Nat → Bool) (t : Addr → Nat → TS) : Addr → Value → Option Addr → TS := fun a cls d E σ H => ∃ c, ok c = true ∧ (cls = .ref (cl c) ∧ d = none) ∧ t a c E σ H
theorem pss_some {X : Cx} {ok : Nat → Bool} {oe : Obj} {a : Addr} {cls : Value} {d : Option Addr} {b : List Stmt} {t : Addr → Nat → TS} (hz : Zc cls d oe) (h : ∀ c, ok c = true → Zc (.ref (cl c)) none oe → PSs X b (t a c)) : PSs X b (tSome cl ok t a cls d) :=
  ⟨fun pins s σ H D I q => by
    obtain ⟨c, hc, ⟨rfl, rfl⟩, q⟩ := q
    exact (h c hc hz).run pins s σ H D I q⟩
theorem sg_mk {C : Addr} {ok : Nat → Bool} {t : Addr → Nat → TS} {mh : En → Option Fl} (h1 : ∀ c, ok c = true → PySem.W.exmOne K (.ref (cl c)) (.ref C) = some true) (h2 : ∀ c, ok c = true → ∀ a : Addr, letI : ExQ := ⟨a, c⟩; TSm K (t a c) mh) : SG K cl C (tSome cl ok t) ok mh := by
  refine ⟨h1, fun c hc a => ?_⟩
  letI : ExQ := ⟨a, c⟩
  exact ⟨fun {H0 T0 σ ρ H T f} G h E q => ⟨c, hc, ⟨rfl, rfl⟩, (h2 c hc a).run G h E q⟩⟩
theorem noExc_at {ρ : En} (h : noExc ρ = true) {i c : Nat} (e : ρ[i]? = some (some (.exc c))) : False := by
  unfold noExc at h
  have := List.all_eq_true.mp h _ (List.mem_of_getElem? e)
  cases this
theorem good_exc [e0 : ExQ] {H0 : Hp} {T0 : Ov} {σ : L2.St} {ρ : En} {H : Hp} {T : Ov} (G : Good K H0 T0 σ ρ H T) (n : noExc ρ = true) {i c : Nat} {a : Addr} : @Good _ ⟨a, c⟩ K H0 T0 (σ.set i (some (.ref a))) (ρ.set i (some (.exc c))) H T := by
  obtain ⟨glen, gval, gown, ginj, gdis, gext, gex, _⟩ := G
  refine @Good.mk _ ⟨a, c⟩ K H0 T0 _ _ H T (by rw [List.length_set, List.length_set]; exact glen) (fun j x h => ?_) (fun j x h => ?_) (fun j k ds es p h1 h2 h3 h4 => ?_) gdis gext gex (fun j c' h => ?_)
  · rcases get_set h with ⟨_, q, _⟩ | ⟨e, q⟩
    · cases q
    · obtain ⟨w, a, b⟩ := gval j x q
      exact ⟨w, by rw [List.getElem?_set_ne (Ne.symm e)]; exact a, b⟩
  · rcases get_set h with ⟨_, q, _⟩ | ⟨e, q⟩
    · cases q
    · obtain ⟨p, xs, a, b⟩ := gown j x q
      exact ⟨p, xs, by rw [List.getElem?_set_ne (Ne.symm e)]; exact a, b⟩
  · rcases get_set h1 with ⟨_, q, _⟩ | ⟨e1, q1⟩
    · cases q
    · rcases get_set h2 with ⟨_, q, _⟩ | ⟨e2, q2⟩
      · cases q
      · rw [List.getElem?_set_ne (Ne.symm e1)] at h3
        rw [List.getElem?_set_ne (Ne.symm e2)] at h4
        exact ginj j k ds es p q1 q2 h3 h4
  · rcases get_set h with ⟨e, q, l⟩ | ⟨e, q⟩
    · cases q
      subst e
      exact ⟨set_self (by rw [← glen]; exact l), rfl⟩
    · exact (noExc_at n q).elim
theorem st_tryG [e0 : ExQ] {i : Nat} {C : Addr} {ok : Nat → Bool} {tb : WX → TS} {th : Addr → Value → Option Addr → TS} {mb : En → Option FlX} {mh : En → Option Fl} (hb : SX K cl tb mb) (hs : SG K cl C th ok mh) :
    TSm K (fun D σ H => tb (wAs K (.ref C) i th (fun _ _ _ _ => False) D) D σ H) (sTryG i ok mb mh) := by
  refine ⟨fun {H0 T0 σ ρ H T g} G h E q => ?_⟩
  obtain ⟨x, hx1, h⟩ := bind_some h
  refine hb.run G hx1 _ E ?_
  cases x with
  | fl f' => cases h; exact q
  | ex c ρ' =>
    have h : (if (ok c && decide (i < ρ'.length) && noExc ρ') = true then (mh (ρ'.set i (some (.exc c)))).bind fun f => match f with
      | .rt d => some (.rt d)
      | _ => none
      else none) = some g := h
    split at h
    · rename_i hi
      obtain ⟨hi, hn⟩ := Bool.and_eq_true_iff.mp hi
      obtain ⟨hc, hi⟩ := Bool.and_eq_true_iff.mp hi
      obtain ⟨f, hf, h⟩ := bind_some h
      cases f with
      | rt d =>
        cases h
        intro σ' H' T' G'
        refine ⟨true, hs.cls c hc, fun _ a na => ?_, fun z => (nomatch z)⟩
        exact @TSm.run _ ⟨a, c⟩ K _ _ (hs.run c hc a) _ _ _ _ _ _ _ (good_exc G' hn) hf _ fun v H2 T2 s2 d2 e2 p2 => q v H2 T2 s2 d2 e2 p2
      | nx ρ => cases h
      | bk ρ => cases h
      | ct ρ => cases h
    · cases h
end
end DD

set_option Elab.async false
set_option linter.all false
set_option maxRecDepth 100000
set_option maxHeartbeats 4000000
/-! a def called in a suite with the exception; a def that calls what it got, within a try -/
namespace DD
variable [TabQ]
open PySem PySem.Spec PyProof.Rows L2
theorem rmH_mark {k : Nat} {A : Around} {v : Option Value} (r : Room k A) : L2H.RoomH k (A.mark v) := ⟨r.dp, r.un⟩
theorem unH {k : Nat} {A : Around} (r : L2H.RoomH k A) : A.units + 64 < cLine := by have := r.un; omega
theorem huH {k : Nat} {A : Around} (r : L2H.RoomH k A) : A.units + 65 < cLine := by have := r.un; omega
theorem call_isP {X : Cx} {a D : Addr} {oe : Obj} (C : ExcC X.K D) (hz : Zc (.ref D) none oe) (hf : ∃ vs, oe.data = .fields vs) (hp : (a, oe) ∈ X.pn) : CallR X (.builtin "isinstance") (rIsE X.K D a) := by
  intro pins s σ H xs us Q I r h
  obtain ⟨c, cv, b, rfl, hcv, e, q⟩ := h
  cases r with
  | cons rx rr =>
    cases rr with
    | cons rt rr =>
      cases rr
      cases rx
      have ec := hcv _ rt
      subst ec
      have hget := (I.pin (a, oe) (List.mem_append_left _ hp)).1
      obtain ⟨vs, hv⟩ := hf
      have J : PySem.W.InstAt s.heap a oe D none := by
        obtain ⟨oc, od, oda, osl⟩ := oe
        obtain ⟨h1, h2⟩ := hz
        dsimp only at h1 h2 hv
        subst h1 h2 hv
        exact ⟨hget, rfl, rfl, trivial⟩
      exact PySem.W.kia_one (PySem.W.handS_kitx_exc C.hg C.hk C.hs C.hd C.ha C.hn C.ht C.hm) I.kIn J e (fun z => nomatch z) fun tk => ⟨.bl b, H, I.kept (t' := tk) fun _ _ z => z, rfl, q⟩
/-- what a def tells that got the exception -/
def excStart (N i c : Nat) : En := (List.replicate N none).set i (some (.exc c))
def mExc (N i : Nat) (md : En → Option Fl) (c : Nat) : Option D := (md (excStart N i c)).bind fun f => match f with
  | .rt d => some d
  | .nx _ => some .none
  | _ => none
def tExc (K : PySem.W.Frag) (i : Nat) (a : Addr) (m : Option D) : TE := fun σ H Q => σ[i]? = some (some (.ref a)) ∧ ∃ d H0 T, H = ov H0 T ∧ Dis H0 T ∧ m = some d ∧ ∀ v H', Same H0 H' → Dis H' T → Dp K H' v d → Q v (ov H' T)
def mExcV (i : Nat) (f : Nat → Option D) : En → Option D := fun ρ => match ρ[i]? with
  | some (some (.exc c)) => f c
  | _ => none
theorem ev_exc {K : PySem.W.Frag} {i c : Nat} {a : Addr} {f : Nat → Option D} : letI : ExQ := ⟨a, c⟩; ET K (tExc K i a (f c)) (mExcV i f) := by
  letI : ExQ := ⟨a, c⟩
  refine ⟨fun {H0 T0 σ ρ H T d} G h Q q => ?_⟩
  unfold mExcV at h
  split at h
  · rename_i c' e
    obtain ⟨h1, h2⟩ := G.exc i c' e
    have h2 : c' = c := h2
    rw [h2] at h
    exact ⟨h1, d, H, T, rfl, G.dis, h, q⟩
  · cases h
theorem good_none [ExQ] {K : PySem.W.Frag} {σ : L2.St} {H : Hp} {T : Ov} {n : Nat} (hl : n = σ.length) (d : Dis H T) : Good K H T σ (List.replicate n none) H T := by
  have no : ∀ (i : Nat) (s : Sl), (List.replicate n (none : Option Sl))[i]? = some (some s) → False := fun i s e => by
    rw [List.getElem?_replicate] at e
    split at e <;> cases e
  exact ⟨by rw [List.length_replicate]; exact hl, fun i d e => (no i _ e).elim, fun i ds e => (no i _ e).elim, fun i j ds es p e _ _ _ => (no i _ e).elim, d, fun a xs e => e, Same.refl H, fun i c e => (no i _ e).elim⟩
theorem noExc_none (n : Nat) : noExc (List.replicate n none) = true := by
  unfold noExc
  rw [List.all_eq_true]
  intro x hx
  rw [(List.mem_replicate.mp hx).2]
/-- f(e) in a suite, e the exception -/
theorem pe_exc [ExQ] {X : Cx} {x pa e : Str} {st : Stmt} {f : Addr} {fd : FuncData} {N : List Str} {k i c : Nat} {a : Addr} {oe : Obj} {md : En → Option Fl} {p1 q pos : Pos} (F : Fun X.K x x st f fd) (S : FnScope N [pa] (defScope st)) (hb : Binds X.K fd [pa] []) (hN : 0 < N.length)
    (hp : (a, oe) ∈ X.pn) (hr : L2H.RoomH (k + 1) X.A) (hg : Gl X x) (hm : X.mg x = some (.ref f)) (he : PE X (.Name e p1) (tVar i))
    (hbody : ∀ (cdv : Value) (A : Around) (outer : List Env) (s : Shared) (H : Hp), L2H.RoomH k (A.deeper (envOfC x (defScope st) s.heap.objs.size f cdv)) →
      ∃ t, PSs (L2H.cxH CX0 X.prog X.w X.K X.mg X.base N x (defScope st) f cdv A outer s H E0 (a, oe)) (defBody st) t ∧ @TSm _ ⟨a, c⟩ X.K t md)
    (hdb : (x == ("__debug__" : Str)) = false := by decide) (hse : starEach [.Name e p1] X.env = (false, eval (.Name e p1) X.env) :: starEach [] X.env := by rfl) (hpl : (backTo pos (starEach [] X.env)).any (·.1) = false := by rfl) :
    PE X (.Call (.Name x q) [.Name e p1] [] pos) (tExc X.K i a (mExc N.length 0 md c)) := by
  obtain ⟨oc, od, kV, doc, pm, an, cdv, ct, osl, rfl, lk, hcd⟩ := F.ex
  refine ⟨fun pins s σ H Q I h => ?_⟩
  obtain ⟨hs, d, H0, T, rfl, dis, hd, q⟩ := h
  refine wpAny_Call_Name_kw (ld_glob I hg hm ?_ hdb)
  have ha : PA X [.Name e p1] (tCons (tVar i) tNil) := pa_cons he pa_nil
  refine PySem.W.callWith_K (h₀ := X.base) I.ok.mod.kin F.kp (thn (ha.run pos pins s σ _ (fun vs H1 => vs = [V.ref a] ∧ ov H0 T = H1) I ⟨.ref a, hs, rfl, rfl⟩) fun us s1 hh => ?_) hse hpl
  obtain ⟨vs, H1, I1, r, ev, eH⟩ := hh
  subst ev
  rw [← eH] at I1
  refine ⟨I1.kIn, ?_⟩
  have P1 := I1.pin (a, oe) (List.mem_append_left _ hp)
  have hpin : L2H.PinOk X.stack (ov H0 T) s1 (a, oe) := ⟨P1.1, P1.2.1, fun hm => (List.mem_cons.mp (I1.stkSub a hm)).elim P1.2.2.1 P1.2.2.2.1, P1.2.2.2.2⟩
  have hlen : us.length = 1 := by rw [← r.length]; rfl
  have e0 := I1.env0
  have b := hb s1 us I1.kIn (by rw [List.append_nil]; exact hlen)
  rw [List.append_nil] at b
  have KX : X.K.In s1.heap := I1.kIn
  have hkind : ∀ y ∈ [pa].zip us, (defScope st).names.lookup y.1 = some .local ∨ ((defScope st).names.lookup y.1 = some .cell ∧ ((cellsFrom (s1.heap.objs.size + 1) (defScope st).names []).lookup y.1).isSome = true) := fun y hy => by
    obtain ⟨n, v⟩ := y
    rcases S.par n (List.of_mem_zip hy).1 with z | z
    · exact .inl z
    · exact .inr ⟨z, PySem.W.cellsFrom_some _ _ _ (.inl z)⟩
  have rc : codeAny (model X.prog X.w) X.A (.call (.ref f) ⟨us, []⟩) (CR CX0 X.stack X.prog X.w (ov H0 T) s1 Q E0) s1 := by
    refine codeAny_call_function hr.depth (KX _ _ lk) rfl S.co S.gen rfl (PySem.W.codeRec_of KX hcd) (b _ _ _ _ ?_)
    refine wpAny_newFunctionEnv_cells S.kind hkind fun env he s2 y => ?_
    subst he
    refine ⟨I1.nolimit.keeps y.toInCall.keep, codeAny_func ?_⟩
    obtain ⟨t, ht, tm⟩ := hbody cdv X.A X.stack s1 (ov H0 T) (hr.deeper _)
    have J : Inv (L2H.cxH CX0 X.prog X.w X.K X.mg X.base N x (defScope st) f cdv X.A X.stack s1 (ov H0 T) E0 (a, oe)) [] (L2.start N [V.ref a]) (ov H0 T) s2 := L2H.inv_startH S hpin e0 rfl r y
    have fin : ∀ {σ' : L2.St} {H' : Hp} {s' : Shared} {v : V} {u : Value}, Inv (L2H.cxH CX0 X.prog X.w X.K X.mg X.base N x (defScope st) f cdv X.A X.stack s1 (ov H0 T) E0 (a, oe)) [] σ' H' s' → RelV v u → Q v H' → CE X.stack X.prog X.w (ov H0 T) s1 Q u s' :=
      fun {σ' H' s' v u} J rv q => ⟨v, H', J.os, J.bare, J.base, J.hok, rv, q⟩
    have key : t { nx := fun _ H' => Q .non H', rt := Q } (L2.start N [V.ref a]) (ov H0 T) := by
      obtain ⟨fl, hf, hd⟩ := bind_some hd
      have st0 : (L2.start N [V.ref a]) = ((none :: List.replicate (N.length - 1) none : L2.St)).set 0 (some (.ref a)) := rfl
      have sz : N.length = (none :: List.replicate (N.length - 1) none : L2.St).length := by rw [List.length_cons, List.length_replicate]; omega
      have G := @good_exc _ X.K ⟨0, 0⟩ _ _ _ _ _ _ (@good_none _ ⟨0, 0⟩ X.K _ _ _ _ sz dis) (noExc_none _) 0 c a
      rw [← st0] at G
      refine @TSm.run _ ⟨a, c⟩ X.K _ _ tm _ _ _ _ _ _ _ G hf _ ?_
      cases fl with
      | rt d' =>
        cases hd
        intro v H' T' s1 d1 e1 p1
        obtain ⟨H2, e2, s2, d2, s3⟩ := back dis s1 d1 e1
        show Q v (ov H' T')
        rw [e2]
        exact q v H2 s2 d2 (dp_mono s3 p1)
      | nx ρ =>
        cases hd
        intro σ' H' T' G'
        obtain ⟨H2, e2, s2, d2, s3⟩ := back dis (@Good.ex _ ⟨a, c⟩ _ _ _ _ _ _ _ G') (@Good.dis _ ⟨a, c⟩ _ _ _ _ _ _ _ G') (@Good.ext _ ⟨a, c⟩ _ _ _ _ _ _ _ G')
        show Q .non (ov H' T')
        rw [e2]
        exact q _ H2 s2 d2 .non
      | bk ρ => cases hd
      | ct ρ => cases hd
    refine wpAny_mono (ht.run [] s2 _ _ _ J key) (fun fl s' hs => ?_) fun e s' hs => hs
    cases fl with
    | ret u =>
      obtain ⟨v, σ', H', J, rv, q⟩ := hs
      exact fin J rv q
    | next =>
      obtain ⟨σ', H', J, q⟩ := hs
      exact fin (v := V.non) (u := Value.none) J rfl q
    | brk =>
      obtain ⟨_, _, _, q⟩ := hs
      exact False.elim q
    | cont =>
      obtain ⟨_, _, _, q⟩ := hs
      exact False.elim q
  refine wpAny_call (codeAny_mono rc fun r s2 hq => ?_)
  cases r with
  | error e => exact (show False from hq).elim
  | ok fl =>
    cases fl with
    | ret u => exact I1.after hq
    | next => exact False.elim hq
    | brk => exact False.elim hq
    | cont => exact False.elim hq
end DD

set_option Elab.async false
set_option linter.all false
set_option maxRecDepth 100000
set_option maxHeartbeats 4000000
/-! f(lambda: ..), f a def that calls what it got within a try; a def that makes lambdas -/
namespace DD
variable [TabQ]
open PySem PySem.Spec PyProof.Rows L2
theorem takes_len {X : Cx} {W : WX} (tk : Takes X W) : Takes X (fun cls d σ H => σ.length = X.N.length → W cls d σ H) := fun u s' z => by
  obtain ⟨a, B, sI, pins, σ, H, cls, d, e, I, nb, up, sky, na, os, ag, w⟩ := z
  exact tk u s' ⟨a, B, sI, pins, σ, H, cls, d, e, I, nb, up, sky, na, os, ag, w I.len⟩
/-- what the catching def makes of the lambda's reading; res: what its suite tells, by the number of the class -/
def TTold (K : PySem.W.Frag) (cl : Nat → Addr) (ok : Nat → Bool) (res : Nat → Option D) : (XK → Hp → VK → Prop) → Hp → VK → Prop := fun tl H Q =>
  tl (fun cls d H' => ∃ c, cls = .ref (cl c) ∧ d = none ∧ ok c = true ∧ ∃ H0 T d0, H' = ov H0 T ∧ Dis H0 T ∧ res c = some d0 ∧ ∀ v H2, Same H0 H2 → Dis H2 T → Dp K H2 v d0 → Q v (ov H2 T)) H Q
def okA : Nat → Bool := fun _ => true
def rSuite (n i : Nat) (mh : En → Option Fl) (c : Nat) : Option D := (mh (excStart n i c)).bind fun f => match f with
  | .rt d => some d
  | _ => none
def mTold (ok : Nat → Bool) (res : Nat → Option D) (me : En → Option Rs) : En → Option D := fun ρ => (me ρ).bind fun r => match r with
  | .ok d => some d
  | .ex c => if ok c = true then res c else none
section
variable [ExQ] {K : PySem.W.Frag} {cl : Nat → Addr}
theorem ev_lam {ok : Nat → Bool} {res : Nat → Option D} {te : WX → TE} {me : En → Option Rs} (h : EX K cl te me) : ET K (LamX.tLam TabQ.tabs (TTold K cl ok res) (fun E => te (fun cls d _ H => E cls d H))) (mTold ok res me) := by
  refine ⟨fun {H0 T0 σ ρ H T d} G hm Q q => ⟨G.dis.tab.ext (raw_ov G.dis), fun H1 eN t1 => ?_⟩⟩
  obtain ⟨r, hr, hm⟩ := bind_some hm
  obtain ⟨H', e1, d1, k⟩ := under (T0 := T) (X := H1) t1 fun a xs h => eN a _ (ov_own h) fun _ => HO.noConfusion
  have s1 : Same H H' := fun a o h n => k a o (eN a o (raw_ov G.dis a o h) n) (by
    cases z : T a with
    | none => rfl
    | some xs => rw [G.dis a xs z] at h; cases h)
  subst e1
  refine h.run (G.mono s1 d1) hr _ Q ?_
  cases r with
  | ok d' =>
    cases hm
    exact fun v H2 s2 d2 p2 => q v H2 (s1.trans s2) d2 p2
  | ex c =>
    have hm : (if ok c = true then res c else none) = some d := hm
    split at hm
    · rename_i hc
      exact fun H2 s2 d2 => ⟨c, rfl, rfl, hc, H2, T, d, rfl, d2, hm, fun v H3 s3 d3 p3 => q v H3 ((s1.trans s2).trans s3) d3 p3⟩
    · cases hm
/-- the catching def -/
theorem gives_told {X : Cx} {Ng : List Str} {x a e ne q : Str} {sg : Scope} {g CS : Addr} {cdg : Value} {ok : Nat → Bool} {th : Addr → Value → Option Addr → TS} {mh : En → Option Fl} {i k : Nat} {b₀ : Stmt} {suite bg : List Stmt} {p1 p2 p3 p4 p5 p6 : Pos}
    (hbg : bg = [.Try [.Return (some (.Call (.Name a p1) [] [] p2)) p3] [.ExceptHandler (some (.Name e p4)) (some ne) (b₀ :: suite) p5] [] [] p6])
    (hge : sg.names.lookup e = some .globalImplicit) (hme : X.mg e = some (.ref CS)) (hde : (e == ("__debug__" : Str)) = false) (hN : Ng.Nodup) (hi : Ng[i]? = some ne) (hl : sg.names.lookup ne = some .local) (hrX : Room (k + 1) X.A)
    (h0 : ∀ f : Addr, (L2.start Ng [V.ref f])[0]? = some (some (V.ref f)))
    (hsu : ∀ (s : Shared) (H : Hp) (o : Addr) (oe : Obj) (cls : Value) (d : Option Addr) (pn : List (Addr × Obj)), Room k (X.A.deeper (envOfC x sg s.heap.objs.size g cdg)) → Zc cls d oe → (∃ vs, oe.data = .fields vs) →
      PSs ((cxOf C8.CX0 X.prog X.w X.K X.mg X.base Ng x sg g cdg X.A X.stack s H C8.E0).nox.suite o ((o, oe) :: pn)) (b₀ :: suite) (th o cls d))
    (hs : SG X.K cl CS th ok mh) : LamX.GivesTo X Ng x sg g cdg bg a q (TTold X.K cl ok (rSuite Ng.length i mh)) := by
  intro f c' s H Q tl act hc h
  subst hbg
  have hgl : Gl (cxOf C8.CX0 X.prog X.w X.K X.mg X.base Ng x sg g cdg X.A X.stack s H C8.E0).nox e := hge
  refine ⟨_, pss_one (ps_try_as (X := (cxOf C8.CX0 X.prog X.w X.K X.mg X.base Ng x sg g cdg X.A X.stack s H C8.E0).nox) (c := .ref CS) (i := i) (Wout := fun _ _ _ _ => False) (ts := th)
      (tb := fun W D σ H => ∃ Ech : XK, (∀ cls d σ' H', σ'.length = Ng.length → Ech cls d H' → W cls d σ' H') ∧ σ[0]? = some (some (.ref f)) ∧ H c' = some (LamX.CodeO c' q) ∧ tl Ech H D.rt)
      rfl rfl hN hi hl ⟨hgl, hde, .inl hme⟩ takes0 (fun W pn xe tk _ => ?_) (fun o oe cls d pn hz hf => hsu s H o oe cls d pn (hrX.deeper _) hz hf)), ?_⟩
  · refine ⟨fun pins s' σ H' D I h' => ?_⟩
    obtain ⟨Ech, hW, h1, h2, h3⟩ := h'
    have hp := act (fun cls d σ H => σ.length = Ng.length → W cls d σ H) pn xe Ech p1 p2 (takes_len tk) fun cls d σ' H' e hl => hW cls d σ' H' hl e
    exact (pss_one (ps_ret (pos := p3) hp)).run pins s' σ H' D I ⟨h1, h2, h3⟩
  · refine ⟨_, fun cls d σ' H' hl' z => ?_, h0 f, hc, h⟩
    obtain ⟨c, rfl, rfl, hok, H0, T, d0, rfl, dis, hres, q⟩ := z
    refine ⟨true, hs.cls c hok, fun _ o na => ?_, fun z => (nomatch z)⟩
    obtain ⟨fl, hf, hd⟩ := bind_some hres
    cases fl with
    | rt d' =>
      cases hd
      have G := good_exc (good_none (K := X.K) (σ := σ') hl'.symm dis) (noExc_none _) (i := i) (c := c) (a := o)
      refine @TSm.run _ ⟨o, c⟩ X.K _ _ (hs.run c hok o) _ _ _ _ _ _ _ G hf _ ?_
      intro v H2 T2 s1 d1 e1 p1
      obtain ⟨H3, e2, s2, d2, s3⟩ := back dis s1 d1 e1
      show Q v (ov H2 T2)
      rw [e2]
      exact q v H3 s2 d2 (dp_mono s3 p1)
    | nx ρ => cases hd
    | bk ρ => cases hd
    | ct ρ => cases hd
/-- x(lambda: body) -/
theorem pe_lam {X : Cx} {x a : Str} {g c P : Addr} {k : Nat} {st : Stmt} {fd : FuncData} {Ng : List Str} {params : Arguments} {body : Expr} {scope : Scope} {t : XK → TE} {TT : (XK → Hp → VK → Prop) → Hp → VK → Prop} {p lpos pos : Pos}
    (F : Fun X.K x x st g fd) (hg : Gl X x) (hm : X.mg x = some (.ref g)) (hb : Binds X.K fd [a] []) (Sg : FnScope Ng [a] (defScope st)) (hNg : Ng[0]? = some a) (hva : Vis (defScope st) a)
    (hG : ∀ cdv, LamX.GivesTo X Ng x (defScope st) g cdv (defBody st) a (X.env.qual ++ "<lambda>") TT) (TB : LamX.TabB X.base X.mg c P) (hcode : X.env.code = .ref c) (hmT : (P, X.env.qual ++ "<lambda>") ∈ TabQ.tabs)
    (hu : ∀ p ∈ TabQ.tabs, p.1 = P → p.2 = X.env.qual ++ "<lambda>") (hr : Room (k + 2) X.A) (L : LamX.LamS X.env.scope scope) (hdef : defaultsOf params X.env = ([], []))
    (hbind : ∀ (q : Str) (cl : List (Str × Addr)) (pm cv ctv : Value), bindArgs (PySem.W.kla_fn "<lambda>" q params body scope cl pm cv ctv) ⟨[], []⟩ = pure [])
    (hbody : ∀ (A : Around) (outer : List Env) (s : Shared) (H : Hp) (E : XK) (f c' : Addr), Room k (A.deeper (LamX.lamEnv X scope s.heap.objs.size f c')) → PE (LamX.lamCx X A outer s H E scope f c') body (t E))
    (hdb : (x == ("__debug__" : Str)) = false := by decide) (hd : (a == ("__debug__" : Str)) = false := by decide) (hcd : (a == ("__classdict__" : Str)) = false := by decide) :
    PE X (.Call (.Name x p) [.Lambda params body scope lpos] [] pos) (LamX.tLam TabQ.tabs TT t) := by
  obtain ⟨oc, od, kV, doc, pm, an, cdv, ct, osl, rfl, lk, hcg⟩ := F.ex
  exact LamX.pe_lamcall hg hm F.kp lk hcg hb Sg hNg hva (hG cdv) TB hcode hmT hu hr L hdef hbind hbody hdb hd hcd
/-- a def whose code object is known -/
theorem def_okT {P : Program} {w : World} {mg : Str → Option Value} {base : Heap} {x qual : Str} {st : Stmt} {f co : Addr} {fd : FuncData} {N ps : List Str} {k : Nat} {mb : En → Option Fl} (F : Fun K x qual st f fd) (hco : fd.code = .ref co) (S : FnScope N ps (defScope st))
    (hbody : ∀ (A : Around) (outer : List Env) (s : Shared) (H : Hp) (E : XK), Room k (A.deeper (envOfC qual (defScope st) s.heap.objs.size f (.ref co))) →
      ∃ t, PSs (cxOf CX0 P w K mg base N qual (defScope st) f (.ref co) A outer s H E).nox (defBody st) t ∧ TSm K t mb) : FnOk P w K mg base CX0 (k + 1) f fd ps (spM K ps.length (mDef N.length mb)) := by
  obtain ⟨oc, od, kV, doc, pm, an, cdv, ct, osl, rfl, lk, hcd⟩ := F.ex
  have ec : cdv = .ref co := hco
  subst ec
  refine fn_of lk hcd S (fun vs H Q E h => ?_) (fun A outer s Hx vs Q E hr h => ?_)
  · obtain ⟨ds, d, H, T, g, hn, _⟩ := h
    rw [dpa_len g, hn]
  · obtain ⟨ds, d, H, T, g, hn, hm, rfl, dis, q⟩ := h
    obtain ⟨t, p, m⟩ := hbody A outer s (ov H T) E hr
    refine ⟨t, p.nox, ?_⟩
    obtain ⟨fl, hf, hm⟩ := bind_some hm
    refine m.run (good_start g dis) hf _ ?_
    cases fl with
    | rt d' =>
      cases hm
      intro v H' T' s1 d1 e1 p1
      obtain ⟨H2, e2, s2, d2, s3⟩ := back dis s1 d1 e1
      show Q v (ov H' T')
      rw [e2]
      exact q v H2 s2 d2 (dp_mono s3 p1)
    | nx ρ =>
      cases hm
      intro σ' H' T' G'
      obtain ⟨H2, e2, s2, d2, s3⟩ := back dis G'.ex G'.dis G'.ext
      show Q .non (ov H' T')
      rw [e2]
      exact q _ H2 s2 d2 .non
    | bk ρ => cases hm
    | ct ρ => cases hm
end
theorem kit_ty {K : PySem.W.Frag} {D : Addr} {T : String} (hm : PySem.W.kitMeta T = true) (h : PySem.W.subIn K (.ref D) (.type T) = some true) : PySem.W.kitOne K (.ref D) (.type T) = some true := by
  unfold PySem.W.kitOne
  split
  · rfl
  · show (if PySem.W.kitMeta T = true then PySem.W.subIn K (.ref D) (.type T) else none) = some true
    rw [if_pos hm]
    exact h
end DD
namespace DD
open PySem PySem.Spec PyProof.Rows L2
theorem head_mk {K : PySem.W.Frag} {co P : Addr} {dd : Option Addr} {vs : Array Value} {sl : Array (Option Value)} (kl : K.lookup co = some ⟨.type "code", dd, .fields vs, sl⟩) (k11 : vs[11]? = some (.ref P)) (h18 : ∃ x t, vs.getD 18 .none = .str x t) (h7 : ∃ i t, vs.getD 7 .none = .int i t)
    (h9 : ∃ b, vs.getD 9 .none = .bool b) (h10 : ∃ i t, vs.getD 10 .none = .int i t) (hne : co ≠ P) : PySem.W.codeHdIn K co P = true := by
  obtain ⟨x, t, e18⟩ := h18
  obtain ⟨i, u, e7⟩ := h7
  obtain ⟨b, e9⟩ := h9
  obtain ⟨j, v, e10⟩ := h10
  unfold PySem.W.codeHdIn
  rw [kl]
  simp only [k11, e18, e7, e9, e10]
  simpa using hne
/-- the end of a law that makes lambdas in its own def -/
theorem law_at {l : PySem.W.OpenLaw} {w : World} {K : PySem.W.Frag} {k : Nat} {x q : Str} {mg : Str → Option Value} {fa co P : Addr} {h : Heap} {o : Obj} {fd : FuncData} {e : Value} {dd : Option Addr} {vs : Array Value} {sl : Array (Option Value)} {m : List D → Option D}
    (X : K.In h) (own : LamX.OwnTab K fa h) (lo : K.lookup fa = some o) (ho : o.data = .func fd) (hc : fd.code = .ref co) (kl : K.lookup co = some ⟨e, dd, .fields vs, sl⟩) (k11 : vs[11]? = some (.ref P)) (khd : PySem.W.codeHdIn K co P = true) (kn : K.lookup P = none)
    (hb : ∀ (s : Shared) (u : Value), BindsTo s fd ⟨[u], []⟩ [(x, u)]) (ht : ∀ ns : List Int, ns.length ≤ 63 → m [.list (ns.map .int)] = some (.bool true))
    (F : ∀ base : Heap, K.In base → base.Ns mainGlobals mg → LamX.TabB base mg co P → FnOk l.prog w K mg base CX0 k fa fd [x] (@spM ⟨[(P, q)]⟩ K 1 m)) : LamX.LawAtS l w K CX0 k 63 x mg fa h := by
  have one : ∀ {p : Addr × Addr}, p ∈ [(co, P)] → p = (co, P) := fun hp => by simpa using hp
  refine ⟨fd, [(co, P)], @spM ⟨[(P, q)]⟩ K 1 m, fun p hp => ?_, fun p hp => ?_, fun p hp => ?_, hb, fun H a ns hl _ hT hS => ?_, fun base h1 h2 h3 => F base h1 h2 (h3 (co, P) List.mem_cons_self)⟩
  · rw [one hp]
    exact own co P o fd e dd vs sl lo ho hc kl k11
  · rw [one hp]
    exact kn
  · rw [one hp]
    exact PySem.W.codeHd_of_K X khd
  · letI : TabQ := ⟨[(P, q)]⟩
    letI : ExQ := ⟨0, 0⟩
    have eH : H = ov H (fun _ => none) := by
      funext b
      rfl
    refine ⟨[.list (ns.map .int)], .bool true, H, fun _ => none, .cons (.lst hS (dpa_ints ns)) .nil, rfl, ht ns hl, eH, ⟨fun _ _ z => (nomatch z), fun p hp => ?_⟩, fun v H' _ _ g => dp_bool g⟩
    have ep : p = (P, q) := by simpa using (show p ∈ [(P, q)] from hp)
    rw [ep]
    exact .nil (hT (co, P) List.mem_cons_self)
end DD

set_option Elab.async false
set_option linter.all false
set_option maxRecDepth 100000
set_option maxHeartbeats 4000000
/-! defs with defaults; a dict of defs, and the def that was picked out of it; a tuple whose first part may raise -/
namespace DD
variable [TabQ] [ExQ]
open PySem PySem.Spec PyProof.Rows L2
section
variable {K : PySem.W.Frag} {cl : Nat → Addr}
/-! ### defaults -/
theorem def_okXD {P : Program} {w : World} {mg : Str → Option Value} {base : Heap} {x qual : Str} {st : Stmt} {dvs : List V} {kws : List (Str × V)} {f : Addr} {fd : FuncData} {N ps : List Str} {k : Nat} {mb : En → Option FlX} (F : FunD K x qual (defArgs st) (defBody st) (defScope st) dvs kws f fd) (S : FnScope N ps (defScope st))
    (hbody : ∀ (cdv : Value) (A : Around) (outer : List Env) (s : Shared) (H : Hp) (E : XK), Room k (A.deeper (envOfC qual (defScope st) s.heap.objs.size f cdv)) →
      ∃ t : WX → TS, PSs (cxOf (L2.CX P w) P w K mg base N qual (defScope st) f cdv A outer s H E) (defBody st) (t fun c d _ h => E c d h) ∧ SX K cl t mb) : FnOk P w K mg base (L2.CX P w) (k + 1) f fd ps (spX K cl ps.length (xDef N.length mb)) := by
  refine F.ok S (fun vs H Q E h => ?_) (fun cdv A outer s Hx vs Q E hr h => ?_)
  · obtain ⟨ds, r, H, T, g, hn, _⟩ := h
    rw [dpa_len g, hn]
  · obtain ⟨ds, r, H, T, g, hn, hm, rfl, dis, q⟩ := h
    obtain ⟨t, p, m⟩ := hbody cdv A outer s (ov H T) E hr
    refine ⟨_, p, ?_⟩
    obtain ⟨y, hy, hm⟩ := bind_some hm
    refine m.run (good_start g dis) hy _ _ ?_
    cases y with
    | fl fl =>
      cases fl with
      | rt d' =>
        cases hm
        intro v H' T' s1 d1 e1 p1
        obtain ⟨H2, e2, s2, d2, s3⟩ := back dis s1 d1 e1
        show Q v (ov H' T')
        rw [e2]
        exact q v H2 s2 d2 (dp_mono s3 p1)
      | nx ρ =>
        cases hm
        intro σ' H' T' G'
        obtain ⟨H2, e2, s2, d2, s3⟩ := back dis G'.ex G'.dis G'.ext
        show Q .non (ov H' T')
        rw [e2]
        exact q _ H2 s2 d2 .non
      | bk ρ => cases hm
      | ct ρ => cases hm
    | ex c ρ =>
      cases hm
      intro σ' H' T' G'
      obtain ⟨H2, e2, s2, d2, s3⟩ := back dis G'.ex G'.dis G'.ext
      show E (.ref (cl c)) none (ov H' T')
      rw [e2]
      exact q H2 s2 d2
def xCallD (n : Nat) (dd : List D) (mf : List D → Option Rs) (m : En → Option (List D)) : En → Option Rs := fun ρ => (m ρ).bind fun ds => if (ds ++ dd).length = n then mf (ds ++ dd) else none
def limD (n : Nat) (dd : List D) (m : List D → Option Rs) : List D → Option D := fun ds => if (ds ++ dd).length = n then (m (ds ++ dd)).bind okR else none
theorem ex_callD {n : Nat} {dvs : List V} {dd : List D} {mf : List D → Option Rs} {t : TA} {m : En → Option (List D)} (hdd : ∀ H, DpAll K H dvs dd) (ha : TAm K t m) : EX K cl (fun W => tCallSD (spX K cl n mf) dvs (WE W) t) (xCallD n dd mf m) := by
  refine ⟨fun {H0 T0 σ ρ H T r} G h W Q q => ?_⟩
  obtain ⟨x, hx, h⟩ := bind_some h
  refine ha.run G hx _ fun vs H1 s1 d1 p1 => ?_
  split at h
  · rename_i hn
    refine ⟨x ++ dd, r, H1, T, dpa_append p1 (hdd H1), hn, h, rfl, d1, ?_⟩
    cases r with
    | ok d => exact fun v H' s2 d2 p2 => q v H' (s1.trans s2) d2 p2
    | ex c => exact fun H' s2 d2 => q H' (s1.trans s2) d2
  · cases h
theorem ev_callXD {n : Nat} {dvs : List V} {dd : List D} {mf : List D → Option Rs} {t : TA} {m : En → Option (List D)} {E : L2.St → XK} (hdd : ∀ H, DpAll K H dvs dd) (ha : TAm K t m) : ET K (tCallSD (spX K cl n mf) dvs E t) (mCall (limD n dd mf) m) := by
  refine ⟨fun {H0 T0 σ ρ H T d} G h Q q => ?_⟩
  obtain ⟨x, hx, h⟩ := bind_some h
  refine ha.run G hx _ fun vs H1 s1 d1 p1 => ?_
  unfold limD at h
  split at h
  · rename_i hn
    obtain ⟨r, hr, h⟩ := bind_some h
    cases r with
    | ok d' =>
      cases h
      exact ⟨x ++ dd, .ok d, H1, T, dpa_append p1 (hdd H1), hn, hr, rfl, d1, fun v H' s2 d2 p2 => q v H' (s1.trans s2) d2 p2⟩
    | ex c => cases h
  · cases h
/-! ### (f(..), ..), f raising -/
def xTupC (m : En → Option Rs) (mr : En → Option (List D)) : En → Option Rs := fun ρ => (m ρ).bind fun r => match r with
  | .ok d => (mr ρ).bind fun ds => (sized (d :: ds)).map fun x => .ok (.tuple x)
  | .ex c => some (.ex c)
theorem ex_tupC {te : WX → TE} {tr : TA} {m : En → Option Rs} {mr : En → Option (List D)} (h1 : EX K cl te m) (h2 : TAm K tr mr) : EX K cl (fun W => tTup (tCons (te W) tr)) (xTupC m mr) := by
  refine ⟨fun {H0 T0 σ ρ H T r} G hm W Q q => ?_⟩
  obtain ⟨r1, hr1, hm⟩ := bind_some hm
  cases r1 with
  | ok d =>
    obtain ⟨ds, hds, hm⟩ := bind_some hm
    obtain ⟨x, hx, e⟩ := map_some hm
    subst e
    obtain ⟨rfl, hz⟩ := sized_some hx
    refine h1.run G hr1 W _ fun v H1 s1 d1 p1 => ?_
    refine h2.run (G.mono s1 d1) hds _ fun vs H2 s2 d2 p2 => ?_
    have pa : DpAll K H2 (v :: vs) (d :: ds) := .cons (dp_mono s2 p1) p2
    refine ⟨cap_line (by rw [dpa_len pa]; exact hz), fun p np => ?_⟩
    obtain ⟨nT, nH⟩ := ov_free np
    rw [upd_ov nT]
    exact q _ _ ((s1.trans s2).trans (same_new nH)) (dis_upd d2 nT nH) (.tup (SqT.of upd_same) (dpa_mono (same_new nH) pa))
  | ex c =>
    cases hm
    exact h1.run G hr1 W _ q
/-! ### a dict of defs -/
structure DictF (K : PySem.W.Frag) (w : World) (d : Addr) (fs : List (Str × Addr)) : Prop where
  kd : ∃ es n, KDict K w d es n
  any : ∀ z, PySem.W.nsIn K d z = some ((fs.find? fun kv => kv.1 == z).map fun kv => Value.ref kv.2)
theorem op_inF {X : Cx} {d : Addr} {fs : List (Str × Addr)} (C : DictF X.K X.w d fs) : OpR X (compareOp .In) (rInK X.K d) := let ⟨_, _, k⟩ := C.kd; op_in_kd k
theorem ix_getF {X : Cx} {d : Addr} {fs : List (Str × Addr)} (C : DictF X.K X.w d fs) : IxR X (rGetK X.K d) := by
  obtain ⟨es, n, k⟩ := C.kd
  intro value slice pins s σ H x y v u Q I rx ry h hs
  obtain ⟨z, u0, v0, rfl, rfl, e, r, q⟩ := h
  exact ix_kdict value slice pins s σ H _ _ v u Q I rx ry ⟨d, z, v0, rfl, rfl, ⟨es, n, u0, k.at_, k.lit, e, r⟩, q⟩ hs
def dInF (ks : List Str) : D → Option D
  | .str z => some (.bool (ks.any (· == z)))
  | _ => none
theorem find_any {α : Type} (z : Str) : ∀ l : List (Str × α), (l.find? fun kv => kv.1 == z).isSome = (l.map (·.1)).any (· == z)
  | [] => rfl
  | e :: l => by
    rw [List.find?_cons, List.map_cons, List.any_cons]
    cases h : (e.1 == z) with
    | true => rfl
    | false =>
      show (l.find? fun kv => kv.1 == z).isSome = (false || (l.map (·.1)).any (· == z))
      rw [Bool.false_or]
      exact find_any z l
theorem ev_inF {w : World} {d : Addr} {fs : List (Str × Addr)} {ta : TE} {ma : En → Option D} (C : DictF K w d fs) (ha : ET K ta ma) : ET K (tOp (rInK K d) ta (tC (.ref d))) (mUn (dInF (fs.map (·.1))) ma) := by
  refine ⟨fun {H0 T0 σ ρ H T y} G h Q q => ?_⟩
  obtain ⟨x, hx, h⟩ := bind_some h
  refine ha.run G hx _ fun v H1 s1 d1 p1 => ?_
  unfold dInF at h
  split at h
  · rename_i z
    cases h
    refine ⟨z, _, dp_str p1, rfl, C.any z, ?_⟩
    rw [Option.isSome_map, find_any z fs]
    exact q _ H1 s1 d1 (.bl _)
  · cases h
def tCallM (i : Nat) (l : List (Addr × Sp)) (t : TA) : TE := fun σ H Q => ∃ p ∈ l, σ[i]? = some (some (.ref p.1)) ∧ t σ H fun vs H1 => p.2 vs H1 Q fun _ _ _ => False
theorem pe_callM {X : Cx} {k i : Nat} {x : Str} {l : List (Addr × Sp)} {t : TA} {e : Expr} {es : List Expr} {p pos : Pos} (A : ∀ p ∈ l, Held X.prog X.w X.K X.mg X.base k p.1 p.2) (hr : Room k X.A) (hN : X.N[i]? = some x) (hv : Vis X.env.scope x) (ha : PA X (e :: es) t)
    (hdb : (x == ("__debug__" : Str)) = false := by decide) (hcd : (x == ("__classdict__" : Str)) = false := by decide) (he : starEach (e :: es) X.env = (false, eval e X.env) :: starEach es X.env := by rfl) (hpl : (backTo pos (starEach es X.env)).any (·.1) = false := by rfl) :
    PE X (.Call (.Name x p) (e :: es) [] pos) (tCallM i l t) := by
  refine ⟨fun pins s σ H Q I h => ?_⟩
  obtain ⟨c, hc, hs, ht⟩ := h
  obtain ⟨fd, ps, F, hk, hb⟩ := (A c hc).ex
  have key : PE X (.Call (.Name x p) (e :: es) [] pos) (tCallL i c.1 c.2 [] (fun _ _ _ => False) t) := pe_callL F hr hN hv hk hb .nil (fun _ _ _ _ _ _ _ z => z.elim) ha hdb hcd he hpl
  refine key.run pins s σ H Q I ⟨hs, ?_⟩
  have e0 : (fun (vs : List V) (H1 : Hp) => c.2 (vs ++ []) H1 Q (fun _ _ _ => False)) = fun vs H1 => c.2 vs H1 Q (fun _ _ _ => False) := by
    funext vs H1
    rw [List.append_nil]
  rw [e0]
  exact ht
theorem Good.undef {H0 H : Hp} {T0 T : Ov} {σ : L2.St} {ρ : En} (i : Nat) (x : Option V) (G : Good K H0 T0 σ ρ H T) : Good K H0 T0 (σ.set i x) (ρ.set i none) H T := by
  refine ⟨by rw [List.length_set, List.length_set]; exact G.len, fun j x h => ?_, fun j x h => ?_, fun j k ds es p h1 h2 h3 h4 => ?_, G.dis, G.ext, G.ex, exc_set G.exc (fun _ z => by cases z)⟩
  · rcases get_set h with ⟨_, z, _⟩ | ⟨e, z⟩
    · cases z
    · obtain ⟨w, a, b⟩ := G.val j x z
      exact ⟨w, by rw [List.getElem?_set_ne (Ne.symm e)]; exact a, b⟩
  · rcases get_set h with ⟨_, z, _⟩ | ⟨e, z⟩
    · cases z
    · obtain ⟨p, xs, a, b⟩ := G.own j x z
      exact ⟨p, xs, by rw [List.getElem?_set_ne (Ne.symm e)]; exact a, b⟩
  · rcases get_set h1 with ⟨_, z, _⟩ | ⟨e1, z1⟩
    · cases z
    · rcases get_set h2 with ⟨_, z, _⟩ | ⟨e2, z2⟩
      · cases z
      · rw [List.getElem?_set_ne (Ne.symm e1)] at h3
        rw [List.getElem?_set_ne (Ne.symm e2)] at h4
        exact G.inj j k ds es p z1 z2 h3 h4
/-- f = dict[key]; return f(..) -/
def sDisp (i n : Nat) (ft : List (Str × (List D → Option D))) (mk : En → Option D) (ma : En → Option (List D)) : En → Option Fl := fun ρ => (mk ρ).bind fun k => match k with
  | .str z => match ft.find? fun e => e.1 == z with
    | some e => if i < ρ.length then (ma (ρ.set i none)).bind fun ds => if ds.length = n then (e.2 ds).map .rt else none else none
    | none => none
  | _ => none
theorem find_tab {z : Str} : ∀ (l : List (Str × Addr × (List D → Option D))) {e : Str × (List D → Option D)}, (l.map fun e => (e.1, e.2.2)).find? (fun e => e.1 == z) = some e → ∃ c ∈ l, (l.map fun e => (e.1, e.2.1)).find? (fun e => e.1 == z) = some (c.1, c.2.1) ∧ e = (c.1, c.2.2)
  | [], e, h => by cases h
  | c :: l, e, h => by
    rw [List.map_cons, List.find?_cons] at h ⊢
    cases hz : (c.1 == z) with
    | true =>
      rw [show (((c.1, c.2.2) : Str × (List D → Option D)).1 == z) = true from hz] at h
      refine ⟨c, List.mem_cons_self, ?_, (Option.some.inj h).symm⟩
      rfl
    | false =>
      rw [show (((c.1, c.2.2) : Str × (List D → Option D)).1 == z) = false from hz] at h
      obtain ⟨c', m, a, b⟩ := find_tab l h
      exact ⟨c', List.mem_cons_of_mem _ m, a, b⟩
theorem st_disp {w : World} {d : Addr} {i n : Nat} {l : List (Str × Addr × (List D → Option D))} {tk : TE} {ta : TA} {mk : En → Option D} {ma : En → Option (List D)} (C : DictF K w d (l.map fun e => (e.1, e.2.1))) (hk : ET K tk mk) (ha : TAm K ta ma) :
    TSm K (tSeq (tAsg (tOp (rGetK K d) (tC (.ref d)) tk) (gName i)) (tRet (tCallM i (l.map fun e => (e.2.1, spM K n e.2.2)) ta))) (sDisp i n (l.map fun e => (e.1, e.2.2)) mk ma) := by
  refine ⟨fun {H0 T0 σ ρ H T f} G h E q => ?_⟩
  obtain ⟨x, hx, h⟩ := bind_some h
  split at h
  · rename_i z
    split at h
    · rename_i e hf
      have hil : i < ρ.length := by
        by_cases z : i < ρ.length
        · exact z
        · rw [if_neg z] at h
          cases h
      rw [if_pos hil] at h
      rw [G.len] at hil
      obtain ⟨ds, hds, h⟩ := bind_some h
      split at h
      · rename_i hn
        obtain ⟨y, hy, h⟩ := map_some h
        subst h
        obtain ⟨c, cm, c1, c2⟩ := find_tab l hf
        refine hk.run G hx _ fun v H1 s1 d1 p1 => ?_
        have en : PySem.W.nsIn K d z = some (some (.ref c.2.1)) := by rw [C.any z, c1]; rfl
        refine ⟨z, .ref c.2.1, .ref c.2.1, rfl, dp_str p1, en, rfl, ?_⟩
        have G1 := (G.mono s1 d1).undef i (some (.ref c.2.1))
        refine ⟨(c.2.1, spM K n c.2.2), List.mem_map.mpr ⟨c, cm, rfl⟩, set_self hil, ?_⟩
        refine ha.run G1 hds _ fun vs H2 s2 d2 p2 => ?_
        rw [c2] at hy
        exact ⟨ds, y, H2, T, p2, hn, hy, rfl, d2, fun u H3 s3 d3 p3 => q u H3 T (G1.ex.trans (s2.trans s3)) d3 G.ext p3⟩
      · cases h
    · cases h
  · cases h
end
/-! ### x is True, whatever x is -/
def isKind : V → Bool → Option Bool
  | .bl a, b => some (decide (a = b))
  | .non, _ => some false
  | .int _, _ => some false
  | .str _, _ => some false
  | .ref _, _ => some false
  | _, _ => none
def rIsBA : R2 := fun x y H Q => ∃ b c : Bool, y = .bl b ∧ isKind x b = some c ∧ Q (.bl c) H
theorem op_isBA {X : Cx} : OpR X (compareOp .Is) rIsBA := by
  intro pins s σ H x y v u Q I rx ry h
  obtain ⟨b, c, rfl, e, q⟩ := h
  cases (show u = Value.bool b from ry)
  cases x with
  | bl a =>
    cases (show v = Value.bool a from rx)
    cases e
    by_cases z : a = b
    · rw [decide_eq_true z] at q
      rw [z]
      exact wpAny_is_self rfl ⟨.bl true, H, I, rfl, q⟩
    · rw [decide_eq_false z] at q
      exact wpAny_is_other rfl (fun k => z (Value.bool.inj k)) ⟨.bl false, H, I, rfl, q⟩
  | non =>
    cases (show v = Value.none from rx)
    cases e
    exact wpAny_is_other rfl (fun k => Value.noConfusion k) ⟨.bl false, H, I, rfl, q⟩
  | int i =>
    obtain ⟨t, rfl⟩ := (show ∃ t, v = Value.int i t from rx)
    cases e
    exact wpAny_is_other rfl (fun k => Value.noConfusion k) ⟨.bl false, H, I, rfl, q⟩
  | str z =>
    obtain ⟨t, rfl⟩ := (show ∃ t, v = Value.str z t from rx)
    cases e
    exact wpAny_is_other rfl (fun k => Value.noConfusion k) ⟨.bl false, H, I, rfl, q⟩
  | ref a =>
    cases (show v = Value.ref a from rx)
    cases e
    exact wpAny_is_other rfl (fun k => Value.noConfusion k) ⟨.bl false, H, I, rfl, q⟩
  | _ => cases e
def dIsB : D → D → Option D
  | .bool a, .bool b => some (.bool (decide (a = b)))
  | .none, .bool _ => some (.bool false)
  | .int _, .bool _ => some (.bool false)
  | .str _, .bool _ => some (.bool false)
  | .tuple _, .bool _ => some (.bool false)
  | .list _, .bool _ => some (.bool false)
  | _, _ => none
theorem rd_isB {K : PySem.W.Frag} : RD K rIsBA dIsB := by
  refine ⟨fun {H T x y a b d} dis ha hb h Q q => ?_⟩
  unfold dIsB at h
  split at h
  · cases h
    exact ⟨_, _, dp_bool hb, by rw [dp_bool ha]; rfl, q _ H (Same.refl H) dis (.bl _)⟩
  · cases h
    exact ⟨_, false, dp_bool hb, by cases ha; rfl, q _ H (Same.refl H) dis (.bl _)⟩
  · cases h
    exact ⟨_, false, dp_bool hb, by cases ha; rfl, q _ H (Same.refl H) dis (.bl _)⟩
  · cases h
    exact ⟨_, false, dp_bool hb, by cases ha; rfl, q _ H (Same.refl H) dis (.bl _)⟩
  · cases h
    exact ⟨_, false, dp_bool hb, by cases ha; rfl, q _ H (Same.refl H) dis (.bl _)⟩
  · cases h
    exact ⟨_, false, dp_bool hb, by cases ha; rfl, q _ H (Same.refl H) dis (.bl _)⟩
  · cases h
end DD

set_option Elab.async false
set_option linter.all false
set_option maxRecDepth 100000
set_option maxHeartbeats 4000000
/-! what the top leaves: defs with defaults, dicts of defs -/
namespace DD
open PySem PySem.Spec PyProof.Rows L2
theorem funD_mk {K : PySem.W.Frag} {x qual : Str} {st : Stmt} {f dt : Addr} {oc kV doc pm cdv ct dcl : Value} {od an ddd : Option Addr} {osl dsl : Array (Option Value)} {di : Array Value} {dn : Nat} {dvs : List V}
    (l : K.lookup f = some ⟨oc, od, .func (PySem.W.fnOf x qual (defArgs st) (defBody st) (defScope st) (.ref dt) kV doc pm an cdv ct), osl⟩) (c : PySem.W.codeIn K cdv qual = true) (k : PySem.W.keepIn K (.ref f) = true) (lt : K.lookup dt = some ⟨dcl, ddd, .seq di dn, dsl⟩) (vt : Vals dvs di.toList) (hne : dvs ≠ []) :
    FunD K x qual (defArgs st) (defBody st) (defScope st) dvs [] f (PySem.W.fnOf x qual (defArgs st) (defBody st) (defScope st) (.ref dt) kV doc pm an cdv ct) :=
  ⟨⟨oc, od, .ref dt, kV, doc, pm, an, cdv, ct, osl, rfl, l, c, .inr ⟨hne, dt, _, di.toList, dn, rfl, lt, rfl, vt⟩, .inl rfl⟩, k⟩
theorem binds_all {K : PySem.W.Frag} {fd : FuncData} {ps : List Str} {dvs : List V} (h : ∃ ds, Vals (dvs.drop dvs.length) ds ∧ Binds K fd ps ds) : Binds K fd ps [] := by
  obtain ⟨ds, r, b⟩ := h
  rw [List.drop_length] at r
  cases r
  exact b
def refsOf (fs : List (Str × Addr)) : List (Option Str × Value) := fs.map fun kv => (some kv.1, .ref kv.2)
theorem keys_refs {P : Params} : ∀ {l : List DictEntry} {fs : List (Str × Addr)}, PySem.W.KeysLit P l → l.map (fun e => (keyS e, e.val)) = refsOf fs → l.map He.keyOf = He.keysIn P (fs.map (·.1))
  | [], [], _, _ => rfl
  | [], _ :: _, _, h => by cases h
  | _ :: _, [], _, h => by cases h
  | e :: r, kv :: fs, y, h => by
    obtain ⟨⟨x, t, e1, e2⟩, y2⟩ := y
    have h' : (keyS e, e.val) :: r.map (fun e => (keyS e, e.val)) = (some kv.1, Value.ref kv.2) :: refsOf fs := h
    obtain ⟨h1, h2⟩ := List.cons.inj h'
    have ke : keyS e = some x := by unfold keyS; rw [e1]
    have kx : x = kv.1 := by
      have := (Prod.mk.inj h1).1
      rw [ke] at this
      exact Option.some.inj this
    have ih := keys_refs y2 h2
    show He.keyOf e :: r.map He.keyOf = some (kv.1, PyData.keyHash P kv.1) :: He.keysIn P (fs.map (·.1))
    rw [ih]
    have : He.keyOf e = some (x, PyData.keyHash P x) := by
      unfold He.keyOf
      rw [e1, e2]
    rw [this, kx]
theorem find_refs {P : Params} (z : Str) : ∀ {l : List DictEntry} {fs : List (Str × Addr)}, PySem.W.KeysLit P l → l.map (fun e => (keyS e, e.val)) = refsOf fs →
    (l.find? (·.key.isStr z)).map (·.val) = (fs.find? fun kv => kv.1 == z).map fun kv => Value.ref kv.2
  | [], [], _, _ => rfl
  | [], _ :: _, _, h => by cases h
  | _ :: _, [], _, h => by cases h
  | e :: r, kv :: fs, y, h => by
    obtain ⟨⟨x, t, e1, e2⟩, y2⟩ := y
    have h' : (keyS e, e.val) :: r.map (fun e => (keyS e, e.val)) = (some kv.1, Value.ref kv.2) :: refsOf fs := h
    obtain ⟨h1, h2⟩ := List.cons.inj h'
    have ke : keyS e = some x := by unfold keyS; rw [e1]
    have kx : x = kv.1 := by
      have := (Prod.mk.inj h1).1
      rw [ke] at this
      exact Option.some.inj this
    have ek : e.key.isStr z = (kv.1 == z) := by rw [e1, ← kx]; rfl
    have ih := find_refs z y2 h2
    rw [List.find?_cons, List.find?_cons, ek]
    cases hz : (kv.1 == z) with
    | true => exact congrArg some (Prod.mk.inj h1).2
    | false => exact ih
theorem dictF_mk {K : PySem.W.Frag} {w : World} {a : Addr} {es : Array DictEntry} {n : Nat} {fs : List (Str × Addr)} (l : K.lookup a = some ⟨.type "dict", none, .dict es n, #[]⟩) (y : PySem.W.KeysLit w.params es.toList) (z : (a == sysModules) = false)
    (v : es.toList.map (fun e => (keyS e, e.val)) = refsOf fs) : DictF K w a fs := by
  have kl := keys_refs y v
  have h1 : He.dicW K a = some (He.keysIn w.params (fs.map (·.1))) := by
    unfold He.dicW
    rw [l]
    show (match decide ("dict" = "dict") && ((#[] : Array (Option Value)).isEmpty && !(a == sysModules)) with
      | true => some (es.toList.map He.keyOf)
      | false => none) = _
    rw [z, kl]
    rfl
  obtain ⟨es', n', kd⟩ := He.dicW_ok h1
  have he : es' = es := by
    have := kd.at_
    rw [l] at this
    have e2 := congrArg (fun o => o.map Obj.data) this
    simp at e2
    exact e2.1.symm
  subst he
  refine ⟨⟨es', n', kd⟩, fun k => ?_⟩
  have nr : es'.toList.any (·.refKey) = false := by
    rw [List.any_eq_false]
    intro e he
    obtain ⟨x, t, ek, _⟩ := PySem.W.KeysLit.all kd.lit e he
    simp [DictEntry.refKey, ek]
  have fr := find_refs k y v
  unfold PySem.W.nsIn
  rw [kd.at_]
  simp only
  cases q : es'.toList.find? (·.key.isStr k) with
  | some e =>
    rw [q] at fr
    rw [← fr]
    rfl
  | none =>
    rw [q] at fr
    rw [← fr]
    simp only
    rw [if_neg (by rw [nr]; exact Bool.false_ne_true)]
    rfl
end DD

set_option Elab.async false
set_option linter.all false
set_option maxRecDepth 100000
set_option maxHeartbeats 4000000
/-! what may raise within arguments, operators, tests, targets and loops -/
namespace DD
variable [TabQ] [ExQ]
open PySem PySem.Spec PyProof.Rows L2
/-- what arguments come to -/
inductive RsL where
  | ok (ds : List D)
  | ex (c : Nat)
section
variable (K : PySem.W.Frag) (cl : Nat → Addr)
structure XA (ta : WX → TA) (m : En → Option RsL) : Prop where
  run : ∀ {H0 : Hp} {T0 : Ov} {σ : L2.St} {ρ : En} {H : Hp} {T : Ov} {r : RsL}, Good K H0 T0 σ ρ H T → m ρ = some r → ∀ (W : WX) (R : List V → Hp → Prop),
    (match r with
      | .ok ds => ∀ vs H', Same H H' → Dis H' T → DpAll K H' vs ds → R vs (ov H' T)
      | .ex c => ∀ H', Same H H' → Dis H' T → W (.ref (cl c)) none σ (ov H' T)) → ta W σ (ov H T) R
structure TX (tt : WX → TT) (m : En → Option Rs) : Prop where
  run : ∀ {H0 : Hp} {T0 : Ov} {σ : L2.St} {ρ : En} {H : Hp} {T : Ov} {r : Rs}, Good K H0 T0 σ ρ H T → m ρ = some r → ∀ (W : WX) (Q : Bool → Hp → Prop),
    (match r with
      | .ok d => ∃ b, d = .bool b ∧ ∀ H', Same H H' → Dis H' T → Q b (ov H' T)
      | .ex c => ∀ H', Same H H' → Dis H' T → W (.ref (cl c)) none σ (ov H' T)) → tt W σ (ov H T) Q
end
def xaLift (m : En → Option (List D)) : En → Option RsL := fun ρ => (m ρ).map .ok
def xaCons (m : En → Option Rs) (mr : En → Option RsL) : En → Option RsL := fun ρ => (m ρ).bind fun r => match r with
  | .ok d => (mr ρ).bind fun x => match x with
    | .ok ds => some (.ok (d :: ds))
    | .ex c => some (.ex c)
  | .ex c => some (.ex c)
def xaBind (m : En → Option RsL) (f : List D → Option Rs) : En → Option Rs := fun ρ => (m ρ).bind fun r => match r with
  | .ok ds => f ds
  | .ex c => some (.ex c)
def okF (f : List D → Option D) : List D → Option Rs := fun ds => (f ds).map .ok
def limR (n : Nat) (f : List D → Option Rs) : List D → Option Rs := fun ds => if ds.length = n then f ds else none
def xOp (f : D → D → Option D) (a b : En → Option Rs) : En → Option Rs := fun ρ => (a ρ).bind fun x => match x with
  | .ok d => (b ρ).bind fun y => match y with
    | .ok e => (f d e).map .ok
    | .ex c => some (.ex c)
  | .ex c => some (.ex c)
def xTru (m : En → Option Rs) : En → Option Rs := fun ρ => (m ρ).bind fun r => match r with
  | .ok d => (tru d).map fun b => .ok (.bool b)
  | .ex c => some (.ex c)
def xTest (m : En → Option Rs) : En → Option Rs := fun ρ => (m ρ).bind fun r => match r with
  | .ok d => (isB d).map fun b => .ok (.bool b)
  | .ex c => some (.ex c)
def xNot (m : En → Option Rs) : En → Option Rs := fun ρ => (m ρ).bind fun r => match r with
  | .ok d => (isB d).map fun b => .ok (.bool (!b))
  | .ex c => some (.ex c)
def xIfT (m : En → Option Rs) (a b : En → Option FlX) : En → Option FlX := fun ρ => (m ρ).bind fun r => match r with
  | .ok d => (isB d).bind fun x => if x = true then a ρ else b ρ
  | .ex c => some (.ex c ρ)
def xAsgG (m : En → Option Rs) (g : D → En → Option En) : En → Option FlX := fun ρ => (m ρ).bind fun r => match r with
  | .ok d => (g d ρ).map fun ρ2 => .fl (.nx ρ2)
  | .ex c => some (.ex c ρ)
def loopX (g : D → En → Option En) (b : En → Option FlX) : List D → En → Option FlX
  | [], ρ => some (.fl (.nx ρ))
  | d :: ds, ρ => (g d ρ).bind fun ρ1 => (b ρ1).bind fun f => match f with
    | .fl (.nx ρ2) => loopX g b ds ρ2
    | .fl (.ct ρ2) => loopX g b ds ρ2
    | .fl (.bk ρ2) => some (.fl (.nx ρ2))
    | .fl (.rt d) => some (.fl (.rt d))
    | .ex c ρ2 => some (.ex c ρ2)
def xFor (it : En → Option (List D)) (g : D → En → Option En) (b : En → Option FlX) : En → Option FlX := fun ρ => (it ρ).bind fun ds => loopX g b ds ρ
def whlX (c : En → Option Bool) (b : En → Option FlX) : Nat → En → Option FlX
  | 0, _ => none
  | n + 1, ρ => (c ρ).bind fun x => if x = true then (b ρ).bind fun f => match f with
      | .fl (.nx ρ2) => whlX c b n ρ2
      | .fl (.ct ρ2) => whlX c b n ρ2
      | .fl (.bk ρ2) => some (.fl (.nx ρ2))
      | .fl (.rt d) => some (.fl (.rt d))
      | .ex c ρ2 => some (.ex c ρ2)
    else some (.fl (.nx ρ))
def xWhile (fuel : En → Nat) (c : En → Option Bool) (b : En → Option FlX) : En → Option FlX := fun ρ => whlX c b (fuel ρ) ρ
section
variable {K : PySem.W.Frag} {cl : Nat → Addr}
theorem xa_lift {ta : TA} {m : En → Option (List D)} (h : TAm K ta m) : XA K cl (fun _ => ta) (xaLift m) := by
  refine ⟨fun {H0 T0 σ ρ H T r} G hm W R q => ?_⟩
  obtain ⟨ds, hd, e⟩ := map_some hm
  subst e
  exact h.run G hd R q
theorem xa_cons {te : WX → TE} {ta : WX → TA} {m : En → Option Rs} {mr : En → Option RsL} (h1 : EX K cl te m) (h2 : XA K cl ta mr) : XA K cl (fun W => tCons (te W) (ta W)) (xaCons m mr) := by
  refine ⟨fun {H0 T0 σ ρ H T r} G hm W R q => ?_⟩
  obtain ⟨r1, hr1, hm⟩ := bind_some hm
  cases r1 with
  | ok d =>
    obtain ⟨r2, hr2, hm⟩ := bind_some hm
    refine h1.run G hr1 W _ fun v H1 s1 d1 p1 => ?_
    refine h2.run (G.mono s1 d1) hr2 W _ ?_
    cases r2 with
    | ok ds =>
      cases hm
      exact fun vs H2 s2 d2 p2 => q (v :: vs) H2 (s1.trans s2) d2 (.cons (dp_mono s2 p1) p2)
    | ex c =>
      cases hm
      exact fun H2 s2 d2 => q H2 (s1.trans s2) d2
  | ex c =>
    cases hm
    exact h1.run G hr1 W _ q
theorem ex_callA {n : Nat} {mf : List D → Option Rs} {ta : WX → TA} {m : En → Option RsL} (ha : XA K cl ta m) : EX K cl (fun W => tCallS (spX K cl n mf) (WE W) (ta W)) (xaBind m (limR n mf)) := by
  refine ⟨fun {H0 T0 σ ρ H T r} G h W Q q => ?_⟩
  obtain ⟨x, hx, h⟩ := bind_some h
  refine ha.run G hx W _ ?_
  cases x with
  | ok ds =>
    intro vs H1 s1 d1 p1
    have h : (if ds.length = n then mf ds else none) = some r := h
    split at h
    · rename_i hn
      refine ⟨ds, r, H1, T, p1, hn, h, rfl, d1, ?_⟩
      cases r with
      | ok d => exact fun v H' s2 d2 p2 => q v H' (s1.trans s2) d2 p2
      | ex c => exact fun H' s2 d2 => q H' (s1.trans s2) d2
    · cases h
  | ex c =>
    cases h
    exact q
theorem ex_callP {n : Nat} {mf : List D → Option D} {E : XK} {ta : WX → TA} {m : En → Option RsL} (ha : XA K cl ta m) : EX K cl (fun W => tCall (spM K n mf) [] E (ta W)) (xaBind m (okF (lim n mf))) := by
  refine ⟨fun {H0 T0 σ ρ H T r} G h W Q q => ?_⟩
  obtain ⟨x, hx, h⟩ := bind_some h
  refine ha.run G hx W _ ?_
  cases x with
  | ok ds =>
    intro vs H1 s1 d1 p1
    obtain ⟨d, hd, e⟩ := map_some h
    subst e
    unfold lim at hd
    split at hd
    · rename_i hn
      rw [List.append_nil]
      exact ⟨ds, d, H1, T, p1, hn, hd, rfl, d1, fun v H' s2 d2 p2 => q v H' (s1.trans s2) d2 p2⟩
    · cases hd
  | ex c =>
    cases h
    exact q
theorem ex_cbA {rc : List V → Hp → VK → Prop} {fc : List D → Option D} {ta : WX → TA} {m : En → Option RsL} (hc : CD K rc fc) (ha : XA K cl ta m) : EX K cl (fun W => tCB rc (ta W)) (xaBind m (okF fc)) := by
  refine ⟨fun {H0 T0 σ ρ H T r} G h W Q q => ?_⟩
  obtain ⟨x, hx, h⟩ := bind_some h
  refine ha.run G hx W _ ?_
  cases x with
  | ok ds =>
    intro vs H1 s1 d1 p1
    obtain ⟨d, hd, e⟩ := map_some h
    subst e
    exact hc.run d1 p1 hd Q fun v H' s2 d2 p2 => q v H' (s1.trans s2) d2 p2
  | ex c =>
    cases h
    exact q
def tupR (ds : List D) : Option Rs := (sized ds).map fun x => .ok (.tuple x)
def lstR (ds : List D) : Option Rs := (sized ds).map fun x => .ok (.list x)
theorem ex_tupA {ta : WX → TA} {m : En → Option RsL} (ha : XA K cl ta m) : EX K cl (fun W => tTup (ta W)) (xaBind m tupR) := by
  refine ⟨fun {H0 T0 σ ρ H T r} G h W Q q => ?_⟩
  obtain ⟨x, hx, h⟩ := bind_some h
  refine ha.run G hx W _ ?_
  cases x with
  | ok ds =>
    intro vs H1 s1 d1 p1
    obtain ⟨y, hy, e⟩ := map_some h
    subst e
    obtain ⟨rfl, hz⟩ := sized_some hy
    refine ⟨cap_line (by rw [dpa_len p1]; exact hz), fun p np => ?_⟩
    obtain ⟨nT, nH⟩ := ov_free np
    rw [upd_ov nT]
    exact q _ _ (s1.trans (same_new nH)) (dis_upd d1 nT nH) (.tup (SqT.of upd_same) (dpa_mono (same_new nH) p1))
  | ex c =>
    cases h
    exact q
theorem ex_lstA {ta : WX → TA} {m : En → Option RsL} (ha : XA K cl ta m) : EX K cl (fun W => tLst (ta W)) (xaBind m lstR) := by
  refine ⟨fun {H0 T0 σ ρ H T r} G h W Q q => ?_⟩
  obtain ⟨x, hx, h⟩ := bind_some h
  refine ha.run G hx W _ ?_
  cases x with
  | ok ds =>
    intro vs H1 s1 d1 p1
    obtain ⟨y, hy, e⟩ := map_some h
    subst e
    obtain ⟨rfl, hz⟩ := sized_some hy
    refine ⟨cap_line (by rw [dpa_len p1]; exact hz), fun p np => ?_⟩
    obtain ⟨nT, nH⟩ := ov_free np
    rw [upd_ov nT]
    exact q _ _ (s1.trans (same_new nH)) (dis_upd d1 nT nH) (.lst (SqL.of upd_same) (dpa_mono (same_new nH) p1))
  | ex c =>
    cases h
    exact q
theorem ex_op {r2 : R2} {f : D → D → Option D} {ta tb : WX → TE} {ma mb : En → Option Rs} (hr : RD K r2 f) (ha : EX K cl ta ma) (hb : EX K cl tb mb) : EX K cl (fun W => tOp r2 (ta W) (tb W)) (xOp f ma mb) := by
  refine ⟨fun {H0 T0 σ ρ H T r} G h W Q q => ?_⟩
  obtain ⟨x, hx, h⟩ := bind_some h
  refine ha.run G hx W _ ?_
  cases x with
  | ok a =>
    intro v H1 s1 d1 p1
    obtain ⟨y, hy, h⟩ := bind_some h
    refine hb.run (G.mono s1 d1) hy W _ ?_
    cases y with
    | ok b =>
      intro u H2 s2 d2 p2
      obtain ⟨d, hd, e⟩ := map_some h
      subst e
      exact hr.run d2 (dp_mono s2 p1) p2 hd Q fun w H3 s3 d3 p3 => q w H3 ((s1.trans s2).trans s3) d3 p3
    | ex c =>
      cases h
      exact fun H2 s2 d2 => q H2 (s1.trans s2) d2
  | ex c =>
    cases h
    exact q
theorem truV {H : Hp} {T : Ov} {v : V} {d : D} {b : Bool} (dis : Dis H T) (p : Dp K H v d) (h : tru d = some b) : TruV K v (ov H T) b := by
  unfold tru at h
  split at h
  · cases h; cases dp_non p; rfl
  · cases h; cases dp_bool p; rfl
  · cases h; cases dp_int p; rfl
  · split at h
    · rename_i hz
      cases h; cases dp_str p; exact ⟨cap_line hz, rfl⟩
    · cases h
  · cases h
    obtain ⟨a, xs, rfl, hs, g⟩ := dp_lst p
    exact .inl ⟨xs, sql_ov dis hs, by rw [emp_of g]⟩
  · cases h
    obtain ⟨a, xs, rfl, hs, g⟩ := dp_tup p
    exact .inr (.inl ⟨xs, sqt_ov dis hs, by rw [emp_of g]⟩)
  · cases h
theorem tx_tru {te : WX → TE} {m : En → Option Rs} (h : EX K cl te m) : TX K cl (fun W => tTru K (te W)) (xTru m) := by
  refine ⟨fun {H0 T0 σ ρ H T r} G hm W Q q => ?_⟩
  obtain ⟨x, hx, hm⟩ := bind_some hm
  refine h.run G hx W _ ?_
  cases x with
  | ok d =>
    intro v H1 s1 d1 p1
    obtain ⟨b, hb, e⟩ := map_some hm
    subst e
    obtain ⟨b', e', q⟩ := q
    cases e'
    exact ⟨b, truV d1 p1 hb, q H1 s1 d1⟩
  | ex c =>
    cases hm
    exact q
theorem tx_test {te : WX → TE} {m : En → Option Rs} (h : EX K cl te m) : TX K cl (fun W => tTest (te W)) (xTest m) := by
  refine ⟨fun {H0 T0 σ ρ H T r} G hm W Q q => ?_⟩
  obtain ⟨x, hx, hm⟩ := bind_some hm
  refine h.run G hx W _ ?_
  cases x with
  | ok d =>
    intro v H1 s1 d1 p1
    obtain ⟨b, hb, e⟩ := map_some hm
    subst e
    obtain ⟨b', e', q⟩ := q
    cases e'
    cases isB_some hb
    exact ⟨b, dp_bool p1, q H1 s1 d1⟩
  | ex c =>
    cases hm
    exact q
theorem tx_not {tt : WX → TT} {m : En → Option Rs} (h : TX K cl tt m) : TX K cl (fun W => tNot (tt W)) (xNot m) := by
  refine ⟨fun {H0 T0 σ ρ H T r} G hm W Q q => ?_⟩
  obtain ⟨x, hx, hm⟩ := bind_some hm
  refine h.run G hx W _ ?_
  cases x with
  | ok d =>
    obtain ⟨b, hb, e⟩ := map_some hm
    subst e
    obtain ⟨b', e', q⟩ := q
    cases e'
    exact ⟨b, isB_some hb, q⟩
  | ex c =>
    cases hm
    exact q
/-! statements -/
theorem sx_ifT {tt : WX → TT} {m : En → Option Rs} {t u : WX → TS} {m1 m2 : En → Option FlX} (hc : TX K cl tt m) (h1 : SX K cl t m1) (h2 : SX K cl u m2) : SX K cl (fun W => tIfS (tt W) (t W) (u W)) (xIfT m m1 m2) := by
  refine ⟨fun {H0 T0 σ ρ H T f} G h W E q => ?_⟩
  obtain ⟨x, hx, h⟩ := bind_some h
  refine hc.run G hx W _ ?_
  cases x with
  | ok d =>
    obtain ⟨b, hb, h⟩ := bind_some h
    refine ⟨b, isB_some hb, fun H1 s1 d1 => ?_⟩
    cases b with
    | true =>
      rw [if_pos rfl] at h ⊢
      exact h1.run (G.mono s1 d1) h W E q
    | false =>
      rw [if_neg Bool.false_ne_true] at h ⊢
      exact h2.run (G.mono s1 d1) h W E q
  | ex c =>
    cases h
    exact fun H1 s1 d1 => q σ H1 T (G.mono s1 d1)
theorem sx_asgG {te : WX → TE} {m : En → Option Rs} {vs : List Nat} {g : TG} {mg : D → En → Option En} (h : EX K cl te m) (hg : TGm K vs g mg) : SX K cl (fun W => tAsg (te W) g) (xAsgG m mg) := by
  refine ⟨fun {H0 T0 σ ρ H T x} G hm W E q => ?_⟩
  obtain ⟨r, hr, hm⟩ := bind_some hm
  refine h.run G hr W _ ?_
  cases r with
  | ok d =>
    intro v H1 s1 d1 p1
    obtain ⟨ρ2, h2, e⟩ := map_some hm
    subst e
    exact hg.run (G.mono s1 d1) p1 h2 _ fun σ2 H2 G2 _ _ => q σ2 H2 T G2
  | ex c =>
    cases hm
    exact fun H1 s1 d1 => q σ H1 T (G.mono s1 d1)
theorem sx_for {wi : TI} {mi : En → Option (List D)} {vs : List Nat} {g : TG} {mg : D → En → Option En} {t : WX → TS} {m1 : En → Option FlX} (hi : IT K wi mi) (hg : TGm K vs g mg) (hb : SX K cl t m1) : SX K cl (fun W => tFor wi g (t W)) (xFor mi mg m1) := by
  refine ⟨fun {H0 T0 σ ρ H T f} G h W E q => ?_⟩
  obtain ⟨ds, hd, h⟩ := bind_some h
  refine hi.run G hd _ fun J Hm s1 d1 w => ?_
  refine ⟨fun i m σ Hc => i ≤ ds.length ∧ m = ds.length - i ∧ ∃ ρ H T, Hc = ov H T ∧ Good K H0 T0 σ ρ H T ∧ Same Hm H ∧ loopX mg m1 (ds.drop i) ρ = some f, ⟨ds.length, Nat.zero_le _, rfl, ρ, Hm, T, rfl, G.mono s1 d1, Same.refl Hm, h⟩, ?_⟩
  rintro i m σ1 Hc ⟨hi, rfl, ρ1, H1, T1, rfl, G1, sm, hl⟩
  by_cases hlt : i < ds.length
  · have hge : ds[i]? = some ds[i] := List.getElem?_eq_getElem hlt
    rw [List.drop_eq_getElem_cons hlt] at hl
    obtain ⟨ρ2, h2, hl⟩ := bind_some hl
    obtain ⟨f3, h3, hl⟩ := bind_some hl
    refine .inr ⟨w.go i sm G1.dis hlt, fun σ' Hc' => ∃ ρ H T, Hc' = ov H T ∧ Good K H0 T0 σ' ρ H T ∧ Same Hm H ∧ loopX mg m1 (ds.drop (i + 1)) ρ = some f, fun σ' Hc' ⟨ρ', H', T', e', G', s', l'⟩ => ⟨ds.length - (i + 1), by omega, by omega, rfl, ρ', H', T', e', G', s', l'⟩, fun x Hc' y => ?_⟩
    obtain ⟨H2, rfl, s2, d2, p2⟩ := w.yld i sm G1.dis hge y
    refine hg.run (G1.mono s2 d2) p2 h2 _ fun σ3 H3 G3 s3 _ => ?_
    refine hb.run (H0 := H3) (T0 := T0) (σ := σ3) (ρ := ρ2) (H := H3) (T := T1) ⟨G3.len, G3.val, G3.own, G3.inj, G3.dis, G3.ext, Same.refl H3, G3.exc⟩ h3 W _ ?_
    have s03 : Same H0 H3 := G3.ex
    cases f3 with
    | fl f3 =>
      cases f3 with
      | nx ρ4 => exact fun σ4 H4 T4 G4 => ⟨ρ4, H4, T4, rfl, ⟨G4.len, G4.val, G4.own, G4.inj, G4.dis, G4.ext, s03.trans G4.ex, G4.exc⟩, (sm.trans (s2.trans s3)).trans G4.ex, hl⟩
      | ct ρ4 => exact fun σ4 H4 T4 G4 => ⟨ρ4, H4, T4, rfl, ⟨G4.len, G4.val, G4.own, G4.inj, G4.dis, G4.ext, s03.trans G4.ex, G4.exc⟩, (sm.trans (s2.trans s3)).trans G4.ex, hl⟩
      | bk ρ4 =>
        cases hl
        exact fun σ4 H4 T4 G4 => q σ4 H4 T4 ⟨G4.len, G4.val, G4.own, G4.inj, G4.dis, G4.ext, s03.trans G4.ex, G4.exc⟩
      | rt d =>
        cases hl
        exact fun v H4 T4 s4 d4 e4 p4 => q v H4 T4 (s03.trans s4) d4 e4 p4
    | ex c ρ4 =>
      cases hl
      exact fun σ4 H4 T4 G4 => q σ4 H4 T4 ⟨G4.len, G4.val, G4.own, G4.inj, G4.dis, G4.ext, s03.trans G4.ex, G4.exc⟩
  · have e : i = ds.length := by omega
    subst e
    rw [List.drop_length] at hl
    cases hl
    exact .inl ⟨w.stop sm G1.dis, q σ1 H1 T1 G1⟩
theorem sx_while {tc : TT} {mc : En → Option Bool} {t : WX → TS} {m1 : En → Option FlX} (fuel : En → Nat) (hc : TTm K tc mc) (hb : SX K cl t m1) : SX K cl (fun W => tWhile tc (t W)) (xWhile fuel mc m1) := by
  refine ⟨fun {H0 T0 σ ρ H T f} G h W E q => ?_⟩
  refine ⟨fun m σ Hc => ∃ ρ H T, Hc = ov H T ∧ Good K H0 T0 σ ρ H T ∧ whlX mc m1 m ρ = some f, ⟨fuel ρ, ρ, H, T, rfl, G, h⟩, ?_⟩
  rintro m σ1 Hc ⟨ρ1, H1, T1, rfl, G1, hw⟩
  cases m with
  | zero => cases hw
  | succ n =>
    obtain ⟨x, hx, hw⟩ := bind_some hw
    refine hc.run G1 hx _ fun H2 s2 d2 => ?_
    have G2 := G1.mono s2 d2
    cases x with
    | true =>
      rw [if_pos rfl] at hw ⊢
      obtain ⟨f3, h3, hl⟩ := bind_some hw
      refine ⟨fun σ' Hc' => ∃ ρ H T, Hc' = ov H T ∧ Good K H0 T0 σ' ρ H T ∧ whlX mc m1 n ρ = some f, fun σ' Hc' h' => ⟨n, Nat.lt_succ_self n, h'⟩, ?_⟩
      refine hb.run G2 h3 W _ ?_
      cases f3 with
      | fl f3 =>
        cases f3 with
        | nx ρ4 => exact fun σ4 H4 T4 G4 => ⟨ρ4, H4, T4, rfl, G4, hl⟩
        | ct ρ4 => exact fun σ4 H4 T4 G4 => ⟨ρ4, H4, T4, rfl, G4, hl⟩
        | bk ρ4 => cases hl; exact q
        | rt d => cases hl; exact q
      | ex c ρ4 => cases hl; exact q
    | false =>
      rw [if_neg Bool.false_ne_true] at hw ⊢
      cases hw
      exact q σ1 H2 T1 G2
def xFrz (i : Nat) (m : En → Option FlX) : En → Option FlX := fun ρ => m (frz i ρ)
theorem sx_frz (i : Nat) {t : WX → TS} {m : En → Option FlX} (h : SX K cl t m) : SX K cl t (xFrz i m) := by
  refine ⟨fun {H0 T0 σ ρ H T f} G hm W E q => ?_⟩
  obtain ⟨H', T', G', e, _⟩ := G.freeze i
  rw [e]
  exact h.run G' hm W E q
end
end DD

set_option Elab.async false
set_option linter.all false
set_option maxRecDepth 100000
set_option maxHeartbeats 4000000
/-! a text or a list displayed, so many times -/
namespace DD
variable [TabQ] [ExQ]
open PySem PySem.Spec PyProof.Rows L2
section
variable {K : PySem.W.Frag}
def rRepS : R2 := fun x y H Q => ∃ (a : Str) (n : Int), x = .str a ∧ y = .int n ∧ MulOk a n ∧ Q (.str (Txt.mul a n)) H
theorem op_repS {X : Cx} : OpR X (binaryOp .Mult) rRepS := by
  intro pins s σ H x y v u Q I rx ry h
  obtain ⟨a, n, rfl, rfl, ok, q⟩ := h
  obtain ⟨t, rfl⟩ := (show ∃ t, v = Value.str a t from rx)
  obtain ⟨t2, rfl⟩ := (show ∃ t, u = Value.int n t from ry)
  exact SB.mul ok fun t3 k => ⟨.str (Txt.mul a n), H, I.kept (t' := k) fun _ _ z => z, ⟨t3, rfl⟩, q⟩
theorem mulOk_of {a : Str} {n : Int} (h0 : 0 ≤ n) (h1 : n ≤ 1000000) (h2 : a.length * n.toNat ≤ cap) : MulOk a n := by
  refine ⟨?_, fun k _ => ?_, fun k _ => ?_⟩
  · rw [decide_eq_false (by omega), decide_eq_false (by omega)]
    rfl
  · have hn : (0 : Int) < n := by omega
    have e : ((a.length * n.toNat : Nat) : Int) = (a.length : Int) * n := by
      rw [Int.natCast_mul, Int.toNat_of_nonneg h0]
    have c : ((a.length * n.toNat : Nat) : Int) ≤ ((100000 : Nat) : Int) := Int.ofNat_le.mpr h2
    have b : ((100000 : Nat) : Int) ≤ 2 ^ 63 - 1 := by decide
    have le : (a.length : Int) ≤ (2 ^ 63 - 1) / n := Int.le_ediv_of_mul_le hn (by rw [← e]; exact Int.le_trans c b)
    exact fun z => absurd le (Int.not_le.mpr z)
  · have l := cap_line h2
    show decide (a.length * n.toNat > sizeLine) = false
    exact decide_eq_false (Nat.not_lt.mpr l)
def dMulS : D → D → Option D
  | .str a, .int n => if 0 ≤ n ∧ n ≤ 1000000 ∧ a.length * n.toNat ≤ cap then some (.str (Txt.mul a n)) else none
  | x, y => dMul x y
def rMulS (K : PySem.W.Frag) : R2 := fun x y H Q => rRepS x y H Q ∨ rMulA K x y H Q
theorem op_mulS {X : Cx} : OpR X (binaryOp .Mult) (rMulS X.K) := op_repS.or op_mulA
theorem rd_mulS : RD K (rMulS K) dMulS := by
  refine ⟨fun {H T x y a b d} dis ha hb h Q q => ?_⟩
  unfold dMulS at h
  split at h
  · split at h
    · rename_i c
      cases h
      exact .inl ⟨_, _, dp_str ha, dp_int hb, mulOk_of c.1 c.2.1 c.2.2, q _ H (Same.refl H) dis (.str _)⟩
    · cases h
  · exact .inr (rd_mul.run dis ha hb h Q q)
def mRepL (ma : En → Option (List D)) (mb : En → Option D) : En → Option (List D) := fun ρ => (ma ρ).bind fun ds => (mb ρ).bind fun k => match k with
  | .int k => if -(2 ^ 63) ≤ k ∧ k < 2 ^ 63 ∧ ds.length * k.toNat ≤ cap then some (List.replicate k.toNat ds).flatten else none
  | _ => none
theorem fl_rep {ta tb : TE} {ma : En → Option (List D)} {mb : En → Option D} (ha : FL K ta ma) (hb : ET K tb mb) : FL K (tOp rRep ta tb) (mRepL ma mb) := by
  refine ⟨fun {H0 T0 σ ρ H T out} G h Q q => ?_⟩
  obtain ⟨ds, hd, h⟩ := bind_some h
  obtain ⟨kd, hk, h⟩ := bind_some h
  split at h
  · rename_i k
    split at h
    · rename_i c
      cases h
      refine ha.run G hd _ fun p xs H1 s1 d1 np px => ?_
      obtain ⟨nT, nH⟩ := ov_free np
      rw [upd_ov nT]
      have sn : Same H1 (upd H1 p (.lst xs)) := same_new nH
      have d1' := dis_upd (o := .lst xs) d1 nT nH
      refine hb.run (G.mono (s1.trans sn) d1') hk _ fun v H2 s2 d2 p2 => ?_
      have hp : H2 p = some (.lst xs) := s2 p _ upd_same fun _ => HO.noConfusion
      refine ⟨p, k, xs, rfl, dp_int p2, by rw [ov_none nT]; exact hp, c.1, c.2.1, by rw [dpa_len px]; exact cap_line c.2.2, fun r nr => ?_⟩
      exact q r _ H2 ((s1.trans sn).trans s2) d2 nr (dpa_mono (sn.trans s2) (dpa_rep px _))
    · cases h
  · cases h
end
end DD

set_option Elab.async false
set_option linter.all false
set_option maxRecDepth 100000
set_option maxHeartbeats 4000000
/-! methods of texts that tell a number, a truth or a text -/
namespace DD
variable [TabQ] [ExQ]
open PySem PySem.Spec PyProof.Rows L2
section
variable {K : PySem.W.Frag}
abbrev rFindT : V → List V → Hp → VK → Prop := fun x xs H Q => ∃ a b, x = .str a ∧ xs = [.str b] ∧ Q (.int (Txt.find a b)) H
abbrev rStartsT : V → List V → Hp → VK → Prop := fun x xs H Q => ∃ a b, x = .str a ∧ xs = [.str b] ∧ Q (.bl (Txt.startswith a b)) H
abbrev rEndsT : V → List V → Hp → VK → Prop := fun x xs H Q => ∃ a b, x = .str a ∧ xs = [.str b] ∧ Q (.bl (Txt.endswith a b)) H
abbrev rIsT (f : Str → Bool) : V → List V → Hp → VK → Prop := fun x xs H Q => ∃ a, x = .str a ∧ xs = [] ∧ True ∧ Q (.bl (f a)) H
abbrev rStripT (f : Str → Str) : V → List V → Hp → VK → Prop := fun x xs H Q => ∃ a, x = .str a ∧ xs = [] ∧ a.length ≤ sizeLine ∧ Q (.str (f a)) H
def dFindT : D → D → Option D
  | .str a, .str b => some (.int (Txt.find a b))
  | _, _ => none
def dStartsT : D → D → Option D
  | .str a, .str b => some (.bool (Txt.startswith a b))
  | _, _ => none
def dEndsT : D → D → Option D
  | .str a, .str b => some (.bool (Txt.endswith a b))
  | _, _ => none
def dIsT (f : Str → Bool) : D → Option D
  | .str a => some (.bool (f a))
  | _ => none
def dStripT (f : Str → Str) : D → Option D
  | .str a => if a.length ≤ 16777216 then some (.str (f a)) else none
  | _ => none
theorem ev_txt1 {g : Str → Str → V} {f : Str → Str → D} {df : D → D → Option D} (hd : ∀ H a b, Dp K H (g a b) (f a b)) (hf : ∀ x y d, df x y = some d → ∃ a b, x = .str a ∧ y = .str b ∧ d = f a b) {to ta : TE} {mo ma : En → Option D} (ho : ET K to mo) (ha : ET K ta ma) :
    ET K (tBM K "str" (fun x xs H Q => ∃ a b, x = .str a ∧ xs = [.str b] ∧ Q (g a b) H) to (tCons ta tNil)) (mOp df mo ma) := by
  refine ⟨fun {H0 T0 σ ρ H T d} G h Q q => ?_⟩
  obtain ⟨x, hx, h⟩ := bind_some h
  obtain ⟨y, hy, h⟩ := bind_some h
  obtain ⟨a, b, rfl, rfl, rfl⟩ := hf _ _ _ h
  refine ho.run G hx _ fun v H1 s1 d1 p1 => ?_
  cases dp_str p1
  refine ⟨rfl, ?_⟩
  refine ha.run (G.mono s1 d1) hy _ fun u H2 s2 d2 p2 => ?_
  cases dp_str p2
  exact ⟨_, _, rfl, rfl, q _ H2 (s1.trans s2) d2 (hd _ _ _)⟩
theorem ev_findT {to ta : TE} {mo ma : En → Option D} (ho : ET K to mo) (ha : ET K ta ma) : ET K (tBM K "str" rFindT to (tCons ta tNil)) (mOp dFindT mo ma) :=
  ev_txt1 (g := fun a b => .int (Txt.find a b)) (f := fun a b => .int (Txt.find a b)) (fun _ _ _ => .int _) (fun x y d h => by
    unfold dFindT at h
    split at h <;> cases h
    exact ⟨_, _, rfl, rfl, rfl⟩) ho ha
theorem ev_startsT {to ta : TE} {mo ma : En → Option D} (ho : ET K to mo) (ha : ET K ta ma) : ET K (tBM K "str" rStartsT to (tCons ta tNil)) (mOp dStartsT mo ma) :=
  ev_txt1 (g := fun a b => .bl (Txt.startswith a b)) (f := fun a b => .bool (Txt.startswith a b)) (fun _ _ _ => .bl _) (fun x y d h => by
    unfold dStartsT at h
    split at h <;> cases h
    exact ⟨_, _, rfl, rfl, rfl⟩) ho ha
theorem ev_endsT {to ta : TE} {mo ma : En → Option D} (ho : ET K to mo) (ha : ET K ta ma) : ET K (tBM K "str" rEndsT to (tCons ta tNil)) (mOp dEndsT mo ma) :=
  ev_txt1 (g := fun a b => .bl (Txt.endswith a b)) (f := fun a b => .bool (Txt.endswith a b)) (fun _ _ _ => .bl _) (fun x y d h => by
    unfold dEndsT at h
    split at h <;> cases h
    exact ⟨_, _, rfl, rfl, rfl⟩) ho ha
theorem ev_isT {f : Str → Bool} {to : TE} {mo : En → Option D} (ho : ET K to mo) : ET K (tBM0 K "str" (rIsT f) to) (mUn (dIsT f) mo) := by
  refine ⟨fun {H0 T0 σ ρ H T d} G h Q q => ?_⟩
  obtain ⟨x, hx, h⟩ := bind_some h
  refine ho.run G hx _ fun v H1 s1 d1 p1 => ?_
  unfold dIsT at h
  split at h <;> cases h
  cases dp_str p1
  exact ⟨rfl, _, rfl, rfl, trivial, q _ H1 s1 d1 (.bl _)⟩
theorem ev_stripT {f : Str → Str} {to : TE} {mo : En → Option D} (ho : ET K to mo) : ET K (tBM0 K "str" (rStripT f) to) (mUn (dStripT f) mo) := by
  refine ⟨fun {H0 T0 σ ρ H T d} G h Q q => ?_⟩
  obtain ⟨x, hx, h⟩ := bind_some h
  refine ho.run G hx _ fun v H1 s1 d1 p1 => ?_
  unfold dStripT at h
  split at h
  · split at h
    · rename_i hz
      cases h
      cases dp_str p1
      exact ⟨rfl, _, rfl, rfl, by rw [sizeLine_eq]; exact hz, q _ H1 s1 d1 (.str _)⟩
    · cases h
  · cases h
end
end DD

set_option Elab.async false
set_option linter.all false
set_option maxRecDepth 100000
set_option maxHeartbeats 4000000
/-! an own list gets what may raise -/
namespace DD
variable [TabQ] [ExQ]
open PySem PySem.Spec PyProof.Rows L2
section
variable {K : PySem.W.Frag} {cl : Nat → Addr}
def xAppend (i : Nat) (a : En → Option Rs) : En → Option FlX := fun ρ => match ρ[i]? with
  | some (some (.own ds)) => (a ρ).bind fun r => match r with
    | .ok d => if ds.length < cap then some (.fl (.nx (ρ.set i (some (.own (ds ++ [d])))))) else none
    | .ex c => some (.ex c ρ)
  | _ => none
theorem sx_append {i : Nat} {te : WX → TE} {ma : En → Option Rs} (ha : EX K cl te ma) : SX K cl (fun W => tDrop (tBM K "list" rAppend (tVar i) (tCons (te W) tNil))) (xAppend i ma) := by
  refine ⟨fun {H0 T0 σ ρ H T f} G h W E q => ?_⟩
  unfold xAppend at h
  split at h
  · rename_i ds e
    obtain ⟨r, hr, h⟩ := bind_some h
    obtain ⟨p, xs, a, b, c, g⟩ := G.own i ds e
    refine ⟨.ref p, a, .inl ⟨rfl, xs, SqL.of (ov_own b)⟩, ?_⟩
    refine ha.run G hr W _ ?_
    cases r with
    | ok d =>
      have h : (if ds.length < cap then some (FlX.fl (.nx (ρ.set i (some (.own (ds ++ [d])))))) else none) = some f := h
      split at h
      · rename_i hz
        cases h
        intro v H1 s1 d1 p1
        refine ⟨p, xs, v, rfl, rfl, ov_own b, cap_lt (by rw [dpa_len g]; omega), ?_⟩
        rw [upd_put]
        exact q _ _ _ ((G.mono s1 d1).turn e a b (dpa_snoc (dpa_mono s1 g) p1))
      · cases h
    | ex c =>
      cases h
      exact fun H1 s1 d1 => q σ H1 T (G.mono s1 d1)
  · cases h
end
end DD

set_option Elab.async false
set_option linter.all false
set_option maxRecDepth 100000
set_option maxHeartbeats 4000000
/-! an own list goes on with a list or a tuple that is held -/
namespace DD
variable [TabQ] [ExQ]
open PySem PySem.Spec PyProof.Rows L2
theorem ext_lst (l : Addr) (items : Array Value) (n : Nat) (b : Addr) (items2 : Array Value) (n2 : Nat) (dd : Option Addr) (sl : Array (Option Value)) (c0 : ¬(!items.isEmpty && Builtin.List.listTooLong (items.size + items2.size)) = true) (c1 : items.size ≤ sizeLine) (c2 : items.size + items2.size ≤ sizeLine + 1) :
    Meets (Builtin.«list.extend» ⟨[.ref l, .ref b], []⟩) (fun _ R s => s.heap.get? l = some { cls := .type "list", dict := none, data := .seq items n, slots := #[] } ∧ s.heap.get? b = some { cls := .type "list", dict := dd, data := .seq items2 n2, slots := sl } ∧
      R (.ok (.ret Value.none)) { s with heap := s.heap.update l (Obj.mapSeq fun x => x ++ items2) }) :=
  .of_wp fun prog w A R s h => by
    obtain ⟨hp, g, d, tk, os⟩ := s
    obtain ⟨hl, hb, h⟩ := h
    have f1 := AutoSeq1.sub_tuple_tuple
    have f2 := AutoSeq1.sub_list_list
    have f3 := AutoSeq1.sub_tuple_list
    have f4 := AutoSeq1.sub_list_tuple
    have f5 : (items ++ items2).size ≤ sizeLine + 1 := by rw [Array.size_append]; exact c2
    wp_walk using (wpAny_updateSeq hl rfl (hz := c1) (_hz' := f5)), wpAny_loadPart' hl, wpAny_loadPart' hb
    exact ⟨_, rfl, h⟩
section
variable {X : Cx}
def rExtendL (K : PySem.W.Frag) : V → List V → Hp → VK → Prop := fun x vs H Q => ∃ l b xs zs, x = .ref l ∧ vs = [.ref b] ∧ H l = some (.lst xs) ∧ SqL K H b zs ∧ xs.length + zs.length ≤ sizeLine ∧ Q .non (upd H l (.lst (xs ++ zs)))
theorem mt_extendL : MtM X "list.extend" (rExtendL X.K) := by
  intro pins s σ H x vs v us Q I rx rv h
  obtain ⟨l, b, xs, zs, rfl, rfl, hH, hB, hz, q⟩ := h
  cases rx
  obtain ⟨u, rfl, ru⟩ := rv.one
  cases ru
  obtain ⟨z, its, n, r, hl, e⟩ := I.lstM hH
  obtain ⟨its2, r2, ⟨⟨cls2, dd2, data2, sl2⟩, n2, e2, hc2, hn2, hd2⟩, z2⟩ := I.list hB
  simp only at hc2 hd2
  subst hc2 hd2
  have l2 := r2.length
  have sz : its.toArray.size + its2.toArray.size ≤ sizeLine := by rw [List.size_toArray, List.size_toArray]; omega
  have nl : ¬ (!its.toArray.isEmpty && Builtin.List.listTooLong (its.toArray.size + its2.toArray.size)) = true := by
    rw [notLongL sz, Bool.and_false]
    exact Bool.false_ne_true
  refine call_meets F.slot_list_extend ⟨_, e, rfl⟩ F.entry_list_extend (F.args_list_extend_2 _ _)
    (ext_lst l its.toArray n b its2.toArray n2 dd2 sl2 nl (by omega) (by omega)) ⟨e, e2, ?_⟩
  refine ⟨.non, _, I.lset (its' := its ++ its2) hH e (by simp) (r.append r2) ?_, rfl, q⟩
  rw [List.length_append]
  omega
def rExtendV (K : PySem.W.Frag) : V → List V → Hp → VK → Prop := fun x vs H Q => rExtendA K x vs H Q ∨ rExtendL K x vs H Q
theorem mt_extendV : MtM X "list.extend" (rExtendV X.K) := by
  intro pins s σ H x vs v us Q I rx rv h
  rcases h with h | h
  · exact mt_extendA pins s σ H x vs v us Q I rx rv h
  · exact mt_extendL pins s σ H x vs v us Q I rx rv h
end
section
variable {K : PySem.W.Frag} {cl : Nat → Addr}
def extV (ρ : En) (i : Nat) (ds : List D) : D → Option En
  | .tuple es => if ds.length + es.length ≤ cap then some (ρ.set i (some (.own (ds ++ es)))) else none
  | .list es => if ds.length + es.length ≤ cap then some (ρ.set i (some (.own (ds ++ es)))) else none
  | _ => none
def sExtendV (i : Nat) (a : En → Option D) : En → Option Fl := fun ρ => match ρ[i]? with
  | some (some (.own ds)) => (a ρ).bind fun x => (extV ρ i ds x).map .nx
  | _ => none
def xExtendV (i : Nat) (a : En → Option Rs) : En → Option FlX := fun ρ => match ρ[i]? with
  | some (some (.own ds)) => (a ρ).bind fun r => match r with
    | .ok x => (extV ρ i ds x).map fun ρ2 => .fl (.nx ρ2)
    | .ex c => some (.ex c ρ)
  | _ => none
theorem extV_run {H0 : Hp} {T0 : Ov} {σ : L2.St} {ρ ρ2 : En} {H H1 : Hp} {T : Ov} {i : Nat} {ds : List D} {x : D} {v : V} {Q : VK} (G : Good K H0 T0 σ ρ H T) (e : ρ[i]? = some (some (.own ds))) {p : Addr} {xs : List V} (a : σ[i]? = some (some (.ref p))) (b : T p = some xs) (g : DpAll K H xs ds)
    (h : extV ρ i ds x = some ρ2) (s1 : Same H H1) (d1 : Dis H1 T) (p1 : Dp K H1 v x) (q : ∀ H2 T2, Good K H0 T0 σ ρ2 H2 T2 → Q .non (ov H2 T2)) : rExtendV K (.ref p) [v] (ov H1 T) Q := by
  have G1 := G.mono s1 d1
  have gx := dpa_mono s1 g
  unfold extV at h
  split at h
  · rename_i es
    split at h
    · rename_i hz
      cases h
      obtain ⟨pt, zs, rfl, hs, gz⟩ := dp_tup p1
      refine .inl ⟨p, pt, xs, zs, rfl, rfl, ov_own b, sqt_ov d1 hs, ?_, ?_⟩
      · rw [dpa_len gx, dpa_len gz]
        exact cap_line hz
      · rw [upd_put]
        exact q H1 _ (G1.turn e a b (dpa_append gx gz))
    · cases h
  · rename_i es
    split at h
    · rename_i hz
      cases h
      obtain ⟨pt, zs, rfl, hs, gz⟩ := dp_lst p1
      refine .inr ⟨p, pt, xs, zs, rfl, rfl, ov_own b, sql_ov d1 hs, ?_, ?_⟩
      · rw [dpa_len gx, dpa_len gz]
        exact cap_line hz
      · rw [upd_put]
        exact q H1 _ (G1.turn e a b (dpa_append gx gz))
    · cases h
  · cases h
theorem st_extendV {i : Nat} {te : TE} {ma : En → Option D} (ha : ET K te ma) : TSm K (tDrop (tBM K "list" (rExtendV K) (tVar i) (tCons te tNil))) (sExtendV i ma) := by
  refine ⟨fun {H0 T0 σ ρ H T f} G h E q => ?_⟩
  unfold sExtendV at h
  split at h
  · rename_i ds e
    obtain ⟨x, hx, h⟩ := bind_some h
    obtain ⟨ρ2, h2, e2⟩ := map_some h
    subst e2
    obtain ⟨p, xs, a, b, c, g⟩ := G.own i ds e
    refine ⟨.ref p, a, .inl ⟨rfl, xs, SqL.of (ov_own b)⟩, ?_⟩
    refine ha.run G hx _ fun v H1 s1 d1 p1 => ?_
    exact extV_run G e a b g h2 s1 d1 p1 fun H2 T2 G2 => q σ H2 T2 G2
  · cases h
theorem sx_extendV {i : Nat} {te : WX → TE} {ma : En → Option Rs} (ha : EX K cl te ma) : SX K cl (fun W => tDrop (tBM K "list" (rExtendV K) (tVar i) (tCons (te W) tNil))) (xExtendV i ma) := by
  refine ⟨fun {H0 T0 σ ρ H T f} G h W E q => ?_⟩
  unfold xExtendV at h
  split at h
  · rename_i ds e
    obtain ⟨r, hr, h⟩ := bind_some h
    obtain ⟨p, xs, a, b, c, g⟩ := G.own i ds e
    refine ⟨.ref p, a, .inl ⟨rfl, xs, SqL.of (ov_own b)⟩, ?_⟩
    refine ha.run G hr W _ ?_
    cases r with
    | ok x =>
      obtain ⟨ρ2, h2, e2⟩ := map_some h
      subst e2
      intro v H1 s1 d1 p1
      exact extV_run G e a b g h2 s1 d1 p1 fun H2 T2 G2 => q σ H2 T2 G2
    | ex c =>
      cases h
      exact fun H1 s1 d1 => q σ H1 T (G.mono s1 d1)
  · cases h
end
end DD

set_option Elab.async false
set_option linter.all false
set_option maxRecDepth 100000
set_option maxHeartbeats 4000000
/-! a list that is handed in and changed; a loop over reversed(..) -/
namespace DD
variable [TabQ] [ExQ]
open PySem PySem.Spec PyProof.Rows L2 RT
section
variable {K : PySem.W.Frag}
/-- a def of n data and a list that it changes -/
def spIO (K : PySem.W.Frag) (n : Nat) (m : List D → List D → Option (List D)) : Sp := fun vs Hx Q _ => ∃ us ds p xs es es' H T, vs = us ++ [V.ref p] ∧ DpAll K H us ds ∧ ds.length = n ∧ T p = some xs ∧ DpAll K H xs es ∧ m ds es = some es' ∧ Hx = ov H T ∧ Dis H T ∧ ∀ H' xs', Same H H' → Dis H' T → DpAll K H' xs' es' → Q .non (ov H' (put T p xs'))
theorem cut_same {T : Ov} {p : Addr} : cut T p p = none := by unfold cut; rw [if_pos rfl]
theorem cut_ne {T : Ov} {p a : Addr} (h : a ≠ p) : cut T p a = T a := by unfold cut; rw [if_neg h]
def NoOwn (ρ : En) : Prop := ∀ (j : Nat) (ds : List D), ρ[j]? ≠ some (some (Sl.own ds))
theorem good_put {H0 H : Hp} {T0 T : Ov} {σ : L2.St} {ρ : En} {p : Addr} {xs ys : List V} (G : Good K H0 T0 σ ρ H T) (no : NoOwn ρ) (h0 : T0 p = none) (ht : T p = some xs) : Good K H0 T0 σ ρ H (put T p ys) :=
  ⟨G.len, G.val, fun i ds h => absurd h (no i ds), fun i j ds es a h1 => absurd h1 (no i ds), dis_put G.dis (G.dis p xs ht), fun a zs e => by
    have : a ≠ p := fun z => by rw [z, h0] at e; cases e
    rw [put_ne this]; exact G.ext a zs e, G.ex, G.exc⟩
/-- a statement of such a def: i the slot of the list -/
structure TSp (K : PySem.W.Frag) (i : Nat) (t : TS) (m : En → List D → Option (En × List D)) : Prop where
  run : ∀ {H0 : Hp} {T0 : Ov} {σ : L2.St} {ρ ρ' : En} {H : Hp} {T : Ov} {p : Addr} {xs : List V} {es es' : List D}, Good K H0 T0 σ ρ H T → NoOwn ρ → σ[i]? = some (some (V.ref p)) → ρ[i]? = some none → T0 p = none → T p = some xs → DpAll K H xs es →
    m ρ es = some (ρ', es') → ∀ E : Ends, (∀ σ' H' T' xs', Good K H0 T0 σ' ρ' H' T' → NoOwn ρ' → σ'[i]? = some (some (V.ref p)) → ρ'[i]? = some none → T' p = some xs' → DpAll K H' xs' es' → E.nx σ' (ov H' T')) → t E σ (ov H T)
def iSeq (a b : En → List D → Option (En × List D)) : En → List D → Option (En × List D) := fun ρ es => (a ρ es).bind fun x => b x.1 x.2
def iNext : En → List D → Option (En × List D) := fun ρ es => some (ρ, es)
def iIf (c : En → Option Bool) (a b : En → List D → Option (En × List D)) : En → List D → Option (En × List D) := fun ρ es => (c ρ).bind fun x => if x = true then a ρ es else b ρ es
def iSet (j : Nat) (a : En → Option D) : En → List D → Option (En × List D) := fun ρ es => (a ρ).map fun d => (ρ.set j (some (.val d)), es)
def iAppend (a : En → Option D) : En → List D → Option (En × List D) := fun ρ es => (a ρ).bind fun d => if es.length < cap then some (ρ, es ++ [d]) else none
def extIO (es : List D) : D → Option (List D)
  | .tuple fs => if es.length + fs.length ≤ cap then some (es ++ fs) else none
  | .list fs => if es.length + fs.length ≤ cap then some (es ++ fs) else none
  | _ => none
def iExtend (a : En → Option D) : En → List D → Option (En × List D) := fun ρ es => (a ρ).bind fun d => (extIO es d).map fun fs => (ρ, fs)
def iCall (mf : List D → List D → Option (List D)) (a : En → Option D) : En → List D → Option (En × List D) := fun ρ es => (a ρ).bind fun d => (mf [d] es).map fun fs => (ρ, fs)
def iLoop (g : D → En → Option En) (b : En → List D → Option (En × List D)) : List D → En → List D → Option (En × List D)
  | [], ρ, es => some (ρ, es)
  | d :: ds, ρ, es => (g d ρ).bind fun ρ1 => (b ρ1 es).bind fun x => iLoop g b ds x.1 x.2
def iFor (it : En → Option (List D)) (j : Nat) (b : En → List D → Option (En × List D)) : En → List D → Option (En × List D) := fun ρ es => (it ρ).bind fun ds => iLoop (gSet j) b ds ρ es
theorem noOwn_set {ρ : En} {j : Nat} {d : D} (no : NoOwn ρ) : NoOwn (ρ.set j (some (.val d))) := fun i ds h => by
  rcases get_set h with ⟨_, q, _⟩ | ⟨_, q⟩
  · cases q
  · exact no i ds q
variable {i : Nat} {t u : TS} {m1 m2 : En → List D → Option (En × List D)}
theorem tsp_next : TSp K i tNext iNext := ⟨fun {H0 T0 σ ρ ρ' H T p xs es es'} G no a r h0 b g h E q => by
  cases h
  exact q σ H T xs G no a r b g⟩
theorem tsp_seq (h1 : TSp K i t m1) (h2 : TSp K i u m2) : TSp K i (tSeq t u) (iSeq m1 m2) := by
  refine ⟨fun {H0 T0 σ ρ ρ' H T p xs es es'} G no a r h0 b g h E q => ?_⟩
  obtain ⟨⟨ρ1, es1⟩, e1, h⟩ := bind_some h
  exact h1.run G no a r h0 b g e1 _ fun σ1 H1 T1 xs1 G1 no1 a1 r1 b1 g1 => h2.run G1 no1 a1 r1 h0 b1 g1 h E q
theorem tsp_if {tc : TT} {mc : En → Option Bool} (hc : TTm K tc mc) (h1 : TSp K i t m1) (h2 : TSp K i u m2) : TSp K i (tIfS tc t u) (iIf mc m1 m2) := by
  refine ⟨fun {H0 T0 σ ρ ρ' H T p xs es es'} G no a r h0 b g h E q => ?_⟩
  obtain ⟨x, hx, h⟩ := bind_some h
  refine hc.run G hx _ fun H1 s1 d1 => ?_
  cases x with
  | true =>
    rw [if_pos rfl] at h ⊢
    exact h1.run (G.mono s1 d1) no a r h0 b (dpa_mono s1 g) h E q
  | false =>
    rw [if_neg Bool.false_ne_true] at h ⊢
    exact h2.run (G.mono s1 d1) no a r h0 b (dpa_mono s1 g) h E q
theorem tsp_set {j : Nat} {te : TE} {ma : En → Option D} (hj : j ≠ i) (ha : ET K te ma) : TSp K i (tAsg te (gName j)) (iSet j ma) := by
  refine ⟨fun {H0 T0 σ ρ ρ' H T p xs es es'} G no a r h0 b g h E q => ?_⟩
  obtain ⟨d, hd, e⟩ := map_some h
  cases e
  refine ha.run G hd _ fun v H1 s1 d1 p1 => ?_
  exact q (σ.set j (some v)) H1 T xs ((G.mono s1 d1).set p1) (noOwn_set no) (by rw [List.getElem?_set_ne hj]; exact a) (by rw [List.getElem?_set_ne hj]; exact r) b (dpa_mono s1 g)
theorem tsp_append {te : TE} {ma : En → Option D} (ha : ET K te ma) : TSp K i (tDrop (tBM K "list" rAppend (tVar i) (tCons te tNil))) (iAppend ma) := by
  refine ⟨fun {H0 T0 σ ρ ρ' H T p xs es es'} G no a r h0 b g h E q => ?_⟩
  obtain ⟨d, hd, h⟩ := bind_some h
  split at h
  · rename_i hz
    cases h
    refine ⟨.ref p, a, .inl ⟨rfl, xs, SqL.of (ov_own b)⟩, ?_⟩
    refine ha.run G hd _ fun v H1 s1 d1 p1 => ?_
    refine ⟨p, xs, v, rfl, rfl, ov_own b, cap_lt (by rw [dpa_len g]; omega), ?_⟩
    rw [upd_put]
    exact q σ H1 _ (xs ++ [v]) (good_put (G.mono s1 d1) no h0 b) no a r put_same (dpa_snoc (dpa_mono s1 g) p1)
  · cases h
theorem tsp_extend {te : TE} {ma : En → Option D} (ha : ET K te ma) : TSp K i (tDrop (tBM K "list" (rExtendV K) (tVar i) (tCons te tNil))) (iExtend ma) := by
  refine ⟨fun {H0 T0 σ ρ ρ' H T p xs es es'} G no a r h0 b g h E q => ?_⟩
  obtain ⟨x, hx, h⟩ := bind_some h
  obtain ⟨fs, hf, e⟩ := map_some h
  cases e
  refine ⟨.ref p, a, .inl ⟨rfl, xs, SqL.of (ov_own b)⟩, ?_⟩
  refine ha.run G hx _ fun v H1 s1 d1 p1 => ?_
  have gx := dpa_mono s1 g
  unfold extIO at hf
  split at hf
  · rename_i fs
    split at hf
    · rename_i hz
      cases hf
      obtain ⟨pt, zs, rfl, hs, gz⟩ := dp_tup p1
      refine .inl ⟨p, pt, xs, zs, rfl, rfl, ov_own b, sqt_ov d1 hs, ?_, ?_⟩
      · rw [dpa_len gx, dpa_len gz]
        exact cap_line hz
      · rw [upd_put]
        exact q σ H1 _ _ (good_put (G.mono s1 d1) no h0 b) no a r put_same (dpa_append gx gz)
    · cases hf
  · rename_i fs
    split at hf
    · rename_i hz
      cases hf
      obtain ⟨pt, zs, rfl, hs, gz⟩ := dp_lst p1
      refine .inr ⟨p, pt, xs, zs, rfl, rfl, ov_own b, sql_ov d1 hs, ?_, ?_⟩
      · rw [dpa_len gx, dpa_len gz]
        exact cap_line hz
      · rw [upd_put]
        exact q σ H1 _ _ (good_put (G.mono s1 d1) no h0 b) no a r put_same (dpa_append gx gz)
    · cases hf
  · cases hf
theorem tsp_call {mf : List D → List D → Option (List D)} {X : XK} {te : TE} {ma : En → Option D} (ha : ET K te ma) : TSp K i (tDrop (tCall (spIO K 1 mf) [] X (tCons te (tCons (tVar i) tNil)))) (iCall mf ma) := by
  refine ⟨fun {H0 T0 σ ρ ρ' H T p xs es es'} G no a r h0 b g h E q => ?_⟩
  obtain ⟨d, hd, h⟩ := bind_some h
  obtain ⟨fs, hf, e⟩ := map_some h
  cases e
  refine ha.run G hd _ fun v H1 s1 d1 p1 => ?_
  refine ⟨.ref p, a, ?_⟩
  refine ⟨[v], [d], p, xs, es, es', H1, T, rfl, .cons p1 .nil, rfl, b, dpa_mono s1 g, hf, rfl, d1, fun H2 xs2 s2 d2 p2 => ?_⟩
  exact q σ H2 _ xs2 (good_put (G.mono (s1.trans s2) d2) no h0 b) no a r put_same p2
theorem tsp_for {wi : TI} {mi : En → Option (List D)} {j : Nat} (hj : j ≠ i) (hi : IT K wi mi) (hb : TSp K i t m1) : TSp K i (tFor wi (gName j) t) (iFor mi j m1) := by
  refine ⟨fun {H0 T0 σ ρ ρ' H T p xs es es'} G no a r h0 b g h E q => ?_⟩
  obtain ⟨ds, hd, h⟩ := bind_some h
  refine hi.run G hd _ fun J Hm s1 d1 w => ?_
  refine ⟨fun n m σ Hc => n ≤ ds.length ∧ m = ds.length - n ∧ ∃ ρ H T xs es, Hc = ov H T ∧ Good K H0 T0 σ ρ H T ∧ NoOwn ρ ∧ σ[i]? = some (some (V.ref p)) ∧ ρ[i]? = some none ∧ T p = some xs ∧ DpAll K H xs es ∧ Same Hm H ∧ iLoop (gSet j) m1 (ds.drop n) ρ es = some (ρ', es'),
    ⟨ds.length, Nat.zero_le _, rfl, ρ, Hm, T, xs, es, rfl, G.mono s1 d1, no, a, r, b, dpa_mono s1 g, Same.refl Hm, h⟩, ?_⟩
  rintro n m σ1 Hc ⟨hn, rfl, ρ1, H1, T1, xs1, es1, rfl, G1, no1, a1, r1, b1, g1, sm, hl⟩
  by_cases hlt : n < ds.length
  · have hge : ds[n]? = some ds[n] := List.getElem?_eq_getElem hlt
    rw [List.drop_eq_getElem_cons hlt] at hl
    obtain ⟨ρ2, h2, hl⟩ := bind_some hl
    cases h2
    obtain ⟨⟨ρ3, es3⟩, h3, hl⟩ := bind_some hl
    refine .inr ⟨w.go n sm G1.dis hlt, fun σ Hc => ∃ ρ H T xs es, Hc = ov H T ∧ Good K H0 T0 σ ρ H T ∧ NoOwn ρ ∧ σ[i]? = some (some (V.ref p)) ∧ ρ[i]? = some none ∧ T p = some xs ∧ DpAll K H xs es ∧ Same Hm H ∧ iLoop (gSet j) m1 (ds.drop (n + 1)) ρ es = some (ρ', es'),
      fun σ' Hc' ⟨ρ', H', T', xs', es', e', G', r'⟩ => ⟨ds.length - (n + 1), by omega, by omega, rfl, ρ', H', T', xs', es', e', G', r'⟩, fun x Hc' y => ?_⟩
    obtain ⟨H2, rfl, s2, d2, p2⟩ := w.yld n sm G1.dis hge y
    have G2 : Good K H0 T0 (σ1.set j (some x)) (ρ1.set j (some (.val ds[n]))) H2 T1 := (G1.mono s2 d2).set p2
    have s02 : Same H0 H2 := G2.ex
    refine hb.run (H0 := H2) (T0 := T0) (p := p) (H := H2) (T := T1) ⟨G2.len, G2.val, G2.own, G2.inj, G2.dis, G2.ext, Same.refl H2, G2.exc⟩ (noOwn_set no1) (by rw [List.getElem?_set_ne hj]; exact a1) (by rw [List.getElem?_set_ne hj]; exact r1) h0 b1 (dpa_mono s2 g1) h3 _ ?_
    intro σ4 H4 T4 xs4 G4 no4 a4 r4 b4 g4
    exact ⟨ρ3, H4, T4, xs4, es3, rfl, ⟨G4.len, G4.val, G4.own, G4.inj, G4.dis, G4.ext, s02.trans G4.ex, G4.exc⟩, no4, a4, r4, b4, g4, (sm.trans s2).trans G4.ex, hl⟩
  · have e : n = ds.length := by omega
    subst e
    rw [List.drop_length] at hl
    cases hl
    exact .inl ⟨w.stop sm G1.dis, q σ1 H1 T1 xs1 G1 no1 a1 r1 b1 g1⟩
/-- the mirror of a def that changes the list that it gets last -/
def ioDef (N : Nat) (b : En → List D → Option (En × List D)) (ds es : List D) : Option (List D) := (b (start0 N ds) es).map (·.2)
theorem good_startIO {N : List Str} {vs : List V} {ds : List D} {H : Hp} {T : Ov} {p : Addr} (h : DpAll K H vs ds) (hN : ds.length < N.length) (d : Dis H T) : Good K H (cut T p) (start N (vs ++ [V.ref p])) (start0 N.length ds) H T ∧ NoOwn (start0 N.length ds) ∧ (start N (vs ++ [V.ref p]))[ds.length]? = some (some (V.ref p)) ∧ (start0 N.length ds)[ds.length]? = some none := by
  have hl := dpa_len h
  have at0 : ∀ (i : Nat) (s : Sl), (start0 N.length ds)[i]? = some (some s) → ∃ d, ds[i]? = some d ∧ s = .val d := by
    intro i s e
    unfold start0 at e
    by_cases hi : i < ds.length
    · rw [List.getElem?_append_left (by simpa using hi), List.getElem?_map, List.getElem?_eq_getElem hi] at e
      cases e
      exact ⟨ds[i], List.getElem?_eq_getElem hi, rfl⟩
    · rw [List.getElem?_append_right (by simpa using hi), List.getElem?_replicate] at e
      split at e <;> cases e
  have no : NoOwn (start0 N.length ds) := fun j es e => by
    obtain ⟨d, _, z⟩ := at0 j _ e
    cases z
  refine ⟨⟨?_, fun i x e => ?_, fun i x e => absurd e (no i x), fun i j as bs p e1 e2 _ _ => absurd e1 (no i as), d, fun a xs e => ?_, Same.refl H, fun i c e => ?_⟩, no, ?_, ?_⟩
  · unfold L2.start start0
    rw [List.length_append, List.length_append, List.length_map, List.length_map, List.length_replicate, List.length_replicate, List.length_append, hl, List.length_singleton]
    omega
  · obtain ⟨d, hd, es⟩ := at0 i _ e
    cases es
    obtain ⟨v, hv, g⟩ := dpa_get h hd
    refine ⟨v, ?_, g⟩
    have hi : i < vs.length := by
      have := List.getElem?_eq_some_iff.mp hv
      exact this.1
    unfold L2.start
    rw [List.getElem?_append_left (by rw [List.length_map, List.length_append]; omega), List.getElem?_map, List.getElem?_append_left hi, hv]
    rfl
  · by_cases q : a = p
    · rw [q, cut_same] at e; cases e
    · rw [cut_ne q] at e; exact e
  · obtain ⟨d, _, z⟩ := at0 i _ e
    cases z
  · unfold L2.start
    rw [List.getElem?_append_left (by rw [List.length_map, List.length_append, hl, List.length_singleton]; omega), List.getElem?_map, List.getElem?_append_right (by omega), hl, Nat.sub_self]
    rfl
  · unfold start0
    rw [List.getElem?_append_right (by rw [List.length_map]; exact Nat.le_refl _), List.length_map, Nat.sub_self, List.getElem?_replicate, if_pos (by omega)]
theorem def_okIO {P : Program} {w : World} {mg : Str → Option Value} {base : Heap} {x qual : Str} {st : Stmt} {f : Addr} {fd : FuncData} {N ps : List Str} {k n : Nat} {mb : En → List D → Option (En × List D)} (F : Fun K x qual st f fd) (S : FnScope N ps (defScope st)) (hn : ps.length = n + 1) (hN : n < N.length)
    (hbody : ∀ (cdv : Value) (A : Around) (outer : List Env) (s : Shared) (H : Hp) (E : XK), Room k (A.deeper (envOfC qual (defScope st) s.heap.objs.size f cdv)) →
      ∃ t, PSs (cxOf CX0 P w K mg base N qual (defScope st) f cdv A outer s H E).nox (defBody st) t ∧ TSp K n t mb) : FnOk P w K mg base CX0 (k + 1) f fd ps (spIO K n (ioDef N.length mb)) := by
  refine F.ok S (fun vs H Q E h => ?_) (fun cdv A outer s Hx vs Q E hr h => ?_)
  · obtain ⟨us, ds, p, xs, es, es', H, T, rfl, g, hz, _⟩ := h
    rw [List.length_append, dpa_len g, hz, hn]; rfl
  · obtain ⟨us, ds, p, xs, es, es', H, T, rfl, g, hz, b, gx, hm, rfl, dis, q⟩ := h
    obtain ⟨t, pt, m⟩ := hbody cdv A outer s (ov H T) E hr
    refine ⟨t, pt, ?_⟩
    obtain ⟨⟨ρ', es2⟩, hf, e⟩ := map_some hm
    cases e
    obtain ⟨G, no, a, r⟩ := good_startIO (p := p) g (by rw [hz]; exact hN) dis
    rw [hz] at a r
    refine m.run G no a r cut_same b gx hf _ ?_
    intro σ' H' T' xs' G' no' a' r' b' g'
    have d0 : Dis H (put T p xs') := dis_put dis (dis p xs b)
    have e0 : Ext (put T p xs') T' := fun c ys e => by
      by_cases z : c = p
      · rw [z, put_same] at e; cases e; rw [z]; exact b'
      · rw [put_ne z] at e
        exact G'.ext c ys (by rw [cut_ne z]; exact e)
    obtain ⟨H2, e2, s2, d2, s3⟩ := back d0 G'.ex G'.dis e0
    show Q .non (ov H' T')
    rw [e2]
    refine q H2 xs' s2 (dis_less d2 fun c ys e => ?_) (dpa_mono s3 g')
    by_cases z : c = p
    · exact ⟨xs', by rw [z]; exact put_same⟩
    · exact ⟨ys, by rw [put_ne z]; exact e⟩
theorem fn_recIO {P : Program} {w : World} {mg : Str → Option Value} {base : Heap} {CX : CXT} {k c : Nat} {f : Addr} {fd : FuncData} {ps : List Str} {m : Nat → List D → List D → Option (List D)} (h0 : m 0 = fun _ _ => none) (hs : ∀ n, FnOk P w K mg base CX (k + n) f fd ps (spIO K c (m n)) → FnOk P w K mg base CX (k + n + 1) f fd ps (spIO K c (m (n + 1)))) : ∀ n, FnOk P w K mg base CX (k + n) f fd ps (spIO K c (m n))
  | 0 => by
    rw [h0]
    refine ⟨fun vs H Q E x => ?_, fun A outer s H args us vs Q E hr e0 hb r x => ?_⟩
    · obtain ⟨us, ds, p, xs, es, es', H, T, _, _, _, _, _, z, _⟩ := x
      cases z
    · obtain ⟨us, ds, p, xs, es, es', H, T, _, _, _, _, _, z, _⟩ := x
      cases z
  | n + 1 => hs n (fn_recIO h0 hs n)
/-- the call, an own list handed in -/
def sIO (i : Nat) (mf : List D → List D → Option (List D)) (a : En → Option D) : En → Option Fl := fun ρ => match ρ[i]? with
  | some (some (.own es)) => (a ρ).bind fun d => (mf [d] es).map fun fs => .nx (ρ.set i (some (.own fs)))
  | _ => none
theorem st_io {mf : List D → List D → Option (List D)} {X : XK} {te : TE} {ma : En → Option D} (ha : ET K te ma) : TSm K (tDrop (tCall (spIO K 1 mf) [] X (tCons te (tCons (tVar i) tNil)))) (sIO i mf ma) := by
  refine ⟨fun {H0 T0 σ ρ H T f} G h E q => ?_⟩
  unfold sIO at h
  split at h
  · rename_i es e
    obtain ⟨d, hd, h⟩ := bind_some h
    obtain ⟨fs, hf, e3⟩ := map_some h
    cases e3
    obtain ⟨p, xs, a, b, c, g⟩ := G.own i es e
    refine ha.run G hd _ fun v H1 s1 d1 p1 => ?_
    refine ⟨.ref p, a, ?_⟩
    refine ⟨[v], [d], p, xs, es, fs, H1, T, rfl, .cons p1 .nil, rfl, b, dpa_mono s1 g, hf, rfl, d1, fun H2 xs2 s2 d2 p2 => ?_⟩
    exact q σ H2 _ ((G.mono (s1.trans s2) d2).turn e a b p2)
  · cases h
end
/-! ### reversed -/
section
variable {K : PySem.W.Frag}
def mRev (a : En → Option D) : En → Option (List D) := fun ρ => (a ρ).bind fun x => match x with
  | .list ds => some ds.reverse
  | .tuple ds => some ds.reverse
  | _ => none
theorem it_rev {te : TE} {ma : En → Option D} (ha : ET K te ma) : IT K (iRevA K te) (mRev ma) := by
  refine ⟨fun {H0 T0 σ ρ H T ds} G h R q => ?_⟩
  obtain ⟨x, hx, h⟩ := bind_some h
  refine ha.run G hx _ fun v H1 s1 d1 p1 => ?_
  have back : ∀ {xs : List V} {es : List D} {i : Nat} {d : D}, DpAll K H1 xs es → es.reverse[i]? = some d → ∃ w, xs[xs.length - 1 - i]? = some w ∧ Dp K H1 w d := fun {xs es i d} g hd => by
    have hi : i < es.length := by
      have := List.getElem?_eq_some_iff.mp hd
      simpa using this.1
    rw [List.getElem?_reverse hi] at hd
    rw [dpa_len g]
    exact dpa_get g hd
  split at h
  · rename_i es
    cases h
    obtain ⟨p, xs, rfl, hs, g⟩ := dp_lst p1
    refine ⟨p, xs, rfl, .inl ⟨sql_ov d1 hs, q _ H1 s1 d1 ⟨fun {H T} i sm dis hi => ?_, fun {H T} sm dis => ?_, fun {H T} i {x Hc d} sm dis hd y => ?_⟩⟩⟩
    · rw [List.length_reverse, ← dpa_len g] at hi
      refine ⟨hi, xs, xs[xs.length - 1 - i], sql_ov dis (sm.seq hs), ?_⟩
      rw [List.getElem?_eq_getElem]
    · show xs.length ≤ es.reverse.length
      rw [List.length_reverse, dpa_len g]; exact Nat.le_refl _
    · obtain ⟨rfl, y⟩ := y
      obtain ⟨w, hw, gw⟩ := back g hd
      have := y xs (sql_ov dis (sm.seq hs))
      rw [hw] at this
      cases this
      exact ⟨H, rfl, Same.refl H, dis, dp_mono sm gw⟩
  · rename_i es
    cases h
    obtain ⟨p, xs, rfl, hs, g⟩ := dp_tup p1
    refine ⟨p, xs, rfl, .inr ⟨sqt_ov d1 hs, q _ H1 s1 d1 ⟨fun {H T} i sm dis hi => ?_, fun {H T} sm dis => ?_, fun {H T} i {x Hc d} sm dis hd y => ?_⟩⟩⟩
    · rw [List.length_reverse, ← dpa_len g] at hi
      refine ⟨hi, xs, xs[xs.length - 1 - i], sqt_ov dis (Same.sqt sm hs), ?_⟩
      rw [List.getElem?_eq_getElem]
    · show xs.length ≤ es.reverse.length
      rw [List.length_reverse, dpa_len g]; exact Nat.le_refl _
    · obtain ⟨rfl, y⟩ := y
      obtain ⟨w, hw, gw⟩ := back g hd
      have := y xs (sqt_ov dis (Same.sqt sm hs))
      rw [hw] at this
      cases this
      exact ⟨H, rfl, Same.refl H, dis, dp_mono sm gw⟩
  · cases h
end
end DD

set_option Elab.async false
set_option linter.all false
set_option maxRecDepth 100000
set_option maxHeartbeats 4000000
/-! t.index(x) of a tuple -/
namespace DD
variable [TabQ] [ExQ]
open PySem PySem.Spec PyProof.Rows L2
section
variable {X : Cx}
def rIndexT (K : PySem.W.Frag) : V → List V → Hp → VK → Prop := fun x xs H Q => ∃ (a : Addr) (y : V) (d : PyData) (ds : List PyData) (j : Nat) (z : PyData), x = V.ref a ∧ xs = [y] ∧ Dp K H (V.ref a) (.tuple ds) ∧ Dp K H y d ∧
  SeqAt.shaped (.tuple ds) = true ∧ SeqAt.shaped d = true ∧ ds[j]? = some z ∧ PyData.eqv z d = true ∧ (∀ (m : Nat) (z' : PyData), m < j → ds[m]? = some z' → PyData.eqv z' d = false) ∧ Q (.int (j : Nat)) H
theorem mt_indexT (hu : X.A.units + 65 < cLine) : MtR X "tuple.index" (rIndexT X.K) := by
  intro pins s σ H x xs v us Q I rx rxs h
  obtain ⟨a, y, d, ds, j, z, rfl, rfl, hl, hy, sl, sd, hz, hzj, hno, q⟩ := h
  cases rx
  cases rxs with
  | cons ry rt =>
    rename_i uy ut
    cases rt
    obtain ⟨bs, r1⟩ := Dp.reads I d y uy hy ry
    have hxs : PyData.canLayAll0 ds = true := SeqAt.canLay_of_shaped sl
    have hroom : X.A.units + 1 + min (PyData.depthAll ds) d.depth < cLine := room_in_shaped sd hu
    cases hl with
    | tup hs ha =>
      obtain ⟨its, rv, ⟨⟨cls, dd, data, sls⟩, ho, hc, n, hdt⟩, hlen⟩ := I.tuple hs
      simp only at hc hdt
      subst hc hdt
      obtain ⟨as, h4⟩ := Dp.readsAll I ds _ its ha rv
      have hn : its.length = ds.length := SeqAt.ReadsAll.length ds its as h4
      have hmap : its.map (SeqAt.readOf s.heap) = ds := SeqAt.readsAll_map ds its as hxs h4
      have hvl := rv.length
      have hsl := sizeLine_eq
      obtain ⟨hjd, _⟩ := List.getElem?_eq_some_iff.mp hz
      have hjl : j < its.length := by omega
      have hj : j < its.toArray.size := by simpa using hjl
      have at_ : ∀ (m : Nat) (hm : m < its.toArray.size) (z' : PyData), ds[m]? = some z' → SeqAt.readOf s.heap its.toArray[m] = z' := by
        intro m hm z' hz'
        have hml : m < its.length := by simpa using hm
        rw [← hmap, List.getElem?_map, List.getElem?_eq_getElem hml] at hz'
        have e1 : SeqAt.readOf s.heap its[m] = z' := Option.some.inj (show some (SeqAt.readOf s.heap its[m]) = some z' from hz')
        simpa using e1
      refine call_meets PySem.F.slot_tuple_index ⟨_, ho, rfl⟩ PySem.F.entry_tuple_index (PySem.F.args_tuple_index_2 _ _)
        (TI.tuple_indexAt a its.toArray n dd sls uy (fun u => PyData.eqv (SeqAt.readOf s.heap u) d) j hj ?_ ?_) ⟨ho, SeqAt.items_eqAt (vs := its.toArray) (show ReadsAll s.heap its.toArray.toList ds as from h4) r1 hxs (SeqAt.canLay_of_shaped sd) hroom, ?_⟩
      · show PyData.eqv (SeqAt.readOf s.heap its.toArray[j]) d = true
        rw [at_ j hj z hz]
        exact hzj
      · intro m hm hmj
        have hmd : m < ds.length := by omega
        have hz' : ds[m]? = some ds[m] := List.getElem?_eq_getElem hmd
        show PyData.eqv (SeqAt.readOf s.heap its.toArray[m]) d = false
        rw [at_ m hm _ hz']
        exact hno m _ hmj hz'
      · exact ⟨.int (j : Nat), H, I.tok _, ⟨_, rfl⟩, q⟩
end
section
variable {K : PySem.W.Frag}
def dIndexT (ds : List D) (y : D) : Option D := if (SeqAt.shaped (.tuple ds) && SeqAt.shaped y) = true then (ds.findIdx? fun z => PyData.eqv z y).map fun j => .int (j : Nat) else none
theorem ev_indexT {k : Addr} {ds : List D} {tb : TE} {mb : En → Option D} (hk : ∃ o, K.lookup k = some o ∧ o.cls = .type "tuple" ∧ o.dict = none) (hC : ∀ H, Dp K H (.ref k) (.tuple ds)) (hb : ET K tb mb) : ET K (tBM K "tuple" (rIndexT K) (tC (.ref k)) (tCons tb tNil)) (mUn (dIndexT ds) mb) := by
  refine ⟨fun {H0 T0 σ ρ H T out} G h Q q => ?_⟩
  obtain ⟨y, hy, h⟩ := bind_some h
  unfold dIndexT at h
  split at h
  · rename_i hs
    obtain ⟨h1, h2⟩ := Bool.and_eq_true_iff.mp hs
    obtain ⟨j, hj, h⟩ := map_some h
    subst h
    refine ⟨.inr (.inl ⟨rfl, hk⟩), ?_⟩
    refine hb.run G hy _ fun v2 H2 s2 d2 p2 => ?_
    obtain ⟨jl, j1, j2⟩ := List.findIdx?_eq_some_iff_getElem.mp hj
    refine ⟨k, v2, y, ds, j, ds[j], rfl, rfl, hC _, dp_ov d2 p2, h1, h2, List.getElem?_eq_getElem jl, j1, fun m z hm hz => ?_, q _ H2 s2 d2 (.int _)⟩
    have ml : m < ds.length := Nat.lt_trans hm jl
    rw [List.getElem?_eq_getElem ml] at hz
    cases hz
    simpa using j2 m hm
  · cases h
end
end DD

set_option Elab.async false
set_option linter.all false
set_option maxRecDepth 100000
set_option maxHeartbeats 4000000
/-! in, of a tuple of any data; + of numbers, texts, tuples, lists -/
namespace DD
variable [TabQ] [ExQ]
open PySem PySem.Spec PyProof.Rows L2
section
variable {X : Cx}
def rInTD (K : PySem.W.Frag) (neg : Bool) : R2 := fun x y H Q => ∃ d ds, Dp K H x d ∧ Dp K H y (.tuple ds) ∧ SeqAt.shaped d = true ∧ SeqAt.shaped (.tuple ds) = true ∧ Q (.bl (if neg then !(ds.any fun z => PyData.eqv z d) else ds.any fun z => PyData.eqv z d)) H
theorem op_inTD (hu : X.A.units + 65 < cLine) : OpR X (compareOp .In) (rInTD X.K false) := by
  intro pins s σ H x y v u Q I rx ry h
  obtain ⟨d, ds, hd, he, sd, se, q⟩ := h
  obtain ⟨as, r1⟩ := Dp.reads I d x v hd rx
  obtain ⟨bs, r2⟩ := Dp.reads I (.tuple ds) y u he ry
  exact SeqAt.in_tuple_reads r2 r1 (SeqAt.canLay_of_shaped se) (SeqAt.canLay_of_shaped sd) (room_in_shaped sd hu) ⟨.bl _, H, I, rfl, q⟩
theorem op_notInTD (hu : X.A.units + 65 < cLine) : OpR X (compareOp .NotIn) (rInTD X.K true) := by
  intro pins s σ H x y v u Q I rx ry h
  obtain ⟨d, ds, hd, he, sd, se, q⟩ := h
  obtain ⟨as, r1⟩ := Dp.reads I d x v hd rx
  obtain ⟨bs, r2⟩ := Dp.reads I (.tuple ds) y u he ry
  exact SeqAt.notIn_tuple_reads r2 r1 (SeqAt.canLay_of_shaped se) (SeqAt.canLay_of_shaped sd) (room_in_shaped sd hu) ⟨.bl _, H, I, rfl, q⟩
end
section
variable {K : PySem.W.Frag}
def dInTD (neg : Bool) : D → D → Option D
  | d, .tuple ds => if (SeqAt.shaped d && SeqAt.shaped (.tuple ds)) = true then some (.bool (if neg then !(ds.any fun z => PyData.eqv z d) else ds.any fun z => PyData.eqv z d)) else none
  | _, _ => none
theorem rd_inTD {neg : Bool} : RD K (rInTD K neg) (dInTD neg) := by
  refine ⟨fun {H T x y a b d} dis ha hb h Q q => ?_⟩
  unfold dInTD at h
  split at h
  · rename_i ds
    split at h
    · rename_i c
      rw [Bool.and_eq_true] at c
      cases h
      exact ⟨_, _, dp_ov dis ha, dp_ov dis hb, c.1, c.2, q _ H (Same.refl H) dis (.bl _)⟩
    · cases h
  · cases h
def rAddL (K : PySem.W.Frag) : R2 := fun x y H Q => rAddA K x y H Q ∨ rCatX K x y H Q
theorem op_addL {X : Cx} : OpR X (binaryOp .Add) (rAddL X.K) := op_addA.or op_catX
def dAddL : D → D → Option D
  | .list xs, .list ys => if xs.length + ys.length ≤ cap then some (.list (xs ++ ys)) else none
  | a, b => dAdd a b
theorem rd_addL : RD K (rAddL K) dAddL := by
  refine ⟨fun {H T x y a b d} dis ha hb h Q q => ?_⟩
  unfold dAddL at h
  split at h
  · rename_i xs ys
    split at h
    · rename_i hz
      cases h
      obtain ⟨a, us, rfl, hs, gu⟩ := dp_lst ha
      obtain ⟨b, ws, rfl, hs2, gw⟩ := dp_lst hb
      refine .inr ⟨a, b, us, ws, rfl, rfl, sql_ov dis hs, sql_ov dis hs2, by rw [dpa_len gu, dpa_len gw]; exact cap_line hz, fun p np => ?_⟩
      obtain ⟨nT, nH⟩ := ov_free np
      rw [upd_ov nT]
      exact q _ _ (same_new nH) (dis_upd dis nT nH) (.lst (SqL.of upd_same) (dpa_mono (same_new nH) (dpa_append gu gw)))
    · cases h
  · exact .inl (rd_add.run dis ha hb h Q q)
end
end DD

set_option Elab.async false
set_option linter.all false
set_option maxRecDepth 100000
set_option maxHeartbeats 4000000
/-! <= of numbers and truths -/
namespace DD
variable [TabQ] [ExQ]
open PySem PySem.Spec PyProof.Rows L2
section
variable {M : Model} {A : Around} {E : Value → Shared → Prop} {s : Shared}
theorem rich_sub {a b : Value} {Ta Tb id : String} {op : CmpOp} {Q : Value → Shared → Prop} (ha : s.TypeIs a Ta) (hb : s.TypeIs b Tb)
    (hne : (Value.type Ta != Value.type Tb) = true) (hsub : isSubtype (.type Tb) (.type Ta) = pure true) (h : Slot Tb (cmpInfo op).2.2 id)
    (hc : wpAny M A (call (.builtin id) [b, a]) (fun v s' => v ≠ .notImplemented ∧ Q v s') E s)
    (hv : [a, b].any Value.onHeap = false := by rfl) : wpAny M A (richCompare op a b) Q E s := by
  rcases hi : cmpInfo op with ⟨sym, f, r⟩
  rw [hi] at h
  simp only [richCompare, hi, ha.oneThing_none]
  try with_reducible refine wpAny_holding ?_
  simp only [cRoomFor, hv, Bool.false_eq_true, if_false, pure_bind]
  refine wpAny_bind (wpAny_typeOf ha (wpAny_bind (wpAny_typeOf hb ?_)))
  simp only [hne, if_true]
  refine wpAny_bind (wpAny_of_eq hsub ?_)
  simp only [if_true]
  exact wpAny_bind (wpAny_tryCompare_slot hb h (wpAny_mono hc (fun v s' h' => ⟨h'.1, wpAny_bind (wpAny_rule (wpAny_pure h'.2))⟩) fun _ _ h' => h'))
end
theorem gives_ge_bi (q : Bool) (a : Int) (t : Tok) : Gives (Builtin.«int.__ge__» ⟨[.bool q, .int a t], []⟩) (.val (Value.bool (decide (b2i q ≥ a)))) :=
  .of_wp fun M A E s Q h => by obtain ⟨hp, g, d, tk, os⟩ := s; wp_walk; exact ⟨_, rfl, h⟩
theorem gives_le_bi (q : Bool) (a : Int) (t : Tok) : Gives (Builtin.«int.__le__» ⟨[.bool q, .int a t], []⟩) (.val (Value.bool (decide (b2i q ≤ a)))) :=
  .of_wp fun M A E s Q h => by obtain ⟨hp, g, d, tk, os⟩ := s; wp_walk; exact ⟨_, rfl, h⟩
theorem sub_bi : isSubtype (.type "bool") (.type "int") = pure true := by rw [isSubtype_type]; kernel_rfl
theorem sub_ib : isSubtype (.type "int") (.type "bool") = pure false := by rw [isSubtype_type]; kernel_rfl
section
variable {prog : Program} {w : World} {A : Around} {E : Value → Shared → Prop} {s : Shared} {a : Int} {q : Bool} {t : Tok} {Q : Value → Shared → Prop}
theorem le_ib (h : Q (.bool (decide (a ≤ b2i q))) s) : wpAny (model prog w) A (compareOp .LtE (.int a t) (.bool q)) Q E s := by
  show wpAny _ A (richCompare .LtE _ _) Q E s
  exact rich_sub (typeIs_int s a t) (typeIs_bool' s q) (by decide) sub_bi F.slot_bool_ge (call_gives F.slot_bool_ge (typeIs_bool' s q) F.entry_int_ge (F.args_int_ge_2 _ _) (gives_ge_bi q a t) ⟨nofun, h⟩)
theorem le_bi (h : Q (.bool (decide (b2i q ≤ a))) s) : wpAny (model prog w) A (compareOp .LtE (.bool q) (.int a t)) Q E s := by
  show wpAny _ A (richCompare .LtE _ _) Q E s
  exact wpAny_richCompare_left (typeIs_bool' s q) (typeIs_int s a t) (by decide) sub_ib F.slot_bool_le (call_gives F.slot_bool_le (typeIs_bool' s q) F.entry_int_le (F.args_int_le_2 _ _) (gives_le_bi q a t) ⟨nofun, h⟩)
end
section
variable {X : Cx} {K : PySem.W.Frag}
def rLeMix : R2 := fun x y H Q => (∃ i b, x = .int i ∧ y = .bl b ∧ Q (.bl (decide (i ≤ b2i b))) H) ∨ (∃ b i, x = .bl b ∧ y = .int i ∧ Q (.bl (decide (b2i b ≤ i))) H)
theorem op_leMix : OpR X (compareOp .LtE) rLeMix := by
  intro pins s σ H x y v u Q I rx ry h
  rcases h with ⟨i, b, rfl, rfl, q⟩ | ⟨b, i, rfl, rfl, q⟩
  · obtain ⟨t, rfl⟩ := rx
    cases ry
    exact le_ib (fin_bl I q rfl)
  · obtain ⟨t, rfl⟩ := ry
    cases rx
    exact le_bi (fin_bl I q rfl)
def rLeB : R2 := fun x y H Q => (rI0 fun i j => .bl (decide (i ≤ j))) x y H Q ∨ rLeMix x y H Q
theorem op_leB : OpR X (compareOp .LtE) rLeB := op_le.or op_leMix
def dLeB : D → D → Option D
  | .int i, .int j => some (.bool (decide (i ≤ j)))
  | .int i, .bool b => some (.bool (decide (i ≤ b2i b)))
  | .bool b, .int j => some (.bool (decide (b2i b ≤ j)))
  | _, _ => none
theorem rd_leB : RD K rLeB dLeB := by
  refine ⟨fun {H T x y a b d} dis ha hb h Q q => ?_⟩
  unfold dLeB at h
  split at h
  · cases h
    cases ha; cases hb
    exact .inl ⟨_, _, rfl, rfl, q _ H (Same.refl H) dis (.bl _)⟩
  · cases h
    cases ha; cases hb
    exact .inr (.inl ⟨_, _, rfl, rfl, q _ H (Same.refl H) dis (.bl _)⟩)
  · cases h
    cases ha; cases hb
    exact .inr (.inr ⟨_, _, rfl, rfl, q _ H (Same.refl H) dis (.bl _)⟩)
  · cases h
end
section
variable {K : PySem.W.Frag}
theorem sb_isT {i : Nat} {D : Addr} {c : String} {b : Bool} (k : PySem.W.kitOne K (.ref D) (.type c) = some b) : SB i (fun a => tCB (rIsE K D a) (tCons (tVar i) (tCons (tC (.ty c)) tNil))) (.bl b) :=
  ⟨fun a σ H Q h q => ⟨.ref a, h, .ty c, .type c, b, rfl, fun u r => by cases r; rfl, k, q⟩⟩
end
end DD

set_option Elab.async false
set_option linter.all false
set_option maxRecDepth 100000
set_option maxHeartbeats 4000000
/-! a list comprehension whose elements may raise -/
namespace DD
variable [TabQ] [ExQ]
open PySem PySem.Spec PyProof.Rows L2
section
variable {M : Model} {A : Around} {E : Value → Shared → Prop} {s' : Shared} {base : Heap} {env cenv : Env} {outer l : List Env} {e L : Addr} {Z : Obj → Prop} {m : Str → Option Value}
theorem fails_held (hf : cenv.frame = some L) (hbC : base.get? cenv.locals = none) (hn : s'.heap.Ns cenv.locals m) (hh : HandSPX.HeldZ base l e Z L s'.heap)
    (hQ : ∀ h', HandSPX.HeldZ base l e Z L h' → (∀ b o, s'.heap.get? b = some o → b ≠ cenv.locals → (∀ vs, o.data ≠ .fields vs) → ∃ sl, h'.get? b = some { o with slots := sl }) → E (.ref e) { s' with heap := h' }) :
    CompFails M A E cenv (.ref e) s' := by
  refine ⟨m, hn, fun h₂ m₂ hn₂ hs₂ => ?_⟩
  obtain ⟨b1, b0, f1, oe, vs, T, oT, ts, he, hz, hd, h1, hnT, hTe, hT, hdT, h3⟩ := hh
  have b2 : base.StaysIn h₂ := fun b o hb => (hs₂.2 b fun q => by rw [q, hbC] at hb; cases hb).trans (b1 b o hb)
  have f2 : h₂.FunFrames base l := Heap.FunFrames.sameBut hs₂ hn₂ f1
  obtain ⟨oL, es, ep, hoL, hdL, _⟩ := id hn
  have ne : ∀ b o ws, s'.heap.get? b = some o → o.data = .fields ws → b ≠ cenv.locals := fun b o ws hb hw q => by
    rw [q, hoL] at hb
    cases hb
    rw [hdL] at hw
    cases hw
  have he' : h₂.get? e = some oe := (hs₂.2 e (ne e oe vs he hd)).trans he
  have hT' : h₂.get? T = some oT := (hs₂.2 T (ne T oT ts hT hdT)).trans hT
  have hh' : HandSPX.HeldZ base l e Z L h₂ := ⟨b2, b0, f2, oe, vs, T, oT, ts, he', hz, hd, h1, hnT, hTe, hT', hdT, h3⟩
  unfold PySem.passOn
  refine wpAny_bind (wpAny_field he' hd h1 ?_)
  rw [if_neg (show ¬ ((Value.ref T == Value.none) = true) from by simp)]
  rw [hf]
  refine wpAny_bind (HandSPX.setFlight_onZ (s := { s' with heap := h₂ }) hh' fun h₃ hh3 up => ?_)
  refine wpAny_throw ?_
  exact hQ h₃ hh3 fun b o hb hbL hnf => up b o ((hs₂.2 b hbL).trans hb) hnf
theorem noted_fly (hZ : HandSPX.Steady Z) (hfr : A.frames = some (env :: outer)) (hcf : cenv.frame = env.frame) (hf : env.frame = some L) (hbC : base.get? cenv.locals = none) (hn : s'.heap.Ns cenv.locals m) (hfl : HandSPX.FlyingZ base (env :: outer) e Z s'.heap)
    (hQ : ∀ h', HandSPX.HeldZ base (env :: outer) e Z L h' → (∀ b o, s'.heap.get? b = some o → b ≠ cenv.locals → (∀ vs, o.data ≠ .fields vs) → ∃ sl, h'.get? b = some { o with slots := sl }) → E (.ref e) { s' with heap := h' }) :
    notedBy M A cenv (CompFails M A E cenv) (.ref e) s' := by
  show wpAny M A (noteFrame (.ref e) cenv) _ _ s'
  rw [noteFrame_env _ hcf]
  refine HandSPX.looks_onZ hZ hfr hf hfl fun h' hH hk => ?_
  have hn' : h'.Ns cenv.locals m := hn.upToSlots hk
  refine fails_held (l := env :: outer) (L := L) (hcf.trans hf) hbC hn' hH fun h'' hH' hk' => hQ h'' hH' fun b o hb hbC' hnf => ?_
  obtain ⟨sl, e1⟩ := hk b o hb hnf
  obtain ⟨sl2, e2⟩ := hk' b _ e1 hbC' hnf
  exact ⟨sl2, e2⟩
end
/-- the context of a block that lets exceptions out so -/
abbrev blkX (X : Cx) (s : Shared) (H : Hp) (scope : Scope) (cenv : Env) (fp : List Addr) (xe : Value → Shared → Prop) : Cx := (X.blk s H scope cenv fp).wish xe
section
variable {X : Cx}
/-- out of a call in an element -/
theorem fly_blk {W : WX} {pins pins' : List (Addr × Obj)} {σ σ' : L2.St} {s3 s1 s' : Shared} {H3 H1 : Hp} {scope : Scope} {ce : Env} {fp : List Addr} {xe : Value → Shared → Prop} {E : XK} {e : Value}
    (hs : X.stack = X.env :: X.outer) (hf : X.env.frame = some X.env.locals) (tk : L2.Takes X W) (I3 : Inv X pins σ H3 s3) (hcf : ce.frame = X.env.frame) (hC : ce.locals = s3.heap.objs.size)
    (f3 : ∀ b ∈ fp, FpOk X pins H3 b) (I1 : Inv (blkX X s3 H3 scope ce fp xe) pins' σ' H1 s1) (c : L2.CX X.prog X.w X.stack H1 s1 E e s') (hE : ∀ c d H, E c d H → W c d σ H) :
    notedBy (model X.prog X.w) X.A ce (CompFails (model X.prog X.w) X.A X.xe ce) e s' := by
  obtain ⟨a, B, H', cls, d, rfl, fl, hok, ub, na, os, ag, hE'⟩ := c
  have hfr : X.A.frames = some (X.env :: X.outer) := by rw [I3.ok.frames, hs]
  -- the block's names
  obtain ⟨m, hnC, _⟩ := I1.loc
  have hnC : s1.heap.Ns ce.locals m := hnC
  obtain ⟨oC, es, ep, hoC, hdC, hmC⟩ := id hnC
  have fC : H1 ce.locals = none := I1.free
  have bs : Un (frs X.stack) fp H3 H1 s3.heap s1.heap := I1.base
  have nofr : ∀ b ∈ frs X.stack, b < s3.heap.objs.size := fun b hb => by
    have hb' : b ∈ X.env.locals :: X.fs := I3.stkSub b hb
    rcases List.mem_cons.mp hb' with z | z
    · rw [z]; exact I3.lt
    · by_cases q : b < s3.heap.objs.size
      · exact q
      · exact absurd z (I3.nofs (Nat.le_of_not_lt q))
  have cfr : ce.locals ∉ frs X.stack := fun z => Nat.lt_irrefl _ (by have := nofr _ z; rw [hC] at this; exact this)
  have hoB : B.get? ce.locals = some oC := ub.keep _ _ hoC fC cfr
  have hoC' : s'.heap.get? ce.locals = some oC := fl.1 _ _ hoB
  have hn' : s'.heap.Ns ce.locals m := ⟨oC, es, ep, hoC', hdC, hmC⟩
  have hHC : H' ce.locals = none := ub.free _ _ hoC fC
  -- the ground without them
  generalize hB' : PySem.W.hideAll B [ce.locals] = B'
  have bB : ∀ b o, B'.get? b = some o → B.get? b = some o := fun b o q => by rw [← hB'] at q; exact PySem.W.of_hideAll _ q
  have Bb : ∀ b o, B.get? b = some o → b ≠ ce.locals → B'.get? b = some o := fun b o q n => by rw [← hB']; exact PySem.W.hideAll_get _ q (fun z => n (List.mem_singleton.mp z))
  have nB : B'.get? ce.locals = none := by rw [← hB']; exact PySem.W.hideAll_none _ List.mem_cons_self
  have noB : ∀ b, B.get? b = none → B'.get? b = none := fun b q => by
    cases z : B'.get? b with
    | none => rfl
    | some o => rw [bB b o z] at q; cases q
  have ffr : ∀ l : List Env, s'.heap.FunFrames B l → s'.heap.FunFrames B' l := by
    intro l
    induction l with
    | nil => exact fun _ => trivial
    | cons x r ih =>
      rintro ⟨h1, ⟨L, o, h2, h3, h4, h5⟩, h6⟩
      exact ⟨h1, ⟨L, o, h2, noB L h3, h4, h5⟩, ih h6⟩
  have fl' : HandSPX.FlyingZ B' (X.env :: X.outer) a (Zc cls d) s'.heap := by
    obtain ⟨g1, g2, g3, oe, vs, T, oT, ts, he, hz, hd, h1, hnT, r⟩ := fl
    refine ⟨fun b o q => g1 b o (bB b o q), noB _ g2, ?_, oe, vs, T, oT, ts, he, hz, hd, h1, noB _ hnT, r⟩
    rw [← hs]
    exact ffr _ g3
  refine noted_fly Zc.steady hfr hcf hf nB hn' fl' fun h' hH hk => tk _ _ ?_
  obtain ⟨G, g1, g2⟩ := L2.restrict h' fun b => (B'.get? b).isSome || decide (b ∈ frs X.stack)
  have st : B'.StaysIn h' := hH.1
  have gB : ∀ b o, B'.get? b = some o → G.get? b = some o := fun b o q => by
    rw [g1 b (by simp [q])]
    exact st b o q
  have gF : ∀ b, b ∈ frs X.stack → G.get? b = h'.get? b := fun b hb => g1 b (by simp [hb])
  have og : ∀ b o, G.get? b = some o → h'.get? b = some o ∧ ((B'.get? b).isSome = true ∨ b ∈ frs X.stack) := fun b o q => by
    cases z : ((B'.get? b).isSome || decide (b ∈ frs X.stack)) with
    | false => rw [g2 b z] at q; cases q
    | true =>
      rw [g1 b z] at q
      exact ⟨q, by simpa [Bool.or_eq_true] using z⟩
  have ltC : ∀ b o, s3.heap.get? b = some o → b ≠ ce.locals := fun b o q z => by
    rw [z, hC] at q
    exact Nat.lt_irrefl _ (Heap.lt_size q)
  have frame : ∀ b ∈ frs X.stack, ∃ o, s'.heap.get? b = some o ∧ ∀ vs, o.data ≠ .fields vs := fun b hb => by
    obtain ⟨_, o, ho, hnf⟩ := (show s'.heap.FunFrames B' (X.env :: X.outer) from fl'.2.2.1).mem (by rw [← hs]; exact hb)
    exact ⟨o, ho, hnf⟩
  have hos1 : s1.os = s3.os := I1.os
  have J : Inv X pins σ H' { s3 with heap := G, gens := s'.gens, drawn := s'.drawn, toks := s'.toks } := by
    refine I3.call (ch := fp) ⟨fun b o q n hb hx => ?_, fun b o q n hb hx => ?_, fun b o q n hx => ?_, fun b o q hx => ?_, fun b xs q => ub.tups b xs (bs.tups b xs q), fun b o u q => ub.frzs b o u (bs.frzs b o u q), fun b ps q => ?_⟩ ?_ ag ?_
    · have q1 := bs.keep b o q n hb hx
      exact gB b o (Bb b o (ub.keep b o q1 (bs.free b o q n hx) hb) (ltC b o q))
    · obtain ⟨sl, q1⟩ := bs.slot b o q n hb hx
      obtain ⟨sl2, q2⟩ := ub.slot b _ q1 hb
      obtain ⟨o', ho', hnf⟩ := frame b hb
      rw [q2] at ho'
      cases ho'
      obtain ⟨sl3, q3⟩ := hk b _ q2 (ltC b o q) hnf
      exact ⟨sl3, by rw [gF b hb]; exact q3⟩
    · obtain ⟨o1, q1⟩ := bs.there b o q hx
      exact ub.free b o1 q1 (bs.free b o q n hx)
    · obtain ⟨o1, q1⟩ := bs.there b o q hx
      by_cases hb : b ∈ frs X.stack
      · obtain ⟨o', ho', hnf⟩ := frame b hb
        obtain ⟨sl3, q3⟩ := hk b _ ho' (ltC b o q) hnf
        exact ⟨_, by rw [gF b hb]; exact q3⟩
      · obtain ⟨o', q2⟩ := ub.there b o1 q1 hb
        exact ⟨o', gB b o' (Bb b o' q2 (ltC b o q))⟩
    · obtain ⟨more, q1⟩ := bs.tbls b ps q
      obtain ⟨more2, q2⟩ := ub.tbls b _ q1
      exact ⟨more ++ more2, by rw [q2, Array.append_assoc]⟩
    · intro b u q
      refine (hok b u q).stay (fun c v hc qc => gB c v (Bb c v qc fun z => ?_)) (fun _ r => r) fun _ _ r => r
      rcases hc with y | y
      · rw [← y, z, hHC] at q; cases q
      · rw [z, hHC] at y; cases y
    · intro b hb
      obtain ⟨f0, f1, f2, f3', f4, f5⟩ := f3 b hb
      exact ⟨f3', f1, f4, f5⟩
  refine ⟨a, B', _, pins, σ, H', cls, d, rfl, J, fun b o q hb => ?_, Heap.UpToSlots.of_keeps fun b o q => (og b o q).1, .inr (.inr ?_), na, ?_, ag, hE _ _ _ hE'⟩
  · obtain ⟨q', z⟩ := og b o q
    rcases z with z | z
    · obtain ⟨o', y⟩ := Option.isSome_iff_exists.mp z
      have w := st b o' y
      rw [q'] at w; cases w
      exact y
    · exact absurd z hb
  · rw [hs]
    exact hH
  · show s'.os = s3.os
    rw [os, hos1]
/-- [elt for ..], elt raising -/
theorem pe_lcX {elt tg iter : Expr} {ifs : List Expr} {scope : Scope} {own : List (Str × Nat)} {pos : Pos} {wi : TI} {g : TG} {tt : TT} {te : WX → TE} {W : WX}
    (hst : X.stack = X.env :: X.outer) (hfm : X.env.frame = some X.env.locals) (tk : L2.Takes X W) (hc : X.calm = true) (hN : X.N.Nodup) (hi : PI X tg iter wi) (ok : BlkOk X.N X.env.scope scope own)
    (hg : ∀ (s : Shared) (H : Hp) (C : Addr) (cl : List (Str × Addr)) (fp : List Addr) (xe : Value → Shared → Prop), PG (blkX X s H scope (compEnvC scope cl C X.env) fp xe) tg g)
    (ht : ∀ (s : Shared) (H : Hp) (C : Addr) (cl : List (Str × Addr)) (fp : List Addr) (xe : Value → Shared → Prop), PTs (blkX X s H scope (compEnvC scope cl C X.env) fp xe) ifs tt)
    (he : ∀ (s : Shared) (H : Hp) (C : Addr) (cl : List (Str × Addr)) (fp : List Addr) (xe : Value → Shared → Prop) (W' : WX), (∀ σ, PassesAt (L2.CX X.prog X.w) (blkX X s H scope (compEnvC scope cl C X.env) fp xe) σ (WE W' σ)) → PE (blkX X s H scope (compEnvC scope cl C X.env) fp xe) elt (te W'))
    (hs : ∀ x, foldedSetIterable iter X.env x = pure x := by intro _; rfl) :
    PE X (.ListComp elt [⟨tg, iter, ifs, 0⟩] scope pos) (fun σ H Q => tLc wi g tt (te fun c d _ h => W c d σ h) (own.map (·.2)) σ H Q) := by
  refine ⟨fun pins s σ H Q I h => ?_⟩
  rw [eval_ListComp]
  have hfree : ∀ y ∈ scope.names, y.2 = .free → ∃ c, X.env.cells.lookup y.1 = some c := fun y hy e => by
    rcases ok.free y hy e with k | k
    · exact I.ok.has _ (.inl k)
    · exact I.ok.has _ (.inr k)
  refine comprehension_at (use := none) rfl hs (closure_ok hfree) ok.kind (fun y hy e => by rw [ok.uniq y hy, e])
    (thn (hi.run pins s σ H _ I h) fun xv s1 hx => thn hx fun itv s2 h2 => ?_)
  obtain ⟨it, fp, tn, J, H2, e, I2, T, st2, f2, q⟩ := h2
  subst e
  refine wpAny_newObj_type (newEnv_comp ?_) (by show 0 ≤ sizeLine; decide)
  generalize hD : s2.heap.objs.size = D
  have hDn : H2 D = none := I2.hok.fresh (Nat.le_of_eq hD)
  obtain ⟨W0, ⟨m0, w0⟩, turn⟩ := q D hDn
  generalize hs3 : ({ s2 with heap := s2.heap.push { cls := .type "list", data := .seq ([] : List Value).toArray } } : Shared) = s3
  have I3 : Inv X pins σ (upd H2 D (.lst [])) s3 := by
    rw [← hs3]
    refine I2.laid (t' := s2.toks) (fun b o e => Heap.get?_push_of_some _ e) (Nat.le_of_eq hD) ⟨Nat.zero_le _, [], 0, .nil, ?_⟩
    rw [← hD]
    exact Heap.get?_push_size _ rfl
  have h3 : s3.heap = s2.heap.push { cls := .type "list", data := .seq ([] : List Value).toArray } := by rw [← hs3]
  have sz : ∀ b ∈ fp, b < s2.heap.objs.size := fun b hb => by
    obtain ⟨o, e, _⟩ := T.obj _ _ st2 b hb
    exact Heap.lt_size e
  have f3 : ∀ b ∈ fp, FpOk X pins (upd H2 D (.lst [])) b ∧ b < s3.heap.objs.size := fun b hb => by
    have hlt := sz b hb
    refine ⟨⟨?_, (f2 b hb).2⟩, by rw [h3, Heap.size_push]; exact Nat.lt_succ_of_lt hlt⟩
    rw [upd_ne (by rw [← hD]; exact Nat.ne_of_lt hlt)]
    exact (f2 b hb).1
  have st3 : tn 0 s3.heap := T.keep _ _ _ st2 fun b _ o e => by rw [h3]; exact Heap.get?_push_of_some _ e
  show codeAny _ _ (.compStart (.ListComp elt [⟨tg, iter, ifs, 0⟩] scope pos) 0 (.ref it) (.ref D) (compEnvC scope (cellsFrom (s3.heap.objs.size + 1) scope.names (cloFrom X.env.cells scope.names [])) s3.heap.objs.size X.env)) (compEnds (model X.prog X.w) X.A X.xe none (EP X pins σ Q) (.ref D) (compEnvC scope (cellsFrom (s3.heap.objs.size + 1) scope.names (cloFrom X.env.cells scope.names [])) s3.heap.objs.size X.env)) { s3 with heap := pushCells (s3.heap.push { cls := .type "dict", data := .dict #[] }) scope.names }
  generalize hxe : notedBy (model X.prog X.w) X.A (compEnvC scope (cellsFrom (s3.heap.objs.size + 1) scope.names (cloFrom X.env.cells scope.names [])) s3.heap.objs.size X.env) (CompFails (model X.prog X.w) X.A X.xe (compEnvC scope (cellsFrom (s3.heap.objs.size + 1) scope.names (cloFrom X.env.cells scope.names [])) s3.heap.objs.size X.env)) = xe
  have I4 := (block_start I3 ok hN f3).wish xe
  have pg := hg s3 (upd H2 D (.lst [])) s3.heap.objs.size (cellsFrom (s3.heap.objs.size + 1) scope.names (cloFrom X.env.cells scope.names [])) fp xe
  have pt := ht s3 (upd H2 D (.lst [])) s3.heap.objs.size (cellsFrom (s3.heap.objs.size + 1) scope.names (cloFrom X.env.cells scope.names [])) fp xe
  have pe := he s3 (upd H2 D (.lst [])) s3.heap.objs.size (cellsFrom (s3.heap.objs.size + 1) scope.names (cloFrom X.env.cells scope.names [])) fp xe (fun c d _ h => W c d σ h) (fun σ' pins' H1 s1 e s' I1 c => by
    rw [← hxe]
    exact fly_blk hst hfm tk I3 rfl rfl (fun b hb => (f3 b hb).1) I1 c fun _ _ _ h => h)
  have nfp : ∀ b ∈ fp, (upd H2 D (.lst [])) b = none := fun b hb => (f3 b hb).1.1
  have hxe' : xe = notedBy (model X.prog X.w) X.A (compEnvC scope (cellsFrom (s3.heap.objs.size + 1) scope.names (cloFrom X.env.cells scope.names [])) s3.heap.objs.size X.env) (fun e s' => compEnds (model X.prog X.w) X.A X.xe none (EP X pins σ Q) (.ref D) (compEnvC scope (cellsFrom (s3.heap.objs.size + 1) scope.names (cloFrom X.env.cells scope.names [])) s3.heap.objs.size X.env) (.error e) s') := hxe.symm
  clear hxe
  generalize hce : compEnvC scope (cellsFrom (s3.heap.objs.size + 1) scope.names (cloFrom X.env.cells scope.names [])) s3.heap.objs.size X.env = ce at I4 pg pt pe hxe' ⊢
  have cL : ce.locals = s3.heap.objs.size := by subst hce; rfl
  generalize hH3 : upd H2 D (.lst []) = H3 at I3 I4 pg pt pe w0 nfp f3
  generalize hs4 : ({ s3 with heap := pushCells (s3.heap.push { cls := .type "dict", data := .dict #[] }) scope.names } : Shared) = s4 at I4 ⊢
  have st4 : tn 0 s4.heap := T.keep _ _ _ st3 fun b _ o e => by rw [← hs4]; exact pushCells_keeps _ _ _ _ (Heap.get?_push_of_some _ e)
  have stat : ∀ {σ' : L2.St} {H' : Hp} {s' : Shared}, Inv (blkX X s3 H3 scope ce fp xe) [] σ' H' s' → (∀ b ∈ fp, H' b = none) → ∀ b ∈ fp, FpOk (blkX X s3 H3 scope ce fp xe) [] H' b := fun {σ' H' s'} I' hn b hb =>
    ⟨hn b hb, (I'.ok.exf b hb).1, I'.ok.exfs b hb, .inl hb, fun x c e => (I'.ok.exf b hb).2 x c e, fun p hp => absurd (show p ∈ ([] : List (Addr × Obj)) ++ [] from hp) (by simp)⟩
  have loop : codeAny (model X.prog X.w) X.A (.compLoop (.ListComp elt [⟨tg, iter, ifs, 0⟩] scope pos) 0 (.ref it) (.ref D) ce) (compEnds (model X.prog X.w) X.A X.xe none (EP X pins σ Q) (.ref D) ce) s4 := by
    refine compLoop_any (fun n s' => ∃ i H', Inv (blkX X s3 H3 scope ce fp xe) [] (L2.wipe σ (own.map (·.2))) H' s' ∧ tn i s'.heap ∧ (∀ b ∈ fp, H' b = none) ∧ W0 i n H') ?_ m0 ⟨0, H3, I4, st4, nfp, w0⟩
    rintro n s5 ⟨i, H5, I5, st5, n5, w5⟩
    have noE : ∀ {e : Value} {z : Shared}, xe e z → notedBy (model X.prog X.w) X.A ce (fun e s' => compEnds (model X.prog X.w) X.A X.xe none (EP X pins σ Q) (.ref D) ce (.error e) s') e z := fun {e z} k => by rw [hxe'] at k; exact k
    rcases turn i n H5 w5 with ⟨stop, qq⟩ | ⟨go, Nx, hNx, step⟩
    · have td := T.done (blkX X s3 H3 scope ce fp xe) rfl rfl rfl hc i [] s5 _ H5 (fun _ _ => False) I5 (stat I5 n5) st5 stop
      refine thnF td fun r s6 ⟨hr, I6⟩ => ?_
      subst hr
      have I7 : Inv X pins σ H5 s6 := I3.call' (ch := fp) I6.os I6.base I6.hok I6.bare fun b hb => ⟨(f3 b hb).1.2.2.2.1, (f3 b hb).1.2.1, (f3 b hb).1.2.2.2.2.1, (f3 b hb).1.2.2.2.2.2⟩
      have nC : H5 s3.heap.objs.size = none := by
        have z : H5 ce.locals = none := I6.free
        rw [cL] at z
        exact z
      obtain ⟨m, hn, _⟩ := I6.loc
      have hn : s6.heap.Ns ce.locals m := hn
      obtain ⟨f0, f1, f2, f3', f4, f5⟩ := I3.fpOk (Nat.le_refl _) nC
      refine ⟨m, hn, fun h'' sb => ?_⟩
      rw [cL] at sb
      exact ⟨.ref D, H5, I7.turned (t' := s6.toks) (fun b o hb e => (sb.2 b hb).trans e) f0 f1 f3' f4 f5, rfl, qq⟩
    · have ti := T.item (blkX X s3 H3 scope ce fp xe) rfl rfl rfl hc i [] s5 _ H5 (fun _ _ => False) I5 (stat I5 n5) st5 go
      refine thnF ti fun r s6 ⟨u, hr, h6⟩ => ?_
      subst hr
      refine thnF h6 fun _ s7 ⟨x, H7, I7, r7, y7, st7, n7⟩ => ?_
      have I7' := I7.pinned (stat I7 n7) (T.obj _ _ st7)
      refine wpAny_mono (pg.run _ s7 _ H7 x u _ I7' r7 (step x H7 y7)) (fun _ s8 ⟨σ8, H8, I8, hw8, q8⟩ => ?_) fun _ _ k => noE k
      refine wpAny_mono (pt.run _ s8 σ8 H8 _ I8 q8) (fun b s9 ⟨H9, I9, q9⟩ => ?_) fun _ _ k => noE k
      have fin : ∀ {s' : Shared} {H' : Hp}, Inv (blkX X s3 H3 scope ce fp xe) ([] ++ pinsAt fp s7.heap) σ8 H' s' → Nx H' → ∃ m, m < n ∧ ∃ i H', Inv (blkX X s3 H3 scope ce fp xe) [] (L2.wipe σ (own.map (·.2))) H' s' ∧ tn i s'.heap ∧ (∀ b ∈ fp, H' b = none) ∧ W0 i m H' := fun {s' H'} I' nx => by
        obtain ⟨m', hm, w'⟩ := hNx H' nx
        have pin' : ∀ b ∈ fp, ∀ o, s7.heap.get? b = some o → s'.heap.get? b = some o ∧ H' b = none := fun b hb o e =>
          let z := I'.pin (b, o) (List.mem_append_right _ (List.mem_append_right _ (mem_pinsAt hb e)))
          ⟨z.1, z.2.1⟩
        have hl : (L2.wipe σ (own.map (·.2))).length = σ8.length := by rw [← hw8, wipe_length]
        refine ⟨m', hm, i + 1, H', (I'.unpinned (pins := [])).weak hl (fun j v e => ?_), T.keep _ _ _ st7 fun b hb o e => (pin' b hb o e).1, fun b hb => ?_, w'⟩
        · rw [← hw8] at e
          exact (wipe_some e).1
        · obtain ⟨o, e, _⟩ := T.obj _ _ st7 b hb
          exact (pin' b hb o e).2
      cases b with
      | false =>
        simp only [Bool.false_eq_true, if_false] at q9 ⊢
        exact fin I9 q9
      | true =>
        simp only [if_true] at q9 ⊢
        refine wpAny_mono (pe.run _ s9 σ8 H9 _ I9 q9) (fun z s10 ⟨yv, H10, I10, r10, acc, hD10, hz10, nx⟩ => ?_) fun _ _ k => noE k
        exact app_ok (X := blkX X s3 H3 scope ce fp xe) I10 hD10 hz10 r10 fun s11 I11 => fin I11 nx
  exact codeAny_compStart_list loop (T.self X.A 0 _ _ _ st4 loop)
end
/-! ### the mirror -/
def consL (x : D) : RsL → RsL
  | .ok xs => .ok (x :: xs)
  | .ex c => .ex c
def addL (as : List D) : RsL → RsL
  | .ok xs => .ok (as ++ xs)
  | .ex c => .ex c
def collX (g : D → En → Option En) (c : En → Option Bool) (e : En → Option Rs) (ρ : En) : List D → Option RsL
  | [] => some (.ok [])
  | d :: ds => (g d ρ).bind fun ρ1 => (c ρ1).bind fun b => if b = true then (e ρ1).bind fun r => (match r with
    | .ok x => (collX g c e ρ ds).map (consL x)
    | .ex k => some (.ex k)) else collX g c e ρ ds
def mLcX (it : En → Option (List D)) (g : D → En → Option En) (c : En → Option Bool) (e : En → Option Rs) (vs : List Nat) : En → Option RsL := fun ρ => (it ρ).bind fun ds => if ds.length ≤ cap then collX g c e (wipeM ρ vs) ds else none
section
variable (K : PySem.W.Frag) (cl : Nat → Addr)
structure XL (te : WX → TE) (m : En → Option RsL) : Prop where
  run : ∀ {H0 : Hp} {T0 : Ov} {σ : L2.St} {ρ : En} {H : Hp} {T : Ov} {r : RsL}, Good K H0 T0 σ ρ H T → m ρ = some r → ∀ (W : WX) (Q : VK),
    (match r with
      | .ok ds => ∀ p xs H', Same H H' → Dis H' T → ov H' T p = none → DpAll K H' xs ds → Q (.ref p) (upd (ov H' T) p (.lst xs))
      | .ex c => ∀ H', Same H H' → Dis H' T → W (.ref (cl c)) none σ (ov H' T)) → te W σ (ov H T) Q
end
section
variable {K : PySem.W.Frag} {cl : Nat → Addr}
theorem xl_lc {wi : TI} {g : TG} {tt : TT} {te : WX → TE} {vs : List Nat} {mi : En → Option (List D)} {mg : D → En → Option En} {mc : En → Option Bool} {me : En → Option Rs}
    (hi : IT K wi mi) (hg : TGm K vs g mg) (ht : TTm K tt mc) (he : EX K cl te me) : XL K cl (fun W σ H Q => tLc wi g tt (te fun c d _ h => W c d σ h) vs σ H Q) (mLcX mi mg mc me vs) := by
  refine ⟨fun {H0 T0 σ ρ H T out} G h W Q q => ?_⟩
  obtain ⟨ds, hd, h⟩ := bind_some h
  split at h
  · rename_i hz
    refine hi.run G hd _ fun J Hm s1 d1 w => ?_
    intro Dl hD
    obtain ⟨nT, nH⟩ := ov_free hD
    have G1 := (G.mono s1 d1).wipe vs
    refine ⟨fun i m Hc => i ≤ ds.length ∧ m = ds.length - i ∧ ∃ H1 acc as r, Hc = ov H1 (put T Dl acc) ∧ Same Hm H1 ∧ Dis H1 T ∧ H1 Dl = none ∧ DpAll K H1 acc as ∧ acc.length ≤ i ∧ collX mg mc me (wipeM ρ vs) (ds.drop i) = some r ∧ out = addL as r,
      ⟨ds.length, Nat.zero_le _, rfl, Hm, [], [], out, by rw [upd_put], Same.refl Hm, d1, nH, .nil, Nat.le_refl _, h, by cases out <;> rfl⟩, ?_⟩
    rintro i m Hc ⟨hil, rfl, H1, acc, as, r, rfl, sm, dis, nD, ga, hac, hc, eo⟩
    have dput : Dis H1 (put T Dl acc) := dis_put dis nD
    by_cases hlt : i < ds.length
    · have hge : ds[i]? = some ds[i] := List.getElem?_eq_getElem hlt
      rw [List.drop_eq_getElem_cons hlt] at hc
      obtain ⟨ρ2, h2, hc⟩ := bind_some hc
      obtain ⟨b, hb, hc⟩ := bind_some hc
      refine .inr ⟨w.go i sm dput hlt, fun Hc' => ∃ H1 acc as r, Hc' = ov H1 (put T Dl acc) ∧ Same Hm H1 ∧ Dis H1 T ∧ H1 Dl = none ∧ DpAll K H1 acc as ∧ acc.length ≤ i + 1 ∧ collX mg mc me (wipeM ρ vs) (ds.drop (i + 1)) = some r ∧ out = addL as r,
        fun Hc' ⟨H1, acc, as, r, a1, a2, a3, a4, a5, a6, a7, a8⟩ => ⟨ds.length - (i + 1), by omega, by omega, rfl, H1, acc, as, r, a1, a2, a3, a4, a5, a6, a7, a8⟩, fun x Hc' y => ?_⟩
      obtain ⟨H2, rfl, s2, d2, p2⟩ := w.yld i sm dput hge y
      have fr : ∀ {H' : Hp}, Dis H' (put T Dl acc) → Dis H' T ∧ H' Dl = none := fun {H'} d => ⟨⟨fun a xs e => by
        by_cases z : a = Dl
        · rw [z, nT] at e; cases e
        · exact d a xs (by rw [put_ne z]; exact e), d.tab⟩, d Dl acc put_same⟩
      have G2 : Good K H0 T0 (L2.wipe σ vs) (wipeM ρ vs) H2 (put T Dl acc) := (((G.mono s1 d1).wipe vs).more hD).mono (sm.trans s2) d2
      refine hg.run G2 p2 h2 _ fun σ3 H3 G3 s3 w3 => ⟨by rw [w3, wipe_wipe], ?_⟩
      refine ht.run G3 hb _ fun H4 s4 d4 => ?_
      have G4 := G3.mono s4 d4
      cases b with
      | true =>
        rw [if_pos rfl] at hc ⊢
        obtain ⟨z, hz2, hc⟩ := bind_some hc
        refine he.run G4 hz2 _ _ ?_
        cases z with
        | ok z =>
          obtain ⟨r', hr, hc⟩ := map_some hc
          intro v H5 s5 d5 p5
          obtain ⟨dT, dn⟩ := fr d5
          refine ⟨acc, ov_own put_same, cap_lt (Nat.le_trans hac (Nat.le_trans (Nat.le_of_lt hlt) hz)), H5, acc ++ [v], as ++ [z], r', by rw [upd_put, put_put], (sm.trans s2).trans ((s3.trans s4).trans s5), dT, dn, dpa_snoc (dpa_mono (s2.trans ((s3.trans s4).trans s5)) ga) p5, by rw [List.length_append, List.length_singleton]; omega, hr, ?_⟩
          rw [eo, ← hc]
          cases r' with
          | ok xs => show RsL.ok (as ++ z :: xs) = RsL.ok ((as ++ [z]) ++ xs); rw [List.append_assoc]; rfl
          | ex c => rfl
        | ex c =>
          cases hc
          rw [eo] at q
          intro H5 s5 d5
          obtain ⟨dT, dn⟩ := fr d5
          have e5 : ov H5 (put T Dl acc) = ov (upd H5 Dl (.lst acc)) T := by rw [← upd_put, upd_ov nT]
          rw [e5]
          exact q _ ((s1.trans (sm.trans s2)).trans (((s3.trans s4).trans s5).trans (same_new dn))) (dis_upd dT nT dn)
      | false =>
        rw [if_neg Bool.false_ne_true] at hc ⊢
        obtain ⟨dT, dn⟩ := fr d4
        exact ⟨H4, acc, as, r, rfl, (sm.trans s2).trans (s3.trans s4), dT, dn, dpa_mono (s2.trans (s3.trans s4)) ga, by omega, hc, eo⟩
    · have e : i = ds.length := by omega
      subst e
      rw [List.drop_length] at hc
      cases hc
      have eo : out = .ok as := by rw [eo]; show RsL.ok (as ++ []) = _; rw [List.append_nil]
      subst eo
      refine .inl ⟨w.stop sm dput, ?_⟩
      rw [← upd_put]
      have hfree : ov H1 T Dl = none := by rw [ov_none nT]; exact nD
      exact q Dl acc H1 (s1.trans sm) dis hfree ga
  · cases h
def xList (m : En → Option RsL) : En → Option Rs := fun ρ => (m ρ).map fun r => match r with
  | .ok ds => .ok (.list ds)
  | .ex c => .ex c
theorem ex_list {te : WX → TE} {m : En → Option RsL} (h : XL K cl te m) : EX K cl te (xList m) := by
  refine ⟨fun {H0 T0 σ ρ H T r} G hh W Q q => ?_⟩
  obtain ⟨x, hx, e⟩ := map_some hh
  subst e
  refine h.run G hx W Q ?_
  cases x with
  | ok ds =>
    intro p xs H' s1 d1 n1 p1
    obtain ⟨nT, nH⟩ := ov_free n1
    rw [upd_ov nT]
    exact q _ _ (s1.trans (same_new nH)) (dis_upd d1 nT nH) (.lst (SqL.of upd_same) (dpa_mono (same_new nH) p1))
  | ex c => exact fun H' s1 d1 => q H' s1 d1
end
end DD

set_option Elab.async false
set_option linter.all false
set_option maxRecDepth 100000
set_option maxHeartbeats 4000000
/-! f'..' of texts -/
namespace DD
variable [TabQ] [ExQ]
open PySem PySem.Spec PyProof.Rows L2
section
variable {K : PySem.W.Frag}
def mFmt (a : En → Option D) : En → Option D := fun ρ => (a ρ).bind fun d => match d with
  | .str y => if y.length ≤ 16777216 then some (.str y) else none
  | _ => none
theorem ev_fmt {te : TE} {m : En → Option D} (h : ET K te m) : ET K (tFmt te) (mFmt m) := by
  refine ⟨fun {H0 T0 σ ρ H T d} G hm Q q => ?_⟩
  obtain ⟨x, hx, hm⟩ := bind_some hm
  split at hm
  · rename_i y
    split at hm
    · rename_i hz
      cases hm
      refine h.run G hx _ fun v H1 s1 d1 p1 => ?_
      cases p1
      exact .inl ⟨y, rfl, hz, q _ H1 s1 d1 (.str y)⟩
    · cases hm
  · cases hm
inductive JT (K : PySem.W.Frag) : List TE → List (En → Option D) → Prop where
  | nil : JT K [] []
  | cons {t : TE} {m : En → Option D} {ts : List TE} {ms : List (En → Option D)} (h : ET K t m) (r : JT K ts ms) : JT K (t :: ts) (m :: ms)
def mJs : List (En → Option D) → Str → En → Option Str
  | [], acc, _ => some acc
  | m :: ms, acc, ρ => (m ρ).bind fun d => match d with
    | .str y => if (acc ++ y).length ≤ 16777216 then mJs ms (acc ++ y) ρ else none
    | _ => none
def mJoined (ms : List (En → Option D)) : En → Option D := fun ρ => (mJs ms Str.empty ρ).map .str
theorem js_run {ts : List TE} {ms : List (En → Option D)} (h : JT K ts ms) : ∀ {H0 : Hp} {T0 : Ov} {σ : L2.St} {ρ : En} {H : Hp} {T : Ov} {acc out : Str}, Good K H0 T0 σ ρ H T → mJs ms acc ρ = some out →
    ∀ Q : Str → Hp → Prop, (∀ H', Same H H' → Dis H' T → Q out (ov H' T)) → tJs ts acc σ (ov H T) Q := by
  induction h with
  | nil =>
    intro H0 T0 σ ρ H T acc out G hm Q q
    cases hm
    exact q H (Same.refl H) G.dis
  | @cons t m ts ms h r ih =>
    intro H0 T0 σ ρ H T acc out G hm Q q
    obtain ⟨x, hx, hm⟩ := bind_some hm
    split at hm
    · rename_i y
      split at hm
      · rename_i hz
        refine h.run G hx _ fun v H1 s1 d1 p1 => ?_
        cases p1
        exact ⟨y, rfl, hz, ih (G.mono s1 d1) hm Q fun H' s2 d2 => q H' (s1.trans s2) d2⟩
      · cases hm
    · cases hm
theorem ev_joined {ts : List TE} {ms : List (En → Option D)} (h : JT K ts ms) : ET K (fun σ H Q => tJs ts Str.empty σ H fun out H1 => Q (.str out) H1) (mJoined ms) := by
  refine ⟨fun {H0 T0 σ ρ H T d} G hm Q q => ?_⟩
  obtain ⟨x, hx, e⟩ := map_some hm
  subst e
  exact js_run h G hx _ fun H' s1 d1 => q _ H' s1 d1 (.str x)
end
end DD

set_option Elab.async false
set_option linter.all false
set_option maxRecDepth 100000
set_option maxHeartbeats 4000000
/-! n += .., text.find(x, i), x.join(what may raise) -/
namespace DD
variable [TabQ] [ExQ]
open PySem PySem.Spec PyProof.Rows L2
section
variable {K : PySem.W.Frag} {cl : Nat → Addr}
def sAugI (i : Nat) (f : Int → Int → Int) (m : En → Option D) : En → Option Fl := fun ρ => match ρ[i]? with
  | some (some (.val (.int a))) => (m ρ).bind fun d => match d with
    | .int b => some (.nx (ρ.set i (some (.val (.int (f a b))))))
    | _ => none
  | _ => none
theorem st_augI {i : Nat} {f : Int → Int → Int} {te : TE} {m : En → Option D} (h : ET K te m) : TSm K (tAug i te (ipI f)) (sAugI i f m) := by
  refine ⟨fun {H0 T0 σ ρ H T g} G hm E q => ?_⟩
  unfold sAugI at hm
  split at hm
  · rename_i a e
    obtain ⟨d, hd, hm⟩ := bind_some hm
    split at hm
    · rename_i b
      cases hm
      obtain ⟨v, hv, pv⟩ := G.val i _ e
      cases pv
      refine ⟨_, hv, ?_⟩
      refine h.run G hd _ fun w H1 s1 d1 p1 => ?_
      cases p1
      exact ⟨a, b, rfl, rfl, q _ _ _ ((G.mono s1 d1).set (.int _))⟩
    · cases hm
  · cases hm
def rFind3 : V → List V → Hp → VK → Prop := fun x xs H Q => ∃ (a b : Str) (i : Int), x = .str a ∧ xs = [.str b, .int i] ∧ Q (.int (Txt.find3 a b i)) H
theorem mt_find3' {X : Cx} : MtR X "str.find" rFind3 := mt_find3
def dFind3 : D → List D → Option D
  | .str a, [.str b, .int i] => some (.int (Txt.find3 a b i))
  | _, _ => none
def mFind3 (mo : En → Option D) (ma : En → Option (List D)) : En → Option D := fun ρ => (mo ρ).bind fun x => (ma ρ).bind fun ys => dFind3 x ys
theorem ev_find3 {to : TE} {ta : TA} {mo : En → Option D} {ma : En → Option (List D)} (ho : ET K to mo) (ha : TAm K ta ma) : ET K (tBM K "str" rFind3 to ta) (mFind3 mo ma) := by
  refine ⟨fun {H0 T0 σ ρ H T d} G h Q q => ?_⟩
  obtain ⟨x, hx, h⟩ := bind_some h
  obtain ⟨ys, hy, h⟩ := bind_some h
  unfold dFind3 at h
  split at h
  · rename_i a b i
    cases h
    refine ho.run G hx _ fun v H1 s1 d1 p1 => ?_
    cases p1
    refine ⟨rfl, ?_⟩
    refine ha.run (G.mono s1 d1) hy _ fun vs H2 s2 d2 p2 => ?_
    cases p2 with
    | cons g1 r =>
      cases g1
      cases r with
      | cons g2 r =>
        cases g2
        cases r
        exact ⟨_, _, _, rfl, rfl, q _ H2 (s1.trans s2) d2 (.int _)⟩
  · cases h
def xJoin (mo : En → Option D) (ma : En → Option Rs) : En → Option Rs := fun ρ => (mo ρ).bind fun x => (ma ρ).bind fun r => match x, r with
  | .str _, .ok y => (dJoin x y).map .ok
  | .str _, .ex c => some (.ex c)
  | _, _ => none
theorem ex_join {to : TE} {te : WX → TE} {mo : En → Option D} {ma : En → Option Rs} (ho : ET K to mo) (ha : EX K cl te ma) : EX K cl (fun W => tBM K "str" (rJoinD K) to (tCons (te W) tNil)) (xJoin mo ma) := by
  refine ⟨fun {H0 T0 σ ρ H T r} G h W Q q => ?_⟩
  obtain ⟨x, hx, h⟩ := bind_some h
  obtain ⟨y, hy, h⟩ := bind_some h
  refine ho.run G hx _ fun v H1 s1 d1 p1 => ?_
  split at h
  · rename_i a y
    cases dp_str p1
    refine ⟨rfl, ?_⟩
    obtain ⟨d, hd, e⟩ := map_some h
    subst e
    refine ha.run (G.mono s1 d1) hy W _ fun u H2 s2 d2 p2 => ?_
    unfold dJoin at hd
    split at hd
    · rename_i a' ds e1
      obtain ⟨ns, e, hd⟩ := bind_some hd
      split at hd
      · rename_i hz
        cases hd
        cases strs_some e
        cases e1
        obtain ⟨p, us, rfl, hs, gu⟩ := dp_lst p2
        cases dpa_strs_v gu
        exact ⟨_, p, ns, rfl, rfl, .inl (sql_ov d2 hs), hz, q _ H2 (s1.trans s2) d2 (.str _)⟩
      · cases hd
    · rename_i a' ds e1
      obtain ⟨ns, e, hd⟩ := bind_some hd
      split at hd
      · rename_i hz
        cases hd
        cases strs_some e
        cases e1
        obtain ⟨p, us, rfl, hs, gu⟩ := dp_tup p2
        cases dpa_strs_v gu
        exact ⟨_, p, ns, rfl, rfl, .inr (sqt_ov d2 hs), hz, q _ H2 (s1.trans s2) d2 (.str _)⟩
      · cases hd
    · cases hd
  · rename_i a c
    cases dp_str p1
    refine ⟨rfl, ?_⟩
    cases h
    exact ha.run (G.mono s1 d1) hy W _ fun H2 s2 d2 => q H2 (s1.trans s2) d2
  · cases h
end
/-- a while's turns: no more than the signs of a text -/
def fuelStr (i : Nat) (ρ : En) : Nat := match ρ[i]? with
  | some (some (.val (.str z))) => z.length + 2
  | _ => 1
end DD

set_option Elab.async false
set_option linter.all false
set_option maxRecDepth 100000
set_option maxHeartbeats 4000000
/-! enumerate of a list or a tuple -/
namespace DD
variable [TabQ] [ExQ]
open PySem PySem.Spec PyProof.Rows L2
set_option maxHeartbeats 1000000 in
theorem meets_enum1 {v : Value} {o : Obj} {H : Heap → Prop} (B : Begins v o H) :
    Meets (Builtin.«enumerate.__new__» ⟨[.type "enumerate", v], []⟩) (fun _ R s => H s.heap ∧
      R (.ok (.ret (.ref (s.heap.push o).objs.size))) { s with heap := (s.heap.push o).push { cls := .type "enumerate", data := .fields #[.none, .bool false, .ref s.heap.objs.size, rawInt 0, .none, .none] } }) :=
  .of_wp fun prog w A R s h => by
    obtain ⟨hp, g, d, tk, os⟩ := s; obtain ⟨h1, h⟩ := h
    have hsub := sub_enumerate
    have q1 : ∀ {A' : Around} {E : Value → Shared → Prop} {Q : Value → Shared → Prop}, Q (.ref hp.objs.size) ⟨hp.push o, g, d, tk, os⟩ → wpAny (model prog w) A' (pyIter v) Q E ⟨hp, g, d, tk, os⟩ :=
      fun q => B.iter prog w _ _ ⟨hp, g, d, tk, os⟩ _ h1 q
    wp_walk using q1
    refine wpAny_stack_any fun st => wpAny_pure ?_
    split
    · rename_i c _ _ _ _ _
      cases (c == Value.type "enumerate")
      · wp_walk using q1
        exact ⟨_, rfl, h⟩
      · wp_walk using q1
        exact ⟨_, rfl, h⟩
    · wp_walk using q1
      exact ⟨_, rfl, h⟩
section
variable {prog : Program} {w : World} {A : Around} {E : Value → Shared → Prop} {s : Shared}
theorem call_enum1 {v : Value} {o : Obj} {H : Heap → Prop} {Q : Value → Shared → Prop} (B : Begins v o H) (h1 : H s.heap)
    (h : ∀ h', IsEnum h' (s.heap.objs.size + 1) s.heap.objs.size 0 .none → h'.get? s.heap.objs.size = some o → h'.objs.size = s.heap.objs.size + 2 →
      (∀ b o, s.heap.get? b = some o → h'.get? b = some o) → Q (.ref (s.heap.objs.size + 1)) { s with heap := h' }) :
    wpAny (model prog w) A (call (.type "enumerate") [v]) Q E s := by
  refine callType_new F.called_enumerate (by decide) (F.typeCall_enumerate_1 _) (F.newCall_enumerate_1 _) (fun obj => F.args_object_init_2 obj _) F.entry_enumerate_new
    (meets_enum1 B) ⟨h1, ?_⟩
  have hz : (s.heap.push o).objs.size = s.heap.objs.size + 1 := Heap.size_push ..
  show _ ∧ _
  rw [hz]
  have he : IsEnum ((s.heap.push o).push { cls := .type "enumerate", data := .fields #[.none, .bool false, .ref s.heap.objs.size, rawInt 0, .none, .none] }) (s.heap.objs.size + 1) s.heap.objs.size 0 .none := by
    have := Heap.get?_push_size (s.heap.push o) (o := { cls := .type "enumerate", data := .fields #[.none, .bool false, .ref s.heap.objs.size, rawInt 0, .none, .none] }) rfl
    rw [hz] at this; exact this
  refine ⟨⟨_, he, rfl⟩, h _ he (Heap.get?_push_of_some _ (Heap.get?_push_size _ B.free)) (by rw [Heap.size_push, hz]) fun b o x => Heap.get?_push_of_some _ (Heap.get?_push_of_some _ x)⟩
end
def IteB (K : PySem.W.Frag) (b : Bool) (a : Addr) : It :=
  ⟨fun i H => ∃ (xs : List V) (x : V), SqB b K H a xs ∧ xs[i]? = some x, fun i H v H' => ∃ T x, v = .ref T ∧ H T = none ∧ H' = upd H T (.tup [.int (i : Nat), x]) ∧ ∀ xs, SqB b K H a xs → xs[i]? = some x, fun i H => ∃ xs : List V, SqB b K H a xs ∧ xs.length = i⟩
theorem turn_enumB {P : Program} {w : World} {K : PySem.W.Frag} {elts : List Expr} {kk : Nat} {tpos : Pos} {b : Bool} (a e it : Addr) :
    Turn P w K (.Tuple elts kk tpos) (IteB K b a) [e, it] e (fun i h => (∃ old, IsEnum h e it ((i : Nat) : Int) old) ∧ AtB b h it a i ∧ e ≠ it) where
  mem := by simp
  obj := fun i h st c hb => by
    obtain ⟨⟨old, he⟩, hi, _⟩ := st
    have e' : c = e ∨ c = it := by simpa using hb
    rcases e' with z | z
    · rw [z]; exact ⟨_, he, fun v q => nomatch q⟩
    · rw [z]; exact atB_obj hi
  keep := fun i h h' st k => let ⟨⟨old, he⟩, hi, hne⟩ := st; ⟨⟨old, k e (by simp) _ he⟩, hi.at fun o q => k it (by simp) o q, hne⟩
  item := by
    intro X hP hw hK hc i pins s σ H E I hf st hg
    subst hP hw hK
    obtain ⟨⟨old, he⟩, hit, hne⟩ := st
    obtain ⟨xs, x, hq, hx⟩ := hg
    obtain ⟨its, rv, p⟩ := hq.get I
    obtain ⟨u, hu, ru⟩ := rv.get hx
    have hel : e < s.heap.objs.size := Heap.lt_size he
    have hil : it < s.heap.objs.size := by obtain ⟨o, q, _⟩ := atB_obj hit; exact Heap.lt_size q
    have na : a ≠ it := apartB p hit
    have ne : e ≠ a := fun z => by
      cases b
      · obtain ⟨o, ho, hc1, _⟩ : s.heap.IsList a its.toArray := p
        rw [← z] at ho
        have q := Option.some.inj (ho.symm.trans he)
        have hc2 : Value.type "enumerate" = Value.type "list" := by rw [q] at hc1; exact hc1
        exact absurd (Value.type.inj hc2) (by decide)
      · obtain ⟨o, ho, hc1, _⟩ : s.heap.IsTuple a its.toArray := p
        rw [← z] at ho
        have q := Option.some.inj (ho.symm.trans he)
        have hc2 : Value.type "enumerate" = Value.type "tuple" := by rw [q] at hc1; exact hc1
        exact absurd (Value.type.inj hc2) (by decide)
    have j1 : i < its.toArray.size := by obtain ⟨q, _⟩ := List.getElem?_eq_some_iff.mp hu; simpa using q
    refine wpAny_pyNext_enum_itemD (drawsB (A := X.A.in1) b (show X.A.in1.handled = none from I.ok.hd hc) it a na its.toArray) he ⟨hit, p⟩ j1 hne (by simp [hne, ne]) fun y h' tk ey ho hst' hT hsz hk => ?_
    have ey' : y = u := by
      have : its.toArray[i]? = some u := by simpa using hu
      rw [this] at ey; exact (Option.some.inj ey).symm
    subst ey'
    refine ⟨_, rfl, wpAny_letOwnedTupleGo_enum (s := { s with heap := h', toks := tk + 1 }) ho fun h'' he' sb => ?_⟩
    have hT2 : h''.get? s.heap.objs.size = some { cls := .type "tuple", data := .seq #[.int i tk, y] } := (sb.2 _ (Nat.ne_of_gt hel)).trans hT
    have new : ObjOk X.prog X.w (upd H s.heap.objs.size (.tup [.int (i : Nat), x])) h'' s.heap.objs.size (.tup [.int (i : Nat), x]) :=
      ⟨by show 2 ≤ sizeLine; decide, [.int i tk, y], .cons ⟨_, rfl⟩ (.cons ru .nil), ⟨_, hT2, rfl, _, rfl⟩⟩
    have I1 : Inv X pins σ (upd H s.heap.objs.size (.tup [.int (i : Nat), x])) { s with heap := h'', toks := tk + 1 } :=
      I.turnedNew (t' := tk + 1) (ch := [e, it]) (fun c ob hb q => (sb.2 c (fun z => hb (by simp [z]))).trans (hk c ob (fun z => hb (by simp [z])) (fun z => hb (by simp [z])) q)) hf (Nat.le_refl _) new
    refine ⟨.ref s.heap.objs.size, _, I1, rfl, ⟨_, x, rfl, I.hok.fresh (Nat.le_refl _), rfl, fun ys hy => by rw [hy.inj I hq]; exact hx⟩, ⟨⟨y, ?_⟩, hst'.1.at fun o q => (sb.2 it (Ne.symm hne)).trans q, hne⟩, fun c hb => ?_⟩
    · have e1 : ((i + 1 : Nat) : Int) = (i : Int) + 1 := by omega
      rw [e1]; exact he'
    · have hb' : c < s.heap.objs.size := by
        have e' : c = e ∨ c = it := by simpa using hb
        rcases e' with z | z
        · rw [z]; exact hel
        · rw [z]; exact hil
      rw [upd_ne (Nat.ne_of_lt hb')]
      exact (hf c hb).1
  done := by
    intro X hP hw hK hc i pins s σ H E I hf st hg
    subst hP hw hK
    obtain ⟨⟨old, he⟩, hit, hne⟩ := st
    obtain ⟨xs, hq, hx⟩ := hg
    obtain ⟨its, rv, p⟩ := hq.get I
    obtain ⟨f0, f1, f2, f3, f4, f5⟩ := hf it (by simp)
    have hl := rv.length
    have na : a ≠ it := apartB p hit
    have hn : its.toArray.size = i := by rw [List.size_toArray]; omega
    exact wpAny_pyNext_enum_endD (drawsB (A := X.A.in1) b (show X.A.in1.handled = none from I.ok.hd hc) it a na its.toArray) he (by rw [hn]; exact ⟨hit, p⟩) fun h' eb => ⟨rfl, I.turned (t' := s.toks) (fun c o hb q => eb c o hb q) f0 f1 f3 f4 f5⟩
  self := fun A i s Q E st h => let ⟨⟨_, he⟩, _⟩ := st; wpAny_pyIter_enum he h
def iEnumB (K : PySem.W.Frag) (ta : TA) : TI := fun σ H R => ta σ H fun vs H1 => ∃ b a xs, vs = [.ref a] ∧ SqB b K H1 a xs ∧ R (IteB K b a) H1
theorem pi_enumB {X : Cx} {e : Expr} {ta : TA} {p pos tpos : Pos} {elts : List Expr} {kk : Nat} (hg : Gl X "enumerate") (hm : X.mg "enumerate" = none) (ha : PA X [e] ta) (hs : starEach [e] X.env = [(false, eval e X.env)] := by rfl) :
    PI X (.Tuple elts kk tpos) (.Call (.Name "enumerate" p) [e] [] pos) (iEnumB X.K ta) := by
  refine ⟨fun pins s σ H R I h => ?_⟩
  refine Call_ (ld_blt I hg hm boot_enumerate (PyProof.Rows.callWith_type1 (thn (ha.run pos pins s σ H _ I h) fun us s1 ⟨vs, H1, I1, r1, q1⟩ => ?_) hs rfl))
  obtain ⟨b, a, xs, ex, hq, q⟩ := q1
  subst ex
  cases r1 with
  | cons r rr =>
    cases rr
    cases r
    obtain ⟨its, rv, p'⟩ := hq.get I1
    refine call_enum1 (beginsB b a its.toArray) p' fun h' he hit hsz hk => wpAny_pyIter_enum he ?_
    have I2 : Inv X pins σ H1 { s1 with heap := h' } := I1.kept (t' := s1.toks) hk
    refine ⟨s1.heap.objs.size + 1, [s1.heap.objs.size + 1, s1.heap.objs.size], _, _, H1, rfl, I2, turn_enumB a (s1.heap.objs.size + 1) s1.heap.objs.size, ⟨⟨.none, he⟩, beB_at hit, Nat.succ_ne_self _⟩, fun c hb => ?_, q⟩
    have e' : c = s1.heap.objs.size + 1 ∨ c = s1.heap.objs.size := by simpa using hb
    have hle : s1.heap.objs.size ≤ c := by
      rcases e' with z | z
      · rw [z]; exact Nat.le_add_right _ _
      · rw [z]; exact Nat.le_refl _
    exact I1.fpOk hle (I1.hok.fresh hle)
def mEnumB (m : En → Option (List D)) : En → Option (List D) := fun ρ => (m ρ).bind fun ds => match ds with
  | [.list xs] => some (nums 0 xs)
  | [.tuple xs] => some (nums 0 xs)
  | _ => none
theorem it_enumB {K : PySem.W.Frag} {ta : TA} {m : En → Option (List D)} (ha : TAm K ta m) : IT K (iEnumB K ta) (mEnumB m) := by
  refine ⟨fun {H0 T0 σ ρ H T ds} G h R q => ?_⟩
  obtain ⟨as, hx, h⟩ := bind_some h
  refine ha.run G hx _ fun vs H1 s1 d1 p1 => ?_
  have go : ∀ (b : Bool) (a : Addr) (ys : List V) (xs : List D), (∀ {H : Hp} {T : Ov}, Same H1 H → Dis H T → SqB b K (ov H T) a ys) → DpAll K H1 ys xs → ds = nums 0 xs → R (IteB K b a) (ov H1 T) := by
    intro b a ys xs hs gy e
    subst e
    have ly := dpa_len gy
    refine q _ H1 s1 d1 ⟨fun {H T} i sm dis hi => ?_, fun {H T} sm dis => ?_, fun {H T} i {x Hc d} sm dis hd y => ?_⟩
    · rw [nums_len] at hi
      have i1 : i < ys.length := by rw [ly]; exact hi
      exact ⟨ys, ys[i], hs sm dis, by simp [i1]⟩
    · exact ⟨ys, hs sm dis, by rw [nums_len, ly]⟩
    · obtain ⟨p, xx, rfl, np, rfl, ex⟩ := y
      obtain ⟨dx, hdx, rfl⟩ := nums_get hd
      obtain ⟨wx, hwx, gwx⟩ := dpa_get gy hdx
      have := ex ys (hs sm dis)
      rw [hwx] at this
      cases this
      obtain ⟨nT, nH⟩ := ov_free np
      have sn : Same H (upd H p (.tup [.int (i : Nat), xx])) := same_new nH
      refine ⟨_, upd_ov nT, sn, dis_upd dis nT nH, .tup (.inl (.of upd_same)) (.cons ?_ (.cons (dp_mono sn (dp_mono sm gwx)) .nil))⟩
      rw [Nat.zero_add]
      exact .int _
  split at h
  · cases h
    obtain ⟨v, rfl, g⟩ := dpa_one p1
    obtain ⟨a, ys, rfl, hs, gy⟩ := dp_lst g
    exact ⟨false, a, ys, rfl, sql_ov d1 hs, go false a ys _ (fun sm dis => sql_ov dis (sm.seq hs)) gy rfl⟩
  · cases h
    obtain ⟨v, rfl, g⟩ := dpa_one p1
    obtain ⟨a, ys, rfl, hs, gy⟩ := dp_tup g
    exact ⟨true, a, ys, rfl, sqt_ov d1 hs, go true a ys _ (fun sm dis => sqt_ov dis (Same.sqt sm hs)) gy rfl⟩
  · cases h
end DD

set_option Elab.async false
set_option linter.all false
set_option maxRecDepth 100000
set_option maxHeartbeats 4000000
/-! reckoning with mirrors -/
namespace DD
open PySem PySem.Spec PyProof.Rows L2
section
variable {ρ ρ' : En} {a b : En → Option Fl} {f : Fl} {d e : D}
theorem seq_nx (h : a ρ = some (.nx ρ')) : sSeq a b ρ = b ρ' := by unfold sSeq; rw [h]; rfl
theorem seq_rt (h : a ρ = some (.rt d)) : sSeq a b ρ = some (.rt d) := by unfold sSeq; rw [h]; rfl
theorem if_t {c : En → Option Bool} (h : c ρ = some true) : sIf c a b ρ = a ρ := by unfold sIf; rw [h]; rfl
theorem if_f {c : En → Option Bool} (h : c ρ = some false) : sIf c a b ρ = b ρ := by unfold sIf; rw [h]; rfl
theorem asg_set {m : En → Option D} {i : Nat} (h : m ρ = some d) : sAsg m (gSet i) ρ = some (.nx (ρ.set i (some (.val d)))) := by unfold sAsg; rw [h]; rfl
theorem par_set {m n : En → Option D} {i j : Nat} (h : m ρ = some d) (k : n ρ = some e) : sPar i j m n ρ = some (.nx ((ρ.set i (some (.val d))).set j (some (.val e)))) := by unfold sPar; rw [h, k]; rfl
theorem ret_of {m : En → Option D} (h : m ρ = some d) : sRet m ρ = some (.rt d) := by unfold sRet; rw [h]; rfl
theorem op_of {g : D → D → Option D} {m n : En → Option D} {x y : D} (h : m ρ = some x) (k : n ρ = some y) : mOp g m n ρ = g x y := by unfold mOp; rw [h, k]; rfl
theorem un_of {g : D → Option D} {m : En → Option D} {x : D} (h : m ρ = some x) : mUn g m ρ = g x := by unfold mUn; rw [h]; rfl
theorem call_of {g : List D → Option D} {m : En → Option (List D)} {x : List D} (h : m ρ = some x) : mCall g m ρ = g x := by unfold mCall; rw [h]; rfl
theorem cons_of {m : En → Option D} {n : En → Option (List D)} {x : D} {y : List D} (h : m ρ = some x) (k : n ρ = some y) : mCons m n ρ = some (x :: y) := by unfold mCons; rw [h, k]; rfl
theorem nil_of : mNil ρ = some [] := rfl
theorem test_of {m : En → Option D} {c : Bool} (h : m ρ = some (.bool c)) : mTest m ρ = some c := by unfold mTest; rw [h]; rfl
theorem tru_of {m : En → Option D} {x : D} (h : m ρ = some x) : mTru m ρ = tru x := by unfold mTru; rw [h]; rfl
theorem tup_of {m : En → Option (List D)} {x : List D} (h : m ρ = some x) (k : x.length ≤ cap) : mTup m ρ = some (.tuple x) := by unfold mTup; rw [h]; simp [sized, k]
theorem lst_of {m : En → Option (List D)} {x : List D} (h : m ρ = some x) (k : x.length ≤ cap) : mLst m ρ = some x := by unfold mLst; rw [h]; simp [sized, k]
theorem list_of {m : En → Option (List D)} {x : List D} (h : m ρ = some x) : mList m ρ = some (.list x) := by unfold mList; rw [h]; rfl
theorem lim_of {n : Nat} {m : List D → Option D} {x : List D} (h : x.length = n) : lim n m x = m x := by unfold lim; rw [if_pos h]
theorem lim1 {m : List D → Option D} {x : D} : lim 1 m [x] = m [x] := rfl
theorem lim2 {m : List D → Option D} {x y : D} : lim 2 m [x, y] = m [x, y] := rfl
theorem lim3 {m : List D → Option D} {x y z : D} : lim 3 m [x, y, z] = m [x, y, z] := rfl
theorem or_t {m n : En → Option Bool} (h : m ρ = some true) : mOr m n ρ = some true := by unfold mOr; rw [h]; rfl
theorem or_f {m n : En → Option Bool} (h : m ρ = some false) : mOr m n ρ = n ρ := by unfold mOr; rw [h]; rfl
theorem and_t {m n : En → Option Bool} (h : m ρ = some true) : mAnd m n ρ = n ρ := by unfold mAnd; rw [h]; rfl
theorem and_f {m n : En → Option Bool} (h : m ρ = some false) : mAnd m n ρ = some false := by unfold mAnd; rw [h]; rfl
theorem not_of {m : En → Option Bool} {c : Bool} (h : m ρ = some c) : mNot m ρ = some (!c) := by unfold mNot; rw [h]; rfl
theorem andV_t {m n : En → Option D} (h : m ρ = some (.bool true)) : mAndV m n ρ = n ρ := by unfold mAndV; rw [h]; rfl
theorem andV_f {m n : En → Option D} (h : m ρ = some (.bool false)) : mAndV m n ρ = some (.bool false) := by unfold mAndV; rw [h]; rfl
theorem notV_of {m : En → Option D} {c : Bool} (h : m ρ = some (.bool c)) : mNotV m ρ = some (.bool (!c)) := by unfold mNotV; rw [h]; rfl
theorem ifE_t {c : En → Option Bool} {m n : En → Option D} (h : c ρ = some true) : mIfE c m n ρ = m ρ := by unfold mIfE; rw [h]; rfl
theorem ifE_f {c : En → Option Bool} {m n : En → Option D} (h : c ρ = some false) : mIfE c m n ρ = n ρ := by unfold mIfE; rw [h]; rfl
theorem mDef_rt {N : Nat} {ds : List D} (h : a (start0 N ds) = some (.rt d)) : mDef N a ds = some d := by unfold mDef; rw [h]; rfl
theorem dEq_of (h : SeqAt.shaped d = true) (k : SeqAt.shaped e = true) : dEq d e = some (.bool (PyData.eqv d e)) := by unfold dEq; rw [h, k]; rfl
theorem dNe_of (h : SeqAt.shaped d = true) (k : SeqAt.shaped e = true) : dNe d e = some (.bool (!PyData.eqv d e)) := by unfold dNe; rw [h, k]; rfl
end

theorem dLen_list {ds : List D} (h : ds.length ≤ cap) : dLen [.list ds] = some (.int ds.length) := if_pos h
theorem dLen_tup {ds : List D} (h : ds.length ≤ cap) : dLen [.tuple ds] = some (.int ds.length) := if_pos h
theorem dLen_str {z : Str} (h : z.length ≤ cap) : dLen [.str z] = some (.int z.length) := if_pos h
theorem dMod_of {i j : Int} (h : 0 < j) : dMod (.int i) (.int j) = some (.int (i % j)) := if_pos h
theorem dFdiv_of {i j : Int} (h : 0 < j) (k : j.natAbs < 2 ^ 64) : dFdiv (.int i) (.int j) = some (.int (i / j)) := if_pos ⟨h, by
  have := PySem.Flt.log2_lt_of (show 0 < 64 by decide) k
  omega⟩
theorem dMul_r {i j : Int} (h : -(2 ^ 64) < j) (k : j < 2 ^ 64) : dMul (.int i) (.int j) = some (.int (i * j)) := by
  have : inW j = true := by unfold inW; rw [decide_eq_true h, decide_eq_true k]; rfl
  show (if (inW i || inW j) = true then _ else _) = _
  rw [this, Bool.or_true, if_pos rfl]
theorem whl_t {c : En → Option Bool} {b : En → Option Fl} {n : Nat} {ρ ρ2 : En} (h : c ρ = some true) (k : b ρ = some (.nx ρ2)) : whl c b (n + 1) ρ = whl c b n ρ2 := by
  have : whl c b (n + 1) ρ = (c ρ).bind fun x => if x = true then (b ρ).bind fun f => match f with
      | .nx ρ2 => whl c b n ρ2
      | .ct ρ2 => whl c b n ρ2
      | .bk ρ2 => some (.nx ρ2)
      | .rt d => some (.rt d)
    else some (.nx ρ) := rfl
  rw [this, h]
  show ((b ρ).bind fun f => _) = _
  rw [k]
  rfl
theorem whl_f {c : En → Option Bool} {b : En → Option Fl} {n : Nat} {ρ : En} (h : c ρ = some false) : whl c b (n + 1) ρ = some (.nx ρ) := by
  have : whl c b (n + 1) ρ = (c ρ).bind fun x => if x = true then (b ρ).bind fun f => match f with
      | .nx ρ2 => whl c b n ρ2
      | .ct ρ2 => whl c b n ρ2
      | .bk ρ2 => some (.nx ρ2)
      | .rt d => some (.rt d)
    else some (.nx ρ) := rfl
  rw [this, h]
  rfl

/-! ### comprehensions, loops -/
theorem coll_map {g : D → En → Option En} {e : En → Option D} {ρ : En} {f : D → D} : ∀ {ds : List D}, (∀ d ∈ ds, ∃ ρ1, g d ρ = some ρ1 ∧ e ρ1 = some (f d)) → coll g mYes e ρ ds = some (ds.map f)
  | [], _ => rfl
  | d :: ds, h => by
    obtain ⟨ρ1, h1, h2⟩ := h d List.mem_cons_self
    have ih := coll_map (g := g) (e := e) (ρ := ρ) (f := f) (ds := ds) fun x hx => h x (List.mem_cons_of_mem _ hx)
    have s1 : coll g mYes e ρ (d :: ds) = (g d ρ).bind fun ρ1 => (mYes ρ1).bind fun b => if b = true then (e ρ1).bind fun x => (coll g mYes e ρ ds).map fun r => x :: r else coll g mYes e ρ ds := rfl
    rw [s1, h1]
    show ((e ρ1).bind fun x => (coll g mYes e ρ ds).map fun r => x :: r) = _
    rw [h2, ih]
    rfl
theorem lc_of {it : En → Option (List D)} {g : D → En → Option En} {e : En → Option D} {ρ : En} {vs : List Nat} {ds : List D} {f : D → D} (hi : it ρ = some ds) (hz : ds.length ≤ cap) (h : ∀ d ∈ ds, ∃ ρ1, g d (wipeM ρ vs) = some ρ1 ∧ e ρ1 = some (f d)) :
    mLc it g mYes e vs ρ = some (ds.map f) := by
  unfold mLc
  rw [hi]
  show (if ds.length ≤ cap then _ else _) = _
  rw [if_pos hz]
  exact coll_map h
theorem bools_map (p : D → Bool) : ∀ ds : List D, bools (ds.map fun d => .bool (p d)) = some (ds.map p)
  | [] => rfl
  | d :: ds => by
    show (bools (ds.map fun d => .bool (p d))).map _ = _
    rw [bools_map p ds]
    rfl
theorem dAll_map (p : D → Bool) (ds : List D) : dAll [.list (ds.map fun d => .bool (p d))] = some (.bool (ds.all p)) := by
  show (bools (ds.map fun d => .bool (p d))).map (fun bs => PyData.bool (bs.all id)) = _
  rw [bools_map]
  show some (PyData.bool ((ds.map p).all id)) = _
  rw [List.all_map]
  rfl
theorem iter_tup {a : En → Option D} {ρ : En} {ds : List D} (h : a ρ = some (.tuple ds)) : mIter a ρ = some ds := by unfold mIter; rw [h]; rfl
theorem iter_lst {a : En → Option D} {ρ : En} {ds : List D} (h : a ρ = some (.list ds)) : mIter a ρ = some ds := by unfold mIter; rw [h]; rfl
theorem chain_of {g h : D → D → Option D} {a b c : En → Option D} {ρ : En} {x y z : D} {p q : Bool} (ha : a ρ = some x) (hb : b ρ = some y) (hc : c ρ = some z) (e1 : g x y = some (.bool p)) (e2 : h y z = some (.bool q)) : mChain g h a b c ρ = some (.bool (p && q)) := by
  unfold mChain
  rw [ha]
  show ((b ρ).bind fun y => _) = _
  rw [hb]
  show ((g x y).bind fun z => _) = _
  rw [e1]
  show (if p = true then (c ρ).bind fun w => h y w else some (.bool false)) = _
  cases p with
  | true => rw [if_pos rfl, hc]; show h y z = _; rw [e2]; rfl
  | false => rw [if_neg Bool.false_ne_true]; rfl

/-! ### a drawn number -/
def kIn (ρ : En) (i : Nat) (d : D) : Prop := ρ[i]? = some (some (.val d))
theorem var_of {ρ : En} {i : Nat} {d : D} (h : ρ[i]? = some (some (.val d))) : mVar i ρ = some d := by unfold mVar; rw [h]

def b_pick : En → Option Fl :=
  (sSeq (sAsg (mIfE (mTest (mOp dNe (mVar 0) (mList (mLst mNil)))) (mOp dIx (mVar 0) (mOp dMod (mVar 1) (mCall dLen (mCons (mVar 0) mNil)))) (mC (.int 0))) (gSet 3))
  (sSeq (sPar 4 5 (mOp dFdiv (mVar 3) (mOp dPow (mC (.int 10)) (mC (.int 18)))) (mOp dFdiv (mVar 1) (mCall dMax2 (mCons (mCall dLen (mCons (mVar 0) mNil)) (mCons (mC (.int 1)) mNil)))))
  (sSeq (sWhile (fun ρ => fuelOf 5 ρ) (mAnd (mTest (mOp dGt (mVar 4) (mC (.int 0)))) (mTest (mOp dGt (mVar 5) (mC (.int 0)))))
  (sPar 4 5 (mOp dFdiv (mVar 4) (mC (.int 840))) (mOp dSub (mVar 5) (mC (.int 1)))))
  (sSeq (sIf (mTest (mOp dGt (mVar 4) (mC (.int 0))))
  (sRet (mOp dMod (mOp dMod (mVar 4) (mC (.int 840))) (mVar 2)))
  sNext)
  (sSeq (sAsg (mOp dMod (mOp dMul (mOp dAdd (mOp dMul (mVar 3) (mC (.int 31))) (mOp dMul (mC (.int 6151)) (mOp dAdd (mVar 1) (mC (.int 1))))) (mC (.int 40692))) (mC (.int 2147483399))) (gSet 6))
  (sRet (mOp dMod (mOp dMod (mOp dAdd (mOp dMul (mVar 6) (mVar 6)) (mOp dFdiv (mVar 6) (mC (.int 31)))) (mC (.int 2147483629))) (mVar 2))))))))
def m_pick (ds : List D) : Option D := mDef 7 b_pick ds

theorem shaped_ints (ns : List Int) : SeqAt.shaped (.list (ns.map PyData.int)) = true := by
  have h1 : ∀ ns : List Int, PyData.canLayAll0 (ns.map PyData.int) = true := by
    intro ns
    induction ns with
    | nil => simp [PyData.canLayAll0]
    | cons n r ih => simp [PyData.canLayAll0, PyData.canLay0, ih]
  have h2 : ∀ ns : List Int, PyData.depthAll (ns.map PyData.int) = 0 := by
    intro ns
    induction ns with
    | nil => simp [PyData.depthAll]
    | cons n r ih => simp [PyData.depthAll, PyData.depth, ih]
  unfold SeqAt.shaped
  simp [PyData.canLay0, PyData.depth, h1, h2]
theorem shaped_nil : SeqAt.shaped (.list []) = true := shaped_ints []
theorem eqv_nil (ns : List Int) : PyData.eqv (.list (ns.map PyData.int)) (.list []) = ns.isEmpty := by
  cases ns <;> simp [PyData.eqv, PyData.eqvAll]
/-- the loop of a drawn number: rest and turn stay ints -/
theorem pick_loop : ∀ (n : Nat) (x : Int) (ρ : En) (sc k many c : D) (r t : Int) (g : Option Sl), 0 ≤ t → t.toNat + 1 = n →
    ∃ r' t' : Int, whl (mAnd (mTest (mOp dGt (mVar 4) (mC (.int 0)))) (mTest (mOp dGt (mVar 5) (mC (.int 0))))) (sPar 4 5 (mOp dFdiv (mVar 4) (mC (.int 840))) (mOp dSub (mVar 5) (mC (.int 1)))) n
      [some (.val sc), some (.val k), some (.val many), some (.val c), some (.val (.int r)), some (.val (.int t)), g] = some (.nx [some (.val sc), some (.val k), some (.val many), some (.val c), some (.val (.int r')), some (.val (.int t')), g])
  | 0, _, _, _, _, _, _, _, _, _, h, e => by omega
  | n + 1, x, ρ, sc, k, many, c, r, t, g, h, e => by
    have hc : mAnd (mTest (mOp dGt (mVar 4) (mC (.int 0)))) (mTest (mOp dGt (mVar 5) (mC (.int 0)))) [some (.val sc), some (.val k), some (.val many), some (.val c), some (.val (.int r)), some (.val (.int t)), g] = some (decide (0 < r) && decide (0 < t)) := by
      have a1 : mTest (mOp dGt (mVar 4) (mC (.int 0))) [some (.val sc), some (.val k), some (.val many), some (.val c), some (.val (.int r)), some (.val (.int t)), g] = some (decide (0 < r)) := rfl
      have a2 : mTest (mOp dGt (mVar 5) (mC (.int 0))) [some (.val sc), some (.val k), some (.val many), some (.val c), some (.val (.int r)), some (.val (.int t)), g] = some (decide (0 < t)) := rfl
      cases hq : decide (0 < r) with
      | true => rw [hq] at a1; rw [and_t a1, a2, Bool.true_and]
      | false => rw [hq] at a1; rw [and_f a1, Bool.false_and]
    cases hq : (decide (0 < r) && decide (0 < t)) with
    | true =>
      rw [hq] at hc
      rw [Bool.and_eq_true] at hq
      have ht : 0 < t := of_decide_eq_true hq.2
      have b1 : mOp dFdiv (mVar 4) (mC (.int 840)) [some (.val sc), some (.val k), some (.val many), some (.val c), some (.val (.int r)), some (.val (.int t)), g] = some (.int (r / 840)) := by
        rw [op_of (show mVar 4 _ = some (.int r) from rfl) (show mC (.int 840) _ = some (.int 840) from rfl)]
        exact dFdiv_of (by decide) (by decide)
      have b2 : mOp dSub (mVar 5) (mC (.int 1)) [some (.val sc), some (.val k), some (.val many), some (.val c), some (.val (.int r)), some (.val (.int t)), g] = some (.int (t - 1)) := rfl
      have hb := par_set (i := 4) (j := 5) b1 b2
      rw [whl_t hc hb]
      exact pick_loop n x ρ sc k many c (r / 840) (t - 1) g (by omega) (by omega)
    | false =>
      rw [hq] at hc
      rw [whl_f hc]
      exact ⟨r, t, rfl⟩
theorem log18 : ((10 : Int) ^ 18).natAbs.log2 < 9000 := by decide +kernel
theorem pick_ok (ns : List Int) (h63 : ns.length ≤ 63) (k many : Int) (hk : 0 ≤ k) (hk2 : k ≤ 100000) (hm : 1 ≤ many) (hm2 : many ≤ 2000000000) :
    ∃ r : Int, m_pick [.list (ns.map .int), .int k, .int many] = some (.int r) ∧ 0 ≤ r ∧ r < many := by
  have hlen : ((ns.map PyData.int).length : Nat) ≤ cap := by rw [List.length_map]; exact Nat.le_trans h63 (by decide)
  -- the cell
  have hcell : ∃ c : Int, mIfE (mTest (mOp dNe (mVar 0) (mList (mLst mNil)))) (mOp dIx (mVar 0) (mOp dMod (mVar 1) (mCall dLen (mCons (mVar 0) mNil)))) (mC (.int 0)) (start0 7 [.list (ns.map .int), .int k, .int many]) = some (.int c) := by
    have t0 : mTest (mOp dNe (mVar 0) (mList (mLst mNil))) (start0 7 [.list (ns.map .int), .int k, .int many]) = some (!ns.isEmpty) := by
      refine test_of ?_
      have e1 : mVar 0 (start0 7 [.list (ns.map .int), .int k, .int many]) = some (.list (ns.map .int)) := rfl
      have e2 : mList (mLst mNil) (start0 7 [.list (ns.map .int), .int k, .int many]) = some (.list []) := rfl
      rw [op_of e1 e2, dNe_of (shaped_ints ns) shaped_nil, eqv_nil]
    cases hn : ns with
    | nil =>
      subst hn
      exact ⟨0, by rw [ifE_f t0]; rfl⟩
    | cons n0 r0 =>
      have ne : 0 < ns.length := by rw [hn]; exact Nat.succ_pos _
      rw [← hn]
      rw [hn] at t0
      rw [← hn] at t0
      have t1 : mTest (mOp dNe (mVar 0) (mList (mLst mNil))) (start0 7 [.list (ns.map .int), .int k, .int many]) = some true := by
        rw [t0, hn]; rfl
      rw [ifE_t t1]
      have e1 : mVar 0 (start0 7 [.list (ns.map .int), .int k, .int many]) = some (.list (ns.map .int)) := rfl
      have e2 : mOp dMod (mVar 1) (mCall dLen (mCons (mVar 0) mNil)) (start0 7 [.list (ns.map .int), .int k, .int many]) = some (.int (k % (ns.length : Int))) := by
        have e3 : mCall dLen (mCons (mVar 0) mNil) (start0 7 [.list (ns.map .int), .int k, .int many]) = some (.int ns.length) := by
          rw [call_of (cons_of e1 nil_of), dLen_list hlen, List.length_map]
        rw [op_of (show mVar 1 _ = some (.int k) from rfl) e3]
        exact dMod_of (by omega)
      rw [op_of e1 e2]
      have b1 : 0 ≤ k % (ns.length : Int) := Int.emod_nonneg _ (by omega)
      have b2 : k % (ns.length : Int) < ns.length := Int.emod_lt_of_pos _ (by omega)
      obtain ⟨j, hj⟩ : ∃ j : Nat, k % (ns.length : Int) = (j : Int) := ⟨(k % (ns.length : Int)).toNat, by omega⟩
      rw [hj] at b2 ⊢
      have hjl : j < ns.length := by omega
      refine ⟨ns[j], ?_⟩
      show atI (ns.map PyData.int) (j : Int) = _
      exact atI_nat (by rw [List.getElem?_map, List.getElem?_eq_getElem hjl]; rfl)
  obtain ⟨c, hc⟩ := hcell
  have hmax : ∃ y : Int, mCall dMax2 (mCons (mCall dLen (mCons (mVar 0) mNil)) (mCons (mC (.int 1)) mNil)) [some (.val (.list (ns.map .int))), some (.val (.int k)), some (.val (.int many)), some (.val (.int c)), none, none, none] = some (.int y) ∧ 1 ≤ y ∧ y ≤ 63 := by
    have e1 : mVar 0 [some (.val (.list (ns.map .int))), some (.val (.int k)), some (.val (.int many)), some (.val (.int c)), none, none, none] = some (.list (ns.map .int)) := rfl
    have e3 : mCall dLen (mCons (mVar 0) mNil) [some (.val (.list (ns.map .int))), some (.val (.int k)), some (.val (.int many)), some (.val (.int c)), none, none, none] = some (.int ns.length) := by
      rw [call_of (cons_of e1 nil_of), dLen_list hlen, List.length_map]
    rw [call_of (cons_of e3 (cons_of (show mC (.int 1) _ = some (.int 1) from rfl) nil_of))]
    refine ⟨_, rfl, ?_, ?_⟩ <;> (split <;> omega)
  obtain ⟨y, hy, y1, y2⟩ := hmax
  have e2 : sPar 4 5 (mOp dFdiv (mVar 3) (mOp dPow (mC (.int 10)) (mC (.int 18)))) (mOp dFdiv (mVar 1) (mCall dMax2 (mCons (mCall dLen (mCons (mVar 0) mNil)) (mCons (mC (.int 1)) mNil))))
      [some (.val (.list (ns.map .int))), some (.val (.int k)), some (.val (.int many)), some (.val (.int c)), none, none, none] =
      some (.nx [some (.val (.list (ns.map .int))), some (.val (.int k)), some (.val (.int many)), some (.val (.int c)), some (.val (.int (c / 10 ^ 18))), some (.val (.int (k / y))), none]) := by
    have p1 : mOp dPow (mC (.int 10)) (mC (.int 18)) [some (.val (.list (ns.map .int))), some (.val (.int k)), some (.val (.int many)), some (.val (.int c)), none, none, none] = some (.int (10 ^ 18)) := by
      rw [op_of (show mC (.int 10) _ = some (.int 10) from rfl) (show mC (.int 18) _ = some (.int 18) from rfl)]
      rfl
    have p2 : mOp dFdiv (mVar 3) (mOp dPow (mC (.int 10)) (mC (.int 18))) [some (.val (.list (ns.map .int))), some (.val (.int k)), some (.val (.int many)), some (.val (.int c)), none, none, none] = some (.int (c / 10 ^ 18)) := by
      rw [op_of (show mVar 3 _ = some (.int c) from rfl) p1]
      exact dFdiv_of (by decide +kernel) (by decide +kernel)
    have p3 : mOp dFdiv (mVar 1) (mCall dMax2 (mCons (mCall dLen (mCons (mVar 0) mNil)) (mCons (mC (.int 1)) mNil))) [some (.val (.list (ns.map .int))), some (.val (.int k)), some (.val (.int many)), some (.val (.int c)), none, none, none] = some (.int (k / y)) := by
      rw [op_of (show mVar 1 _ = some (.int k) from rfl) hy]
      exact dFdiv_of (by omega) (by omega)
    rw [par_set p2 p3]
    rfl
  have hky : 0 ≤ k / y := Int.ediv_nonneg hk (by omega)
  obtain ⟨r', t', hl⟩ := pick_loop ((k / y).toNat + 1) 0 [] (.list (ns.map .int)) (.int k) (.int many) (.int c) (c / 10 ^ 18) (k / y) none hky rfl
  have fin : ∀ z : Int, ∃ r : Int, (if 0 < many then some (PyData.int (z % many)) else none) = some (.int r) ∧ 0 ≤ r ∧ r < many := fun z =>
    ⟨z % many, by rw [if_pos (by omega)], Int.emod_nonneg _ (by omega), Int.emod_lt_of_pos _ (by omega)⟩
  -- the whole
  have e0 : b_pick (start0 7 [.list (ns.map .int), .int k, .int many]) = (sSeq (sIf (mTest (mOp dGt (mVar 4) (mC (.int 0))))
      (sRet (mOp dMod (mOp dMod (mVar 4) (mC (.int 840))) (mVar 2))) sNext)
      (sSeq (sAsg (mOp dMod (mOp dMul (mOp dAdd (mOp dMul (mVar 3) (mC (.int 31))) (mOp dMul (mC (.int 6151)) (mOp dAdd (mVar 1) (mC (.int 1))))) (mC (.int 40692))) (mC (.int 2147483399))) (gSet 6))
      (sRet (mOp dMod (mOp dMod (mOp dAdd (mOp dMul (mVar 6) (mVar 6)) (mOp dFdiv (mVar 6) (mC (.int 31)))) (mC (.int 2147483629))) (mVar 2)))))
      [some (.val (.list (ns.map .int))), some (.val (.int k)), some (.val (.int many)), some (.val (.int c)), some (.val (.int r')), some (.val (.int t')), none] := by
    unfold b_pick
    rw [seq_nx (asg_set hc)]
    show sSeq _ _ [some (.val (.list (ns.map .int))), some (.val (.int k)), some (.val (.int many)), some (.val (.int c)), none, none, none] = _
    rw [seq_nx e2]
    have hw : sWhile (fun ρ => fuelOf 5 ρ) (mAnd (mTest (mOp dGt (mVar 4) (mC (.int 0)))) (mTest (mOp dGt (mVar 5) (mC (.int 0)))))
        (sPar 4 5 (mOp dFdiv (mVar 4) (mC (.int 840))) (mOp dSub (mVar 5) (mC (.int 1)))) [some (.val (.list (ns.map .int))), some (.val (.int k)), some (.val (.int many)), some (.val (.int c)), some (.val (.int (c / 10 ^ 18))), some (.val (.int (k / y))), none] = _ := hl
    rw [seq_nx hw]
  by_cases hr : 0 < r'
  · have hg : mTest (mOp dGt (mVar 4) (mC (.int 0))) [some (.val (.list (ns.map .int))), some (.val (.int k)), some (.val (.int many)), some (.val (.int c)), some (.val (.int r')), some (.val (.int t')), none] = some true := by
      refine test_of ?_
      rw [op_of (show mVar 4 _ = some (.int r') from rfl) (show mC (.int 0) _ = some (.int 0) from rfl)]
      show some (PyData.bool (decide (0 < r'))) = _
      rw [decide_eq_true hr]
    obtain ⟨r, h1, h2, h3⟩ := fin (r' % 840)
    refine ⟨r, mDef_rt ?_, h2, h3⟩
    rw [e0, seq_rt]
    rw [if_t hg]
    refine ret_of ?_
    have q1 : mOp dMod (mVar 4) (mC (.int 840)) [some (.val (.list (ns.map .int))), some (.val (.int k)), some (.val (.int many)), some (.val (.int c)), some (.val (.int r')), some (.val (.int t')), none] = some (.int (r' % 840)) := rfl
    rw [op_of q1 (show mVar 2 _ = some (.int many) from rfl)]
    exact h1
  · have hg : mTest (mOp dGt (mVar 4) (mC (.int 0))) [some (.val (.list (ns.map .int))), some (.val (.int k)), some (.val (.int many)), some (.val (.int c)), some (.val (.int r')), some (.val (.int t')), none] = some false := by
      refine test_of ?_
      rw [op_of (show mVar 4 _ = some (.int r') from rfl) (show mC (.int 0) _ = some (.int 0) from rfl)]
      show some (PyData.bool (decide (0 < r'))) = _
      rw [decide_eq_false hr]
    have hx : mOp dMod (mOp dMul (mOp dAdd (mOp dMul (mVar 3) (mC (.int 31))) (mOp dMul (mC (.int 6151)) (mOp dAdd (mVar 1) (mC (.int 1))))) (mC (.int 40692))) (mC (.int 2147483399))
        [some (.val (.list (ns.map .int))), some (.val (.int k)), some (.val (.int many)), some (.val (.int c)), some (.val (.int r')), some (.val (.int t')), none] = some (.int ((c * 31 + 6151 * (k + 1)) * 40692 % 2147483399)) := by
      have a1 : mOp dMul (mVar 3) (mC (.int 31)) [some (.val (.list (ns.map .int))), some (.val (.int k)), some (.val (.int many)), some (.val (.int c)), some (.val (.int r')), some (.val (.int t')), none] = some (.int (c * 31)) := by
        rw [op_of (show mVar 3 _ = some (.int c) from rfl) (show mC (.int 31) _ = some (.int 31) from rfl)]
        exact dMul_r (by decide) (by decide)
      have a2 : mOp dMul (mC (.int 6151)) (mOp dAdd (mVar 1) (mC (.int 1))) [some (.val (.list (ns.map .int))), some (.val (.int k)), some (.val (.int many)), some (.val (.int c)), some (.val (.int r')), some (.val (.int t')), none] = some (.int (6151 * (k + 1))) := by
        rw [op_of (show mC (.int 6151) _ = some (.int 6151) from rfl) (show mOp dAdd (mVar 1) (mC (.int 1)) _ = some (.int (k + 1)) from rfl)]
        exact dMul_r (by omega) (by omega)
      have a3 : mOp dAdd (mOp dMul (mVar 3) (mC (.int 31))) (mOp dMul (mC (.int 6151)) (mOp dAdd (mVar 1) (mC (.int 1)))) [some (.val (.list (ns.map .int))), some (.val (.int k)), some (.val (.int many)), some (.val (.int c)), some (.val (.int r')), some (.val (.int t')), none] = some (.int (c * 31 + 6151 * (k + 1))) := by
        rw [op_of a1 a2]
        rfl
      have a4 : mOp dMul (mOp dAdd (mOp dMul (mVar 3) (mC (.int 31))) (mOp dMul (mC (.int 6151)) (mOp dAdd (mVar 1) (mC (.int 1))))) (mC (.int 40692)) [some (.val (.list (ns.map .int))), some (.val (.int k)), some (.val (.int many)), some (.val (.int c)), some (.val (.int r')), some (.val (.int t')), none] = some (.int ((c * 31 + 6151 * (k + 1)) * 40692)) := by
        rw [op_of a3 (show mC (.int 40692) _ = some (.int 40692) from rfl)]
        exact dMul_r (by decide) (by decide)
      rw [op_of a4 (show mC (.int 2147483399) _ = some (.int 2147483399) from rfl)]
      rfl
    let z := (c * 31 + 6151 * (k + 1)) * 40692 % 2147483399
    have z0 : 0 ≤ z := Int.emod_nonneg _ (by decide)
    have z1 : z < 2147483399 := Int.emod_lt_of_pos _ (by decide)
    obtain ⟨r, h1, h2, h3⟩ := fin ((z * z + z / 31) % 2147483629)
    refine ⟨r, mDef_rt ?_, h2, h3⟩
    rw [e0, seq_nx (by rw [if_f hg]; rfl), seq_nx (asg_set hx)]
    refine ret_of ?_
    show mOp dMod (mOp dMod (mOp dAdd (mOp dMul (mVar 6) (mVar 6)) (mOp dFdiv (mVar 6) (mC (.int 31)))) (mC (.int 2147483629))) (mVar 2) [some (.val (.list (ns.map .int))), some (.val (.int k)), some (.val (.int many)), some (.val (.int c)), some (.val (.int r')), some (.val (.int t')), some (.val (.int z))] = _
    have b1 : mOp dMul (mVar 6) (mVar 6) [some (.val (.list (ns.map .int))), some (.val (.int k)), some (.val (.int many)), some (.val (.int c)), some (.val (.int r')), some (.val (.int t')), some (.val (.int z))] = some (.int (z * z)) := by
      rw [op_of (show mVar 6 _ = some (.int z) from rfl) (show mVar 6 _ = some (.int z) from rfl)]
      exact dMul_r (by omega) (by omega)
    have b2 : mOp dFdiv (mVar 6) (mC (.int 31)) [some (.val (.list (ns.map .int))), some (.val (.int k)), some (.val (.int many)), some (.val (.int c)), some (.val (.int r')), some (.val (.int t')), some (.val (.int z))] = some (.int (z / 31)) := by
      rw [op_of (show mVar 6 _ = some (.int z) from rfl) (show mC (.int 31) _ = some (.int 31) from rfl)]
      exact dFdiv_of (by decide) (by decide)
    have b3 : mOp dAdd (mOp dMul (mVar 6) (mVar 6)) (mOp dFdiv (mVar 6) (mC (.int 31))) [some (.val (.list (ns.map .int))), some (.val (.int k)), some (.val (.int many)), some (.val (.int c)), some (.val (.int r')), some (.val (.int t')), some (.val (.int z))] = some (.int (z * z + z / 31)) := by
      rw [op_of b1 b2]
      rfl
    have b4 : mOp dMod (mOp dAdd (mOp dMul (mVar 6) (mVar 6)) (mOp dFdiv (mVar 6) (mC (.int 31)))) (mC (.int 2147483629)) [some (.val (.list (ns.map .int))), some (.val (.int k)), some (.val (.int many)), some (.val (.int c)), some (.val (.int r')), some (.val (.int t')), some (.val (.int z))] = some (.int ((z * z + z / 31) % 2147483629)) := by
      rw [op_of b3 (show mC (.int 2147483629) _ = some (.int 2147483629) from rfl)]
      rfl
    rw [op_of b4 (show mVar 2 _ = some (.int many) from rfl)]
    exact h1
end DD

set_option Elab.async false
set_option linter.all false
set_option maxRecDepth 100000
set_option maxHeartbeats 4000000
/-! reckoning with mirrors by simp -/
namespace DD
local instance : TabQ := ⟨[]⟩
local instance : ExQ := ⟨0, 0⟩
open PySem PySem.Spec PyProof.Rows L2
theorem coll_ex {g : D → En → Option En} {e : En → Option D} {ρ : En} {P : D → Prop} : ∀ {ds : List D}, (∀ d ∈ ds, ∃ ρ1 x, g d ρ = some ρ1 ∧ e ρ1 = some x ∧ P x) → ∃ xs, coll g mYes e ρ ds = some xs ∧ xs.length = ds.length ∧ ∀ x ∈ xs, P x
  | [], _ => ⟨[], rfl, rfl, fun x h => nomatch h⟩
  | d :: ds, h => by
    obtain ⟨ρ1, x, h1, h2, h3⟩ := h d List.mem_cons_self
    obtain ⟨xs, i1, i2, i3⟩ := coll_ex (g := g) (e := e) (ρ := ρ) (P := P) (ds := ds) fun y hy => h y (List.mem_cons_of_mem _ hy)
    refine ⟨x :: xs, ?_, by simp [i2], fun y hy => ?_⟩
    · have s1 : coll g mYes e ρ (d :: ds) = (g d ρ).bind fun ρ1 => (mYes ρ1).bind fun b => if b = true then (e ρ1).bind fun x => (coll g mYes e ρ ds).map fun r => x :: r else coll g mYes e ρ ds := rfl
      rw [s1, h1]
      show ((e ρ1).bind fun x => (coll g mYes e ρ ds).map fun r => x :: r) = _
      rw [h2, i1]
      rfl
    · rcases List.mem_cons.mp hy with rfl | hy
      · exact h3
      · exact i3 y hy
theorem coll_if {g : D → En → Option En} {c : En → Option Bool} {e : En → Option D} {ρ : En} {p : D → Bool} {f : D → D} : ∀ {ds : List D}, (∀ d ∈ ds, ∃ ρ1, g d ρ = some ρ1 ∧ c ρ1 = some (p d) ∧ (p d = true → e ρ1 = some (f d))) → coll g c e ρ ds = some ((ds.filter p).map f)
  | [], _ => rfl
  | d :: ds, h => by
    obtain ⟨ρ1, h1, h2, h3⟩ := h d List.mem_cons_self
    have ih := coll_if (g := g) (c := c) (e := e) (ρ := ρ) (p := p) (f := f) (ds := ds) fun y hy => h y (List.mem_cons_of_mem _ hy)
    have s1 : coll g c e ρ (d :: ds) = (g d ρ).bind fun ρ1 => (c ρ1).bind fun b => if b = true then (e ρ1).bind fun x => (coll g c e ρ ds).map fun r => x :: r else coll g c e ρ ds := rfl
    rw [s1, h1]
    show ((c ρ1).bind fun b => _) = _
    rw [h2]
    show (if p d = true then (e ρ1).bind fun x => (coll g c e ρ ds).map fun r => x :: r else coll g c e ρ ds) = _
    cases hp : p d with
    | true =>
      rw [if_pos rfl, h3 hp, ih, List.filter_cons_of_pos hp]
      rfl
    | false =>
      rw [if_neg Bool.false_ne_true, ih, List.filter_cons_of_neg (by rw [hp]; exact Bool.false_ne_true)]
theorem lc_if {it : En → Option (List D)} {g : D → En → Option En} {c : En → Option Bool} {e : En → Option D} {ρ : En} {vs : List Nat} {ds : List D} {p : D → Bool} {f : D → D} (hi : it ρ = some ds) (hz : ds.length ≤ cap) (h : ∀ d ∈ ds, ∃ ρ1, g d (wipeM ρ vs) = some ρ1 ∧ c ρ1 = some (p d) ∧ (p d = true → e ρ1 = some (f d))) :
    mLc it g c e vs ρ = some ((ds.filter p).map f) := by
  unfold mLc
  rw [hi]
  show (if ds.length ≤ cap then _ else _) = _
  rw [if_pos hz]
  exact coll_if h
/-- texts that pass a test -/
theorem coll_strs {g : D → En → Option En} {c : En → Option Bool} {e : En → Option D} {ρ : En} {p : Str → Bool} : ∀ {l : List Str}, (∀ n ∈ l, ∃ ρ1, g (.str n) ρ = some ρ1 ∧ c ρ1 = some (p n) ∧ e ρ1 = some (.str n)) → coll g c e ρ (l.map .str) = some ((l.filter p).map .str)
  | [], _ => rfl
  | n :: r, h => by
    obtain ⟨ρ1, h1, h2, h3⟩ := h n List.mem_cons_self
    have ih := coll_strs (g := g) (c := c) (e := e) (ρ := ρ) (p := p) (l := r) fun y hy => h y (List.mem_cons_of_mem _ hy)
    have s1 : coll g c e ρ ((n :: r).map .str) = (g (.str n) ρ).bind fun ρ1 => (c ρ1).bind fun b => if b = true then (e ρ1).bind fun x => (coll g c e ρ (r.map .str)).map fun r => x :: r else coll g c e ρ (r.map .str) := rfl
    rw [s1, h1]
    show ((c ρ1).bind fun b => _) = _
    rw [h2]
    show (if p n = true then (e ρ1).bind fun x => (coll g c e ρ (r.map .str)).map fun r => x :: r else coll g c e ρ (r.map .str)) = _
    cases hp : p n with
    | true =>
      rw [if_pos rfl, h3, ih, List.filter_cons_of_pos hp]
      rfl
    | false =>
      rw [if_neg Bool.false_ne_true, ih, List.filter_cons_of_neg (by rw [hp]; exact Bool.false_ne_true)]
theorem lc_strs {it : En → Option (List D)} {g : D → En → Option En} {c : En → Option Bool} {e : En → Option D} {ρ : En} {vs : List Nat} {p : Str → Bool} {l : List Str} (hi : it ρ = some (l.map .str)) (hz : l.length ≤ cap) (h : ∀ n ∈ l, ∃ ρ1, g (.str n) (wipeM ρ vs) = some ρ1 ∧ c ρ1 = some (p n) ∧ e ρ1 = some (.str n)) :
    mLc it g c e vs ρ = some ((l.filter p).map .str) := by
  unfold mLc
  rw [hi]
  show (if (l.map PyData.str).length ≤ cap then _ else _) = _
  rw [if_pos (by rw [List.length_map]; exact hz)]
  exact coll_strs h
theorem shaped_str {a : Str} (h : PyData.strOk a = true) : SeqAt.shaped (.str a) = true := by simp [SeqAt.shaped, PyData.canLay0, PyData.depth, h]
theorem dEq_str {a b : Str} (h : PyData.strOk a = true) (k : PyData.strOk b = true) : dEq (.str a) (.str b) = some (.bool (decide (a = b))) := by rw [dEq_of (shaped_str h) (shaped_str k), eqv_str]
theorem dNe_str {a b : Str} (h : PyData.strOk a = true) (k : PyData.strOk b = true) : dNe (.str a) (.str b) = some (.bool (!decide (a = b))) := by rw [dNe_of (shaped_str h) (shaped_str k), eqv_str]
theorem sized_le {ds : List D} (h : ds.length ≤ cap) : sized ds = some ds := if_pos h
theorem cap_s {n : Nat} (h : n ≤ 1000) : n ≤ cap := Nat.le_trans h (by decide)
theorem loop_cons {g : D → En → Option En} {b : En → Option Fl} {d : D} {ds : List D} {ρ ρ1 ρ2 : En} (h1 : g d ρ = some ρ1) (h2 : b ρ1 = some (.nx ρ2)) : loop g b (d :: ds) ρ = loop g b ds ρ2 := by
  have : loop g b (d :: ds) ρ = (g d ρ).bind fun ρ1 => (b ρ1).bind fun f => match f with
    | .nx ρ2 => loop g b ds ρ2
    | .ct ρ2 => loop g b ds ρ2
    | .bk ρ2 => some (.nx ρ2)
    | .rt d => some (.rt d) := rfl
  rw [this, h1]
  show ((b ρ1).bind fun f => _) = _
  rw [h2]
  rfl
/-! what can be compared -/
def Lay (k : Nat) (d : D) : Prop := d.canLay0 = true ∧ d.depth ≤ k
theorem Lay.mono {k j : Nat} {d : D} (h : Lay k d) (l : k ≤ j) : Lay j d := ⟨h.1, Nat.le_trans h.2 l⟩
theorem lay_str {x : Str} (h : PyData.strOk x = true) : Lay 0 (.str x) := ⟨by simp [PyData.canLay0, h], by simp [PyData.depth]⟩
theorem lay_int {i : Int} : Lay 0 (.int i) := ⟨by simp [PyData.canLay0], by simp [PyData.depth]⟩
theorem lay_none : Lay 0 .none := ⟨by simp [PyData.canLay0], by simp [PyData.depth]⟩
theorem lay_bool {b : Bool} : Lay 0 (.bool b) := ⟨by simp [PyData.canLay0], by simp [PyData.depth]⟩
theorem lay_all {k : Nat} : ∀ {ds : List D}, (∀ d ∈ ds, Lay k d) → PyData.canLayAll0 ds = true ∧ PyData.depthAll ds ≤ k
  | [], _ => ⟨by simp [PyData.canLayAll0], by simp [PyData.depthAll]⟩
  | d :: ds, h => by
    obtain ⟨i1, i2⟩ := lay_all (ds := ds) fun x hx => h x (List.mem_cons_of_mem _ hx)
    obtain ⟨h1, h2⟩ := h d List.mem_cons_self
    refine ⟨by simp [PyData.canLayAll0, h1, i1], ?_⟩
    have : PyData.depthAll (d :: ds) = max d.depth (PyData.depthAll ds) := by simp [PyData.depthAll]
    rw [this]; omega
theorem lay_tup {k : Nat} {ds : List D} (h : ∀ d ∈ ds, Lay k d) : Lay (k + 1) (.tuple ds) := by
  obtain ⟨i1, i2⟩ := lay_all h
  exact ⟨by simp [PyData.canLay0, i1], by simp [PyData.depth]; omega⟩
theorem lay_list {k : Nat} {ds : List D} (h : ∀ d ∈ ds, Lay k d) : Lay (k + 1) (.list ds) := by
  obtain ⟨i1, i2⟩ := lay_all h
  exact ⟨by simp [PyData.canLay0, i1], by simp [PyData.depth]; omega⟩
theorem Lay.shaped {k : Nat} {d : D} (h : Lay k d) (l : k ≤ 64) : SeqAt.shaped d = true := by
  unfold SeqAt.shaped
  rw [h.1, decide_eq_true (Nat.le_trans h.2 l)]
  rfl
theorem dNe_self {k : Nat} {d : D} (h : Lay k d) (l : k ≤ 64) : dNe d d = some (.bool false) := by
  rw [dNe_of (h.shaped l) (h.shaped l), SeqAt.eqv_refl _ h.1]
  rfl
theorem lay_strs_t {l : List Str} (h : ∀ x ∈ l, PyData.strOk x = true) : Lay 1 (.tuple (l.map .str)) := lay_tup fun d hd => by
  obtain ⟨x, hx, rfl⟩ := List.mem_map.mp hd
  exact lay_str (h x hx)
theorem lay_strs_l {l : List Str} (h : ∀ x ∈ l, PyData.strOk x = true) : Lay 1 (.list (l.map .str)) := lay_list fun d hd => by
  obtain ⟨x, hx, rfl⟩ := List.mem_map.mp hd
  exact lay_str (h x hx)
theorem eqv_lnil {l : List D} : PyData.eqv (.list l) (.list []) = l.isEmpty := by cases l <;> simp [PyData.eqv, PyData.eqvAll]
/-- a row of texts against [] -/
theorem dNe_lnil {l : List Str} (h : ∀ x ∈ l, PyData.strOk x = true) : dNe (.list (l.map .str)) (.list []) = some (.bool (!l.isEmpty)) := by
  rw [dNe_of ((lay_strs_l h).shaped (by decide)) ((lay_list (k := 0) (ds := []) fun d hd => nomatch hd).shaped (by decide)), eqv_lnil]
  cases l <;> rfl
end DD

set_option Elab.async false
set_option linter.all false
set_option maxRecDepth 100000
set_option maxHeartbeats 4000000
/-! values, cells, a store of cells -/
namespace EV
open PySem PySem.Spec PyProof.Rows L2

/-- a value: plain data without lists; a tuple of such; a cell of the store; the k-th def; a list that is never written, of plain data -/
inductive W where
  | dat (d : PyData) | tup (ws : List W) | ref (i : Nat) | fn (k : Nat) | frz (ds : List PyData)
instance : Inhabited W := ⟨.dat .none⟩
mutual
def pur : PyData → Bool
  | .none => true
  | .bool _ => true
  | .int _ => true
  | .str _ => true
  | .list _ => false
  | .tuple ds => purs ds
  | .dict _ => false
def purs : List PyData → Bool
  | [] => true
  | d :: ds => pur d && purs ds
end
/-- a key: an int, a text, a tuple of such -/
inductive Ky where
  | k (x : Key) | t (xs : List Key)
  deriving DecidableEq
instance : Inhabited Ky := ⟨.t []⟩
/-- what stands at a place of the store -/
inductive Cell where
  | lst (ws : List W)
  | dic (kvs : List (Ky × W))
  | ins (c : Nat) (fs : List (Str × W))
instance : Inhabited Cell := ⟨.lst []⟩

inductive Tr where
  | nil
  | node (v : Option Cell) (l r : Tr)
namespace Tr
def get : Tr → Nat → Option Cell
  | .nil, _ => none
  | .node v l r, i => match i with
    | 0 => v
    | i + 1 => match i % 2 with
      | 0 => l.get (i / 2)
      | _ + 1 => r.get (i / 2)
def put (c : Cell) : Nat → Tr → Nat → Tr
  | 0, t, _ => t
  | f + 1, .nil, i => match i with
    | 0 => .node (some c) .nil .nil
    | i + 1 => match i % 2 with
      | 0 => .node none (put c f .nil (i / 2)) .nil
      | _ + 1 => .node none .nil (put c f .nil (i / 2))
  | f + 1, .node v l r, i => match i with
    | 0 => .node (some c) l r
    | i + 1 => match i % 2 with
      | 0 => .node v (put c f l (i / 2)) r
      | _ + 1 => .node v l (put c f r (i / 2))
theorem get_nil (j : Nat) : Tr.nil.get j = none := by cases j <;> rfl
theorem get_node (v : Option Cell) (l r : Tr) (j : Nat) : (Tr.node v l r).get (j + 1) = if j % 2 = 0 then l.get (j / 2) else r.get (j / 2) := by
  show (match j % 2 with | 0 => l.get (j / 2) | _ + 1 => r.get (j / 2)) = _
  split
  · rename_i h; rw [if_pos h]
  · rename_i h; rw [if_neg (by omega)]
theorem put_node (c : Cell) (f : Nat) (v : Option Cell) (l r : Tr) (i : Nat) : put c (f + 1) (.node v l r) (i + 1) = if i % 2 = 0 then .node v (put c f l (i / 2)) r else .node v l (put c f r (i / 2)) := by
  show (match i % 2 with | 0 => Tr.node v (put c f l (i / 2)) r | _ + 1 => Tr.node v l (put c f r (i / 2))) = _
  split
  · rename_i h; rw [if_pos h]
  · rename_i h; rw [if_neg (by omega)]
theorem put_nil (c : Cell) (f i : Nat) : put c (f + 1) .nil i = put c (f + 1) (.node none .nil .nil) i := by
  cases i with
  | zero => rfl
  | succ i =>
    rw [put_node]
    show (match i % 2 with | 0 => Tr.node none (put c f .nil (i / 2)) .nil | _ + 1 => Tr.node none .nil (put c f .nil (i / 2))) = _
    split
    · rename_i h; rw [if_pos h]
    · rename_i h; rw [if_neg (by omega)]
theorem get_put (c : Cell) : ∀ (f : Nat) (t : Tr) (i j : Nat), i < f → (put c f t i).get j = if j = i then some c else t.get j := by
  intro f
  induction f with
  | zero => intro _ _ _ h; exact absurd h (Nat.not_lt_zero _)
  | succ f ih =>
    have node : ∀ (v : Option Cell) (l r : Tr) (i j : Nat), i < f + 1 → (put c (f + 1) (.node v l r) i).get j = if j = i then some c else (Tr.node v l r).get j := by
      intro v l r i j h
      cases i with
      | zero =>
        cases j with
        | zero => rfl
        | succ j => rw [if_neg (Nat.succ_ne_zero j)]; rfl
      | succ i =>
        rw [put_node]
        cases j with
        | zero =>
          rw [if_neg (Nat.zero_ne_add_one i)]
          split <;> rfl
        | succ j =>
          by_cases hi : i % 2 = 0
          · rw [if_pos hi, get_node, get_node]
            by_cases hj : j % 2 = 0
            · rw [if_pos hj, if_pos hj, ih l (i / 2) (j / 2) (by omega)]
              by_cases q : j = i
              · subst q; rw [if_pos rfl, if_pos rfl]
              · rw [if_neg (by omega), if_neg (by omega)]
            · rw [if_neg hj, if_neg hj, if_neg (by omega)]
          · rw [if_neg hi, get_node, get_node]
            by_cases hj : j % 2 = 0
            · rw [if_pos hj, if_pos hj, if_neg (by omega)]
            · rw [if_neg hj, if_neg hj, ih r (i / 2) (j / 2) (by omega)]
              by_cases q : j = i
              · subst q; rw [if_pos rfl, if_pos rfl]
              · rw [if_neg (by omega), if_neg (by omega)]
    intro t i j h
    cases t with
    | node v l r => exact node v l r i j h
    | nil =>
      rw [put_nil, node _ _ _ i j h, get_nil]
      split
      · rfl
      · cases j with
        | zero => rfl
        | succ j =>
          rw [get_node]
          split <;> exact get_nil _
end Tr

/-- so many places are laid -/
structure Sto where
  n : Nat
  t : Tr
namespace Sto
def get (S : Sto) (i : Nat) : Option Cell := S.t.get i
def push (S : Sto) (c : Cell) : Sto := ⟨S.n + 1, S.t.put c (S.n + 1) S.n⟩
def set (S : Sto) (i : Nat) (c : Cell) : Sto := ⟨S.n, S.t.put c (i + 1) i⟩
theorem get_push (S : Sto) (c : Cell) (j : Nat) : (S.push c).get j = if j = S.n then some c else S.get j := Tr.get_put c _ _ _ _ (Nat.lt_succ_self _)
theorem get_set (S : Sto) (i : Nat) (c : Cell) (j : Nat) : (S.set i c).get j = if j = i then some c else S.get j := Tr.get_put c _ _ _ _ (Nat.lt_succ_self _)
@[simp] theorem n_push (S : Sto) (c : Cell) : (S.push c).n = S.n + 1 := rfl
@[simp] theorem n_set (S : Sto) (i : Nat) (c : Cell) : (S.set i c).n = S.n := rfl
def empty : Sto := ⟨0, .nil⟩
theorem get_empty (j : Nat) : empty.get j = none := Tr.get_nil j
end Sto

/-- what comes of something: nothing that is told of; a value; an exception of a class -/
inductive Rs (α : Type) where
  | bad
  | ok (a : α) (S : Sto)
  | ex (c : Nat) (S : Sto)
namespace Rs
def bind {α β : Type} (r : Rs α) (k : α → Sto → Rs β) : Rs β := match r with
  | .bad => .bad
  | .ok a S => k a S
  | .ex c S => .ex c S
def map {α β : Type} (f : α → β) (r : Rs α) : Rs β := match r with
  | .bad => .bad
  | .ok a S => .ok (f a) S
  | .ex c S => .ex c S
@[simp] theorem bind_bad {α β : Type} (k : α → Sto → Rs β) : (Rs.bad : Rs α).bind k = .bad := rfl
@[simp] theorem bind_ok {α β : Type} (a : α) (S : Sto) (k : α → Sto → Rs β) : (Rs.ok a S).bind k = k a S := rfl
@[simp] theorem bind_ex {α β : Type} (c : Nat) (S : Sto) (k : α → Sto → Rs β) : (Rs.ex c S : Rs α).bind k = .ex c S := rfl
end Rs
/-- an answer that leaves the store -/
def ret? {α : Type} (o : Option α) (S : Sto) : Rs α := match o with
  | some a => .ok a S
  | none => .bad
end EV

set_option Elab.async false
set_option linter.all false
set_option maxRecDepth 100000
set_option maxHeartbeats 4000000
/-! how values, cells and slots lie in the heap -/
namespace EV
open PySem PySem.Spec PyProof.Rows L2
open DD (TabQ ExQ D)

/-- where defs, classes, exceptions' classes lie -/
structure Cf where
  K : PySem.W.Frag
  fa : Nat → Addr
  ca : Nat → Addr
  xa : Nat → Addr
abbrev Phi := List Addr

/-- what is never written -/
def keepK : HO → Bool
  | .lst _ => false
  | .dK _ => false
  | .dT _ => false
  | .ins _ _ _ => false
  | .tbl _ => false
  | _ => true
def Stay (H H' : Hp) : Prop := ∀ b o, H b = some o → keepK o = true → H' b = some o
theorem Stay.refl (H : Hp) : Stay H H := fun _ _ h _ => h
theorem Stay.trans {H H1 H2 : Hp} (a : Stay H H1) (b : Stay H1 H2) : Stay H H2 := fun c o h k => b c o (a c o h k) k
theorem Stay.same {H H' : Hp} (s : DD.Same H H') : Stay H H' := fun b o h k => s b o h fun ps e => by rw [e] at k; cases k
theorem Stay.new {H : Hp} {p : Addr} {o : HO} (h : H p = none) : Stay H (upd H p o) := fun b x e _ => by rw [upd_ne (ne_of_none e h)]; exact e
theorem Stay.set {H : Hp} {a : Addr} {o o' : HO} (h : H a = some o) (k : keepK o = false) : Stay H (upd H a o') := fun b x e kx => by
  have : b ≠ a := fun z => by rw [z, h] at e; cases e; rw [k] at kx; cases kx
  rw [upd_ne this]; exact e
theorem Stay.sqt {K : PySem.W.Frag} {H H' : Hp} {a : Addr} {xs : List V} (e : Stay H H') (h : SqT K H a xs) : SqT K H' a xs := by
  rcases h with (h | ⟨o, h⟩) | h
  · exact .inl (.inl (e _ _ h rfl))
  · exact .inl (.inr ⟨o, e _ _ h rfl⟩)
  · exact .inr h
theorem pur_list {ds : List D} : pur (.list ds) = false := by simp [pur]
theorem pur_tup {ds : List D} : pur (.tuple ds) = purs ds := by simp [pur]
theorem purs_cons {d : D} {ds : List D} : purs (d :: ds) = (pur d && purs ds) := by simp [purs]
mutual
theorem dp_stay {K : PySem.W.Frag} {H H' : Hp} (e : Stay H H') : ∀ {v : V} {d : D}, Dp K H v d → pur d = true → Dp K H' v d
  | _, _, .non, _ => .non
  | _, _, .bl b, _ => .bl b
  | _, _, .int i, _ => .int i
  | _, _, .str x, _ => .str x
  | _, _, .lst h t, p => by rw [pur_list] at p; cases p
  | _, _, .tup h t, p => .tup (e.sqt h) (dpa_stay e t (by rw [pur_tup] at p; exact p))
theorem dpa_stay {K : PySem.W.Frag} {H H' : Hp} (e : Stay H H') : ∀ {vs : List V} {ds : List D}, DpAll K H vs ds → purs ds = true → DpAll K H' vs ds
  | _, _, .nil, _ => .nil
  | _, _, .cons h t, p => by
    rw [purs_cons, Bool.and_eq_true] at p
    exact .cons (dp_stay e h p.1) (dpa_stay e t p.2)
end

/-- a list that is never written -/
def SqF (K : PySem.W.Frag) (H : Hp) (a : Addr) (xs : List V) : Prop := (∃ o, H a = some (.frz o (.lst xs))) ∨ ∀ H' : Hp, SqL K H' a xs
theorem SqF.sql {K : PySem.W.Frag} {H : Hp} {a : Addr} {xs : List V} (h : SqF K H a xs) : SqL K H a xs := by
  rcases h with ⟨o, h⟩ | h
  · exact .inl (.inr ⟨o, h⟩)
  · exact h H
theorem Stay.sqf {K : PySem.W.Frag} {H H' : Hp} {a : Addr} {xs : List V} (e : Stay H H') (h : SqF K H a xs) : SqF K H' a xs := by
  rcases h with ⟨o, h⟩ | h
  · exact .inl ⟨o, e _ _ h rfl⟩
  · exact .inr h
theorem SqF.of {K : PySem.W.Frag} {H : Hp} {a : Addr} {xs : List V} (o : Only H) (h : SqL K H a xs) : SqF K H a xs := by
  rcases h with (h | h) | h
  · rcases o a with z | ⟨_, _, z⟩
    · rw [z] at h; cases h
    · rw [z] at h; cases h
  · exact .inl h
  · exact .inr fun _ => .inr h
mutual
inductive RV (F : Cf) (φ : Phi) (H : Hp) : V → W → Prop
  | dat {v : V} {d : D} : Dp F.K H v d → pur d = true → RV F φ H v (.dat d)
  | tup {a : Addr} {xs : List V} {ws : List W} : SqT F.K H a xs → RVs F φ H xs ws → RV F φ H (.ref a) (.tup ws)
  | ref {i : Nat} {a : Addr} : φ[i]? = some a → RV F φ H (.ref a) (.ref i)
  | fn (k : Nat) : RV F φ H (.ref (F.fa k)) (.fn k)
  | frz {a : Addr} {xs : List V} {ds : List D} : SqF F.K H a xs → DpAll F.K H xs ds → purs ds = true → RV F φ H (.ref a) (.frz ds)
inductive RVs (F : Cf) (φ : Phi) (H : Hp) : List V → List W → Prop
  | nil : RVs F φ H [] []
  | cons {v : V} {w : W} {vs : List V} {ws : List W} : RV F φ H v w → RVs F φ H vs ws → RVs F φ H (v :: vs) (w :: ws)
end
section
variable {F : Cf} {φ φ' : Phi} {H H' : Hp}
theorem pre_get {φ φ' : Phi} (p : φ <+: φ') {i : Nat} {a : Addr} (h : φ[i]? = some a) : φ'[i]? = some a := by
  obtain ⟨t, rfl⟩ := p
  rw [List.getElem?_append_left (List.getElem?_eq_some_iff.mp h).1]
  exact h
mutual
theorem RV.up (p : φ <+: φ') (s : Stay H H') : ∀ {v : V} {w : W}, RV F φ H v w → RV F φ' H' v w
  | _, _, .dat h q => .dat (dp_stay s h q) q
  | _, _, .tup h t => .tup (s.sqt h) (RVs.up p s t)
  | _, _, .ref h => .ref (pre_get p h)
  | _, _, .fn k => .fn k
  | _, _, .frz h t q => .frz (s.sqf h) (dpa_stay s t q) q
theorem RVs.up (p : φ <+: φ') (s : Stay H H') : ∀ {vs : List V} {ws : List W}, RVs F φ H vs ws → RVs F φ' H' vs ws
  | _, _, .nil => .nil
  | _, _, .cons h t => .cons (RV.up p s h) (RVs.up p s t)
end
theorem RVs.len : ∀ {vs : List V} {ws : List W}, RVs F φ H vs ws → vs.length = ws.length
  | _, _, .nil => rfl
  | _, _, .cons _ t => by rw [List.length_cons, List.length_cons, RVs.len t]
theorem RVs.get : ∀ {vs : List V} {ws : List W}, RVs F φ H vs ws → ∀ {i : Nat} {w : W}, ws[i]? = some w → ∃ v, vs[i]? = some v ∧ RV F φ H v w
  | _, _, .nil, i, w, h => by simp at h
  | _, _, .cons h t, 0, w, e => by
    simp at e; subst e; exact ⟨_, rfl, h⟩
  | _, _, .cons h t, i + 1, w, e => by
    obtain ⟨v, q, r⟩ := RVs.get t (i := i) (by simpa using e)
    exact ⟨v, by simpa using q, r⟩
theorem RVs.append : ∀ {vs us : List V} {ws xs : List W}, RVs F φ H vs ws → RVs F φ H us xs → RVs F φ H (vs ++ us) (ws ++ xs)
  | _, _, _, _, .nil, s => s
  | _, _, _, _, .cons h t, s => .cons h (RVs.append t s)
theorem RVs.set {v : V} {w : W} (r : RV F φ H v w) : ∀ {vs : List V} {ws : List W} (i : Nat), RVs F φ H vs ws → RVs F φ H (vs.set i v) (ws.set i w)
  | _, _, _, .nil => .nil
  | _, _, 0, .cons _ t => .cons r t
  | _, _, i + 1, .cons q t => .cons q (RVs.set r i t)
theorem RVs.rep {vs : List V} {ws : List W} (h : RVs F φ H vs ws) : ∀ n : Nat, RVs F φ H (List.replicate n vs).flatten (List.replicate n ws).flatten
  | 0 => .nil
  | n + 1 => by
    rw [List.replicate_succ, List.replicate_succ, List.flatten_cons, List.flatten_cons]
    exact RVs.append h (RVs.rep h n)
theorem RVs.snoc {vs : List V} {ws : List W} {v : V} {w : W} (h : RVs F φ H vs ws) (g : RV F φ H v w) : RVs F φ H (vs ++ [v]) (ws ++ [w]) := h.append (.cons g .nil)
theorem RVs.take : ∀ {vs : List V} {ws : List W} (n : Nat), RVs F φ H vs ws → RVs F φ H (vs.take n) (ws.take n)
  | _, _, 0, _ => .nil
  | _, _, _ + 1, .nil => .nil
  | _, _, n + 1, .cons h t => .cons h (RVs.take n t)
theorem RVs.drop : ∀ {vs : List V} {ws : List W} (n : Nat), RVs F φ H vs ws → RVs F φ H (vs.drop n) (ws.drop n)
  | _, _, 0, h => h
  | _, _, _ + 1, .nil => .nil
  | _, _, n + 1, .cons _ t => RVs.drop n t
/-- plain data -/
theorem RVs.ofD : ∀ {vs : List V} {ds : List D}, DpAll F.K H vs ds → purs ds = true → RVs F φ H vs (ds.map .dat)
  | _, _, .nil, _ => .nil
  | _, _, .cons h t, p => by
    rw [purs_cons, Bool.and_eq_true] at p
    exact .cons (.dat h p.1) (RVs.ofD t p.2)
end

/-! ### cells -/
inductive Fld (F : Cf) (φ : Phi) (H : Hp) : List (Str × V) → List (Str × W) → Prop
  | nil : Fld F φ H [] []
  | cons {f : Str} {v : V} {w : W} {vs : List (Str × V)} {ws : List (Str × W)} : RV F φ H v w → Fld F φ H vs ws → Fld F φ H ((f, v) :: vs) ((f, w) :: ws)
inductive DK (F : Cf) (φ : Phi) (H : Hp) : List (Key × V) → List (Ky × W) → Prop
  | nil : DK F φ H [] []
  | cons {k : Key} {v : V} {w : W} {vs : List (Key × V)} {ws : List (Ky × W)} : RV F φ H v w → DK F φ H vs ws → DK F φ H ((k, v) :: vs) ((.k k, w) :: ws)
inductive DT (F : Cf) (φ : Phi) (H : Hp) : List (List Key × V) → List (Ky × W) → Prop
  | nil : DT F φ H [] []
  | cons {k : List Key} {v : V} {w : W} {vs : List (List Key × V)} {ws : List (Ky × W)} : RV F φ H v w → DT F φ H vs ws → DT F φ H ((k, v) :: vs) ((.t k, w) :: ws)
def RC (F : Cf) (φ : Phi) (H : Hp) (a : Addr) : Cell → Prop
  | .lst ws => ∃ xs, H a = some (.lst xs) ∧ RVs F φ H xs ws
  | .dic kvs => (∃ l, H a = some (.dK l) ∧ DK F φ H l kvs) ∨ (∃ l, H a = some (.dT l) ∧ DT F φ H l kvs)
  | .ins c fs => ∃ dx vs, H a = some (.ins (F.ca c) dx vs) ∧ Fld F φ H vs fs
section
variable {F : Cf} {φ φ' : Phi} {H H' : Hp}
theorem Fld.up (p : φ <+: φ') (s : Stay H H') : ∀ {vs : List (Str × V)} {ws : List (Str × W)}, Fld F φ H vs ws → Fld F φ' H' vs ws
  | _, _, .nil => .nil
  | _, _, .cons h t => .cons (h.up p s) (Fld.up p s t)
theorem DK.up (p : φ <+: φ') (s : Stay H H') : ∀ {vs : List (Key × V)} {ws : List (Ky × W)}, DK F φ H vs ws → DK F φ' H' vs ws
  | _, _, .nil => .nil
  | _, _, .cons h t => .cons (h.up p s) (DK.up p s t)
theorem DT.up (p : φ <+: φ') (s : Stay H H') : ∀ {vs : List (List Key × V)} {ws : List (Ky × W)}, DT F φ H vs ws → DT F φ' H' vs ws
  | _, _, .nil => .nil
  | _, _, .cons h t => .cons (h.up p s) (DT.up p s t)
theorem Fld.len : ∀ {vs : List (Str × V)} {ws : List (Str × W)}, Fld F φ H vs ws → vs.length = ws.length
  | _, _, .nil => rfl
  | _, _, .cons _ t => by rw [List.length_cons, List.length_cons, Fld.len t]
theorem Fld.get {f : Str} {w : W} : ∀ {vs : List (Str × V)} {ws : List (Str × W)}, Fld F φ H vs ws → ws.lookup f = some w → ∃ v, vs.lookup f = some v ∧ RV F φ H v w
  | _, _, .nil, h => by cases h
  | _, _, .cons (f := g) r t, h => by
    rw [List.lookup_cons] at h ⊢
    cases q : f == g with
    | true => rw [q] at h; cases h; exact ⟨_, rfl, r⟩
    | false => rw [q] at h; exact Fld.get t h
theorem Fld.gone {f : Str} : ∀ {vs : List (Str × V)} {ws : List (Str × W)}, Fld F φ H vs ws → ws.lookup f = none → vs.lookup f = none
  | _, _, .nil, h => rfl
  | _, _, .cons (f := g) r t, h => by
    rw [List.lookup_cons] at h ⊢
    cases q : f == g with
    | true => rw [q] at h; cases h
    | false => rw [q] at h; exact Fld.gone t h
/-- a cell stays where its own object does -/
theorem RC.up {a : Addr} {c : Cell} (p : φ <+: φ') (s : Stay H H') (e : ∀ o, H a = some o → H' a = some o) (h : RC F φ H a c) : RC F φ' H' a c := by
  cases c with
  | lst ws => obtain ⟨xs, h, r⟩ := h; exact ⟨xs, e _ h, r.up p s⟩
  | dic kvs =>
    rcases h with ⟨l, h, r⟩ | ⟨l, h, r⟩
    · exact .inl ⟨l, e _ h, r.up p s⟩
    · exact .inr ⟨l, e _ h, r.up p s⟩
  | ins c fs => obtain ⟨dx, vs, h, r⟩ := h; exact ⟨dx, vs, e _ h, r.up p s⟩
theorem RC.mut {a : Addr} {c : Cell} (h : RC F φ H a c) : ∃ o, H a = some o ∧ keepK o = false ∧ ∀ ps, o ≠ .tbl ps := by
  cases c with
  | lst ws => obtain ⟨xs, h, r⟩ := h; exact ⟨_, h, rfl, fun _ => HO.noConfusion⟩
  | dic kvs =>
    rcases h with ⟨l, h, r⟩ | ⟨l, h, r⟩
    · exact ⟨_, h, rfl, fun _ => HO.noConfusion⟩
    · exact ⟨_, h, rfl, fun _ => HO.noConfusion⟩
  | ins c fs => obtain ⟨dx, vs, h, r⟩ := h; exact ⟨_, h, rfl, fun _ => HO.noConfusion⟩
end

variable [TabQ]
/-- the store lies in the heap -/
structure GS (F : Cf) (φ : Phi) (S : Sto) (H : Hp) : Prop where
  len : φ.length = S.n
  cell : ∀ i c, S.get i = some c → ∃ a, φ[i]? = some a ∧ RC F φ H a c
  live : ∀ (i : Nat) (a : Addr), φ[i]? = some a → ∃ c, S.get i = some c
  inj : ∀ (i j : Nat) (a : Addr), φ[i]? = some a → φ[j]? = some a → i = j
  tab : LamX.Tabs TabQ.tabs H
theorem tabs_keep {H H' : Hp} (t : LamX.Tabs TabQ.tabs H) (s : Stay H H') (e : ∀ b ps, H b = some (.tbl ps) → H' b = some (.tbl ps)) : LamX.Tabs TabQ.tabs H' := fun p hp => by
  obtain ⟨ps, h1, h2, h3⟩ := t p hp
  refine ⟨ps, e _ _ h1, h2, fun pos cv hc => ?_⟩
  obtain ⟨c, e1, e2⟩ := h3 pos cv hc
  exact ⟨c, e1, s _ _ e2 rfl⟩
def NT (o : HO) : Prop := ∀ ps, o ≠ .tbl ps
/-- later: what is no cell stays -/
structure Ext (φ : Phi) (H : Hp) (φ1 : Phi) (H1 : Hp) : Prop where
  pre : φ <+: φ1
  new : ∀ (i : Nat) (a : Addr), φ1[i]? = some a → φ[i]? = some a ∨ ∀ o, H a = some o → ¬ NT o
  keep : ∀ b o, H b = some o → NT o → (∀ i : Nat, φ[i]? ≠ some b) → H1 b = some o
  there : ∀ b o, H b = some o → NT o → ∃ o', H1 b = some o' ∧ NT o'
section
variable {F : Cf} {φ φ' φ1 φ2 : Phi} {S S' : Sto} {H H' H1 H2 : Hp} {p a : Addr} {o : HO} {c c0 : Cell} {i : Nat}
theorem Ext.refl (φ : Phi) (H : Hp) : Ext φ H φ H := ⟨List.prefix_refl _, fun _ _ h => .inl h, fun _ _ h _ _ => h, fun b o h n => ⟨o, h, n⟩⟩
theorem Ext.trans (e : Ext φ H φ1 H1) (f : Ext φ1 H1 φ2 H2) : Ext φ H φ2 H2 := by
  refine ⟨e.pre.trans f.pre, fun i a h => ?_, fun b o h n q => ?_, fun b o h n => ?_⟩
  · rcases f.new i a h with z | z
    · exact e.new i a z
    · refine .inr fun o h n => ?_
      obtain ⟨o', h', n'⟩ := e.there a o h n
      exact z o' h' n'
  · refine f.keep b o (e.keep b o h n q) n fun i z => ?_
    rcases e.new i b z with z | z
    · exact q i z
    · exact z o h n
  · obtain ⟨o', h', n'⟩ := e.there b o h n
    exact f.there b o' h' n'
theorem Ext.same (s : DD.Same H H') : Ext φ H φ H' := ⟨List.prefix_refl _, fun _ _ h => .inl h, fun b o h n _ => s b o h n, fun b o h n => ⟨o, s b o h n, n⟩⟩
def Fre (H : Hp) (p : Addr) : Prop := ∀ o, H p = some o → ¬ NT o
theorem Fre.of (h : H p = none) : Fre H p := fun o e => by rw [h] at e; cases e
theorem Fre.same (s : DD.Same H H') (h : H' p = none) : Fre H p := fun o e n => by rw [s p o e n] at h; cases h
theorem Fre.ext (f : Ext φ H φ1 H1) (h : H1 p = none) : Fre H p := fun o e n => by
  obtain ⟨o', h', _⟩ := f.there p o e n
  rw [h] at h'; cases h'
theorem Ext.off (h : Fre H p) (n : NT o) (e : Ext φ H φ1 H1) : Ext φ H φ1 (upd H1 p o) := by
  refine ⟨e.pre, e.new, fun b x hb nb q => ?_, fun b x hb nb => ?_⟩
  · have : b ≠ p := fun z => h x (z ▸ hb) nb
    rw [upd_ne this]; exact e.keep b x hb nb q
  · have : b ≠ p := fun z => h x (z ▸ hb) nb
    rw [upd_ne this]; exact e.there b x hb nb
theorem Ext.add (h : Fre H p) (e : Ext φ H φ1 H1) : Ext φ H (φ1 ++ [p]) H1 := by
  refine ⟨e.pre.trans (List.prefix_append _ _), fun i a q => ?_, e.keep, e.there⟩
  by_cases z : i < φ1.length
  · rw [List.getElem?_append_left z] at q
    exact e.new i a q
  · rw [List.getElem?_append_right (Nat.le_of_not_lt z)] at q
    have : a = p := by
      cases w : i - φ1.length with
      | zero => rw [w] at q; exact (Option.some.inj q).symm
      | succ k => rw [w] at q; simp at q
    subst this
    exact .inr h
theorem GS.adr (G : GS F φ S H) (h : φ[i]? = some a) : ∃ o, H a = some o ∧ keepK o = false ∧ ∀ ps, o ≠ .tbl ps := by
  obtain ⟨c, hc⟩ := G.live i a h
  obtain ⟨b, hb, r⟩ := G.cell i c hc
  rw [h] at hb
  cases hb
  exact r.mut
theorem Ext.stay (e : Ext φ H φ1 H1) (G : GS F φ S H) : Stay H H1 := fun b o h k => by
  refine e.keep b o h (fun ps z => by rw [z] at k; cases k) fun i z => ?_
  obtain ⟨o', h', k', _⟩ := G.adr z
  rw [h] at h'; cases h'
  rw [k] at k'; cases k'
theorem RV.ext {v : V} {w : W} (r : RV F φ H v w) (e : Ext φ H φ1 H1) (G : GS F φ S H) : RV F φ1 H1 v w := r.up e.pre (e.stay G)
theorem RVs.ext {v : List V} {w : List W} (r : RVs F φ H v w) (e : Ext φ H φ1 H1) (G : GS F φ S H) : RVs F φ1 H1 v w := r.up e.pre (e.stay G)
theorem GS.free (G : GS F φ S H) (h : H p = none) : ∀ i : Nat, φ[i]? ≠ some p := fun i e => by
  obtain ⟨o, q, _⟩ := G.adr e
  rw [h] at q; cases q
/-- more objects -/
theorem GS.same (G : GS F φ S H) (s : DD.Same H H') (t : LamX.Tabs TabQ.tabs H') : GS F φ S H' := by
  refine ⟨G.len, fun i c h => ?_, G.live, G.inj, t⟩
  obtain ⟨a, h1, r⟩ := G.cell i c h
  obtain ⟨o, h2, _, h3⟩ := r.mut
  exact ⟨a, h1, r.up (List.prefix_refl _) (Stay.same s) fun o' q => by rw [h2] at q; cases q; exact s _ _ h2 h3⟩
theorem GS.new (G : GS F φ S H) (h : H p = none) : GS F φ S (upd H p o) :=
  G.same (DD.same_new h) (G.tab.ext (DD.raw_new h))
/-- what is no cell becomes one -/
theorem GS.adopt (G : GS F φ S H) (h : ∀ i : Nat, φ[i]? ≠ some p) (r : RC F (φ ++ [p]) H p c) : GS F (φ ++ [p]) (S.push c) H := by
  have pre : φ <+: φ ++ [p] := List.prefix_append _ _
  have old : ∀ {i b}, (φ ++ [p])[i]? = some b → (i = S.n ∧ b = p) ∨ (i < S.n ∧ φ[i]? = some b) := fun {i b} e => by
    by_cases q : i < φ.length
    · rw [List.getElem?_append_left q] at e
      exact .inr ⟨by rw [← G.len]; exact q, e⟩
    · rw [List.getElem?_append_right (Nat.le_of_not_lt q)] at e
      have : i - φ.length = 0 := by
        by_cases z : i - φ.length = 0
        · exact z
        · rw [List.getElem?_eq_none (by rw [List.length_singleton]; omega)] at e; cases e
      rw [this] at e
      refine .inl ⟨?_, (Option.some.inj e).symm⟩
      rw [← G.len]; omega
  refine ⟨by rw [List.length_append, List.length_singleton, Sto.n_push, G.len], fun i c' hc => ?_, fun i a e => ?_, fun i j a hi hj => ?_, G.tab⟩
  · rw [Sto.get_push] at hc
    split at hc
    · rename_i q
      cases hc
      subst q
      refine ⟨p, ?_, r⟩
      rw [← G.len, List.getElem?_append_right (Nat.le_refl _), Nat.sub_self]
      rfl
    · obtain ⟨a, h1, r1⟩ := G.cell i c' hc
      exact ⟨a, pre_get pre h1, r1.up pre (Stay.refl _) fun x q => q⟩
  · rcases old e with ⟨z, _⟩ | ⟨z, q⟩
    · exact ⟨c, by rw [Sto.get_push, if_pos z]⟩
    · obtain ⟨c', hc⟩ := G.live i a q
      exact ⟨c', by rw [Sto.get_push, if_neg (by omega)]; exact hc⟩
  · rcases old hi with ⟨z, y⟩ | ⟨z, q⟩
    · rcases old hj with ⟨z', _⟩ | ⟨z', q'⟩
      · rw [z, z']
      · subst y
        exact absurd q' (h j)
    · rcases old hj with ⟨z', y⟩ | ⟨z', q'⟩
      · subst y
        exact absurd q (h i)
      · exact G.inj i j a q q'
/-- a cell more -/
theorem GS.push (G : GS F φ S H) (h : H p = none) (r : RC F (φ ++ [p]) (upd H p o) p c) : GS F (φ ++ [p]) (S.push c) (upd H p o) := (G.new h).adopt (G.free h) r
/-- a cell turns -/
theorem GS.set (G : GS F φ S H) (hc : S.get i = some c0) (ha : φ[i]? = some a) (r : RC F φ (upd H a o) a c) : GS F φ (S.set i c) (upd H a o) := by
  obtain ⟨o0, e0, k0, t0⟩ := G.adr ha
  have st : Stay H (upd H a o) := Stay.set e0 k0
  refine ⟨G.len, fun j c' h => ?_, fun j b e => ?_, G.inj, tabs_keep G.tab st fun b ps e => ?_⟩
  · rw [Sto.get_set] at h
    split at h
    · rename_i q
      subst q
      cases h
      exact ⟨a, ha, r⟩
    · rename_i q
      obtain ⟨b, h1, r1⟩ := G.cell j c' h
      have ne : b ≠ a := fun z => q (G.inj j i a (z ▸ h1) ha)
      exact ⟨b, h1, r1.up (List.prefix_refl _) st fun x e => by rw [upd_ne ne]; exact e⟩
  · obtain ⟨c', hc'⟩ := G.live j b e
    by_cases q : j = i
    · exact ⟨c, by rw [Sto.get_set, if_pos q]⟩
    · exact ⟨c', by rw [Sto.get_set, if_neg q]; exact hc'⟩
  · have : b ≠ a := fun z => by rw [z, e0] at e; cases e; exact t0 ps rfl
    rw [upd_ne this]; exact e
theorem GS.stay (G : GS F φ S H) (ha : φ[i]? = some a) : Stay H (upd H a o) := by
  obtain ⟨o0, e0, k0, _⟩ := G.adr ha
  exact Stay.set e0 k0
theorem GS.ext_set (G : GS F φ S H) (ha : φ[i]? = some a) (n : NT o) : Ext φ H φ (upd H a o) := by
  refine ⟨List.prefix_refl _, fun _ _ h => .inl h, fun b x h nx q => ?_, fun b x h nx => ?_⟩
  · rw [upd_ne (fun z => q i (by rw [z]; exact ha))]; exact h
  · by_cases z : b = a
    · subst z; exact ⟨o, upd_same, n⟩
    · exact ⟨x, by rw [upd_ne z]; exact h, nx⟩
/-- what is no cell and may be written turns -/
theorem GS.loose (G : GS F φ S H) (h : ∀ i : Nat, φ[i]? ≠ some p) {o0 : HO} (e0 : H p = some o0) (k0 : keepK o0 = false) (n0 : NT o0) : GS F φ S (upd H p o) := by
  have st : Stay H (upd H p o) := Stay.set e0 k0
  refine ⟨G.len, fun j c' hc => ?_, G.live, G.inj, tabs_keep G.tab st fun b ps e => ?_⟩
  · obtain ⟨b, h1, r1⟩ := G.cell j c' hc
    have ne : b ≠ p := fun z => h j (z ▸ h1)
    exact ⟨b, h1, r1.up (List.prefix_refl _) st fun x e => by rw [upd_ne ne]; exact e⟩
  · have : b ≠ p := fun z => by rw [z, e0] at e; cases e; exact n0 ps rfl
    rw [upd_ne this]; exact e
end

/-! ### slots -/
theorem getset {α : Type} {l : List α} {i j : Nat} {x : α} {y : α} (h : (l.set i x)[j]? = some y) : (j = i ∧ y = x ∧ i < l.length) ∨ (j ≠ i ∧ l[j]? = some y) := by
  by_cases e : j = i
  · subst e
    by_cases q : j < l.length
    · rw [List.getElem?_set_self q] at h
      exact .inl ⟨rfl, (Option.some.inj h).symm, q⟩
    · rw [List.getElem?_eq_none (by simpa using q)] at h; cases h
  · rw [List.getElem?_set_ne (Ne.symm e)] at h
    exact .inr ⟨e, h⟩
theorem setself {α : Type} {l : List α} {i : Nat} {x : α} (h : i < l.length) : (l.set i x)[i]? = some x := List.getElem?_set_self h
abbrev Env := List (Option W)
structure Good (F : Cf) (φ : Phi) (S : Sto) (ρ : Env) (σ : L2.St) (H : Hp) : Prop where
  gs : GS F φ S H
  len : ρ.length = σ.length
  val : ∀ (i : Nat) (w : W), ρ[i]? = some (some w) → ∃ v, σ[i]? = some (some v) ∧ RV F φ H v w
section
variable {F : Cf} {φ φ' : Phi} {S S' : Sto} {ρ : Env} {σ : L2.St} {H H' : Hp}
theorem Good.up (G : Good F φ S ρ σ H) (e : Ext φ H φ' H') (g : GS F φ' S' H') : Good F φ' S' ρ σ H' :=
  ⟨g, G.len, fun i w h => let ⟨v, a, b⟩ := G.val i w h; ⟨v, a, b.ext e G.gs⟩⟩
theorem Good.set {i : Nat} {v : V} {w : W} (G : Good F φ S ρ σ H) (r : RV F φ H v w) : Good F φ S (ρ.set i (some w)) (σ.set i (some v)) H := by
  refine ⟨G.gs, by rw [List.length_set, List.length_set]; exact G.len, fun j x h => ?_⟩
  rcases getset h with ⟨e, q, l⟩ | ⟨e, q⟩
  · subst e
    cases q
    exact ⟨v, setself (by rw [← G.len]; exact l), r⟩
  · obtain ⟨u, a, b⟩ := G.val j x q
    exact ⟨u, by rw [List.getElem?_set_ne (Ne.symm e)]; exact a, b⟩
theorem Good.setNone {i : Nat} {x : Option V} (G : Good F φ S ρ σ H) : Good F φ S (ρ.set i none) (σ.set i x) H := by
  refine ⟨G.gs, by rw [List.length_set, List.length_set]; exact G.len, fun j y h => ?_⟩
  rcases getset h with ⟨e, q, l⟩ | ⟨e, q⟩
  · cases q
  · obtain ⟨u, a, b⟩ := G.val j y q
    exact ⟨u, by rw [List.getElem?_set_ne (Ne.symm e)]; exact a, b⟩
end
end EV

set_option Elab.async false
set_option linter.all false
set_option maxRecDepth 100000
set_option maxHeartbeats 4000000
/-! readings of expressions -/
namespace EV
open PySem PySem.Spec PyProof.Rows L2
open DD (TabQ ExQ D)
variable [TabQ] [ExQ]
/-! ### what comes of something -/
def RO {α β : Type} (F : Cf) (φ : Phi) (H : Hp) (R : Phi → Hp → β → α → Prop) (Q : β → Hp → Prop) (E : Nat → Hp → Prop) : Rs α → Prop
  | .bad => False
  | .ok a S => ∀ b φ' H', Ext φ H φ' H' → GS F φ' S H' → R φ' H' b a → Q b H'
  | .ex c S => ∀ φ' H', Ext φ H φ' H' → GS F φ' S H' → E c H'
section
variable {F : Cf} {φ φ1 : Phi} {H H1 : Hp} {α β γ δ : Type} {R : Phi → Hp → β → α → Prop} {R' : Phi → Hp → δ → γ → Prop} {Q : β → Hp → Prop} {Q' : δ → Hp → Prop} {E : Nat → Hp → Prop}
theorem RO.at {r : Rs α} (h : RO F φ H R Q E r) (e : Ext φ H φ1 H1) : RO F φ1 H1 R Q E r := by
  cases r with
  | bad => exact h
  | ok a S => exact fun b φ' H' e' g r => h b φ' H' (e.trans e') g r
  | ex c S => exact fun φ' H' e' g => h φ' H' (e.trans e') g
theorem RO.bind {r : Rs α} {k : α → Sto → Rs γ} {P : β → Hp → Prop} (h : RO F φ H R' Q' E (r.bind k))
    (n : ∀ b a S φ1 H1, Ext φ H φ1 H1 → GS F φ1 S H1 → R φ1 H1 b a → RO F φ1 H1 R' Q' E (k a S) → P b H1) : RO F φ H R P E r := by
  cases r with
  | bad => exact h
  | ok a S => exact fun b φ' H' e' g r => n b a S φ' H' e' g r (RO.at h e')
  | ex c S => exact h
theorem RO.mono {r : Rs α} {Q2 : β → Hp → Prop} (h : RO F φ H R Q E r) (n : ∀ b H', Q b H' → Q2 b H') : RO F φ H R Q2 E r := by
  cases r with
  | bad => exact h
  | ok a S => exact fun b φ' H' e' g r => n b H' (h b φ' H' e' g r)
  | ex c S => exact h
theorem RO.ok {a : α} {S : Sto} {b : β} (h : RO F φ H R Q E (.ok a S)) (e : Ext φ H φ1 H1) (g : GS F φ1 S H1) (r : R φ1 H1 b a) : Q b H1 := h b φ1 H1 e g r
end
def NoE : Nat → Hp → Prop := fun _ _ => False

/-! ### plain data -/
def dOfs (f : W → Option D) : List W → Option (List D)
  | [] => some []
  | w :: ws => match f w with
    | none => none
    | some d => match dOfs f ws with
      | none => none
      | some ds => some (d :: ds)
def dOf (S : Sto) : Nat → W → Option D
  | 0, w => match w with
    | .dat d => some d
    | .frz ds => some (.list ds)
    | _ => none
  | n + 1, w => match w with
    | .dat d => some d
    | .tup ws => (dOfs (dOf S n) ws).map .tuple
    | .ref i => match S.get i with
      | some (.lst ws) => (dOfs (dOf S n) ws).map .list
      | _ => none
    | .fn _ => none
    | .frz ds => some (.list ds)
def wOf (d : D) (S : Sto) : Rs W := match pur d with
  | true => .ok (.dat d) S
  | false => .bad
def wOfs (ds : List D) (S : Sto) : Rs W := match purs ds with
  | true => .ok (.ref S.n) (S.push (.lst (ds.map .dat)))
  | false => .bad
abbrev dpt : Nat := 4
def noT : DD.Ov := fun _ => none
theorem ov_noT (H : Hp) : DD.ov H noT = H := rfl
theorem disT {H : Hp} (t : LamX.Tabs TabQ.tabs H) : DD.Dis H noT := ⟨fun _ _ h => (nomatch h), t⟩
@[simp] theorem dOf_dat (S : Sto) (n : Nat) (d : D) : dOf S n (.dat d) = some d := by cases n <;> rfl
@[simp] theorem dOfs_dat (S : Sto) (n : Nat) : ∀ ds : List D, dOfs (dOf S n) (ds.map .dat) = some ds
  | [] => rfl
  | d :: ds => by
    show (match dOf S n (.dat d) with
    | none => none
    | some d => match dOfs (dOf S n) (ds.map .dat) with
      | none => none
      | some ds => some (d :: ds)) = _
    rw [dOf_dat, dOfs_dat]
section
variable {F : Cf} {φ : Phi} {S : Sto} {H H' : Hp}
theorem dOfs_ok {f : W → Option D} (h : ∀ (v : V) (w : W) (d : D), RV F φ H v w → f w = some d → Dp F.K H v d) : ∀ {vs : List V} {ws : List W} {ds : List D}, RVs F φ H vs ws → dOfs f ws = some ds → DpAll F.K H vs ds
  | _, _, _, .nil, e => by cases e; exact .nil
  | _, _, _, .cons (w := w) (ws := ws) r t, e => by
    unfold dOfs at e
    cases q : f w with
    | none => rw [q] at e; cases e
    | some d =>
      rw [q] at e
      cases q2 : dOfs f ws with
      | none => rw [q2] at e; cases e
      | some ds => rw [q2] at e; cases e; exact .cons (h _ _ _ r q) (dOfs_ok h t q2)
theorem dOf_ok (G : GS F φ S H) : ∀ (n : Nat) (v : V) (w : W) (d : D), RV F φ H v w → dOf S n w = some d → Dp F.K H v d
  | 0, v, w, d, r, e => by
    cases w with
    | dat d' => cases e; cases r with | dat h _ => exact h
    | tup ws => cases e
    | ref i => cases e
    | fn k => cases e
    | frz ds => cases e; cases r with | frz h t _ => exact .lst h.sql t
  | n + 1, v, w, d, r, e => by
    cases w with
    | dat d' => cases e; cases r with | dat h _ => exact h
    | tup ws =>
      cases r with
      | tup hq t =>
        obtain ⟨ds, hd, e⟩ := DD.map_some (show (dOfs (dOf S n) ws).map PyData.tuple = some d from e)
        subst e
        exact .tup hq (dOfs_ok (dOf_ok G n) t hd)
    | ref i =>
      cases r with
      | ref hi =>
        cases q : S.get i with
        | none => simp only [dOf, q] at e; cases e
        | some c =>
          cases c with
          | lst ws =>
            simp only [dOf, q] at e
            obtain ⟨ds, hd, e⟩ := DD.map_some e
            subst e
            obtain ⟨a, ha, xs, hx, t⟩ := G.cell i _ q
            rw [hi] at ha
            cases ha
            exact .lst (SqL.of hx) (dOfs_ok (dOf_ok G n) t hd)
          | dic kvs => simp only [dOf, q] at e; cases e
          | ins c fs => simp only [dOf, q] at e; cases e
    | fn k => cases e
    | frz ds => cases e; cases r with | frz h t _ => exact .lst h.sql t
/-- the answer is plain data -/
theorem RO.data {d : D} {v : V} {Q : VK} {E : Nat → Hp → Prop} (h : RO F φ H (RV F) Q E (wOf d S)) (G : GS F φ S H) (s : DD.Same H H') (dis : DD.Dis H' noT) (p : Dp F.K H' v d) : Q v H' := by
  unfold wOf at h
  cases q : pur d with
  | false => rw [q] at h; exact h.elim
  | true => rw [q] at h; exact h v φ H' (Ext.same s) (G.same s dis.tab) (.dat p q)
theorem RO.fresh {ds : List D} {p : Addr} {xs : List V} {Q : VK} {E : Nat → Hp → Prop} (h : RO F φ H (RV F) Q E (wOfs ds S)) (G : GS F φ S H) (s : DD.Same H H') (dis : DD.Dis H' noT) (hp : H' p = none) (g : DpAll F.K H' xs ds) : Q (.ref p) (upd H' p (.lst xs)) := by
  unfold wOfs at h
  cases q : purs ds with
  | false => rw [q] at h; exact h.elim
  | true =>
    rw [q] at h
    have G1 := G.same s dis.tab
    have pre : φ <+: φ ++ [p] := List.prefix_append _ _
    refine h _ (φ ++ [p]) _ (((Ext.same s).off (Fre.same s hp) (fun _ => HO.noConfusion)).add (Fre.same s hp)) (G1.push hp ⟨xs, upd_same, (RVs.ofD g q).up pre (Stay.new hp)⟩) (.ref ?_)
    rw [← G.len, List.getElem?_append_right (Nat.le_refl _), Nat.sub_self]
    rfl
end

/-! ### judgements -/
structure EE (F : Cf) (te : WX → TE) (m : Env → Sto → Rs W) : Prop where
  run : ∀ {φ : Phi} {S : Sto} {ρ : Env} {σ : L2.St} {H : Hp}, Good F φ S ρ σ H → ∀ (W : WX) (Q : VK), RO F φ H (RV F) Q (fun c H' => W (.ref (F.xa c)) none σ H') (m ρ S) → te W σ H Q
structure AA (F : Cf) (ta : WX → TA) (m : Env → Sto → Rs (List W)) : Prop where
  run : ∀ {φ : Phi} {S : Sto} {ρ : Env} {σ : L2.St} {H : Hp}, Good F φ S ρ σ H → ∀ (W : WX) (Q : List V → Hp → Prop), RO F φ H (RVs F) Q (fun c H' => W (.ref (F.xa c)) none σ H') (m ρ S) → ta W σ H Q
def REq (_ : Phi) (_ : Hp) (b a : Bool) : Prop := b = a
structure BB (F : Cf) (tt : WX → TT) (m : Env → Sto → Rs Bool) : Prop where
  run : ∀ {φ : Phi} {S : Sto} {ρ : Env} {σ : L2.St} {H : Hp}, Good F φ S ρ σ H → ∀ (W : WX) (Q : Bool → Hp → Prop), RO F φ H REq Q (fun c H' => W (.ref (F.xa c)) none σ H') (m ρ S) → tt W σ H Q
structure OO (F : Cf) (r : R2) (f : W → W → Sto → Rs W) : Prop where
  run : ∀ {φ : Phi} {S : Sto} {H : Hp} {x y : V} {a b : W}, GS F φ S H → RV F φ H x a → RV F φ H y b → ∀ Q : VK, RO F φ H (RV F) Q NoE (f a b S) → r x y H Q
structure UU (F : Cf) (r : V → Hp → VK → Prop) (f : W → Sto → Rs W) : Prop where
  run : ∀ {φ : Phi} {S : Sto} {H : Hp} {x : V} {a : W}, GS F φ S H → RV F φ H x a → ∀ Q : VK, RO F φ H (RV F) Q NoE (f a S) → r x H Q
structure CC (F : Cf) (r : List V → Hp → VK → Prop) (f : List W → Sto → Rs W) : Prop where
  run : ∀ {φ : Phi} {S : Sto} {H : Hp} {xs : List V} {as : List W}, GS F φ S H → RVs F φ H xs as → ∀ Q : VK, RO F φ H (RV F) Q NoE (f as S) → r xs H Q
/-- a def, a method: its answer or an exception -/
def spV (F : Cf) (n : Nat) (m : List W → Sto → Rs W) : Sp := fun vs H Q E => ∃ φ S ws, GS F φ S H ∧ RVs F φ H vs ws ∧ ws.length = n ∧ RO F φ H (RV F) Q (fun c H' => E (.ref (F.xa c)) none H') (m ws S)

/-! ### mirrors -/
def mVar (i : Nat) (ρ : Env) (S : Sto) : Rs W := match ρ[i]? with
  | some (some w) => .ok w S
  | _ => .bad
def mC (d : D) (_ : Env) (S : Sto) : Rs W := .ok (.dat d) S
def mOp (f : W → W → Sto → Rs W) (a b : Env → Sto → Rs W) (ρ : Env) (S : Sto) : Rs W := (a ρ S).bind fun x S1 => (b ρ S1).bind fun y S2 => f x y S2
def mUn (f : W → Sto → Rs W) (a : Env → Sto → Rs W) (ρ : Env) (S : Sto) : Rs W := (a ρ S).bind f
def mCB (f : List W → Sto → Rs W) (a : Env → Sto → Rs (List W)) (ρ : Env) (S : Sto) : Rs W := (a ρ S).bind f
def mNil (_ : Env) (S : Sto) : Rs (List W) := .ok [] S
def mCons (a : Env → Sto → Rs W) (b : Env → Sto → Rs (List W)) (ρ : Env) (S : Sto) : Rs (List W) := (a ρ S).bind fun x S1 => (b ρ S1).bind fun xs S2 => .ok (x :: xs) S2
def cap : Nat := 100000
def sizedW (ws : List W) (r : Rs W) : Rs W := match Nat.ble ws.length cap with
  | true => r
  | false => .bad
def allD : List W → Option (List D)
  | [] => some []
  | .dat d :: ws => match allD ws with
    | some ds => some (d :: ds)
    | none => none
  | _ :: _ => none
def mkTup (ws : List W) : W := match allD ws with
  | some ds => .dat (.tuple ds)
  | none => .tup ws
def fTup (ws : List W) (S : Sto) : Rs W := sizedW ws (.ok (mkTup ws) S)
def fLst (ws : List W) (S : Sto) : Rs W := sizedW ws (.ok (.ref S.n) (S.push (.lst ws)))
def isB : W → Option Bool
  | .dat (.bool b) => some b
  | _ => none
/-- the truth of a value -/
def truW (w : W) (S : Sto) : Option Bool := match w with
  | .dat d => DD.tru d
  | .tup ws => some (!ws.isEmpty)
  | .ref i => match S.get i with
    | some (.lst ws) => some (!ws.isEmpty)
    | _ => none
  | .fn _ => none
  | .frz ds => some (!ds.isEmpty)
def optB (o : Option Bool) (S : Sto) : Rs Bool := match o with
  | some b => .ok b S
  | none => .bad
def bTest (a : Env → Sto → Rs W) (ρ : Env) (S : Sto) : Rs Bool := (a ρ S).bind fun w S1 => optB (isB w) S1
def bTru (a : Env → Sto → Rs W) (ρ : Env) (S : Sto) : Rs Bool := (a ρ S).bind fun w S1 => optB (truW w S1) S1
def bAnd (a b : Env → Sto → Rs Bool) (ρ : Env) (S : Sto) : Rs Bool := (a ρ S).bind fun x S1 => match x with
  | true => b ρ S1
  | false => .ok false S1
def bOr (a b : Env → Sto → Rs Bool) (ρ : Env) (S : Sto) : Rs Bool := (a ρ S).bind fun x S1 => match x with
  | true => .ok true S1
  | false => b ρ S1
def bNot (a : Env → Sto → Rs Bool) (ρ : Env) (S : Sto) : Rs Bool := (a ρ S).bind fun x S1 => .ok (!x) S1
def bYes (_ : Env) (S : Sto) : Rs Bool := .ok true S
def mAndV (a b : Env → Sto → Rs W) (ρ : Env) (S : Sto) : Rs W := (a ρ S).bind fun w S1 => match isB w with
  | some true => b ρ S1
  | some false => .ok (.dat (.bool false)) S1
  | none => .bad
def mOrV (a b : Env → Sto → Rs W) (ρ : Env) (S : Sto) : Rs W := (a ρ S).bind fun w S1 => match isB w with
  | some true => .ok (.dat (.bool true)) S1
  | some false => b ρ S1
  | none => .bad
def mNotV (a : Env → Sto → Rs W) (ρ : Env) (S : Sto) : Rs W := (a ρ S).bind fun w S1 => match isB w with
  | some k => .ok (.dat (.bool (!k))) S1
  | none => .bad
def mIfE (c : Env → Sto → Rs Bool) (a b : Env → Sto → Rs W) (ρ : Env) (S : Sto) : Rs W := (c ρ S).bind fun x S1 => match x with
  | true => a ρ S1
  | false => b ρ S1
def mChain (f g : W → W → Sto → Rs W) (a b c : Env → Sto → Rs W) (ρ : Env) (S : Sto) : Rs W := (a ρ S).bind fun x S1 => (b ρ S1).bind fun y S2 => (f x y S2).bind fun z S3 => match isB z with
  | some true => (c ρ S3).bind fun w S4 => g y w S4
  | some false => .ok (.dat (.bool false)) S3
  | none => .bad
/-- operators on plain data -/
def oD (f : D → D → Option D) (a b : W) (S : Sto) : Rs W := match dOf S dpt a with
  | none => .bad
  | some x => match dOf S dpt b with
    | none => .bad
    | some y => match f x y with
      | none => .bad
      | some z => wOf z S
def uD (f : D → Option D) (a : W) (S : Sto) : Rs W := match dOf S dpt a with
  | none => .bad
  | some x => match f x with
    | none => .bad
    | some z => wOf z S
def cD (f : List D → Option D) (as : List W) (S : Sto) : Rs W := match dOfs (dOf S dpt) as with
  | none => .bad
  | some xs => match f xs with
    | none => .bad
    | some z => wOf z S
def cL (f : List D → Option (List D)) (as : List W) (S : Sto) : Rs W := match dOfs (dOf S dpt) as with
  | none => .bad
  | some xs => match f xs with
    | none => .bad
    | some zs => wOfs zs S
def cX (f : List D → Option DD.Rs) (as : List W) (S : Sto) : Rs W := match dOfs (dOf S dpt) as with
  | none => .bad
  | some xs => match f xs with
    | none => .bad
    | some (.ok z) => wOf z S
    | some (.ex c) => .ex c S
/-- a def's call -/
def mCall (n : Nat) (m : List W → Sto → Rs W) (a : Env → Sto → Rs (List W)) (ρ : Env) (S : Sto) : Rs W := (a ρ S).bind fun ws S1 => match ws.length == n with
  | true => m ws S1
  | false => .bad
def mFld (c : Nat) (f : Str) (a : Env → Sto → Rs W) (ρ : Env) (S : Sto) : Rs W := (a ρ S).bind fun w S1 => match w with
  | .ref i => match S1.get i with
    | some (.ins c' fs) => match c' == c with
      | true => match fs.lookup f with
        | some v => .ok v S1
        | none => .bad
      | false => .bad
    | _ => .bad
  | _ => .bad
/-- o.m(..) -/
def mMth (c : Nat) (f : Str) (n : Nat) (m : List W → Sto → Rs W) (o : Env → Sto → Rs W) (a : Env → Sto → Rs (List W)) (ρ : Env) (S : Sto) : Rs W := (o ρ S).bind fun w S1 => match w with
  | .ref i => match S1.get i with
    | some (.ins c' fs) => match c' == c with
      | true => match fs.lookup f with
        | some _ => .bad
        | none => (a ρ S1).bind fun ws S2 => match ws.length + 1 == n with
          | true => m (w :: ws) S2
          | false => .bad
      | false => .bad
    | _ => .bad
  | _ => .bad
/-- C(..) -/
def mMk (c n : Nat) (m : List W → Sto → Rs W) (a : Env → Sto → Rs (List W)) (ρ : Env) (S : Sto) : Rs W := (a ρ S).bind fun ws S1 => match ws.length + 1 == n with
  | true => (m (.ref S1.n :: ws) (S1.push (.ins c []))).bind fun r S2 => match r with
    | .dat .none => .ok (.ref S1.n) S2
    | _ => .bad
  | false => .bad

section
variable {F : Cf} {ta tb tc te : WX → TE} {ma mb mc : Env → Sto → Rs W} {r r' : R2} {f g : W → W → Sto → Rs W}
theorem isB_some {w : W} {b : Bool} (h : isB w = some b) : w = .dat (.bool b) := by
  unfold isB at h
  split at h
  · cases h; rfl
  · cases h
theorem rv_bool {φ : Phi} {H : Hp} {v : V} {b : Bool} (h : RV F φ H v (.dat (.bool b))) : v = .bl b := by
  cases h with
  | dat h _ => cases h; rfl
theorem rv_none {φ : Phi} {H : Hp} {v : V} (h : RV F φ H v (.dat .none)) : v = .non := by
  cases h with
  | dat h _ => cases h; rfl
theorem rv_bl {φ : Phi} {H : Hp} {b : Bool} : RV F φ H (.bl b) (.dat (.bool b)) := .dat (.bl b) (by simp [pur])
theorem ee_var (i : Nat) : EE F (fun _ => tVar i) (mVar i) := by
  refine ⟨fun {φ S ρ σ H} G W Q h => ?_⟩
  unfold mVar at h
  split at h
  · rename_i w e
    obtain ⟨v, a, b⟩ := G.val i w e
    exact ⟨v, a, h.ok (Ext.refl _ _) G.gs b⟩
  · exact h.elim
theorem ee_c {v : V} {d : D} (hd : ∀ H, Dp F.K H v d) (hp : pur d = true) : EE F (fun _ => tC v) (mC d) :=
  ⟨fun {φ S ρ σ H} G W Q h => h.ok (Ext.refl _ _) G.gs (.dat (hd H) hp)⟩
theorem ee_int {i : Int} : EE F (fun _ => tC (.int i)) (mC (.int i)) := ee_c (fun _ => .int i) (by simp [pur])
theorem ee_str {x : Str} : EE F (fun _ => tC (.str x)) (mC (.str x)) := ee_c (fun _ => .str x) (by simp [pur])
theorem ee_bl {b : Bool} : EE F (fun _ => tC (.bl b)) (mC (.bool b)) := ee_c (fun _ => .bl b) (by simp [pur])
theorem ee_non : EE F (fun _ => tC .non) (mC .none) := ee_c (fun _ => .non) (by simp [pur])
theorem noE {α β : Type} {φ : Phi} {H : Hp} {R : Phi → Hp → β → α → Prop} {Q : β → Hp → Prop} {E : Nat → Hp → Prop} {x : Rs α} (h : RO F φ H R Q E x) (n : ∀ c S, x ≠ .ex c S) : RO F φ H R Q NoE x := by
  cases x with
  | bad => exact h
  | ok a S => exact h
  | ex c S => exact absurd rfl (n c S)
end
/-- no operator raises here -/
structure OOn (F : Cf) (r : R2) (f : W → W → Sto → Rs W) : Prop extends OO F r f where
  no : ∀ a b S c S', f a b S ≠ .ex c S'
structure UUn (F : Cf) (r : V → Hp → VK → Prop) (f : W → Sto → Rs W) : Prop extends UU F r f where
  no : ∀ a S c S', f a S ≠ .ex c S'
structure CCn (F : Cf) (r : List V → Hp → VK → Prop) (f : List W → Sto → Rs W) : Prop extends CC F r f where
  no : ∀ a S c S', f a S ≠ .ex c S'
section
variable {F : Cf} {ta tb tc te : WX → TE} {ma mb mc : Env → Sto → Rs W} {r r' : R2} {f g : W → W → Sto → Rs W}
theorem ee_op (hr : OOn F r f) (ha : EE F ta ma) (hb : EE F tb mb) : EE F (fun W => tOp r (ta W) (tb W)) (mOp f ma mb) := by
  refine ⟨fun {φ S ρ σ H} G W Q h => ?_⟩
  refine ha.run G W _ (RO.bind h fun v a S1 φ1 H1 e1 g1 r1 h1 => ?_)
  refine hb.run (G.up e1 g1) W _ (RO.bind h1 fun u b S2 φ2 H2 e2 g2 r2 h2 => ?_)
  exact hr.run g2 (r1.ext e2 g1) r2 Q (noE h2 fun c S' => hr.no a b S2 c S')
theorem ee_un {ru : V → Hp → VK → Prop} {fu : W → Sto → Rs W} (hr : UUn F ru fu) (ha : EE F ta ma) : EE F (fun W => tUn ru (ta W)) (mUn fu ma) := by
  refine ⟨fun {φ S ρ σ H} G W Q h => ?_⟩
  refine ha.run G W _ (RO.bind h fun v a S1 φ1 H1 e1 g1 r1 h1 => ?_)
  exact hr.run g1 r1 Q (noE h1 fun c S' => hr.no a S1 c S')
theorem aa_nil : AA F (fun _ => tNil) mNil := ⟨fun {φ S ρ σ H} G W Q h => h.ok (Ext.refl _ _) G.gs .nil⟩
theorem aa_cons {tr : WX → TA} {mr : Env → Sto → Rs (List W)} (ha : EE F ta ma) (hr : AA F tr mr) : AA F (fun W => tCons (ta W) (tr W)) (mCons ma mr) := by
  refine ⟨fun {φ S ρ σ H} G W Q h => ?_⟩
  refine ha.run G W _ (RO.bind h fun v a S1 φ1 H1 e1 g1 r1 h1 => ?_)
  exact hr.run (G.up e1 g1) W _ (RO.bind h1 fun vs b S2 φ2 H2 e2 g2 r2 h2 => h2.ok (Ext.refl _ _) g2 (.cons (r1.ext e2 g1) r2))
theorem ee_cb {rc : List V → Hp → VK → Prop} {fc : List W → Sto → Rs W} {t : WX → TA} {m : Env → Sto → Rs (List W)} (hc : CCn F rc fc) (ha : AA F t m) : EE F (fun W => tCB rc (t W)) (mCB fc m) := by
  refine ⟨fun {φ S ρ σ H} G W Q h => ?_⟩
  refine ha.run G W _ (RO.bind h fun vs a S1 φ1 H1 e1 g1 r1 h1 => ?_)
  exact hc.run g1 r1 Q (noE h1 fun c S' => hc.no a S1 c S')
theorem sizedW_some {ws : List W} {r : Rs W} {φ : Phi} {H : Hp} {Q : VK} {E : Nat → Hp → Prop} (h : RO F φ H (RV F) Q E (sizedW ws r)) : ws.length ≤ cap ∧ RO F φ H (RV F) Q E r := by
  unfold sizedW at h
  cases q : Nat.ble ws.length cap with
  | true => rw [q] at h; exact ⟨Nat.le_of_ble_eq_true q, h⟩
  | false => rw [q] at h; exact h.elim
theorem allD_some {φ : Phi} {H : Hp} : ∀ {xs : List V} {ws : List W} {ds : List D}, RVs F φ H xs ws → allD ws = some ds → DpAll F.K H xs ds ∧ purs ds = true
  | _, _, _, .nil, e => by cases e; exact ⟨.nil, by simp [purs]⟩
  | _, _, _, .cons (w := w) (ws := ws) r t, e => by
    cases w with
    | dat d =>
      unfold allD at e
      cases q : allD ws with
      | none => rw [q] at e; cases e
      | some es =>
        rw [q] at e
        cases e
        obtain ⟨a, b⟩ := allD_some t q
        cases r with
        | dat h p => exact ⟨.cons h a, by rw [purs_cons, p, b]; rfl⟩
    | tup ws => cases e
    | ref i => cases e
    | fn k => cases e
    | frz ds => cases e
theorem rv_tup {φ : Phi} {H : Hp} {a : Addr} {xs : List V} {ws : List W} (h : SqT F.K H a xs) (r : RVs F φ H xs ws) : RV F φ H (.ref a) (mkTup ws) := by
  unfold mkTup
  cases q : allD ws with
  | none => exact .tup h r
  | some ds =>
    obtain ⟨p, u⟩ := allD_some r q
    exact .dat (.tup h p) (by rw [pur_tup]; exact u)
theorem lenK {n : Nat} (h : n ≤ cap) : n ≤ sizeLine := Nat.le_trans h (by decide)
theorem ee_tup {t : WX → TA} {m : Env → Sto → Rs (List W)} (ha : AA F t m) : EE F (fun W => tTup (t W)) (mCB fTup m) := by
  refine ⟨fun {φ S ρ σ H} G W Q h => ?_⟩
  refine ha.run G W _ (RO.bind h fun vs a S1 φ1 H1 e1 g1 r1 h1 => ?_)
  obtain ⟨hz, h2⟩ := sizedW_some h1
  refine ⟨lenK (by rw [r1.len]; exact hz), fun p np => ?_⟩
  exact h2.ok ((Ext.refl _ _).off (Fre.of np) (fun _ => HO.noConfusion)) (g1.new np) (rv_tup (SqT.of upd_same) (r1.up (List.prefix_refl _) (Stay.new np)))
theorem push_ok {φ : Phi} {S : Sto} {H : Hp} {p : Addr} {xs : List V} {ws : List W} {Q : VK} {E : Nat → Hp → Prop} (h : RO F φ H (RV F) Q E (.ok (.ref S.n) (S.push (.lst ws)))) (g : GS F φ S H) (np : H p = none) (r : RVs F φ H xs ws) : Q (.ref p) (upd H p (.lst xs)) := by
  have pre : φ <+: φ ++ [p] := List.prefix_append _ _
  refine h.ok (((Ext.refl _ _).off (Fre.of np) (fun _ => HO.noConfusion)).add (Fre.of np)) (g.push np ⟨xs, upd_same, r.up pre (Stay.new np)⟩) (.ref ?_)
  rw [← g.len, List.getElem?_append_right (Nat.le_refl _), Nat.sub_self]
  rfl
theorem ee_lst {t : WX → TA} {m : Env → Sto → Rs (List W)} (ha : AA F t m) : EE F (fun W => tLst (t W)) (mCB fLst m) := by
  refine ⟨fun {φ S ρ σ H} G W Q h => ?_⟩
  refine ha.run G W _ (RO.bind h fun vs a S1 φ1 H1 e1 g1 r1 h1 => ?_)
  obtain ⟨hz, h2⟩ := sizedW_some h1
  exact ⟨lenK (by rw [r1.len]; exact hz), fun p np => push_ok h2 g1 np r1⟩
/-! tests -/
variable {t u : WX → TT} {m1 m2 : Env → Sto → Rs Bool}
theorem optB_some {o : Option Bool} {S : Sto} {φ : Phi} {H : Hp} {Q : Bool → Hp → Prop} {E : Nat → Hp → Prop} (h : RO F φ H REq Q E (optB o S)) : ∃ b, o = some b ∧ RO F φ H REq Q E (.ok b S) := by
  cases o with
  | none => exact h.elim
  | some b => exact ⟨b, rfl, h⟩
theorem bb_test (ha : EE F te ma) : BB F (fun W => tTest (te W)) (bTest ma) := by
  refine ⟨fun {φ S ρ σ H} G W Q h => ?_⟩
  refine ha.run G W _ (RO.bind h fun v a S1 φ1 H1 e1 g1 r1 h1 => ?_)
  obtain ⟨b, hb, h2⟩ := optB_some h1
  obtain rfl := isB_some hb
  exact ⟨b, rv_bool r1, h2.ok (Ext.refl _ _) g1 rfl⟩
theorem bb_B (ha : EE F te ma) : BB F (fun W => tB (te W)) (bTest ma) := by
  refine ⟨fun {φ S ρ σ H} G W Q h => ?_⟩
  refine ha.run G W _ (RO.bind h fun v a S1 φ1 H1 e1 g1 r1 h1 => ?_)
  obtain ⟨b, hb, h2⟩ := optB_some h1
  obtain rfl := isB_some hb
  exact ⟨b, rv_bool r1, h2.ok (Ext.refl _ _) g1 rfl⟩
theorem emp_w {φ : Phi} {H : Hp} {xs : List V} {ws : List W} (h : RVs F φ H xs ws) : xs.isEmpty = ws.isEmpty := by cases h <;> rfl
theorem bb_tru (ha : EE F te ma) : BB F (fun W => tTru F.K (te W)) (bTru ma) := by
  refine ⟨fun {φ S ρ σ H} G W Q h => ?_⟩
  refine ha.run G W _ (RO.bind h fun v a S1 φ1 H1 e1 g1 r1 h1 => ?_)
  obtain ⟨b, hb, h2⟩ := optB_some h1
  refine ⟨b, ?_, h2.ok (Ext.refl _ _) g1 rfl⟩
  cases a with
  | dat d =>
    cases r1 with
    | dat p _ =>
      unfold truW DD.tru at hb
      simp only at hb
      split at hb
      · cases hb; cases p; rfl
      · cases hb; cases p; rfl
      · cases hb; cases p; rfl
      · split at hb
        · rename_i hz; cases hb; cases p; exact ⟨DD.cap_line hz, rfl⟩
        · cases hb
      · cases hb
        obtain ⟨a, xs, rfl, hs, g⟩ := DD.dp_lst p
        exact .inl ⟨xs, hs, by rw [DD.emp_of g]⟩
      · cases hb
        obtain ⟨a, xs, rfl, hs, g⟩ := DD.dp_tup p
        exact .inr (.inl ⟨xs, hs, by rw [DD.emp_of g]⟩)
      · cases hb
  | tup ws =>
    cases hb
    cases r1 with
    | tup hs t => exact .inr (.inl ⟨_, hs, by rw [emp_w t]⟩)
  | ref i =>
    unfold truW at hb
    simp only at hb
    split at hb
    · rename_i ws q
      cases hb
      cases r1 with
      | ref hi =>
        obtain ⟨a, ha, xs, hx, t⟩ := g1.cell i _ q
        rw [hi] at ha
        cases ha
        exact .inl ⟨xs, SqL.of hx, by rw [emp_w t]⟩
    · cases hb
  | fn k => cases hb
  | frz ds =>
    cases hb
    cases r1 with
    | frz hs t _ => exact .inl ⟨_, hs.sql, by rw [DD.emp_of t]⟩
theorem bb_and (h1 : BB F t m1) (h2 : BB F u m2) : BB F (fun W => tAnd (t W) (u W)) (bAnd m1 m2) := by
  refine ⟨fun {φ S ρ σ H} G W Q h => ?_⟩
  refine h1.run G W _ (RO.bind h fun v a S1 φ1 H1 e1 g1 r1 hh => ?_)
  cases r1
  cases v with
  | true => rw [if_pos rfl]; exact h2.run (G.up e1 g1) W _ hh
  | false => rw [if_neg Bool.false_ne_true]; exact hh.ok (Ext.refl _ _) g1 rfl
theorem bb_or (h1 : BB F t m1) (h2 : BB F u m2) : BB F (fun W => tOr (t W) (u W)) (bOr m1 m2) := by
  refine ⟨fun {φ S ρ σ H} G W Q h => ?_⟩
  refine h1.run G W _ (RO.bind h fun v a S1 φ1 H1 e1 g1 r1 hh => ?_)
  cases r1
  cases v with
  | true => rw [if_pos rfl]; exact hh.ok (Ext.refl _ _) g1 rfl
  | false => rw [if_neg Bool.false_ne_true]; exact h2.run (G.up e1 g1) W _ hh
theorem bb_not (h1 : BB F t m1) : BB F (fun W => tNot (t W)) (bNot m1) := by
  refine ⟨fun {φ S ρ σ H} G W Q h => ?_⟩
  refine h1.run G W _ (RO.bind h fun v a S1 φ1 H1 e1 g1 r1 hh => ?_)
  cases r1
  exact hh.ok (Ext.refl _ _) g1 rfl
theorem bb_yes : BB F (fun _ => tYes) bYes := ⟨fun {φ S ρ σ H} G W Q h => h.ok (Ext.refl _ _) G.gs rfl⟩
theorem ee_andV (ha : EE F ta ma) (hb : EE F tb mb) : EE F (fun W => tAndV (ta W) (tb W)) (mAndV ma mb) := by
  refine ⟨fun {φ S ρ σ H} G W Q h => ?_⟩
  refine ha.run G W _ (RO.bind h fun v a S1 φ1 H1 e1 g1 r1 hh => ?_)
  cases q : isB a with
  | none => rw [q] at hh; exact hh.elim
  | some k =>
    rw [q] at hh
    obtain rfl := isB_some q
    refine ⟨k, rv_bool r1, ?_⟩
    cases k with
    | true => rw [if_pos rfl]; exact hb.run (G.up e1 g1) W _ hh
    | false => rw [if_neg Bool.false_ne_true]; exact hh.ok (Ext.refl _ _) g1 rv_bl
theorem ee_orV (ha : EE F ta ma) (hb : EE F tb mb) : EE F (fun W => tOrV (ta W) (tb W)) (mOrV ma mb) := by
  refine ⟨fun {φ S ρ σ H} G W Q h => ?_⟩
  refine ha.run G W _ (RO.bind h fun v a S1 φ1 H1 e1 g1 r1 hh => ?_)
  cases q : isB a with
  | none => rw [q] at hh; exact hh.elim
  | some k =>
    rw [q] at hh
    obtain rfl := isB_some q
    refine ⟨k, rv_bool r1, ?_⟩
    cases k with
    | true => rw [if_pos rfl]; exact hh.ok (Ext.refl _ _) g1 rv_bl
    | false => rw [if_neg Bool.false_ne_true]; exact hb.run (G.up e1 g1) W _ hh
theorem ee_notV (ha : EE F ta ma) : EE F (fun W => tNotV (ta W)) (mNotV ma) := by
  refine ⟨fun {φ S ρ σ H} G W Q h => ?_⟩
  refine ha.run G W _ (RO.bind h fun v a S1 φ1 H1 e1 g1 r1 hh => ?_)
  cases q : isB a with
  | none => rw [q] at hh; exact hh.elim
  | some k =>
    rw [q] at hh
    obtain rfl := isB_some q
    exact ⟨k, rv_bool r1, hh.ok (Ext.refl _ _) g1 rv_bl⟩
theorem ee_if (hc : BB F t m1) (ha : EE F ta ma) (hb : EE F tb mb) : EE F (fun W => tIf (t W) (ta W) (tb W)) (mIfE m1 ma mb) := by
  refine ⟨fun {φ S ρ σ H} G W Q h => ?_⟩
  refine hc.run G W _ (RO.bind h fun v a S1 φ1 H1 e1 g1 r1 hh => ?_)
  cases r1
  cases v with
  | true => rw [if_pos rfl]; exact ha.run (G.up e1 g1) W _ hh
  | false => rw [if_neg Bool.false_ne_true]; exact hb.run (G.up e1 g1) W _ hh
/-! lifts of the data layer's -/
theorem oo_d {fd : D → D → Option D} (h : DD.RD F.K r fd) : OOn F r (oD fd) := by
  refine ⟨⟨fun {φ S H x y a b} g r1 r2 Q q => ?_⟩, fun a b S c S' e => ?_⟩
  · unfold oD at q
    cases e1 : dOf S dpt a with
    | none => rw [e1] at q; exact q.elim
    | some da =>
      cases e2 : dOf S dpt b with
      | none => rw [e1, e2] at q; exact q.elim
      | some db =>
        cases e3 : fd da db with
        | none => simp only [e1, e2, e3] at q; exact q.elim
        | some z =>
          simp only [e1, e2, e3] at q
          rw [← ov_noT H]
          exact h.run (disT g.tab) (dOf_ok g _ _ _ _ r1 e1) (dOf_ok g _ _ _ _ r2 e2) e3 Q fun v H' s d p => q.data g s d p
  · unfold oD wOf at e
    repeat' split at e
    all_goals cases e
theorem uu_d {ru : V → Hp → VK → Prop} {fd : D → Option D} (h : DD.UD F.K ru fd) : UUn F ru (uD fd) := by
  refine ⟨⟨fun {φ S H x a} g r1 Q q => ?_⟩, fun a S c S' e => ?_⟩
  · unfold uD at q
    cases e1 : dOf S dpt a with
    | none => rw [e1] at q; exact q.elim
    | some da =>
      cases e3 : fd da with
      | none => simp only [e1, e3] at q; exact q.elim
      | some z =>
        simp only [e1, e3] at q
        rw [← ov_noT H]
        exact h.run (disT g.tab) (dOf_ok g _ _ _ _ r1 e1) e3 Q fun v H' s d p => q.data g s d p
  · unfold uD wOf at e
    repeat' split at e
    all_goals cases e
theorem cc_d {rc : List V → Hp → VK → Prop} {fd : List D → Option D} (h : DD.CD F.K rc fd) : CCn F rc (cD fd) := by
  refine ⟨⟨fun {φ S H xs as} g r1 Q q => ?_⟩, fun a S c S' e => ?_⟩
  · unfold cD at q
    cases e1 : dOfs (dOf S dpt) as with
    | none => rw [e1] at q; exact q.elim
    | some da =>
      cases e3 : fd da with
      | none => simp only [e1, e3] at q; exact q.elim
      | some z =>
        simp only [e1, e3] at q
        rw [← ov_noT H]
        exact h.run (disT g.tab) (dOfs_ok (dOf_ok g _) r1 e1) e3 Q fun v H' s d p => q.data g s d p
  · unfold cD wOf at e
    repeat' split at e
    all_goals cases e
theorem cc_l {rc : List V → Hp → VK → Prop} {fd : List D → Option (List D)} (h : DD.CL F.K rc fd) : CCn F rc (cL fd) := by
  refine ⟨⟨fun {φ S H xs as} g r1 Q q => ?_⟩, fun a S c S' e => ?_⟩
  · unfold cL at q
    cases e1 : dOfs (dOf S dpt) as with
    | none => rw [e1] at q; exact q.elim
    | some da =>
      cases e3 : fd da with
      | none => simp only [e1, e3] at q; exact q.elim
      | some z =>
        simp only [e1, e3] at q
        rw [← ov_noT H]
        exact h.run (disT g.tab) (dOfs_ok (dOf_ok g _) r1 e1) e3 Q fun p ys H' s d hp gp => q.fresh g s d hp gp
  · unfold cL wOfs at e
    repeat' split at e
    all_goals cases e
end
end EV

set_option Elab.async false
set_option linter.all false
set_option maxRecDepth 100000
set_option maxHeartbeats 4000000
/-! calls, attributes, lists -/
namespace EV
open PySem PySem.Spec PyProof.Rows L2
open DD (TabQ ExQ D)
/-! ### rules: methods and makers whose exceptions are told of at the slots -/
section
variable {X : Cx} {CX : CXT} {k : Nat} {f C g : Addr} {fd : FuncData} {ps : List Str} {sp : Sp} {E : L2.St → XK} {x m : Str} {p pos apos : Pos} {e o : Expr} {es : List Expr} {ta : TE} {t : TA}
def tMethV (C : Addr) (m : Str) (sp : Sp) (E : L2.St → XK) (ta : TE) (t : TA) : TE := fun σ H Q => ta σ H fun x H1 => ∃ a dx fs, x = .ref a ∧ H1 a = some (.ins C dx fs) ∧ fs.lookup m = none ∧
  t σ H1 fun vs H2 => sp (x :: vs) H2 Q (E σ)
theorem pe_methV {pl : Sem Bool} (he : PE X o ta) (c : Cls X.K C) (hm : Meth X.K C m f) (F : FnOk X.prog X.w X.K X.mg X.base CX k f fd ps sp) (hr : Room k X.A) (hb : Binds X.K fd ps []) (hx : ∀ σ, PassesAt CX X σ (E σ)) (ha : PA X (e :: es) t)
    (hst : starEach (e :: es) X.env = (false, eval e X.env) :: starEach es X.env := by rfl) (hpl : (backTo pos (starEach es X.env)).any (·.1) = false := by rfl)
    (ht : eval (.Call (.Attribute o m apos) (e :: es) [] pos) X.env = (do
      let ov ← eval o X.env
      standAt apos.atName
      let (f, first) ← holding [ov] (getMethod ov m pl)
      callWith pos f first (backTo pos (starEach (e :: es) X.env)) (backToKw pos (keywordEach [] X.env))) := by rfl) :
    PE X (.Call (.Attribute o m apos) (e :: es) [] pos) (tMethV C m sp E ta t) := by
  refine ⟨fun pins s σ H Q I h => ?_⟩
  refine PySem.W.methodCall_KW (pl := pl) (thn (he.run pins s σ H _ I h) fun u s1 ⟨x, H1, I1, rx, a, dx, fs, ex, ea, l, q⟩ => ?_) ht
  subst ex
  obtain rfl : u = Value.ref a := rx
  refine getmeth_ok I1 ea c hm l ?_
  refine PySem.W.callWith_K (first := [.ref a]) (h₀ := X.base) I.ok.mod.kin hm.kp (thn (ha.run pos pins s1 σ H1 _ I1 q) fun us s2 ⟨vs, H2, I2, r, q2⟩ => ⟨I2.kIn, ?_⟩) hst hpl
  exact run_fnS (us := .ref a :: us) (vs := .ref a :: vs) F hr hb (hx σ) I2 (.cons rfl r) q2
theorem pe_methV0 {pl : Sem Bool} (he : PE X o ta) (c : Cls X.K C) (hm : Meth X.K C m f) (F : FnOk X.prog X.w X.K X.mg X.base CX k f fd ps sp) (hr : Room k X.A) (hb : Binds X.K fd ps []) (hx : ∀ σ, PassesAt CX X σ (E σ))
    (ht : eval (.Call (.Attribute o m apos) [] [] pos) X.env = (do
      let ov ← eval o X.env
      standAt apos.atName
      let (f, first) ← holding [ov] (getMethod ov m pl)
      callWith pos f first (backTo pos (starEach [] X.env)) (backToKw pos (keywordEach [] X.env))) := by rfl) :
    PE X (.Call (.Attribute o m apos) [] [] pos) (tMethV C m sp E ta tNil) := by
  refine ⟨fun pins s σ H Q I h => ?_⟩
  refine PySem.W.methodCall_KW (pl := pl) (thn (he.run pins s σ H _ I h) fun u s1 ⟨x, H1, I1, rx, a, dx, fs, ex, ea, l, q⟩ => ?_) ht
  subst ex
  obtain rfl : u = Value.ref a := rx
  refine getmeth_ok I1 ea c hm l ?_
  exact PySem.W.callWith_K0 (first := [.ref a]) I1.kIn hm.kp (run_fnS (us := [.ref a]) (vs := [.ref a]) F hr hb (hx σ) I1 (.cons rfl .nil) q)
def tMakeV (C : Addr) (sp : Sp) (E : L2.St → XK) (t : TA) : TE := fun σ H Q => t σ H fun vs H1 => ∀ x dx, H1 x = none → H1 dx = none → dx ≠ x →
  sp (.ref x :: vs) (upd (upd H1 dx (.own x)) x (.ins C dx [])) (fun v H2 => v = .non ∧ Q (.ref x) H2) (E σ)
theorem run_makeV {pins : List (Addr × Obj)} {σ : L2.St} {H : Hp} {s : Shared} {Q : VK} {us : List Value} {vs : List V} (M : Mk X.K C f) (F : FnOk X.prog X.w X.K X.mg X.base CX k f fd ps sp) (hr : Room (k + 1) X.A) (hb : Binds X.K fd ps [])
    (hx : PassesAt CX X σ (E σ)) (I : Inv X pins σ H s) (r : Vals vs us)
    (h : ∀ x dx, H x = none → H dx = none → dx ≠ x → sp (.ref x :: vs) (upd (upd H dx (.own x)) x (.ins C dx [])) (fun v H2 => v = .non ∧ Q (.ref x) H2) (E σ)) :
    wpAny (model X.prog X.w) X.A (call (.ref C) us) (EP X pins σ Q) X.xe s := by
  have hq := h (s.heap.objs.size + 1) s.heap.objs.size (I.hok.fresh (Nat.le_succ _)) (I.hok.fresh (Nat.le_refl _)) (Nat.ne_of_lt (Nat.lt_succ_self _))
  have I2 := Inv.made (C := C) I
  have r2 : Vals (V.ref (s.heap.objs.size + 1) :: vs) (Value.ref (s.heap.objs.size + 1) :: us) := .cons rfl r
  have hl : (Value.ref (s.heap.objs.size + 1) :: us).length = ps.length := by
    have e := r2.length
    rw [F.len _ _ _ _ hq] at e
    exact e.symm
  have b := hb _ (Value.ref (s.heap.objs.size + 1) :: us) I2.kIn (by rw [List.append_nil]; exact hl)
  rw [List.append_nil] at b
  refine wpAny_call (make_map (f := f) I.kIn M.makes M.init (beq_iff_eq.mp M.fn) (codeAny_mono (F.run _ X.stack _ _ ⟨Value.ref (s.heap.objs.size + 1) :: us, []⟩ (Value.ref (s.heap.objs.size + 1) :: us) _ _ (E σ) (hr.make C us [])
    (I2.env0.make C us []) b r2 hq) fun r s' hq' => ?_))
  cases r with
  | error e => exact hx pins _ _ e s' I2 hq'
  | ok fl =>
    cases fl with
    | ret u =>
      obtain ⟨v, H', I3, rv, ev, q3⟩ := I2.after hq'
      subst ev
      exact ⟨rv, ⟨V.ref (s.heap.objs.size + 1), H', I3, rfl, q3⟩⟩
    | next => exact False.elim hq'
    | brk => exact False.elim hq'
    | cont => exact False.elim hq'
theorem pe_makeV (M : Mk X.K C f) (F : FnOk X.prog X.w X.K X.mg X.base CX k f fd ps sp) (hr : Room (k + 1) X.A) (hg : Gl X x) (hm : X.mg x = some (.ref C)) (hb : Binds X.K fd ps []) (hx : ∀ σ, PassesAt CX X σ (E σ))
    (ha : PA X (e :: es) t) (hdb : (x == ("__debug__" : Str)) = false := by decide) (he : starEach (e :: es) X.env = (false, eval e X.env) :: starEach es X.env := by rfl) (hpl : (backTo pos (starEach es X.env)).any (·.1) = false := by rfl) :
    PE X (.Call (.Name x p) (e :: es) [] pos) (tMakeV C sp E t) := by
  refine ⟨fun pins s σ H Q I h => ?_⟩
  refine wpAny_Call_Name_kw (ld_glob I hg hm ?_ hdb)
  refine PySem.W.callWith_K (h₀ := X.base) I.ok.mod.kin M.kp (thn (ha.run pos pins s σ H _ I h) fun us s1 ⟨vs, H1, I1, r, q⟩ => ⟨I1.kIn, ?_⟩) he hpl
  exact run_makeV M F hr hb (hx σ) I1 r q
theorem pe_makeV0 (M : Mk X.K C f) (F : FnOk X.prog X.w X.K X.mg X.base CX k f fd ps sp) (hr : Room (k + 1) X.A) (hg : Gl X x) (hm : X.mg x = some (.ref C)) (hb : Binds X.K fd ps []) (hx : ∀ σ, PassesAt CX X σ (E σ))
    (hdb : (x == ("__debug__" : Str)) = false := by decide) : PE X (.Call (.Name x p) [] [] pos) (tMakeV C sp E tNil) := by
  refine ⟨fun pins s σ H Q I h => ?_⟩
  refine wpAny_Call_Name_kw (ld_glob I hg hm ?_ hdb)
  exact PySem.W.callWith_K0 I.kIn M.kp (run_makeV (us := []) M F hr hb (hx σ) I .nil h)
theorem run_fnI {pins : List (Addr × Obj)} {σ : L2.St} {H : Hp} {s : Shared} {Q : VK} {us : List Value} {vs : List V} (F : FnOk X.prog X.w X.K X.mg X.base CX k f fd ps sp) (hr : Room (k + 1) X.A) (hb : Binds X.K fd ps []) (hx : PassesAt CX X σ (E σ))
    (I : Inv X pins σ H s) (r : Vals vs us) (h : sp vs H Q (E σ)) : wpAny (model X.prog X.w) X.A.in1 (call (.ref f) us) (EP X pins σ Q) X.xe s := by
  have hl : us.length = ps.length := by rw [← r.length]; exact F.len _ _ _ _ h
  have b := hb s us I.kIn (by rw [List.append_nil]; exact hl)
  rw [List.append_nil] at b
  refine wpAny_call (codeAny_mono (F.run X.A.in1 X.stack s H ⟨us, []⟩ us vs Q (E σ) hr.in1 I.env0.in1 b r h) fun r s' hq => ?_)
  cases r with
  | error e => exact hx pins H s e s' I hq
  | ok fl =>
    cases fl with
    | ret u => exact I.after hq
    | next => exact False.elim hq
    | brk => exact False.elim hq
    | cont => exact False.elim hq
/-- len(x), x of a class with __len__ -/
theorem call_lenO (hl : PySem.W.findIn X.K (.ref C) "__len__" = some (some (.ref f))) (hf : PySem.W.isFn X.K (.ref f) = true) (F : FnOk X.prog X.w X.K X.mg X.base CX k f fd ps sp) (hr : Room (k + 1) X.A) (hb : Binds X.K fd ps []) (hx : ∀ σ, PassesAt CX X σ (fun _ _ _ => False)) :
    CallR X (.builtin "len") (fun xs H Q => ∃ a dx fs, xs = [.ref a] ∧ H a = some (.ins C dx fs) ∧ sp [.ref a] H (fun v H' => ∃ n : Nat, v = .int n ∧ n < 2 ^ 63 ∧ Q (.int n) H') (fun _ _ _ => False)) := by
  intro pins s σ H xs us Q I r h
  obtain ⟨a, dx, fs, rfl, hy, q⟩ := h
  obtain ⟨u, rfl, ru⟩ := vals1 r
  obtain rfl : u = Value.ref a := ru
  obtain ⟨mA, O, _, _, _, _⟩ := ins_get I.hok hy
  have L1 : PySem.W.Looks (model X.prog X.w) s.heap (typeOf (.ref a)) (.ref C) := fun A Q E s k q => wpAny_typeOf_ref (k _ _ O.obj) (by exact q)
  refine Calls.call_function_entry kind_len plain_len entry_len (args_len1 _) ?_
  unfold Builtin.«len»
  refine wpAny_bind (m := oneArg "len" _) (wpAny_pure ?_)
  have hc : ∀ {Q' : Option Value → Shared → Prop}, wpAny (model X.prog X.w) X.A.in1 (call (.ref f) [.ref a]) (fun v s' => Q' (some v) s') X.xe s → wpAny (model X.prog X.w) X.A.in1 (callSpecial? (.ref a) "__len__" []) Q' X.xe s := fun q => by
    unfold callSpecial? specialOf
    refine wpAny_bind (wpAny_bind (L1.here ((PySem.W.looks_findIn I.kIn hl).here ?_)))
    refine wpAny_holding ?_
    refine wpAny_bind ((PySem.W.bind_fn I.kIn _ (beq_iff_eq.mp hf)).here ?_)
    exact wpAny_bind (wpAny_mono q (fun v s' z => wpAny_pure z) fun _ _ z => z)
  refine wpAny_bind (m := callSpecial? (.ref a) (PySem.Str.ofString "__len__")) (hc (wpAny_mono (run_fnI (E := fun _ _ _ _ => False) (us := [.ref a]) (vs := [.ref a]) F hr hb (hx σ) I (.cons rfl .nil) q) (fun v s' z => ?_) fun _ _ z => z))
  obtain ⟨w, H', I', rw', n, rfl, hn, q'⟩ := z
  obtain ⟨t, rfl⟩ := (show ∃ t, v = Value.int n t from rw')
  refine wpAny_bind (wpAny_holding (wpAny_pure ?_))
  refine wpAny_bind (wpAny_letGo ?_)
  show wpAny _ _ (if ((n : Nat) : Int) < 0 then _ else _) _ _ _
  rw [if_neg (by omega)]
  show wpAny _ _ (if ((n : Nat) : Int) ≥ 2 ^ 63 then _ else _) _ _ _
  rw [if_neg (by omega)]
  exact wpAny_bind (wpAny_mkInt (wpAny_pure ⟨_, rfl, ⟨.int n, H', I'.tok _, ⟨_, rfl⟩, q'⟩⟩))
end

variable [TabQ] [ExQ]
section
variable {F : Cf} {ta tb tc te to : WX → TE} {ma mb mc mo : Env → Sto → Rs W} {t : WX → TA} {m : Env → Sto → Rs (List W)} {n : Nat} {mf : List W → Sto → Rs W}
theorem ee_callV (ha : AA F t m) : EE F (fun W => tCallS (spV F n mf) (WE W) (t W)) (mCall n mf m) := by
  refine ⟨fun {φ S ρ σ H} G W Q h => ?_⟩
  refine ha.run G W _ (RO.bind h fun vs as S1 φ1 H1 e1 g1 r1 h1 => ?_)
  cases q : as.length == n with
  | false => rw [q] at h1; exact h1.elim
  | true => rw [q] at h1; exact ⟨φ1, S1, as, g1, r1, beq_iff_eq.mp q, h1⟩
theorem ee_fld {c : Nat} {f : Str} (ha : EE F ta ma) (hc : Cls F.K (F.ca c)) (hn : NoAttr F.K (F.ca c) f) : EE F (fun W => tFld F.K (ta W) f) (mFld c f ma) := by
  refine ⟨fun {φ S ρ σ H} G W Q h => ?_⟩
  refine ha.run G W _ (RO.bind h fun v w S1 φ1 H1 e1 g1 r1 h1 => ?_)
  cases w with
  | ref i =>
    cases r1 with
    | ref hi =>
      rename_i a
      cases q : S1.get i with
      | none => simp only [q] at h1; exact h1.elim
      | some ce =>
        cases ce with
        | ins c' fs =>
          simp only [q] at h1
          cases q2 : c' == c with
          | false => rw [q2] at h1; exact h1.elim
          | true =>
            rw [q2] at h1
            obtain rfl := beq_iff_eq.mp q2
            cases q3 : fs.lookup f with
            | none => simp only [q3] at h1; exact h1.elim
            | some u =>
              simp only [q3] at h1
              obtain ⟨b, hb, dx, vs, hx, fl⟩ := g1.cell i _ q
              rw [hi] at hb
              cases hb
              obtain ⟨v, hv, rv⟩ := fl.get q3
              exact ⟨_, _, dx, vs, v, rfl, hx, hc, hn, hv, h1.ok (Ext.refl _ _) g1 rv⟩
        | lst ws => simp only [q] at h1; exact h1.elim
        | dic kvs => simp only [q] at h1; exact h1.elim
  | dat d => exact h1.elim
  | tup ws => exact h1.elim
  | fn k => exact h1.elim
  | frz ds => exact h1.elim
theorem ee_mth {c : Nat} {f : Str} (ho : EE F to mo) (ha : AA F t m) : EE F (fun W => tMethV (F.ca c) f (spV F n mf) (WE W) (to W) (t W)) (mMth c f n mf mo m) := by
  refine ⟨fun {φ S ρ σ H} G W Q h => ?_⟩
  refine ho.run G W _ (RO.bind h fun v w S1 φ1 H1 e1 g1 r1 h1 => ?_)
  cases w with
  | ref i =>
    have r0 := r1
    cases r1 with
    | ref hi =>
      rename_i a
      cases q : S1.get i with
      | none => simp only [q] at h1; exact h1.elim
      | some ce =>
        cases ce with
        | ins c' fs =>
          simp only [q] at h1
          cases q2 : c' == c with
          | false => rw [q2] at h1; exact h1.elim
          | true =>
            rw [q2] at h1
            obtain rfl := beq_iff_eq.mp q2
            cases q3 : fs.lookup f with
            | some u => simp only [q3] at h1; exact h1.elim
            | none =>
              simp only [q3] at h1
              obtain ⟨b, hb, dx, vs, hx, fl⟩ := g1.cell i _ q
              rw [hi] at hb
              cases hb
              refine ⟨_, dx, vs, rfl, hx, fl.gone q3, ?_⟩
              refine ha.run (G.up e1 g1) W _ (RO.bind h1 fun us as S2 φ2 H2 e2 g2 r2 h2 => ?_)
              cases q4 : as.length + 1 == n with
              | false => rw [q4] at h2; exact h2.elim
              | true => rw [q4] at h2; exact ⟨φ2, S2, _ :: as, g2, .cons (r0.ext e2 g1) r2, beq_iff_eq.mp q4, h2⟩
        | lst ws => simp only [q] at h1; exact h1.elim
        | dic kvs => simp only [q] at h1; exact h1.elim
  | dat d => exact h1.elim
  | tup ws => exact h1.elim
  | fn k => exact h1.elim
  | frz ds => exact h1.elim
theorem pre_end {φ : Phi} {S : Sto} {H : Hp} {p : Addr} (g : GS F φ S H) : (φ ++ [p])[S.n]? = some p := by
  rw [← g.len, List.getElem?_append_right (Nat.le_refl _), Nat.sub_self]
  rfl
theorem ee_mk {c : Nat} (ha : AA F t m) : EE F (fun W => tMakeV (F.ca c) (spV F n mf) (WE W) (t W)) (mMk c n mf m) := by
  refine ⟨fun {φ S ρ σ H} G W Q h => ?_⟩
  refine ha.run G W _ (RO.bind h fun vs as S1 φ1 H1 e1 g1 r1 h1 => ?_)
  intro x dx hx hdx ne
  cases q4 : as.length + 1 == n with
  | false => rw [q4] at h1; exact h1.elim
  | true =>
    rw [q4] at h1
    have g2 := g1.new (o := .own x) hdx
    have hx2 : upd H1 dx (.own x) x = none := by rw [upd_ne (Ne.symm ne)]; exact hx
    have pre : φ1 <+: φ1 ++ [x] := List.prefix_append _ _
    have g3 : GS F (φ1 ++ [x]) (S1.push (.ins c [])) (upd (upd H1 dx (.own x)) x (.ins (F.ca c) dx [])) := g2.push hx2 ⟨dx, [], upd_same, .nil⟩
    have e2 : Ext φ1 H1 (φ1 ++ [x]) (upd (upd H1 dx (.own x)) x (.ins (F.ca c) dx [])) :=
      (((Ext.refl _ _).off (Fre.of hdx) (fun _ => HO.noConfusion)).off (Fre.of hx) (fun _ => HO.noConfusion)).add (Fre.of hx)
    have rx : RV F (φ1 ++ [x]) (upd (upd H1 dx (.own x)) x (.ins (F.ca c) dx [])) (.ref x) (.ref S1.n) := .ref (pre_end g1)
    refine ⟨_, _, .ref S1.n :: as, g3, .cons rx (r1.ext e2 g1), beq_iff_eq.mp q4, ?_⟩
    refine RO.bind (RO.at h1 e2) fun v w S2 φ2 H2 e3 g4 r2 h2 => ?_
    cases w with
    | dat d =>
      cases d with
      | none => exact ⟨rv_none r2, h2.ok (Ext.refl _ _) g4 (rx.ext e3 g3)⟩
      | _ => exact h2.elim
    | tup ws => exact h2.elim
    | ref i => exact h2.elim
    | fn k => exact h2.elim
    | frz ds => exact h2.elim
/-! the data layer's defs -/
theorem cd_sp {n : Nat} {f : List D → Option D} {E : XK} : DD.CD F.K (fun vs H Q => DD.spM F.K n f (vs ++ []) H Q E) (DD.lim n f) := by
  refine ⟨fun {H T vs ds d} dis h e Q q => ?_⟩
  unfold DD.lim at e
  split at e
  · rename_i hn
    rw [List.append_nil]
    exact ⟨ds, d, H, T, h, hn, e, rfl, dis, q⟩
  · cases e
theorem ee_callD {f : List D → Option D} {E : XK} (ha : AA F t m) : EE F (fun W => tCall (DD.spM F.K n f) [] E (t W)) (mCB (cD (DD.lim n f)) m) := ee_cb (cc_d cd_sp) ha
theorem ee_callX {f : List D → Option DD.Rs} (ha : AA F t m) : EE F (fun W => tCallS (DD.spX F.K F.xa n f) (WE W) (t W)) (mCB (cX (DD.limR n f)) m) := by
  refine ⟨fun {φ S ρ σ H} G W Q h => ?_⟩
  refine ha.run G W _ (RO.bind h fun vs as S1 φ1 H1 e1 g1 r1 h1 => ?_)
  unfold cX at h1
  cases q1 : dOfs (dOf S1 dpt) as with
  | none => simp only [q1] at h1; exact h1.elim
  | some da =>
    cases q3 : DD.limR n f da with
    | none => simp only [q1, q3] at h1; exact h1.elim
    | some z =>
      simp only [q1, q3] at h1
      have q4 : da.length = n ∧ f da = some z := by
        unfold DD.limR at q3
        split at q3
        · exact ⟨by assumption, q3⟩
        · cases q3
      refine ⟨da, z, H1, noT, dOfs_ok (dOf_ok g1 _) r1 q1, q4.1, q4.2, rfl, disT g1.tab, ?_⟩
      cases z with
      | ok d => exact fun v H' s d p => h1.data g1 s d p
      | ex c => exact fun H' s d => h1 φ1 H' (Ext.same s) (g1.same s d.tab)
/-! lists -/
def lstOf (S : Sto) (i : Nat) : Option (List W) := match S.get i with
  | some (.lst ws) => some ws
  | _ => none
theorem lstOf_some {S : Sto} {i : Nat} {ws : List W} (h : lstOf S i = some ws) : S.get i = some (.lst ws) := by
  unfold lstOf at h
  split at h
  · rename_i e; cases h; exact e
  · cases h
theorem GS.lst {φ : Phi} {S : Sto} {H : Hp} {i : Nat} {a : Addr} {ws : List W} (g : GS F φ S H) (h : φ[i]? = some a) (q : lstOf S i = some ws) : ∃ xs, H a = some (.lst xs) ∧ RVs F φ H xs ws := by
  obtain ⟨b, hb, xs, hx, t⟩ := g.cell i _ (lstOf_some q)
  rw [h] at hb
  cases hb
  exact ⟨xs, hx, t⟩
/-- what has items: a tuple, a list -/
def itemsW (w : W) (S : Sto) : Option (List W) := match w with
  | .dat (.tuple ds) => some (ds.map .dat)
  | .tup ws => some ws
  | .ref i => lstOf S i
  | .frz ds => some (ds.map .dat)
  | _ => none
theorem items_ok {φ : Phi} {S : Sto} {H : Hp} {v : V} {w : W} {ws : List W} (g : GS F φ S H) (r : RV F φ H v w) (h : itemsW w S = some ws) : ∃ a xs, v = .ref a ∧ (SqL F.K H a xs ∨ SqT F.K H a xs) ∧ RVs F φ H xs ws := by
  unfold itemsW at h
  split at h
  · cases h
    cases r with
    | dat p u =>
      cases p with
      | tup hs t => exact ⟨_, _, rfl, .inr hs, .ofD t (by rw [pur_tup] at u; exact u)⟩
  · cases h
    cases r with
    | tup hs t => exact ⟨_, _, rfl, .inr hs, t⟩
  · cases r with
    | ref hi =>
      obtain ⟨xs, hx, t⟩ := g.lst hi h
      exact ⟨_, xs, rfl, .inl (SqL.of hx), t⟩
  · cases h
    cases r with
    | frz hs t u => exact ⟨_, _, rfl, .inl hs.sql, .ofD t u⟩
  · cases h
theorem RVs.atI {φ : Phi} {H : Hp} {xs : List V} {ws : List W} (r : RVs F φ H xs ws) {i : Int} {w : W} (h : atI ws i = some w) : ∃ v, L2.atI xs i = some v ∧ RV F φ H v w := by
  unfold L2.atI at h ⊢
  rw [r.len]
  cases q : ixN ws.length i with
  | none => rw [q] at h; cases h
  | some j =>
    rw [q] at h
    exact r.get h
def isI : W → Option Int
  | .dat (.int i) => some i
  | _ => none
theorem isI_some {w : W} {i : Int} (h : isI w = some i) : w = .dat (.int i) := by
  unfold isI at h
  split at h
  · cases h; rfl
  · cases h
theorem rv_int {φ : Phi} {H : Hp} {v : V} {b : Int} (h : RV F φ H v (.dat (.int b))) : v = .int b := by
  cases h with
  | dat h _ => cases h; rfl
theorem rvInt {φ : Phi} {H : Hp} {i : Int} : RV F φ H (.int i) (.dat (.int i)) := .dat (.int i) (by simp [pur])
def ok? (o : Option W) (S : Sto) : Rs W := match o with
  | some w => .ok w S
  | none => .bad
theorem ok?_some {o : Option W} {S : Sto} {φ : Phi} {H : Hp} {Q : VK} {E : Nat → Hp → Prop} (h : RO F φ H (RV F) Q E (ok? o S)) : ∃ w, o = some w ∧ RO F φ H (RV F) Q E (.ok w S) := by
  cases o with
  | none => exact h.elim
  | some w => exact ⟨w, rfl, h⟩
/-- a[i] -/
def fIx (a b : W) (S : Sto) : Rs W := match itemsW a S with
  | some ws => match isI b with
    | some i => ok? (L2.atI ws i) S
    | none => .bad
  | none => oD DD.dIx a b S
theorem oo_ix : OOn F (rIx F.K) fIx := by
  refine ⟨⟨fun {φ S H x y a b} g r1 r2 Q q => ?_⟩, fun a b S c S' e => ?_⟩
  · unfold fIx at q
    cases e1 : itemsW a S with
    | none => simp only [e1] at q; exact (oo_d DD.rd_ix).run g r1 r2 Q q
    | some ws =>
      simp only [e1] at q
      cases e2 : isI b with
      | none => simp only [e2] at q; exact q.elim
      | some i =>
        simp only [e2] at q
        obtain rfl := isI_some e2
        cases rv_int r2
        obtain ⟨w, hw, q⟩ := ok?_some q
        obtain ⟨p, xs, rfl, hs, t⟩ := items_ok g r1 e1
        obtain ⟨v, hv, rv⟩ := t.atI hw
        rcases hs with hs | hs
        · exact .inl ⟨p, xs, i, v, rfl, rfl, hs, hv, q.ok (Ext.refl _ _) g rv⟩
        · exact .inr (.inl ⟨p, xs, i, v, rfl, rfl, hs, hv, q.ok (Ext.refl _ _) g rv⟩)
  · unfold fIx ok? oD wOf at e
    repeat' split at e
    all_goals cases e
def fPush (ws : List W) (S : Sto) : Rs W := .ok (.ref S.n) (S.push (.lst ws))
/-- list(x) -/
def fList (as : List W) (S : Sto) : Rs W := match as with
  | [a] => match itemsW a S with
    | some ws => sizedW ws (fPush ws S)
    | none => .bad
  | _ => .bad
theorem sized_no {ws : List W} {r : Rs W} {c : Nat} {S : Sto} (h : r ≠ .ex c S) : sizedW ws r ≠ .ex c S := by
  unfold sizedW
  split
  · exact h
  · exact fun z => nomatch z
theorem cc_list : CCn F (DD.rLstOf F.K) fList := by
  refine ⟨⟨fun {φ S H xs as} g r Q q => ?_⟩, fun as S c S' e => ?_⟩
  · unfold fList at q
    split at q
    · rename_i a
      cases r with
      | cons r rr =>
        cases rr
        cases e1 : itemsW a S with
        | none => simp only [e1] at q; exact q.elim
        | some ws =>
          simp only [e1] at q
          obtain ⟨_, q⟩ := sizedW_some q
          obtain ⟨p, ys, rfl, hs, t⟩ := items_ok g r e1
          exact ⟨p, ys, rfl, hs, fun l hl => push_ok q g hl t⟩
    · exact q.elim
  · unfold fList fPush sizedW at e
    repeat' split at e
    all_goals cases e
/-- tuple(x) -/
def fTuple (as : List W) (S : Sto) : Rs W := match as with
  | [a] => match itemsW a S with
    | some ws => .ok (mkTup ws) S
    | none => .bad
  | _ => .bad
theorem cc_tuple : CCn F (DD.rTupOf F.K) fTuple := by
  refine ⟨⟨fun {φ S H xs as} g r Q q => ?_⟩, fun as S c S' e => ?_⟩
  · unfold fTuple at q
    split at q
    · rename_i a
      cases r with
      | cons r rr =>
        cases rr
        cases e1 : itemsW a S with
        | none => simp only [e1] at q; exact q.elim
        | some ws =>
          simp only [e1] at q
          obtain ⟨p, ys, rfl, hs, t⟩ := items_ok g r e1
          refine ⟨p, ys, rfl, ?_⟩
          rcases hs with hs | hs
          · exact .inl ⟨hs, fun l hl => q.ok ((Ext.refl _ _).off (Fre.of hl) (fun _ => HO.noConfusion)) (g.new hl) (rv_tup (SqT.of upd_same) (t.up (List.prefix_refl _) (Stay.new hl)))⟩
          · exact .inr ⟨hs, q.ok (Ext.refl _ _) g (rv_tup hs t)⟩
    · exact q.elim
  · unfold fTuple at e
    repeat' split at e
    all_goals cases e
/-- len(x) -/
def fLen (as : List W) (S : Sto) : Rs W := match as with
  | [a] => match itemsW a S with
    | some ws => sizedW ws (.ok (.dat (.int ws.length)) S)
    | none => cD DD.dLen as S
  | _ => .bad
theorem cc_len : CCn F (DD.rLenA F.K) fLen := by
  refine ⟨⟨fun {φ S H xs as} g r Q q => ?_⟩, fun as S c S' e => ?_⟩
  · unfold fLen at q
    split at q
    · rename_i a
      cases e1 : itemsW a S with
      | none => simp only [e1] at q; exact (cc_d DD.cd_len).run g r Q q
      | some ws =>
        simp only [e1] at q
        obtain ⟨hz, q⟩ := sizedW_some q
        cases r with
        | cons r rr =>
          cases rr
          obtain ⟨p, ys, rfl, hs, t⟩ := items_ok g r e1
          have q := q.ok (Ext.refl _ _) g (rvInt (i := ws.length))
          rw [← t.len] at q
          refine ⟨_, ys.length, rfl, ?_, q⟩
          rcases hs with hs | hs
          · exact .inl ⟨ys, hs, rfl⟩
          · exact .inr ⟨ys, hs, rfl⟩
    · exact q.elim
  · unfold fLen cD wOf sizedW at e
    repeat' split at e
    all_goals cases e
end
end EV

set_option Elab.async false
set_option linter.all false
set_option maxRecDepth 100000
set_option maxHeartbeats 4000000
/-! lists and tuples: more; what is walked; targets; comprehensions -/
namespace EV
open PySem PySem.Spec PyProof.Rows L2
open DD (TabQ ExQ D SqB)
variable [TabQ] [ExQ]
section
variable {F : Cf} {ta tb tc te to : WX → TE} {ma mb mc mo : Env → Sto → Rs W} {t : WX → TA} {m : Env → Sto → Rs (List W)}
/-- a list so many times -/
def fRep (a b : W) (S : Sto) : Rs W := match a with
  | .ref i => match lstOf S i with
    | some ws => match isI b with
      | some k => match decide (-(2 ^ 63) ≤ k ∧ k < 2 ^ 63 ∧ ws.length * k.toNat ≤ cap) with
        | true => fPush (List.replicate k.toNat ws).flatten S
        | false => .bad
      | none => .bad
    | none => .bad
  | _ => .bad
theorem oo_rep : OOn F rRep fRep := by
  refine ⟨⟨fun {φ S H x y a b} g r1 r2 Q q => ?_⟩, fun a b S c S' e => ?_⟩
  · unfold fRep at q
    split at q
    · rename_i i
      cases e1 : lstOf S i with
      | none => simp only [e1] at q; exact q.elim
      | some ws =>
        cases e2 : isI b with
        | none => simp only [e1, e2] at q; exact q.elim
        | some k =>
          simp only [e1, e2] at q
          split at q
          · rename_i hz
            obtain ⟨h1, h2, h3⟩ := of_decide_eq_true hz
            obtain rfl := isI_some e2
            cases rv_int r2
            cases r1 with
            | ref hi =>
              obtain ⟨xs, hx, t⟩ := g.lst hi e1
              exact ⟨_, k, xs, rfl, rfl, hx, h1, h2, lenK (by rw [t.len]; exact h3), fun p hp => push_ok q g hp (t.rep _)⟩
          · exact q.elim
    · exact q.elim
  · unfold fRep fPush at e
    repeat' split at e
    all_goals cases e
/-- list + list -/
def fCat (a b : W) (S : Sto) : Rs W := match a, b with
  | .ref i, .ref j => match lstOf S i, lstOf S j with
    | some xs, some ys => sizedW (xs ++ ys) (fPush (xs ++ ys) S)
    | _, _ => .bad
  | _, _ => .bad
theorem oo_cat : OOn F (DD.rCatX F.K) fCat := by
  refine ⟨⟨fun {φ S H x y a b} g r1 r2 Q q => ?_⟩, fun a b S c S' e => ?_⟩
  · unfold fCat at q
    split at q
    · rename_i i j
      split at q
      · rename_i xs ys e1 e2
        obtain ⟨hz, q⟩ := sizedW_some q
        cases r1 with
        | ref hi =>
          cases r2 with
          | ref hj =>
            obtain ⟨vs, hx, t⟩ := g.lst hi e1
            obtain ⟨us, hy, u⟩ := g.lst hj e2
            exact ⟨_, _, vs, us, rfl, rfl, SqL.of hx, SqL.of hy, lenK (by rw [t.len, u.len, ← List.length_append]; exact hz), fun p hp => push_ok q g hp (t.append u)⟩
      · exact q.elim
    · exact q.elim
  · unfold fCat fPush sizedW at e
    repeat' split at e
    all_goals cases e
/-! parts -/
structure PP (F : Cf) (tp : WX → TO) (m : Env → Sto → Rs (Option Int)) : Prop where
  run : ∀ {φ : Phi} {S : Sto} {ρ : Env} {σ : L2.St} {H : Hp}, Good F φ S ρ σ H → ∀ (W : WX) (Q : Option Int → Hp → Prop), RO F φ H (fun _ _ b a => b = a) Q (fun c H' => W (.ref (F.xa c)) none σ H') (m ρ S) → tp W σ H Q
def pNo (_ : Env) (S : Sto) : Rs (Option Int) := .ok none S
def pPart (a : Env → Sto → Rs W) (ρ : Env) (S : Sto) : Rs (Option Int) := (a ρ S).bind fun w S1 => match isI w with
  | some i => match decide (-(2 ^ 63) < i ∧ i < 2 ^ 63 - 1) with
    | true => .ok (some i) S1
    | false => .bad
  | none => .bad
theorem pp_no : PP F (fun _ => tNoPart) pNo := ⟨fun {φ S ρ σ H} G W Q h => h.ok (Ext.refl _ _) G.gs rfl⟩
theorem pp_part (ha : EE F ta ma) : PP F (fun W => tPart (ta W)) (pPart ma) := by
  refine ⟨fun {φ S ρ σ H} G W Q h => ?_⟩
  refine ha.run G W _ (RO.bind h fun v a S1 φ1 H1 e1 g1 r1 h1 => ?_)
  cases q : isI a with
  | none => simp only [q] at h1; exact h1.elim
  | some i =>
    simp only [q] at h1
    split at h1
    · rename_i hz
      have hz := of_decide_eq_true hz
      obtain rfl := isI_some q
      cases rv_int r1
      first
        | exact ⟨i, rfl, hz.1, hz.2, h1.ok (Ext.refl _ _) g1 rfl⟩
        | exact ⟨i, rfl, hz, h1.ok (Ext.refl _ _) g1 rfl⟩
        | exact ⟨i, rfl, h1.ok (Ext.refl _ _) g1 rfl⟩
    · exact h1.elim
structure SLn (F : Cf) (r : V → Option Int → Option Int → Hp → VK → Prop) (f : W → Option Int → Option Int → Sto → Rs W) : Prop where
  run : ∀ {φ : Phi} {S : Sto} {H : Hp} {x : V} {a : W} {lo hi : Option Int}, GS F φ S H → RV F φ H x a → ∀ Q : VK, RO F φ H (RV F) Q NoE (f a lo hi S) → r x lo hi H Q
  no : ∀ a lo hi S c S', f a lo hi S ≠ .ex c S'
def mSl (f : W → Option Int → Option Int → Sto → Rs W) (a : Env → Sto → Rs W) (l h : Env → Sto → Rs (Option Int)) (ρ : Env) (S : Sto) : Rs W := (a ρ S).bind fun w S1 => (l ρ S1).bind fun lo S2 => (h ρ S2).bind fun hi S3 => f w lo hi S3
theorem ee_sl {r : V → Option Int → Option Int → Hp → VK → Prop} {f : W → Option Int → Option Int → Sto → Rs W} {tl th : WX → TO} {ml mh : Env → Sto → Rs (Option Int)} (hr : SLn F r f) (ha : EE F ta ma) (hl : PP F tl ml) (hh : PP F th mh) :
    EE F (fun W => tSl r (ta W) (tl W) (th W)) (mSl f ma ml mh) := by
  refine ⟨fun {φ S ρ σ H} G W Q h => ?_⟩
  refine ha.run G W _ (RO.bind h fun v a S1 φ1 H1 e1 g1 r1 h1 => ?_)
  refine hl.run (G.up e1 g1) W _ (RO.bind h1 fun lo lo' S2 φ2 H2 e2 g2 r2 h2 => ?_)
  refine hh.run (G.up (e1.trans e2) g2) W _ (RO.bind h2 fun hi hi' S3 φ3 H3 e3 g3 r3 h3 => ?_)
  cases r2
  cases r3
  exact hr.run g3 (r1.ext (e2.trans e3) g1) Q (noE h3 fun c S' => hr.no a lo hi S3 c S')
def cutW (ws : List W) (lo hi : Option Int) : List W := (ws.drop (HT.sIx ws.length 0 lo)).take (HT.sIx ws.length ws.length hi - HT.sIx ws.length 0 lo)
theorem RVs.cut {φ : Phi} {H : Hp} {xs : List V} {ws : List W} (r : RVs F φ H xs ws) (lo hi : Option Int) : RVs F φ H (cutV xs lo hi) (cutW ws lo hi) := by
  unfold cutV cutW
  rw [r.len]
  exact (r.drop _).take _
def fSl (a : W) (lo hi : Option Int) (S : Sto) : Rs W := match a with
  | .ref i => match lstOf S i with
    | some ws => fPush (cutW ws lo hi) S
    | none => .bad
  | .frz _ => .bad
  | .dat (.str z) => match Nat.ble z.length cap with
    | true => .ok (.dat (.str (cutS z lo hi))) S
    | false => .bad
  | a => match itemsW a S with
    | some ws => .ok (mkTup (cutW ws lo hi)) S
    | none => .bad
theorem cut_whole {xs : List V} {lo hi : Option Int} (h : HT.sIx xs.length 0 lo = 0 ∧ HT.sIx xs.length xs.length hi = xs.length) : cutV xs lo hi = xs := by
  unfold cutV
  rw [h.1, h.2, List.drop_zero, Nat.sub_zero, List.take_length]
theorem sl_tupW {φ : Phi} {S : Sto} {H : Hp} {x : V} {a : W} {ws : List W} {lo hi : Option Int} {Q : VK} (g : GS F φ S H) (r : RV F φ H x a) (hn : ∀ i, a ≠ .ref i) (hn2 : ∀ ds, a ≠ .frz ds) (e : itemsW a S = some ws) (q : RO F φ H (RV F) Q NoE (.ok (mkTup (cutW ws lo hi)) S)) : DD.rSlY F.K x lo hi H Q := by
  have key : ∃ p xs, x = .ref p ∧ SqT F.K H p xs ∧ RVs F φ H xs ws := by
    unfold itemsW at e
    split at e
    · cases e
      cases r with
      | dat p u =>
        cases p with
        | tup hs t => exact ⟨_, _, rfl, hs, .ofD t (by rw [pur_tup] at u; exact u)⟩
    · cases e
      cases r with
      | tup hs t => exact ⟨_, _, rfl, hs, t⟩
    · exact absurd rfl (hn _)
    · exact absurd rfl (hn2 _)
    · cases e
  obtain ⟨p, xs, rfl, hs, t⟩ := key
  refine .inl (.inl ⟨p, xs, rfl, hs, fun hw => ?_, fun _ l hl => ?_⟩)
  · have t2 := t.cut lo hi
    rw [cut_whole hw] at t2
    exact q.ok (Ext.refl _ _) g (rv_tup hs t2)
  · exact q.ok ((Ext.refl _ _).off (Fre.of hl) (fun _ => HO.noConfusion)) (g.new hl) (rv_tup (SqT.of upd_same) ((t.cut lo hi).up (List.prefix_refl _) (Stay.new hl)))
theorem sl_w : SLn F (DD.rSlY F.K) fSl := by
  refine ⟨fun {φ S H x a lo hi} g r Q q => ?_, fun a lo hi S c S' e => ?_⟩
  · unfold fSl at q
    split at q
    · rename_i i
      cases e1 : lstOf S i with
      | none => simp only [e1] at q; exact q.elim
      | some ws =>
        simp only [e1] at q
        cases r with
        | ref hi' =>
          obtain ⟨xs, hx, t⟩ := g.lst hi' e1
          exact .inr ⟨_, xs, rfl, SqL.of hx, fun p hp => push_ok q g hp (t.cut lo hi)⟩
    · exact q.elim
    · rename_i z
      split at q
      · rename_i hz
        cases r with
        | dat p u =>
          cases p
          exact .inl (.inr ⟨z, rfl, lenK (Nat.le_of_ble_eq_true hz), q.ok (Ext.refl _ _) g (.dat (.str _) (by simp [pur]))⟩)
      · exact q.elim
    · rename_i h1 h3 h2
      cases e1 : itemsW a S with
      | none => simp only [e1] at q; exact q.elim
      | some ws => simp only [e1] at q; exact sl_tupW g r (fun i z => h1 i z) (fun i z => h3 i z) e1 q
  · unfold fSl fPush at e
    repeat' split at e
    all_goals cases e
/-! methods of lists -/
structure MM (F : Cf) (r : V → List V → Hp → VK → Prop) (f : Nat → List W → Sto → Rs W) : Prop where
  run : ∀ {φ : Phi} {S : Sto} {H : Hp} {i : Nat} {a : Addr} {xs : List V} {as : List W}, GS F φ S H → φ[i]? = some a → RVs F φ H xs as → ∀ Q : VK, RO F φ H (RV F) Q NoE (f i as S) → r (.ref a) xs H Q
  no : ∀ i as S c S', f i as S ≠ .ex c S'
/-- o.append(..) and the like -/
def mBM (f : Nat → List W → Sto → Rs W) (o : Env → Sto → Rs W) (a : Env → Sto → Rs (List W)) (ρ : Env) (S : Sto) : Rs W := (o ρ S).bind fun w S1 => match w with
  | .ref i => match lstOf S1 i with
    | some _ => (a ρ S1).bind fun as S2 => f i as S2
    | none => .bad
  | _ => .bad
theorem ee_bm {r : V → List V → Hp → VK → Prop} {f : Nat → List W → Sto → Rs W} (hr : MM F r f) (ho : EE F to mo) (ha : AA F t m) : EE F (fun W => tBM F.K "list" r (to W) (t W)) (mBM f mo m) := by
  refine ⟨fun {φ S ρ σ H} G W Q h => ?_⟩
  refine ho.run G W _ (RO.bind h fun v w S1 φ1 H1 e1 g1 r1 h1 => ?_)
  cases w with
  | ref i =>
    cases r1 with
    | ref hi =>
      cases q : lstOf S1 i with
      | none => simp only [q] at h1; exact h1.elim
      | some ws =>
        simp only [q] at h1
        obtain ⟨xs, hx, t⟩ := g1.lst hi q
        refine ⟨.inl ⟨rfl, xs, SqL.of hx⟩, ?_⟩
        refine ha.run (G.up e1 g1) W _ (RO.bind h1 fun us as S2 φ2 H2 e2 g2 r2 h2 => ?_)
        exact hr.run g2 (pre_get e2.pre hi) r2 Q (noE h2 fun c S' => hr.no i as S2 c S')
  | dat d => exact h1.elim
  | tup ws => exact h1.elim
  | fn k => exact h1.elim
  | frz ds => exact h1.elim
def wNon : W := .dat .none
theorem rvNon {φ : Phi} {H : Hp} : RV F φ H .non wNon := .dat .non (by simp [pur])
theorem set_lst {φ : Phi} {S : Sto} {H : Hp} {i : Nat} {a : Addr} {xs : List V} {ws ws2 : List W} (g : GS F φ S H) (hi : φ[i]? = some a) (q : lstOf S i = some ws) (t : RVs F φ H xs ws2) : Ext φ H φ (upd H a (.lst xs)) ∧ GS F φ (S.set i (.lst ws2)) (upd H a (.lst xs)) :=
  ⟨g.ext_set hi (fun _ => HO.noConfusion), g.set (lstOf_some q) hi ⟨xs, upd_same, t.up (List.prefix_refl _) (g.stay hi)⟩⟩
def fAppend (i : Nat) (as : List W) (S : Sto) : Rs W := match as with
  | [w] => match lstOf S i with
    | some ws => sizedW (w :: ws) (.ok wNon (S.set i (.lst (ws ++ [w]))))
    | none => .bad
  | _ => .bad
theorem mm_append : MM F rAppend fAppend := by
  refine ⟨fun {φ S H i a xs as} g hi r Q q => ?_, fun i as S c S' e => ?_⟩
  · unfold fAppend at q
    split at q
    · rename_i w
      cases e1 : lstOf S i with
      | none => simp only [e1] at q; exact q.elim
      | some ws =>
        simp only [e1] at q
        obtain ⟨hz, q⟩ := sizedW_some q
        cases r with
        | cons r rr =>
          cases rr
          obtain ⟨ys, hy, t⟩ := g.lst hi e1
          obtain ⟨e, g2⟩ := set_lst g hi e1 (t.snoc r)
          have hz : ws.length + 1 ≤ cap := hz
          exact ⟨a, ys, _, rfl, rfl, hy, Nat.lt_of_lt_of_le (by rw [t.len]; omega) (lenK hz), q.ok e g2 rvNon⟩
    · exact q.elim
  · unfold fAppend sizedW at e
    repeat' split at e
    all_goals cases e
def fExtend (i : Nat) (as : List W) (S : Sto) : Rs W := match as with
  | [w] => match lstOf S i with
    | some ws => match w with
      | .ref j => match lstOf S j with
        | some us => sizedW (ws ++ us) (.ok wNon (S.set i (.lst (ws ++ us))))
        | none => .bad
      | _ => .bad
    | none => .bad
  | _ => .bad
theorem mm_extend : MM F (DD.rExtendV F.K) fExtend := by
  refine ⟨fun {φ S H i a xs as} g hi r Q q => ?_, fun i as S c S' e => ?_⟩
  · unfold fExtend at q
    split at q
    · rename_i w
      cases e1 : lstOf S i with
      | none => simp only [e1] at q; exact q.elim
      | some ws =>
        simp only [e1] at q
        split at q
        · rename_i j
          cases e2 : lstOf S j with
          | none => simp only [e2] at q; exact q.elim
          | some us =>
            simp only [e2] at q
            obtain ⟨hz, q⟩ := sizedW_some q
            cases r with
            | cons r rr =>
              cases rr
              cases r with
              | ref hj =>
                obtain ⟨ys, hy, t⟩ := g.lst hi e1
                obtain ⟨zs, hz2, u⟩ := g.lst hj e2
                obtain ⟨e, g2⟩ := set_lst g hi e1 (t.append u)
                exact .inr ⟨a, _, ys, zs, rfl, rfl, hy, SqL.of hz2, lenK (by rw [t.len, u.len, ← List.length_append]; exact hz), q.ok e g2 rvNon⟩
        · exact q.elim
    · exact q.elim
  · unfold fExtend sizedW at e
    repeat' split at e
    all_goals cases e
/-- count, index: over plain data -/
def fCount (i : Nat) (as : List W) (S : Sto) : Rs W := match as with
  | [w] => oD DD.dCount (.ref i) w S
  | _ => .bad
theorem mm_count : MM F (DD.rCountD F.K) fCount := by
  refine ⟨fun {φ S H i a xs as} g hi r Q q => ?_, fun i as S c S' e => ?_⟩
  · unfold fCount at q
    split at q
    · rename_i w
      cases r with
      | cons r rr =>
        cases rr
        unfold oD at q
        cases e1 : dOf S dpt (.ref i) with
        | none => rw [e1] at q; exact q.elim
        | some da =>
          cases e2 : dOf S dpt w with
          | none => rw [e1, e2] at q; exact q.elim
          | some db =>
            cases e3 : DD.dCount da db with
            | none => simp only [e1, e2, e3] at q; exact q.elim
            | some z =>
              simp only [e1, e2, e3] at q
              have p1 := dOf_ok g _ _ _ _ (.ref hi) e1
              have p2 := dOf_ok g _ _ _ _ r e2
              unfold DD.dCount at e3
              split at e3
              · rename_i ds
                split at e3
                · rename_i hs
                  cases e3
                  rw [Bool.and_eq_true] at hs
                  exact ⟨a, _, db, ds, rfl, rfl, p1, p2, hs.1, hs.2, q.ok (Ext.refl _ _) g rvInt⟩
                · cases e3
              · cases e3
    · exact q.elim
  · unfold fCount oD wOf at e
    repeat' split at e
    all_goals cases e
/-- *e, .. -/
def mStar (a : Env → Sto → Rs W) (b : Env → Sto → Rs (List W)) (ρ : Env) (S : Sto) : Rs (List W) := (a ρ S).bind fun x S1 => match itemsW x S1 with
  | some ws => (b ρ S1).bind fun xs S2 => .ok (ws ++ xs) S2
  | none => .bad
theorem aa_star {tr : WX → TA} {mr : Env → Sto → Rs (List W)} (ha : EE F ta ma) (hr : AA F tr mr) : AA F (fun W => StX.tStar F.K (ta W) (tr W)) (mStar ma mr) := by
  refine ⟨fun {φ S ρ σ H} G W Q h => ?_⟩
  refine ha.run G W _ (RO.bind h fun v a S1 φ1 H1 e1 g1 r1 h1 => ?_)
  cases q : itemsW a S1 with
  | none => simp only [q] at h1; exact h1.elim
  | some ws =>
    simp only [q] at h1
    obtain ⟨p, xs, rfl, hs, t⟩ := items_ok g1 r1 q
    refine ⟨p, xs, rfl, hs.symm, ?_⟩
    exact hr.run (G.up e1 g1) W _ (RO.bind h1 fun vs b S2 φ2 H2 e2 g2 r2 h2 => h2.ok (Ext.refl _ _) g2 ((t.ext e2 g1).append r2))
/-! ### what is walked -/
structure Itr where
  n : Nat
  ok : Sto → Bool
  «at» : Nat → Sto → Option W
structure Wk (F : Cf) (φ : Phi) (H : Hp) (J : It) (it : Itr) : Prop where
  go : ∀ {φ2 : Phi} {S2 : Sto} {H2 : Hp} (i : Nat), Ext φ H φ2 H2 → GS F φ2 S2 H2 → it.ok S2 = true → i < it.n → J.go i H2
  stop : ∀ {φ2 : Phi} {S2 : Sto} {H2 : Hp}, Ext φ H φ2 H2 → GS F φ2 S2 H2 → it.ok S2 = true → J.stop it.n H2
  yld : ∀ {φ2 : Phi} {S2 : Sto} {H2 : Hp} (i : Nat) {w : W} {x : V} {Hc : Hp}, Ext φ H φ2 H2 → GS F φ2 S2 H2 → it.ok S2 = true → it.at i S2 = some w → J.yld i H2 x Hc → Ext φ2 H2 φ2 Hc ∧ GS F φ2 S2 Hc ∧ RV F φ2 Hc x w
structure II (F : Cf) (wi : WX → TI) (m : Env → Sto → Rs Itr) : Prop where
  run : ∀ {φ : Phi} {S : Sto} {ρ : Env} {σ : L2.St} {H : Hp}, Good F φ S ρ σ H → ∀ (W : WX) (R : It → Hp → Prop), RO F φ H (Wk F) R (fun c H' => W (.ref (F.xa c)) none σ H') (m ρ S) → wi W σ H R
inductive Sq where
  | fix (ws : List W)
  | cel (i n : Nat)
def Sq.n : Sq → Nat
  | .fix ws => ws.length
  | .cel _ n => n
def Sq.ok : Sq → Sto → Bool
  | .fix _, _ => true
  | .cel i n, S => match lstOf S i with
    | some ws => ws.length == n
    | none => false
def Sq.at : Sq → Nat → Sto → Option W
  | .fix ws, k, _ => ws[k]?
  | .cel i _, k, S => match lstOf S i with
    | some ws => ws[k]?
    | none => none
def srcW (w : W) (S : Sto) : Option Sq := match w with
  | .dat (.tuple ds) => some (.fix (ds.map .dat))
  | .tup ws => some (.fix ws)
  | .ref i => match lstOf S i with
    | some ws => some (.cel i ws.length)
    | none => none
  | .frz ds => some (.fix (ds.map .dat))
  | _ => none
def SQ (F : Cf) (φ : Phi) (H : Hp) (a : Addr) (b : Bool) (sq : Sq) : Prop := ∀ {φ2 : Phi} {S2 : Sto} {H2 : Hp}, Ext φ H φ2 H2 → GS F φ2 S2 H2 → sq.ok S2 = true → ∃ xs ws, SqB b F.K H2 a xs ∧ RVs F φ2 H2 xs ws ∧ ws.length = sq.n ∧ ∀ k, sq.at k S2 = ws[k]?
theorem sqT {K : PySem.W.Frag} {H : Hp} {a : Addr} {xs : List V} (h : SqT K H a xs) : SqB true K H a xs := by unfold DD.SqB; rw [if_pos rfl]; exact h
theorem sqL {K : PySem.W.Frag} {H : Hp} {a : Addr} {xs : List V} (h : SqL K H a xs) : SqB false K H a xs := by unfold DD.SqB; rw [if_neg Bool.false_ne_true]; exact h
theorem src_ok {φ : Phi} {S : Sto} {H : Hp} {v : V} {w : W} {sq : Sq} (g : GS F φ S H) (r : RV F φ H v w) (h : srcW w S = some sq) : ∃ a b xs, v = .ref a ∧ SqB b F.K H a xs ∧ SQ F φ H a b sq := by
  unfold srcW at h
  split at h
  · cases h
    cases r with
    | dat p u =>
      cases p with
      | tup hs t =>
        have t2 : RVs F φ H _ _ := .ofD t (by rw [pur_tup] at u; exact u)
        exact ⟨_, true, _, rfl, sqT hs, fun {φ2 S2 H2} e g2 _ => ⟨_, _, sqT ((e.stay g).sqt hs), t2.ext e g, rfl, fun k => rfl⟩⟩
  · cases h
    cases r with
    | tup hs t => exact ⟨_, true, _, rfl, sqT hs, fun {φ2 S2 H2} e g2 _ => ⟨_, _, sqT ((e.stay g).sqt hs), t.ext e g, rfl, fun k => rfl⟩⟩
  · rename_i i
    cases e1 : lstOf S i with
    | none => rw [e1] at h; cases h
    | some ws =>
      rw [e1] at h
      cases h
      cases r with
      | ref hi =>
        obtain ⟨xs, hx, t⟩ := g.lst hi e1
        refine ⟨_, false, xs, rfl, sqL (SqL.of hx), fun {φ2 S2 H2} e g2 hk => ?_⟩
        have hk : (match lstOf S2 i with
          | some us => us.length == ws.length
          | none => false) = true := hk
        cases e2 : lstOf S2 i with
        | none => rw [e2] at hk; cases hk
        | some us =>
          rw [e2] at hk
          obtain ⟨ys, hy, t2⟩ := g2.lst (pre_get e.pre hi) e2
          exact ⟨ys, us, sqL (SqL.of hy), t2, beq_iff_eq.mp hk, fun k => by show (match lstOf S2 i with | some ws => ws[k]? | none => none) = _; rw [e2]⟩
  · cases h
    cases r with
    | frz hs t u =>
      have t2 : RVs F φ H _ _ := .ofD t u
      exact ⟨_, false, _, rfl, sqL hs.sql, fun {φ2 S2 H2} e g2 _ => ⟨_, _, sqL ((e.stay g).sqf hs).sql, t2.ext e g, rfl, fun k => rfl⟩⟩
  · cases h
def Sq.it (s : Sq) : Itr := ⟨s.n, s.ok, s.at⟩
/-- the signs of a text -/
def itS (z : Str) : Itr := ⟨z.cps.size, fun _ => true, fun k _ => (z.cps[k]?).map fun c => .dat (.str ⟨#[c]⟩)⟩
def mIter (a : Env → Sto → Rs W) (ρ : Env) (S : Sto) : Rs Itr := (a ρ S).bind fun w S1 => match w with
  | .dat (.str z) => .ok (itS z) S1
  | w => match srcW w S1 with
    | some s => .ok s.it S1
    | none => .bad
theorem ii_any (ha : EE F ta ma) : II F (fun W => DD.iAny F.K (ta W)) (mIter ma) := by
  refine ⟨fun {φ S ρ σ H} G W R h => ?_⟩
  refine ha.run G W _ (RO.bind h fun v a S1 φ1 H1 e1 g1 r1 h1 => ?_)
  split at h1
  · rename_i z
    cases r1 with
    | dat p _ =>
      cases p
      refine .inr (.inr ⟨z, rfl, h1.ok (Ext.refl _ _) g1 ⟨fun {φ2 S2 H2} i e g ok hi => hi, fun {φ2 S2 H2} e g ok => Nat.le_refl _, fun {φ2 S2 H2} i {w x Hc} e g ok hw y => ?_⟩⟩)
      obtain ⟨rfl, c, hc, rfl⟩ := y
      have hw : (z.cps[i]?).map (fun c => EV.W.dat (.str ⟨#[c]⟩)) = some w := hw
      rw [hc] at hw
      cases hw
      exact ⟨Ext.refl _ _, g, .dat (.str _) (by simp [pur])⟩
  · cases e2 : srcW a S1 with
    | none => simp only [e2] at h1; exact h1.elim
    | some s =>
      simp only [e2] at h1
      obtain ⟨p, b, xs0, rfl, hs0, sq⟩ := src_ok g1 r1 e2
      cases b with
      | false =>
        have hs0 : SqL F.K H1 p xs0 := hs0
        refine .inl ⟨p, rfl, ⟨xs0, hs0⟩, h1.ok (Ext.refl _ _) g1 ⟨fun {φ2 S2 H2} i e g ok hi => ?_, fun {φ2 S2 H2} e g ok => ?_, fun {φ2 S2 H2} i {w x Hc} e g ok hw y => ?_⟩⟩
        · obtain ⟨xs, ws, hs, t, hn, _⟩ := sq e g ok
          have hi : i < xs.length := by rw [t.len, hn]; exact hi
          exact ⟨xs, xs[i], hs, by simp [hi]⟩
        · obtain ⟨xs, ws, hs, t, hn, _⟩ := sq e g ok
          exact ⟨xs, hs, by rw [t.len, hn]; exact Nat.le_refl _⟩
        · obtain ⟨xs, ws, hs, t, hn, ha⟩ := sq e g ok
          obtain ⟨rfl, y⟩ := y
          have hw : s.at i S2 = some w := hw
          rw [ha] at hw
          obtain ⟨v, hv, rv⟩ := t.get hw
          have := y xs hs
          rw [hv] at this
          cases this
          exact ⟨Ext.refl _ _, g, rv⟩
      | true =>
        have hs0 : SqT F.K H1 p xs0 := hs0
        refine .inr (.inl ⟨p, rfl, ⟨xs0, hs0⟩, h1.ok (Ext.refl _ _) g1 ⟨fun {φ2 S2 H2} i e g ok hi => ?_, fun {φ2 S2 H2} e g ok => ?_, fun {φ2 S2 H2} i {w x Hc} e g ok hw y => ?_⟩⟩)
        · obtain ⟨xs, ws, hs, t, hn, _⟩ := sq e g ok
          have hi : i < xs.length := by rw [t.len, hn]; exact hi
          exact ⟨xs, xs[i], hs, by simp [hi]⟩
        · obtain ⟨xs, ws, hs, t, hn, _⟩ := sq e g ok
          exact ⟨xs, hs, by rw [t.len, hn]; exact Nat.le_refl _⟩
        · obtain ⟨xs, ws, hs, t, hn, ha⟩ := sq e g ok
          obtain ⟨rfl, y⟩ := y
          have hw : s.at i S2 = some w := hw
          rw [ha] at hw
          obtain ⟨v, hv, rv⟩ := t.get hw
          have := y xs hs
          rw [hv] at this
          cases this
          exact ⟨Ext.refl _ _, g, rv⟩
/-- range -/
def itR (lo : Int) (n : Nat) : Itr := ⟨n, fun _ => true, fun k _ => some (.dat (.int (lo + (k : Int))))⟩
theorem wk_r {φ : Phi} {H : Hp} {lo : Int} {n : Nat} : Wk F φ H (L2.Itr lo n) (itR lo n) := by
  refine ⟨fun {φ2 S2 H2} i e g ok hi => hi, fun {φ2 S2 H2} e g ok => Nat.le_refl _, fun {φ2 S2 H2} i {w x Hc} e g ok hw y => ?_⟩
  obtain ⟨rfl, rfl⟩ := y
  cases hw
  exact ⟨Ext.refl _ _, g, rvInt⟩
def in62 (i : Int) : Bool := decide (-(2 ^ 62) ≤ i ∧ i < 2 ^ 62)
def mRng1 (a : Env → Sto → Rs (List W)) (ρ : Env) (S : Sto) : Rs Itr := (a ρ S).bind fun ws S1 => match ws with
  | [.dat (.int j)] => match in62 j with
    | true => .ok (itR 0 j.toNat) S1
    | false => .bad
  | _ => .bad
def mRng2 (a : Env → Sto → Rs (List W)) (ρ : Env) (S : Sto) : Rs Itr := (a ρ S).bind fun ws S1 => match ws with
  | [.dat (.int i), .dat (.int j)] => match in62 i && in62 j with
    | true => .ok (itR i (j - i).toNat) S1
    | false => .bad
  | _ => .bad
theorem ii_range1 (ha : AA F t m) : II F (fun W => iRng1 (t W)) (mRng1 m) := by
  refine ⟨fun {φ S ρ σ H} G W R h => ?_⟩
  refine ha.run G W _ (RO.bind h fun vs a S1 φ1 H1 e1 g1 r1 h1 => ?_)
  split at h1
  · rename_i j
    cases r1 with
    | cons r rr =>
      cases rr
      cases rv_int r
      split at h1
      · rename_i hz
        have hz := of_decide_eq_true hz
        exact ⟨j, rfl, hz.1, hz.2, h1.ok (Ext.refl _ _) g1 wk_r⟩
      · exact h1.elim
  · exact h1.elim
theorem ii_range2 (ha : AA F t m) : II F (fun W => iRng2 (t W)) (mRng2 m) := by
  refine ⟨fun {φ S ρ σ H} G W R h => ?_⟩
  refine ha.run G W _ (RO.bind h fun vs a S1 φ1 H1 e1 g1 r1 h1 => ?_)
  split at h1
  · rename_i i j
    cases r1 with
    | cons r rr =>
      cases rr with
      | cons r2 rr =>
        cases rr
        cases rv_int r
        cases rv_int r2
        split at h1
        · rename_i hz
          rw [Bool.and_eq_true] at hz
          have h2 := of_decide_eq_true hz.1
          have h3 := of_decide_eq_true hz.2
          exact ⟨i, j, rfl, ⟨h2.1, h2.2, h3.1, h3.2⟩, h1.ok (Ext.refl _ _) g1 wk_r⟩
        · exact h1.elim
  · exact h1.elim
/-- zip of two -/
def pair? (x y : Option W) : Option W := match x, y with
  | some a, some b => some (mkTup [a, b])
  | _, _ => none
def mZip (a : Env → Sto → Rs (List W)) (ρ : Env) (S : Sto) : Rs Itr := (a ρ S).bind fun ws S1 => match ws with
  | [x, y] => match srcW x S1, srcW y S1 with
    | some s, some t => .ok ⟨min s.n t.n, fun S => s.ok S && t.ok S, fun k S => pair? (s.at k S) (t.at k S)⟩ S1
    | _, _ => .bad
  | _ => .bad
theorem ii_zip (ha : AA F t m) : II F (fun W => DD.iZz F.K (t W)) (mZip m) := by
  refine ⟨fun {φ S ρ σ H} G W R h => ?_⟩
  refine ha.run G W _ (RO.bind h fun vs a S1 φ1 H1 e1 g1 r1 h1 => ?_)
  split at h1
  · rename_i x y
    split at h1
    · rename_i s u e2 e3
      cases r1 with
      | cons r rr =>
        cases rr with
        | cons r2 rr =>
          cases rr
          obtain ⟨p, b1, xs0, rfl, hs0, sq⟩ := src_ok g1 r e2
          obtain ⟨p2, b2, ys0, rfl, hs1, sq2⟩ := src_ok g1 r2 e3
          refine ⟨p, p2, xs0, ys0, b1, b2, rfl, hs0, hs1, h1.ok (Ext.refl _ _) g1 ⟨fun {φ2 S2 H2} i e g ok hi => ?_, fun {φ2 S2 H2} e g ok => ?_, fun {φ2 S2 H2} i {w x Hc} e g ok hw y => ?_⟩⟩
          · have ok : (s.ok S2 && u.ok S2) = true := ok
            rw [Bool.and_eq_true] at ok
            obtain ⟨xs, ws, hs, t, hn, _⟩ := sq e g ok.1
            obtain ⟨ys, us, hs2, t2, hn2, _⟩ := sq2 e g ok.2
            have hi : i < min s.n u.n := hi
            have i1 : i < xs.length := by rw [t.len, hn]; omega
            have i2 : i < ys.length := by rw [t2.len, hn2]; omega
            exact ⟨xs, ys, xs[i], ys[i], hs, hs2, by simp [i1], by simp [i2]⟩
          · have ok : (s.ok S2 && u.ok S2) = true := ok
            rw [Bool.and_eq_true] at ok
            obtain ⟨xs, ws, hs, t, hn, _⟩ := sq e g ok.1
            obtain ⟨ys, us, hs2, t2, hn2, _⟩ := sq2 e g ok.2
            exact ⟨xs, ys, hs, hs2, by rw [t.len, hn, t2.len, hn2]⟩
          · have ok : (s.ok S2 && u.ok S2) = true := ok
            rw [Bool.and_eq_true] at ok
            obtain ⟨xs, ws, hs, t, hn, ha⟩ := sq e g ok.1
            obtain ⟨ys, us, hs2, t2, hn2, ha2⟩ := sq2 e g ok.2
            obtain ⟨q, xx, yy, rfl, np, rfl, ex, ey⟩ := y
            have hw : pair? (s.at i S2) (u.at i S2) = some w := hw
            rw [ha, ha2] at hw
            unfold pair? at hw
            split at hw
            · rename_i w1 w2 z1 z2
              cases hw
              obtain ⟨v1, hv1, rv1⟩ := t.get z1
              obtain ⟨v2, hv2, rv2⟩ := t2.get z2
              have := ex xs hs
              rw [hv1] at this
              cases this
              have := ey ys hs2
              rw [hv2] at this
              cases this
              have en : Ext φ2 H2 φ2 (upd H2 q (.tup [xx, yy])) := (Ext.refl _ _).off (Fre.of np) (fun _ => HO.noConfusion)
              exact ⟨en, g.new np, rv_tup (SqT.of upd_same) (.cons (rv1.ext en g) (.cons (rv2.ext en g) .nil))⟩
            · cases hw
    · exact h1.elim
  · exact h1.elim
end
end EV

set_option Elab.async false
set_option linter.all false
set_option maxRecDepth 100000
set_option maxHeartbeats 4000000
/-! targets, comprehensions, statements -/
namespace EV
open PySem PySem.Spec PyProof.Rows L2
open DD (TabQ ExQ D SqB)
variable [TabQ] [ExQ]
/-! ### targets -/
/-- what a target leaves; vs: the slots that it may change -/
def GO (F : Cf) (φ : Phi) (H : Hp) (σ : L2.St) (vs : List Nat) (Q : L2.St → Hp → Prop) : Rs Env → Prop
  | .ok ρ2 S2 => ∀ σ2 φ' H', Ext φ H φ' H' → Good F φ' S2 ρ2 σ2 H' → L2.wipe σ2 vs = L2.wipe σ vs → Q σ2 H'
  | _ => False
structure GG (F : Cf) (vs : List Nat) (g : WX → TG) (m : W → Env → Sto → Rs Env) : Prop where
  run : ∀ {φ : Phi} {S : Sto} {ρ : Env} {σ : L2.St} {H : Hp} {v : V} {w : W}, Good F φ S ρ σ H → RV F φ H v w → ∀ (W : WX) (Q : L2.St → Hp → Prop), GO F φ H σ vs Q (m w ρ S) → g W v σ H Q
structure GL (F : Cf) (vs : List Nat) (g : WX → TGs) (m : List W → Env → Sto → Rs Env) : Prop where
  run : ∀ {φ : Phi} {S : Sto} {ρ : Env} {σ : L2.St} {H : Hp} {xs : List V} {ws : List W}, Good F φ S ρ σ H → RVs F φ H xs ws → ∀ (W : WX) (Q : L2.St → Hp → Prop), GO F φ H σ vs Q (m ws ρ S) → g W xs σ H Q
theorem GO.mk {F : Cf} {φ : Phi} {H : Hp} {σ : L2.St} {vs : List Nat} {Q : L2.St → Hp → Prop} {x : Rs Env} (h : GO F φ H σ vs Q x) : ∃ ρ2 S2, x = .ok ρ2 S2 := by
  cases x with
  | ok a b => exact ⟨a, b, rfl⟩
  | bad => exact h.elim
  | ex c S => exact h.elim
theorem GO.at {F : Cf} {φ φ1 : Phi} {H H1 : Hp} {σ σ1 : L2.St} {vs : List Nat} {Q : L2.St → Hp → Prop} {x : Rs Env} (h : GO F φ H σ vs Q x) (e : Ext φ H φ1 H1) (hw : L2.wipe σ1 vs = L2.wipe σ vs) : GO F φ1 H1 σ1 vs Q x := by
  cases x with
  | ok a b => exact fun σ2 φ' H' e2 G w => h σ2 φ' H' (e.trans e2) G (w.trans hw)
  | bad => exact h
  | ex c S => exact h
def gSet (i : Nat) (w : W) (ρ : Env) (S : Sto) : Rs Env := .ok (ρ.set i (some w)) S
def gNilM (ws : List W) (ρ : Env) (S : Sto) : Rs Env := match ws with
  | [] => .ok ρ S
  | _ => .bad
def gConsM (g : W → Env → Sto → Rs Env) (r : List W → Env → Sto → Rs Env) (ws : List W) (ρ : Env) (S : Sto) : Rs Env := match ws with
  | w :: us => match g w ρ S with
    | .ok ρ1 S1 => r us ρ1 S1
    | _ => .bad
  | [] => .bad
def tupOf (w : W) : Option (List W) := match w with
  | .dat (.tuple ds) => some (ds.map .dat)
  | .tup ws => some ws
  | _ => none
def gTupM (n : Nat) (g : List W → Env → Sto → Rs Env) (w : W) (ρ : Env) (S : Sto) : Rs Env := match tupOf w with
  | some ws => match ws.length == n with
    | true => g ws ρ S
    | false => .bad
  | none => .bad
theorem wipe_set {i : Nat} : ∀ (vs : List Nat) (σ : L2.St) (x : Option V), i ∈ vs → L2.wipe (σ.set i x) vs = L2.wipe σ vs := by
  intro vs
  induction vs with
  | nil => intro σ x h; cases h
  | cons j r ih =>
    intro σ x h
    show (L2.wipe (σ.set i x) r).set j none = (L2.wipe σ r).set j none
    rcases List.mem_cons.mp h with rfl | h
    · by_cases hr : i ∈ r
      · rw [ih σ x hr]
      · have : ∀ (r : List Nat) (σ : L2.St), i ∉ r → L2.wipe (σ.set i x) r = (L2.wipe σ r).set i x := by
          intro r
          induction r with
          | nil => intro σ _; rfl
          | cons k r ih2 =>
            intro σ h
            show (L2.wipe (σ.set i x) r).set k none = ((L2.wipe σ r).set k none).set i x
            rw [ih2 σ (fun z => h (List.mem_cons_of_mem _ z)), List.set_comm _ _ (fun z : i = k => h (by rw [z]; exact List.mem_cons_self))]
        rw [this r σ hr, List.set_set]
    · rw [ih σ x h]
section
variable {F : Cf} {vs : List Nat}
theorem gg_name (i : Nat) (hi : i ∈ vs) : GG F vs (fun _ => gName i) (gSet i) :=
  ⟨fun {φ S ρ σ H v w} G r W Q h => h _ φ H (Ext.refl _ _) (G.set r) (wipe_set vs σ _ hi)⟩
theorem gl_nil : GL F vs (fun _ => gNil) gNilM := by
  refine ⟨fun {φ S ρ σ H xs ws} G r W Q h => ?_⟩
  cases r with
  | nil => exact ⟨rfl, h σ φ H (Ext.refl _ _) G rfl⟩
  | cons a b => exact h.elim
theorem gl_cons {g : WX → TG} {gs : WX → TGs} {mg : W → Env → Sto → Rs Env} {mr : List W → Env → Sto → Rs Env} (h1 : GG F vs g mg) (h2 : GL F vs gs mr) : GL F vs (fun W => gCons (g W) (gs W)) (gConsM mg mr) := by
  refine ⟨fun {φ S ρ σ H xs ws} G r W Q h => ?_⟩
  cases r with
  | nil => exact h.elim
  | cons a b =>
    rename_i v w xs ws
    refine ⟨v, xs, rfl, ?_⟩
    refine h1.run G a W _ ?_
    unfold gConsM at h
    simp only at h
    cases e : mg w ρ S with
    | bad => rw [e] at h; exact h.elim
    | ex c S2 => rw [e] at h; exact h.elim
    | ok ρ1 S1 =>
      rw [e] at h
      exact fun σ2 φ' H' ex G2 wp => h2.run G2 (b.ext ex G.gs) W _ (h.at ex wp)
theorem tupOf_ok {φ : Phi} {H : Hp} {v : V} {w : W} {ws : List W} (r : RV F φ H v w) (e : tupOf w = some ws) : ∃ p xs, v = .ref p ∧ SqT F.K H p xs ∧ RVs F φ H xs ws := by
  unfold tupOf at e
  split at e
  · cases e
    cases r with
    | dat p u =>
      cases p with
      | tup hs t => exact ⟨_, _, rfl, hs, .ofD t (by rw [pur_tup] at u; exact u)⟩
  · cases e
    cases r with
    | tup hs t => exact ⟨_, _, rfl, hs, t⟩
  · cases e
theorem gg_tup {n : Nat} {gs : WX → TGs} {mr : List W → Env → Sto → Rs Env} (hg : GL F vs gs mr) : GG F vs (fun W => gTup F.K n (gs W)) (gTupM n mr) := by
  refine ⟨fun {φ S ρ σ H v w} G r W Q h => ?_⟩
  unfold gTupM at h
  cases e : tupOf w with
  | none => rw [e] at h; exact h.elim
  | some ws =>
    rw [e] at h
    simp only at h
    cases e2 : ws.length == n with
    | false => rw [e2] at h; exact h.elim
    | true =>
      rw [e2] at h
      simp only at h
      obtain ⟨p, xs, rfl, hs, t⟩ := tupOf_ok r e
      exact ⟨p, xs, rfl, hs, by rw [t.len]; exact beq_iff_eq.mp e2, hg.run G t W Q h⟩
/-- o[i] = v, o a list -/
def gSubM (o i : Env → Sto → Rs W) (v : W) (ρ : Env) (S : Sto) : Rs Env := match (o ρ S).bind fun a S1 => (i ρ S1).bind fun b S2 => match a with
    | .ref k => match lstOf S2 k with
      | some ws => match isI b with
        | some j => match ixN ws.length j with
          | some n => .ok () (S2.set k (.lst (ws.set n v)))
          | none => .bad
        | none => .bad
      | none => .bad
    | _ => (.bad : Rs Unit) with
  | .ok _ S2 => .ok ρ S2
  | _ => .bad
theorem gg_sub {to ti : WX → TE} {mo mi : Env → Sto → Rs W} (ho : EE F to mo) (hi : EE F ti mi) : GG F vs (fun W => gSub (to W) (ti W) rSetL) (gSubM mo mi) := by
  refine ⟨fun {φ S ρ σ H v w} G r W Q h => ?_⟩
  unfold gSubM at h
  cases e : mo ρ S with
  | bad => simp only [e, Rs.bind_bad] at h; exact h.elim
  | ex c S1 => simp only [e, Rs.bind_ex] at h; exact h.elim
  | ok a S1 =>
    simp only [e, Rs.bind_ok] at h
    refine ho.run G W _ ?_
    rw [e]
    intro x φ1 H1 e1 g1 r1
    cases e2 : mi ρ S1 with
    | bad => simp only [e2, Rs.bind_bad] at h; exact h.elim
    | ex c S1 => simp only [e2, Rs.bind_ex] at h; exact h.elim
    | ok b S2 =>
      simp only [e2, Rs.bind_ok] at h
      refine hi.run (G.up e1 g1) W _ ?_
      rw [e2]
      intro y φ2 H2 e3 g2 r2
      cases a with
      | ref k =>
        simp only at h
        cases q : lstOf S2 k with
        | none => simp only [q] at h; exact h.elim
        | some ws =>
          simp only [q] at h
          cases q2 : isI b with
          | none => simp only [q2] at h; exact h.elim
          | some j =>
            simp only [q2] at h
            cases q3 : ixN ws.length j with
            | none => simp only [q3] at h; exact h.elim
            | some n =>
              simp only [q3] at h
              obtain rfl := isI_some q2
              cases rv_int r2
              cases r1 with
              | ref hk =>
                have hk2 := pre_get e3.pre hk
                obtain ⟨xs, hx, t⟩ := g2.lst hk2 q
                have r' := r.ext (e1.trans e3) G.gs
                obtain ⟨e4, g4⟩ := set_lst g2 hk2 q (t.set r' n)
                have G4 := G.up ((e1.trans e3).trans e4) g4
                exact ⟨_, xs, j, n, rfl, rfl, hx, by rw [t.len]; exact q3, h σ φ2 _ ((e1.trans e3).trans e4) G4 rfl⟩
      | dat d => exact h.elim
      | tup ws => exact h.elim
      | fn k => exact h.elim
      | frz ds => exact h.elim

/-! ### comprehensions -/
def wipeM (ρ : Env) : List Nat → Env
  | [] => ρ
  | v :: vs => (wipeM ρ vs).set v none
theorem Good.wipe {φ : Phi} {S : Sto} {ρ : Env} {σ : L2.St} {H : Hp} (G : Good F φ S ρ σ H) : ∀ vs : List Nat, Good F φ S (wipeM ρ vs) (L2.wipe σ vs) H
  | [] => G
  | v :: vs => (Good.wipe G vs).setNone
def coll (it : Itr) (g : W → Env → Sto → Rs Env) (c : Env → Sto → Rs Bool) (e : Env → Sto → Rs W) (ρ : Env) : Nat → Nat → List W → Sto → Rs (List W)
  | 0, i, acc, S => match it.ok S with
    | true => .ok acc.reverse S
    | false => .bad
  | n + 1, i, acc, S => match it.ok S with
    | true => match it.at i S with
      | some w => match g w ρ S with
        | .ok ρ1 S1 => match c ρ1 S1 with
          | .ok true S2 => (e ρ1 S2).bind fun x S3 => coll it g c e ρ n (i + 1) (x :: acc) S3
          | .ok false S2 => coll it g c e ρ n (i + 1) acc S2
          | _ => .bad
        | _ => .bad
      | none => .bad
    | false => .bad
def mLc (it : Env → Sto → Rs Itr) (g : W → Env → Sto → Rs Env) (c : Env → Sto → Rs Bool) (e : Env → Sto → Rs W) (vs : List Nat) (ρ : Env) (S : Sto) : Rs W := (it ρ S).bind fun I S1 => match Nat.ble I.n cap with
  | true => (coll I g c e (wipeM ρ vs) I.n 0 [] S1).bind fPush
  | false => .bad
def NoW : WX := fun _ _ _ _ => False
theorem RO.bind2 {α β γ δ : Type} {φ0 φ : Phi} {H0 H : Hp} {R : Phi → Hp → β → α → Prop} {R' : Phi → Hp → δ → γ → Prop} {Q' : δ → Hp → Prop} {E : Nat → Hp → Prop} {r : Rs α} {k : α → Sto → Rs γ} {P : β → Hp → Prop} (ex : Ext φ0 H0 φ H) (h : RO F φ0 H0 R' Q' E (r.bind k))
    (n : ∀ b a S φ1 H1, Ext φ H φ1 H1 → GS F φ1 S H1 → R φ1 H1 b a → RO F φ0 H0 R' Q' E (k a S) → P b H1) : RO F φ H R P E r := by
  cases r with
  | bad => exact h
  | ok a S => exact fun b φ' H' e' g r => n b a S φ' H' e' g r h
  | ex c S => exact RO.at (r := (.ex c S : Rs α)) (R := R) (Q := P) h ex
theorem Ext.hid {φ φ1 : Phi} {H H1 : Hp} {p : Addr} {o : HO} (e : Ext φ H φ1 H1) (h : ∀ k : Nat, φ[k]? ≠ some p) (ho : H p = some o) (n : NT o) : (∀ k : Nat, φ1[k]? ≠ some p) ∧ H1 p = some o := by
  refine ⟨fun k z => ?_, e.keep p o ho n h⟩
  rcases e.new k p z with z | z
  · exact h k z
  · exact z o ho n
theorem ee_lc {wi : WX → TI} {g : WX → TG} {tt : WX → TT} {te : WX → TE} {mi : Env → Sto → Rs Itr} {mg : W → Env → Sto → Rs Env} {mc : Env → Sto → Rs Bool} {me : Env → Sto → Rs W}
    (hi : II F wi mi) (hg : GG F vs g mg) (ht : BB F tt mc) (he : EE F te me) : EE F (fun W σ H Q => tLc (wi W) (g NoW) (tt NoW) (te fun c d _ h => W c d σ h) vs σ H Q) (mLc mi mg mc me vs) := by
  refine ⟨fun {φ S ρ σ H} G W Q h => ?_⟩
  refine hi.run G W _ (RO.bind h fun J I S1 φ1 H1 e1 g1 wk h1 => ?_)
  cases hz : Nat.ble I.n cap with
  | false => rw [hz] at h1; exact h1.elim
  | true =>
    rw [hz] at h1
    have hz := Nat.le_of_ble_eq_true hz
    intro D hD
    have G1 := (G.up e1 g1).wipe vs
    have e0 : Ext φ1 H1 φ1 (upd H1 D (.lst [])) := (Ext.refl _ _).off (Fre.of hD) (fun _ => HO.noConfusion)
    refine ⟨fun i m Hc => ∃ (φ2 : Phi) (S2 : Sto) (acc : List EV.W) (xs : List V), i + m = I.n ∧ Ext φ1 H1 φ2 Hc ∧ GS F φ2 S2 Hc ∧ (∀ k : Nat, φ2[k]? ≠ some D) ∧ Hc D = some (.lst xs) ∧ RVs F φ2 Hc xs acc.reverse ∧ xs.length ≤ i ∧
      RO F φ1 H1 (RV F) Q (fun c H' => W (.ref (F.xa c)) none σ H') ((coll I mg mc me (wipeM ρ vs) m i acc S2).bind fPush),
      ⟨I.n, φ1, S1, [], [], Nat.zero_add _, e0, g1.new hD, g1.free hD, upd_same, .nil, Nat.le_refl _, h1⟩, ?_⟩
    rintro i m Hc ⟨φ2, S2, acc, xs, him, e2, g2, nD, hDx, ra, hle, hq⟩
    cases m with
    | zero =>
      have hin : i = I.n := by omega
      subst hin
      unfold coll at hq
      cases ok : I.ok S2 with
      | false => rw [ok] at hq; exact hq.elim
      | true =>
        rw [ok] at hq
        refine .inl ⟨wk.stop e2 g2 ok, ?_⟩
        have pre : φ2 <+: φ2 ++ [D] := List.prefix_append _ _
        exact RO.ok (show RO F φ1 H1 (RV F) Q _ (.ok (.ref S2.n) (S2.push (.lst acc.reverse))) from hq) (e2.add (Fre.of hD)) (g2.adopt nD ⟨xs, hDx, ra.up pre (Stay.refl _)⟩) (.ref (pre_end g2))
    | succ n =>
      unfold coll at hq
      cases ok : I.ok S2 with
      | false => rw [ok] at hq; exact hq.elim
      | true =>
        rw [ok] at hq
        simp only at hq
        cases hw : I.at i S2 with
        | none => rw [hw] at hq; exact hq.elim
        | some w =>
          rw [hw] at hq
          simp only at hq
          refine .inr ⟨wk.go i e2 g2 ok (by omega), fun Hc => ∃ (φ2 : Phi) (S2 : Sto) (acc : List EV.W) (xs : List V), (i + 1) + n = I.n ∧ Ext φ1 H1 φ2 Hc ∧ GS F φ2 S2 Hc ∧ (∀ k : Nat, φ2[k]? ≠ some D) ∧ Hc D = some (.lst xs) ∧ RVs F φ2 Hc xs acc.reverse ∧ xs.length ≤ i + 1 ∧
            RO F φ1 H1 (RV F) Q (fun c H' => W (.ref (F.xa c)) none σ H') ((coll I mg mc me (wipeM ρ vs) n (i + 1) acc S2).bind fPush), fun H' z => ⟨n, Nat.lt_succ_self n, z⟩, fun x H' y => ?_⟩
          obtain ⟨e3, g3, rx⟩ := wk.yld i e2 g2 ok hw y
          have G3 : Good F φ2 S2 (wipeM ρ vs) (L2.wipe σ vs) H' := G1.up (e2.trans e3) g3
          obtain ⟨nD3, hD3⟩ := e3.hid nD hDx (fun _ => HO.noConfusion)
          cases hgm : mg w (wipeM ρ vs) S2 with
          | bad => rw [hgm] at hq; exact hq.elim
          | ex c S3 => rw [hgm] at hq; exact hq.elim
          | ok ρ1 S3 =>
            rw [hgm] at hq
            simp only at hq
            refine hg.run G3 rx _ _ ?_
            rw [hgm]
            intro σ4 φ4 H4 e4 G4 w4
            refine ⟨by rw [w4, DD.wipe_wipe], ?_⟩
            refine ht.run G4 NoW _ ?_
            cases hcm : mc ρ1 S3 with
            | bad => rw [hcm] at hq; exact hq.elim
            | ex c S4 => rw [hcm] at hq; exact hq.elim
            | ok b S4 =>
              rw [hcm] at hq
              intro b' φ5 H5 e5 g5 rb
              cases rb
              have e25 := e3.trans (e4.trans e5)
              have r5 := ra.ext e25 g2
              obtain ⟨nD5, hD5⟩ := e25.hid nD hDx (fun _ => HO.noConfusion)
              cases b with
              | false =>
                rw [if_neg Bool.false_ne_true]
                exact ⟨φ5, S4, acc, xs, by omega, e2.trans e25, g5, nD5, hD5, r5, by omega, hq⟩
              | true =>
                rw [if_pos rfl]
                simp only at hq
                have G5 := G4.up e5 g5
                have hq2 : RO F φ1 H1 (RV F) Q (fun c H' => W (.ref (F.xa c)) none σ H') ((me ρ1 S4).bind fun x S3 => (coll I mg mc me (wipeM ρ vs) n (i + 1) (x :: acc) S3).bind fPush) := by
                  cases hm : me ρ1 S4 with
                  | bad => rw [hm] at hq; exact hq
                  | ok a b => rw [hm] at hq; exact hq
                  | ex a b => rw [hm] at hq; exact hq
                refine he.run G5 _ _ (RO.bind2 (e2.trans e25) hq2 fun yv z S6 φ6 H6 e6 g6 r6 h6 => ?_)
                obtain ⟨nD6, hD6⟩ := e6.hid nD5 hD5 (fun _ => HO.noConfusion)
                have r7 := r5.ext e6 g5
                have st : Stay H6 (upd H6 D (.lst (xs ++ [yv]))) := Stay.set hD6 rfl
                refine ⟨xs, hD6, Nat.lt_of_lt_of_le (by omega) (lenK hz), φ6, S6, z :: acc, xs ++ [yv], by omega, ((e2.trans e25).trans e6).off (Fre.of hD) (fun _ => HO.noConfusion), g6.loose nD6 hD6 rfl (fun _ => HO.noConfusion), nD6, upd_same, ?_, by rw [List.length_append, List.length_singleton]; omega, h6⟩
                rw [List.reverse_cons]
                exact (r7.snoc r6).up (List.prefix_refl _) st
end
end EV

set_option Elab.async false
set_option linter.all false
set_option maxRecDepth 100000
set_option maxHeartbeats 4000000
/-! statements -/
namespace EV
open PySem PySem.Spec PyProof.Rows L2
open DD (TabQ ExQ D SqB)
variable [TabQ] [ExQ]
inductive Fl where
  | nx (ρ : Env) | rt (w : W) | bk (ρ : Env) | ct (ρ : Env) | ex (c : Nat) (ρ : Env)
abbrev St := Env → Sto → Rs Fl
def SO (F : Cf) (φ : Phi) (H : Hp) (E : Ends) (W : WX) : Rs Fl → Prop
  | .ok (.nx ρ) S => ∀ σ φ' H', Ext φ H φ' H' → Good F φ' S ρ σ H' → E.nx σ H'
  | .ok (.bk ρ) S => ∀ σ φ' H', Ext φ H φ' H' → Good F φ' S ρ σ H' → E.bk σ H'
  | .ok (.ct ρ) S => ∀ σ φ' H', Ext φ H φ' H' → Good F φ' S ρ σ H' → E.ct σ H'
  | .ok (.rt w) S => ∀ v φ' H', Ext φ H φ' H' → GS F φ' S H' → RV F φ' H' v w → E.rt v H'
  | .ok (.ex c ρ) S => ∀ σ φ' H', Ext φ H φ' H' → Good F φ' S ρ σ H' → W (.ref (F.xa c)) none σ H'
  | _ => False
structure SS (F : Cf) (t : WX → TS) (m : St) : Prop where
  run : ∀ {φ : Phi} {S : Sto} {ρ : Env} {σ : L2.St} {H : Hp}, Good F φ S ρ σ H → ∀ (W : WX) (E : Ends), SO F φ H E W (m ρ S) → t W E σ H
/-- an expression's raise ends the statement -/
def liftX {α : Type} (r : Rs α) (ρ : Env) (k : α → Sto → Rs Fl) : Rs Fl := match r with
  | .bad => .bad
  | .ok a S => k a S
  | .ex c S => .ok (.ex c ρ) S
def sNext : St := fun ρ S => .ok (.nx ρ) S
def sBrk : St := fun ρ S => .ok (.bk ρ) S
def sCnt : St := fun ρ S => .ok (.ct ρ) S
def sRaise (c : Nat) : St := fun ρ S => .ok (.ex c ρ) S
def sSeq (a b : St) : St := fun ρ S => match a ρ S with
  | .ok (.nx ρ1) S1 => b ρ1 S1
  | r => r
def sIf (c : Env → Sto → Rs Bool) (a b : St) : St := fun ρ S => liftX (c ρ S) ρ fun x S1 => match x with
  | true => a ρ S1
  | false => b ρ S1
def sRet (a : Env → Sto → Rs W) : St := fun ρ S => liftX (a ρ S) ρ fun w S1 => .ok (.rt w) S1
def sDrop (a : Env → Sto → Rs W) : St := fun ρ S => liftX (a ρ S) ρ fun _ S1 => .ok (.nx ρ) S1
def goE (r : Rs Env) : Rs Fl := match r with
  | .ok ρ S => .ok (.nx ρ) S
  | _ => .bad
def sAsg (a : Env → Sto → Rs W) (g : W → Env → Sto → Rs Env) : St := fun ρ S => liftX (a ρ S) ρ fun w S1 => goE (g w ρ S1)
def putW (f : Str) (w : W) : List (Str × W) → List (Str × W)
  | [] => [(f, w)]
  | (g, u) :: r => if g = f then (g, w) :: r else (g, u) :: putW f w r
/-- o.f = e -/
def sFldM (c : Nat) (f : Str) (o a : Env → Sto → Rs W) : St := fun ρ S => liftX (a ρ S) ρ fun w S1 => liftX (o ρ S1) ρ fun x S2 => match x with
  | .ref i => match S2.get i with
    | some (.ins c' fs) => match c' == c && Nat.blt fs.length 1000 with
      | true => .ok (.nx ρ) (S2.set i (.ins c' (putW f w fs)))
      | false => .bad
    | _ => .bad
  | _ => .bad
/-- o.f op= e -/
def sFldAugM (c : Nat) (f : Str) (op : W → W → Sto → Rs W) (o a : Env → Sto → Rs W) : St := fun ρ S => liftX (o ρ S) ρ fun x S1 => match x with
  | .ref i => match S1.get i with
    | some (.ins c' fs) => match c' == c with
      | true => match fs.lookup f with
        | some v => liftX (a ρ S1) ρ fun y S2 => liftX (op v y S2) ρ fun z S3 => match S3.get i with
          | some (.ins c2 fs2) => match c2 == c && Nat.blt fs2.length 1000 with
            | true => .ok (.nx ρ) (S3.set i (.ins c2 (putW f z fs2)))
            | false => .bad
          | _ => .bad
        | none => .bad
      | false => .bad
    | _ => .bad
  | _ => .bad
def sPar (i j : Nat) (a b : Env → Sto → Rs W) : St := fun ρ S => liftX (a ρ S) ρ fun x S1 => liftX (b ρ S1) ρ fun y S2 => .ok (.nx ((ρ.set i (some x)).set j (some y))) S2
def loop (it : Itr) (g : W → Env → Sto → Rs Env) (b : St) : Nat → Nat → Env → Sto → Rs Fl
  | 0, _, ρ, S => match it.ok S with
    | true => .ok (.nx ρ) S
    | false => .bad
  | n + 1, i, ρ, S => match it.ok S with
    | true => match it.at i S with
      | some w => match g w ρ S with
        | .ok ρ1 S1 => match b ρ1 S1 with
          | .ok (.nx ρ2) S2 => loop it g b n (i + 1) ρ2 S2
          | .ok (.ct ρ2) S2 => loop it g b n (i + 1) ρ2 S2
          | .ok (.bk ρ2) S2 => .ok (.nx ρ2) S2
          | r => r
        | _ => .bad
      | none => .bad
    | false => .bad
def sFor (it : Env → Sto → Rs Itr) (g : W → Env → Sto → Rs Env) (b : St) : St := fun ρ S => liftX (it ρ S) ρ fun I S1 => loop I g b I.n 0 ρ S1
def whl (c : Env → Sto → Rs Bool) (b : St) : Nat → Env → Sto → Rs Fl
  | 0, _, _ => .bad
  | n + 1, ρ, S => liftX (c ρ S) ρ fun x S1 => match x with
    | true => match b ρ S1 with
      | .ok (.nx ρ2) S2 => whl c b n ρ2 S2
      | .ok (.ct ρ2) S2 => whl c b n ρ2 S2
      | .ok (.bk ρ2) S2 => .ok (.nx ρ2) S2
      | r => r
    | false => .ok (.nx ρ) S1
def sWhile (fuel : Nat) (c : Env → Sto → Rs Bool) (b : St) : St := fun ρ S => whl c b fuel ρ S
def sTryF (i : Nat) (f : Nat → Option D) (b : St) : St := fun ρ S => match b ρ S with
  | .ok (.ex c ρ1) S1 => match Nat.blt i ρ1.length with
    | true => match f c with
      | some d => match pur d with
        | true => .ok (.rt (.dat d)) S1
        | false => .bad
      | none => .bad
    | false => .bad
  | r => r

section
variable {F : Cf} {t u : WX → TS} {ta tb te to : WX → TE} {ma mb me mo : Env → Sto → Rs W} {m1 m2 : St}
theorem SO.at {φ φ1 : Phi} {H H1 : Hp} {E : Ends} {W : WX} {r : Rs Fl} (h : SO F φ H E W r) (e : Ext φ H φ1 H1) : SO F φ1 H1 E W r := by
  cases r with
  | bad => exact h
  | ex c S => exact h
  | ok f S =>
    cases f with
    | nx ρ => exact fun σ φ' H' e' G => h σ φ' H' (e.trans e') G
    | bk ρ => exact fun σ φ' H' e' G => h σ φ' H' (e.trans e') G
    | ct ρ => exact fun σ φ' H' e' G => h σ φ' H' (e.trans e') G
    | ex c ρ => exact fun σ φ' H' e' G => h σ φ' H' (e.trans e') G
    | rt w => exact fun v φ' H' e' g r => h v φ' H' (e.trans e') g r
theorem SO.bindX {α β : Type} {φ : Phi} {H : Hp} {E : Ends} {W : WX} {r : Rs α} {ρ : Env} {k : α → Sto → Rs Fl} {R : Phi → Hp → β → α → Prop} {P : β → Hp → Prop} {σ : L2.St} {S0 : Sto} (G : Good F φ S0 ρ σ H) (h : SO F φ H E W (liftX r ρ k))
    (n : ∀ b a S φ1 H1, Ext φ H φ1 H1 → GS F φ1 S H1 → R φ1 H1 b a → SO F φ1 H1 E W (k a S) → P b H1) : RO F φ H R P (fun c H' => W (.ref (F.xa c)) none σ H') r := by
  cases r with
  | bad => exact h
  | ok a S => exact fun b φ' H' e' g r => n b a S φ' H' e' g r (SO.at h e')
  | ex c S => exact fun φ' H' e' g => h σ φ' H' e' (G.up e' g)
theorem ss_next : SS F (fun _ => tNext) sNext := ⟨fun {φ S ρ σ H} G W E h => h σ φ H (Ext.refl _ _) G⟩
theorem ss_brk : SS F (fun _ => tBreak) sBrk := ⟨fun {φ S ρ σ H} G W E h => h σ φ H (Ext.refl _ _) G⟩
theorem ss_cnt : SS F (fun _ => tCont) sCnt := ⟨fun {φ S ρ σ H} G W E h => h σ φ H (Ext.refl _ _) G⟩
theorem ss_raise (c : Nat) : SS F (fun W _ σ H => W (.ref (F.xa c)) none σ H) (sRaise c) := ⟨fun {φ S ρ σ H} G W E h => h σ φ H (Ext.refl _ _) G⟩
theorem ss_seq (h1 : SS F t m1) (h2 : SS F u m2) : SS F (fun W => tSeq (t W) (u W)) (sSeq m1 m2) := by
  refine ⟨fun {φ S ρ σ H} G W E h => ?_⟩
  refine h1.run G W _ ?_
  unfold sSeq at h
  cases q : m1 ρ S with
  | bad => rw [q] at h; exact h
  | ex c S1 => rw [q] at h; exact h
  | ok f S1 =>
    rw [q] at h
    cases f with
    | nx ρ1 => exact fun σ1 φ1 H1 e1 G1 => h2.run G1 W E (SO.at h e1)
    | bk ρ1 => exact h
    | ct ρ1 => exact h
    | ex c ρ1 => exact h
    | rt w => exact h
theorem ss_if {tt : WX → TT} {mc : Env → Sto → Rs Bool} (hc : BB F tt mc) (h1 : SS F t m1) (h2 : SS F u m2) : SS F (fun W => tIfS (tt W) (t W) (u W)) (sIf mc m1 m2) := by
  refine ⟨fun {φ S ρ σ H} G W E h => ?_⟩
  refine hc.run G W _ (SO.bindX G h fun b a S1 φ1 H1 e1 g1 r1 h3 => ?_)
  cases r1
  cases b with
  | true => rw [if_pos rfl]; exact h1.run (G.up e1 g1) W E h3
  | false => rw [if_neg Bool.false_ne_true]; exact h2.run (G.up e1 g1) W E h3
theorem ss_ret (ha : EE F te me) : SS F (fun W => tRet (te W)) (sRet me) := by
  refine ⟨fun {φ S ρ σ H} G W E h => ?_⟩
  exact ha.run G W _ (SO.bindX G h fun v w S1 φ1 H1 e1 g1 r1 h1 => h1 v φ1 H1 (Ext.refl _ _) g1 r1)
theorem ss_drop (ha : EE F te me) : SS F (fun W => tDrop (te W)) (sDrop me) := by
  refine ⟨fun {φ S ρ σ H} G W E h => ?_⟩
  exact ha.run G W _ (SO.bindX G h fun v w S1 φ1 H1 e1 g1 r1 h1 => h1 σ φ1 H1 (Ext.refl _ _) (G.up e1 g1))
theorem ss_asg {vs : List Nat} {g : WX → TG} {mg : W → Env → Sto → Rs Env} (ha : EE F te me) (hg : GG F vs g mg) : SS F (fun W => tAsg (te W) (g W)) (sAsg me mg) := by
  refine ⟨fun {φ S ρ σ H} G W E h => ?_⟩
  refine ha.run G W _ (SO.bindX G h fun v w S1 φ1 H1 e1 g1 r1 h1 => ?_)
  refine hg.run (G.up e1 g1) r1 W _ ?_
  cases q : mg w ρ S1 with
  | bad => rw [q] at h1; exact h1
  | ex c S2 => rw [q] at h1; exact h1
  | ok ρ2 S2 => rw [q] at h1; exact fun σ2 φ' H' e G2 _ => h1 σ2 φ' H' e G2
theorem ss_set (i : Nat) (ha : EE F te me) : SS F (fun W => tAsg (te W) (gName i)) (sAsg me (gSet i)) := ss_asg ha (gg_name i (vs := [i]) List.mem_cons_self)
theorem Fld.put {φ : Phi} {H : Hp} {f : Str} {v : V} {w : W} (r : RV F φ H v w) : ∀ {vs : List (Str × V)} {ws : List (Str × W)}, Fld F φ H vs ws → Fld F φ H (putF f v vs) (putW f w ws)
  | _, _, .nil => .cons r .nil
  | _, _, .cons (f := g) q t => by
    unfold putF putW
    by_cases z : g = f
    · simp only [z, if_true]
      first
        | exact .cons r t
        | (simp; exact .cons r t)
    · simp only [z, if_false]
      first
        | exact .cons q (Fld.put r t)
        | (simp [z]; exact .cons q (Fld.put r t))
theorem set_ins {φ : Phi} {S : Sto} {H : Hp} {i c : Nat} {a dx : Addr} {fs fs2 : List (Str × W)} {vs : List (Str × V)} (g : GS F φ S H) (hi : φ[i]? = some a) (q : S.get i = some (.ins c fs)) (t : Fld F φ H vs fs2) : Ext φ H φ (upd H a (.ins (F.ca c) dx vs)) ∧ GS F φ (S.set i (.ins c fs2)) (upd H a (.ins (F.ca c) dx vs)) :=
  ⟨g.ext_set hi (fun _ => HO.noConfusion), g.set q hi ⟨dx, vs, upd_same, t.up (List.prefix_refl _) (g.stay hi)⟩⟩
theorem GS.ins {φ : Phi} {S : Sto} {H : Hp} {i c : Nat} {a : Addr} {fs : List (Str × W)} (g : GS F φ S H) (h : φ[i]? = some a) (q : S.get i = some (.ins c fs)) : ∃ dx vs, H a = some (.ins (F.ca c) dx vs) ∧ Fld F φ H vs fs := by
  obtain ⟨b, hb, dx, vs, hx, t⟩ := g.cell i _ q
  rw [h] at hb
  cases hb
  exact ⟨dx, vs, hx, t⟩
theorem ss_fld {c : Nat} {f : Str} (ho : EE F to mo) (ha : EE F te me) (hc : Cls F.K (F.ca c)) (hn : NoAttr F.K (F.ca c) f) : SS F (fun W => sFld F.K (to W) (te W) f) (sFldM c f mo me) := by
  refine ⟨fun {φ S ρ σ H} G W E h => ?_⟩
  refine ha.run G W _ (SO.bindX G h fun v w S1 φ1 H1 e1 g1 r1 h1 => ?_)
  refine ho.run (G.up e1 g1) W _ (SO.bindX (G.up e1 g1) h1 fun y x S2 φ2 H2 e2 g2 r2 h2 => ?_)
  cases x with
  | ref i =>
    cases r2 with
    | ref hi =>
      rename_i a
      cases q : S2.get i with
      | none => simp only [q] at h2; exact h2.elim
      | some ce =>
        cases ce with
        | ins c' fs =>
          simp only [q] at h2
          cases q2 : c' == c && Nat.blt fs.length 1000 with
          | false => rw [q2] at h2; exact h2.elim
          | true =>
            rw [q2] at h2
            simp only [Bool.and_eq_true] at q2
            obtain rfl := beq_iff_eq.mp q2.1
            have hl : fs.length < 1000 := Nat.le_of_ble_eq_true q2.2
            obtain ⟨dx, vs, hx, fl⟩ := g2.ins hi q
            obtain ⟨e3, g3⟩ := set_ins (dx := dx) g2 hi q (fl.put (f := f) (r1.ext e2 g1))
            exact ⟨a, _, dx, vs, rfl, hx, hc, hn, by rw [fl.len]; exact hl, h2 σ φ2 _ e3 (G.up ((e1.trans e2).trans e3) g3)⟩
        | lst ws => simp only [q] at h2; exact h2.elim
        | dic kvs => simp only [q] at h2; exact h2.elim
  | dat d => exact h2.elim
  | tup ws => exact h2.elim
  | fn k => exact h2.elim
  | frz ds => exact h2.elim
theorem ss_fldaug {c : Nat} {f : Str} {rd : R2} {op : W → W → Sto → Rs W} (hop : OOn F rd op) (ho : EE F to mo) (ha : EE F te me) (hc : Cls F.K (F.ca c)) (hn : NoAttr F.K (F.ca c) f) : SS F (fun W => sFldAug F.K (to W) (te W) rd f) (sFldAugM c f op mo me) := by
  refine ⟨fun {φ S ρ σ H} G W E h => ?_⟩
  refine ho.run G W _ (SO.bindX G h fun y x S1 φ1 H1 e1 g1 r1 h1 => ?_)
  cases x with
  | ref i =>
    cases r1 with
    | ref hi =>
      rename_i a
      cases q : S1.get i with
      | none => simp only [q] at h1; exact h1.elim
      | some ce =>
        cases ce with
        | ins c' fs =>
          simp only [q] at h1
          cases q2 : c' == c with
          | false => rw [q2] at h1; exact h1.elim
          | true =>
            rw [q2] at h1
            obtain rfl := beq_iff_eq.mp q2
            cases q3 : fs.lookup f with
            | none => simp only [q3] at h1; exact h1.elim
            | some v0 =>
              simp only [q3] at h1
              obtain ⟨dx, vs, hx, fl⟩ := g1.ins hi q
              obtain ⟨v, hv, rv⟩ := fl.get q3
              have G1 := G.up e1 g1
              refine ⟨a, _, dx, vs, v, rfl, hx, hc, hn, hv, ?_⟩
              refine ha.run G1 W _ (SO.bindX G1 h1 fun y2 z S2 φ2 H2 e2 g2 r2 h2 => ?_)
              refine hop.run g2 (rv.ext e2 g1) r2 _ (noE (SO.bindX (R := RV F) (G1.up e2 g2) h2 fun u z2 S3 φ3 H3 e3 g3 r3 h3 => ?_) fun c S' => hop.no v0 z S2 c S')
              cases q5 : S3.get i with
              | none => simp only [q5] at h3; exact h3.elim
              | some ce =>
                cases ce with
                | ins c2 fs2 =>
                  simp only [q5] at h3
                  cases q6 : c2 == c' && Nat.blt fs2.length 1000 with
                  | false => rw [q6] at h3; exact h3.elim
                  | true =>
                    rw [q6] at h3
                    simp only [Bool.and_eq_true] at q6
                    obtain rfl := beq_iff_eq.mp q6.1
                    have hl : fs2.length < 1000 := Nat.le_of_ble_eq_true q6.2
                    have hi3 := pre_get (e2.trans e3).pre hi
                    obtain ⟨dx3, vs3, hx3, fl3⟩ := g3.ins hi3 q5
                    obtain ⟨e4, g4⟩ := set_ins (dx := dx3) g3 hi3 q5 (fl3.put (f := f) r3)
                    exact ⟨dx3, vs3, hx3, by rw [fl3.len]; exact hl, h3 σ φ3 _ e4 (G1.up ((e2.trans e3).trans e4) g4)⟩
                | lst ws => simp only [q5] at h3; exact h3.elim
                | dic kvs => simp only [q5] at h3; exact h3.elim
        | lst ws => simp only [q] at h1; exact h1.elim
        | dic kvs => simp only [q] at h1; exact h1.elim
  | dat d => exact h1.elim
  | tup ws => exact h1.elim
  | fn k => exact h1.elim
  | frz ds => exact h1.elim
theorem ss_par {i j : Nat} (ha : EE F ta ma) (hb : EE F tb mb) : SS F (fun W => tPar i j (tCons (ta W) (tCons (tb W) tNil))) (sPar i j ma mb) := by
  refine ⟨fun {φ S ρ σ H} G W E h => ?_⟩
  refine ha.run G W _ (SO.bindX G h fun v x S1 φ1 H1 e1 g1 r1 h1 => ?_)
  refine hb.run (G.up e1 g1) W _ (SO.bindX (G.up e1 g1) h1 fun w y S2 φ2 H2 e2 g2 r2 h2 => ⟨v, w, rfl, ?_⟩)
  exact h2 _ φ2 H2 (Ext.refl _ _) (((G.up (e1.trans e2) g2).set (r1.ext e2 g1)).set r2)
theorem ss_for {wi : WX → TI} {mi : Env → Sto → Rs Itr} {vs : List Nat} {g : WX → TG} {mg : W → Env → Sto → Rs Env} (hi : II F wi mi) (hg : GG F vs g mg) (hb : SS F t m1) : SS F (fun W => tFor (wi W) (g W) (t W)) (sFor mi mg m1) := by
  refine ⟨fun {φ S ρ σ H} G W E h => ?_⟩
  refine hi.run G W _ (SO.bindX G h fun J I S1 φ1 H1 e1 g1 wk h1 => ?_)
  refine ⟨fun i m σ Hc => ∃ (φ2 : Phi) (S2 : Sto) (ρ2 : Env), i + m = I.n ∧ Ext φ1 H1 φ2 Hc ∧ Good F φ2 S2 ρ2 σ Hc ∧ SO F φ2 Hc E W (loop I mg m1 m i ρ2 S2), ⟨I.n, φ1, S1, ρ, Nat.zero_add _, Ext.refl _ _, G.up e1 g1, h1⟩, ?_⟩
  rintro i m σ1 Hc ⟨φ2, S2, ρ2, him, e2, G2, hq⟩
  cases m with
  | zero =>
    have hin : i = I.n := by omega
    subst hin
    unfold loop at hq
    cases ok : I.ok S2 with
    | false => rw [ok] at hq; exact hq.elim
    | true =>
      rw [ok] at hq
      exact .inl ⟨wk.stop e2 G2.gs ok, hq σ1 φ2 Hc (Ext.refl _ _) G2⟩
  | succ n =>
    unfold loop at hq
    cases ok : I.ok S2 with
    | false => rw [ok] at hq; exact hq.elim
    | true =>
      rw [ok] at hq
      simp only at hq
      cases hw : I.at i S2 with
      | none => rw [hw] at hq; exact hq.elim
      | some w =>
        rw [hw] at hq
        simp only at hq
        refine .inr ⟨wk.go i e2 G2.gs ok (by omega), fun σ Hc => ∃ (φ2 : Phi) (S2 : Sto) (ρ2 : Env), (i + 1) + n = I.n ∧ Ext φ1 H1 φ2 Hc ∧ Good F φ2 S2 ρ2 σ Hc ∧ SO F φ2 Hc E W (loop I mg m1 n (i + 1) ρ2 S2), fun σ' H' z => ⟨n, Nat.lt_succ_self n, z⟩, fun x H' y => ?_⟩
        obtain ⟨e3, g3, rx⟩ := wk.yld i e2 G2.gs ok hw y
        cases hgm : mg w ρ2 S2 with
        | bad => rw [hgm] at hq; exact hq.elim
        | ex c S3 => rw [hgm] at hq; exact hq.elim
        | ok ρ3 S3 =>
          rw [hgm] at hq
          simp only at hq
          refine hg.run (G2.up e3 g3) rx W _ ?_
          rw [hgm]
          intro σ4 φ4 H4 e4 G4 _
          refine hb.run G4 W _ ?_
          have e34 := e3.trans e4
          have e24 := e2.trans e34
          cases hbm : m1 ρ3 S3 with
          | bad => rw [hbm] at hq; exact hq
          | ex c S3 => rw [hbm] at hq; exact hq
          | ok f S4 =>
            rw [hbm] at hq
            cases f with
            | nx ρ5 => exact fun σ5 φ5 H5 e5 G5 => ⟨φ5, S4, ρ5, by omega, e24.trans e5, G5, SO.at hq (e34.trans e5)⟩
            | ct ρ5 => exact fun σ5 φ5 H5 e5 G5 => ⟨φ5, S4, ρ5, by omega, e24.trans e5, G5, SO.at hq (e34.trans e5)⟩
            | bk ρ5 => exact fun σ5 φ5 H5 e5 G5 => hq σ5 φ5 H5 (e34.trans e5) G5
            | rt w => exact fun v φ5 H5 e5 g5 r5 => hq v φ5 H5 (e34.trans e5) g5 r5
            | ex c ρ5 => exact fun σ5 φ5 H5 e5 G5 => hq σ5 φ5 H5 (e34.trans e5) G5
theorem ss_while {tt : WX → TT} {mc : Env → Sto → Rs Bool} (fuel : Nat) (hc : BB F tt mc) (hb : SS F t m1) : SS F (fun W => tWhile (tt W) (t W)) (sWhile fuel mc m1) := by
  refine ⟨fun {φ S ρ σ H} G W E h => ?_⟩
  refine ⟨fun m σ Hc => ∃ (φ2 : Phi) (S2 : Sto) (ρ2 : Env), Good F φ2 S2 ρ2 σ Hc ∧ SO F φ2 Hc E W (whl mc m1 m ρ2 S2), ⟨fuel, φ, S, ρ, G, h⟩, ?_⟩
  rintro m σ1 Hc ⟨φ2, S2, ρ2, G2, hq⟩
  cases m with
  | zero => exact hq.elim
  | succ n =>
    refine hc.run G2 W _ (SO.bindX G2 hq fun b a S3 φ3 H3 e3 g3 r3 h3 => ?_)
    cases r3
    have G3 := G2.up e3 g3
    cases b with
    | false => rw [if_neg Bool.false_ne_true]; exact h3 σ1 φ3 H3 (Ext.refl _ _) G3
    | true =>
      rw [if_pos rfl]
      refine ⟨fun σ Hc => ∃ (φ2 : Phi) (S2 : Sto) (ρ2 : Env), Good F φ2 S2 ρ2 σ Hc ∧ SO F φ2 Hc E W (whl mc m1 n ρ2 S2), fun σ' H' z => ⟨n, Nat.lt_succ_self n, z⟩, ?_⟩
      refine hb.run G3 W _ ?_
      simp only at h3
      cases hbm : m1 ρ2 S3 with
      | bad => rw [hbm] at h3; exact h3
      | ex c S3 => rw [hbm] at h3; exact h3
      | ok f S4 =>
        rw [hbm] at h3
        cases f with
        | nx ρ5 => exact fun σ5 φ5 H5 e5 G5 => ⟨φ5, S4, ρ5, G5, SO.at h3 e5⟩
        | ct ρ5 => exact fun σ5 φ5 H5 e5 G5 => ⟨φ5, S4, ρ5, G5, SO.at h3 e5⟩
        | bk ρ5 => exact h3
        | rt w => exact h3
        | ex c ρ5 => exact h3
/-- try: .. except C as e: return .. -/
theorem ss_tryF {i : Nat} {C : Addr} {f : Nat → Option D} {th : Addr → Value → Option Addr → TS} (hb : SS F t m1) (hs : DD.SU F.K F.xa C i th f) :
    SS F (fun _ D σ H => t (wAs F.K (.ref C) i (fun a cls d D σ H => th a cls d D σ H) (fun _ _ _ _ => False) D) D σ H) (sTryF i f m1) := by
  refine ⟨fun {φ S ρ σ H} G W E h => ?_⟩
  refine hb.run G _ E ?_
  unfold sTryF at h
  cases q : m1 ρ S with
  | bad => rw [q] at h; exact h
  | ex c S1 => rw [q] at h; exact h
  | ok fl S1 =>
    rw [q] at h
    cases fl with
    | nx ρ1 => exact h
    | bk ρ1 => exact h
    | ct ρ1 => exact h
    | rt w => exact h
    | ex c ρ1 =>
      simp only at h
      intro σ' φ' H' e' G'
      cases hi : Nat.blt i ρ1.length with
      | false => rw [hi] at h; exact h.elim
      | true =>
        rw [hi] at h
        simp only at h
        cases hf : f c with
        | none => rw [hf] at h; exact h.elim
        | some d0 =>
          rw [hf] at h
          simp only at h
          cases hp : pur d0 with
          | false => rw [hp] at h; exact h.elim
          | true =>
            rw [hp] at h
            refine ⟨true, hs.cls c d0 hf, fun _ a na => ?_, fun z => (nomatch z)⟩
            have hi2 : i < ρ1.length := Nat.le_of_ble_eq_true hi
            rw [← ov_noT H']
            exact hs.run c d0 hf a _ _ _ _ (setself (by rw [← G'.len]; exact hi2)) (disT G'.gs.tab) fun v H2 s2 d2 p2 => h v φ' H2 (e'.trans (Ext.same s2)) (G'.gs.same s2 d2.tab) (.dat p2 hp)
end
/-! ### defs -/
def start0 (N : Nat) (ws : List W) : Env := ws.map some ++ List.replicate (N - ws.length) none
def mDef (N : Nat) (b : St) (ws : List W) (S : Sto) : Rs W := match b (start0 N ws) S with
  | .ok (.rt w) S1 => .ok w S1
  | .ok (.nx _) S1 => .ok wNon S1
  | .ok (.ex c _) S1 => .ex c S1
  | _ => .bad
section
variable {F : Cf}
theorem good_start {N : List Str} {φ : Phi} {S : Sto} {H : Hp} {vs : List V} {ws : List W} (g : GS F φ S H) (r : RVs F φ H vs ws) : Good F φ S (start0 N.length ws) (start N vs) H := by
  have hl := r.len
  refine ⟨g, ?_, fun i w e => ?_⟩
  · unfold L2.start start0
    rw [List.length_append, List.length_append, List.length_map, List.length_map, List.length_replicate, List.length_replicate, hl]
  · have h0 : ws[i]? = some w := by
      unfold start0 at e
      by_cases hi : i < ws.length
      · rw [List.getElem?_append_left (by simpa using hi), List.getElem?_map, List.getElem?_eq_getElem hi] at e
        rw [List.getElem?_eq_getElem hi]
        cases e
        rfl
      · rw [List.getElem?_append_right (by simpa using hi), List.getElem?_replicate] at e
        split at e <;> cases e
    obtain ⟨v, hv, rv⟩ := r.get h0
    refine ⟨v, ?_, rv⟩
    unfold L2.start
    rw [List.getElem?_append_left (by rw [List.length_map]; exact (List.getElem?_eq_some_iff.mp hv).1), List.getElem?_map, hv]
    rfl
theorem def_okV {P : Program} {w : World} {mg : Str → Option Value} {base : Heap} {x qual : Str} {st : Stmt} {f : Addr} {fd : FuncData} {N ps : List Str} {k : Nat} {mb : St} (Fn : Fun F.K x qual st f fd) (Sc : FnScope N ps (defScope st))
    (hbody : ∀ (cdv : Value) (A : Around) (outer : List PySem.Env) (s : Shared) (H : Hp) (E : XK), Room k (A.deeper (envOfC qual (defScope st) s.heap.objs.size f cdv)) →
      ∃ t : WX → TS, SS F t mb ∧ PSs (cxOf (L2.CX P w) P w F.K mg base N qual (defScope st) f cdv A outer s H E) (defBody st) (t fun c d _ h => E c d h)) : FnOk P w F.K mg base (L2.CX P w) (k + 1) f fd ps (spV F ps.length (mDef N.length mb)) := by
  refine Fn.okX Sc (fun vs H Q E h => ?_) (fun cdv A outer s H vs Q E hr h => ?_)
  · obtain ⟨φ, S, ws, g, r, hn, _⟩ := h
    rw [r.len, hn]
  · obtain ⟨φ, S, ws, g, r, hn, hq⟩ := h
    obtain ⟨t, m, p⟩ := hbody cdv A outer s H E hr
    refine ⟨_, p, ?_⟩
    refine m.run (good_start g r) _ _ ?_
    unfold mDef at hq
    cases q : mb (start0 N.length ws) S with
    | bad => rw [q] at hq; exact hq
    | ex c S1 => rw [q] at hq; exact hq.elim
    | ok fl S1 =>
      rw [q] at hq
      cases fl with
      | rt w => exact fun v φ' H' e g r => hq v φ' H' e g r
      | nx ρ => exact fun σ φ' H' e G => hq .non φ' H' e G.gs rvNon
      | ex c ρ => exact fun σ φ' H' e G => hq φ' H' e G.gs
      | bk ρ => exact hq.elim
      | ct ρ => exact hq.elim
end
end EV

set_option Elab.async false
set_option linter.all false
set_option maxRecDepth 100000
set_option maxHeartbeats 4000000
/-! more: chains, isinstance, += of attributes, len of one's own, what the data layer knows as a whole -/
namespace EV
open PySem PySem.Spec PyProof.Rows L2
open DD (TabQ ExQ D SqB)
variable [TabQ] [ExQ]
section
variable {F : Cf} {ta tb tc te to : WX → TE} {ma mb mc me mo : Env → Sto → Rs W} {t : WX → TA} {m : Env → Sto → Rs (List W)} {r r' : R2} {f g : W → W → Sto → Rs W}
theorem ee_chain (hr : OOn F r f) (hr' : OOn F r' g) (ha : EE F ta ma) (hb : EE F tb mb) (hc : EE F tc mc) : EE F (fun W => tChain r r' (ta W) (tb W) (tc W)) (mChain f g ma mb mc) := by
  refine ⟨fun {φ S ρ σ H} G W Q h => ?_⟩
  refine ha.run G W _ (RO.bind h fun v a S1 φ1 H1 e1 g1 r1 h1 => ?_)
  refine hb.run (G.up e1 g1) W _ (RO.bind h1 fun u b S2 φ2 H2 e2 g2 r2 h2 => ?_)
  refine hr.run g2 (r1.ext e2 g1) r2 _ (noE (RO.bind h2 fun w z S3 φ3 H3 e3 g3 r3 h3 => ?_) fun c S' => hr.no a b S2 c S')
  cases q : isB z with
  | none => simp only [q] at h3; exact h3.elim
  | some k =>
    obtain rfl := isB_some q
    refine ⟨k, rv_bool r3, ?_⟩
    cases k with
    | true =>
      rw [if_pos rfl]
      simp only [q] at h3
      refine hc.run (G.up ((e1.trans e2).trans e3) g3) W _ (RO.bind h3 fun w4 z4 S4 φ4 H4 e4 g4 r4 h4 => ?_)
      exact hr'.run g4 (r2.ext (e3.trans e4) g2) r4 Q (noE h4 fun c S' => hr'.no b z4 S4 c S')
    | false =>
      rw [if_neg Bool.false_ne_true]
      simp only [q] at h3
      exact h3.ok (Ext.refl _ _) g3 rv_bl
/-- isinstance(x, a built-in class) -/
theorem ee_isi {c : String} (hc : DD.ClsOk c) (ha : EE F ta ma) : EE F (fun W => tCB (rIsi F.K) (tCons (ta W) (tCons (tC (.ty c)) tNil))) (mUn (uD (DD.dIsi c)) ma) := by
  refine ⟨fun {φ S ρ σ H} G W Q h => ?_⟩
  refine ha.run G W _ (RO.bind h fun v a S1 φ1 H1 e1 g1 r1 h1 => ?_)
  unfold uD at h1
  cases e2 : dOf S1 dpt a with
  | none => rw [e2] at h1; exact h1.elim
  | some x =>
    simp only [e2] at h1
    cases e3 : DD.dIsi c x with
    | none => simp only [e3] at h1; exact h1.elim
    | some z =>
      simp only [e3] at h1
      have p := dOf_ok g1 _ _ _ _ r1 e2
      cases e3
      refine ⟨v, .ty c, _, _, _, rfl, .ty c, ?_, L2.kit_ty (hc x), h1.ok (Ext.refl _ _) g1 rv_bl⟩
      have := DD.tyX_of (disT g1.tab) p
      rw [ov_noT] at this
      exact this
/-- o.f += e of ints -/
def fAddI (a b : W) (S : Sto) : Rs W := match a, b with
  | .dat (.int i), .dat (.int j) => .ok (.dat (.int (i + j))) S
  | _, _ => .bad
def fSubI (a b : W) (S : Sto) : Rs W := match a, b with
  | .dat (.int i), .dat (.int j) => .ok (.dat (.int (i - j))) S
  | _, _ => .bad
theorem oo_radd : OOn F L2.rAdd fAddI := by
  refine ⟨⟨fun {φ S H x y a b} g r1 r2 Q q => ?_⟩, fun a b S c S' e => ?_⟩
  · unfold fAddI at q
    split at q
    · cases rv_int r1
      cases rv_int r2
      exact ⟨_, _, rfl, rfl, q.ok (Ext.refl _ _) g rvInt⟩
    · exact q.elim
  · unfold fAddI at e
    repeat' split at e
    all_goals cases e
theorem oo_rsub : OOn F L2.rSub fSubI := by
  refine ⟨⟨fun {φ S H x y a b} g r1 r2 Q q => ?_⟩, fun a b S c S' e => ?_⟩
  · unfold fSubI at q
    split at q
    · cases rv_int r1
      cases rv_int r2
      exact ⟨_, _, rfl, rfl, q.ok (Ext.refl _ _) g rvInt⟩
    · exact q.elim
  · unfold fSubI at e
    repeat' split at e
    all_goals cases e
/-- len(x), x of a class with __len__ -/
def mLenO (c : Nat) (mf : List W → Sto → Rs W) (a : Env → Sto → Rs W) (ρ : Env) (S : Sto) : Rs W := (a ρ S).bind fun w S1 => match w with
  | .ref i => match S1.get i with
    | some (.ins c' _) => match c' == c with
      | true => match mf [w] S1 with
        | .ok (.dat (.int n)) S2 => match decide (0 ≤ n ∧ n < 2 ^ 63) with
          | true => .ok (.dat (.int n)) S2
          | false => .bad
        | _ => .bad
      | false => .bad
    | _ => .bad
  | _ => .bad
theorem ee_lenO {c : Nat} {mf : List W → Sto → Rs W} (ha : EE F ta ma) : EE F (fun W => tCB (fun xs H Q => ∃ a dx fs, xs = [.ref a] ∧ H a = some (.ins (F.ca c) dx fs) ∧ spV F 1 mf [.ref a] H (fun v H' => ∃ n : Nat, v = .int n ∧ n < 2 ^ 63 ∧ Q (.int n) H') (fun _ _ _ => False)) (tCons (ta W) tNil)) (mLenO c mf ma) := by
  refine ⟨fun {φ S ρ σ H} G W Q h => ?_⟩
  refine ha.run G W _ (RO.bind h fun v w S1 φ1 H1 e1 g1 r1 h1 => ?_)
  cases w with
  | ref i =>
    have r0 := r1
    cases r1 with
    | ref hi =>
      rename_i a
      cases q : S1.get i with
      | none => simp only [q] at h1; exact h1.elim
      | some ce =>
        cases ce with
        | ins c' fs =>
          simp only [q] at h1
          cases q2 : c' == c with
          | false => rw [q2] at h1; exact h1.elim
          | true =>
            rw [q2] at h1
            obtain rfl := beq_iff_eq.mp q2
            obtain ⟨dx, vs, hx, fl⟩ := g1.ins hi q
            refine ⟨a, dx, vs, rfl, hx, φ1, S1, [.ref i], g1, .cons r0 .nil, rfl, ?_⟩
            cases q3 : mf [.ref i] S1 with
            | bad => simp only [q3] at h1; exact h1.elim
            | ex c S2 => simp only [q3] at h1; exact h1.elim
            | ok z S2 =>
              simp only [q3] at h1
              split at h1
              · rename_i n S3 e4
                cases e4
                split at h1
                · rename_i hn
                  have hn := of_decide_eq_true hn
                  intro u φ2 H2 e2 g2 r2
                  cases rv_int r2
                  refine ⟨n.toNat, by rw [Int.toNat_of_nonneg hn.1], by omega, ?_⟩
                  rw [Int.toNat_of_nonneg hn.1]
                  exact h1.ok e2 g2 rvInt
                · exact h1.elim
              · exact h1.elim
        | lst ws => simp only [q] at h1; exact h1.elim
        | dic kvs => simp only [q] at h1; exact h1.elim
  | dat d => exact h1.elim
  | tup ws => exact h1.elim
  | fn k => exact h1.elim
  | frz ds => exact h1.elim
def sPar3 (i j l : Nat) (a b c : Env → Sto → Rs W) : St := fun ρ S => liftX (a ρ S) ρ fun x S1 => liftX (b ρ S1) ρ fun y S2 => liftX (c ρ S2) ρ fun z S3 => .ok (.nx (((ρ.set i (some x)).set j (some y)).set l (some z))) S3
theorem ss_par3 {i j l : Nat} (ha : EE F ta ma) (hb : EE F tb mb) (hc : EE F tc mc) : SS F (fun W => tPar3 i j l (tCons (ta W) (tCons (tb W) (tCons (tc W) tNil)))) (sPar3 i j l ma mb mc) := by
  refine ⟨fun {φ S ρ σ H} G W E h => ?_⟩
  refine ha.run G W _ (SO.bindX G h fun v x S1 φ1 H1 e1 g1 r1 h1 => ?_)
  refine hb.run (G.up e1 g1) W _ (SO.bindX (G.up e1 g1) h1 fun w y S2 φ2 H2 e2 g2 r2 h2 => ?_)
  have G2 := G.up (e1.trans e2) g2
  refine hc.run G2 W _ (SO.bindX G2 h2 fun u z S3 φ3 H3 e3 g3 r3 h3 => ⟨v, w, u, rfl, ?_⟩)
  exact h3 _ φ3 H3 (Ext.refl _ _) ((((G2.up e3 g3).set (r1.ext (e2.trans e3) g1)).set (r2.ext e3 g2)).set r3)
/-! ### what the data layer knows as a whole -/
def enOf (S : Sto) (ρ : Env) : DD.En := ρ.map fun o => match o with
  | some w => (dOf S dpt w).map DD.Sl.val
  | none => none
theorem en_val {S : Sto} {ρ : Env} {i : Nat} {s : DD.Sl} (h : (enOf S ρ)[i]? = some (some s)) : ∃ w d, ρ[i]? = some (some w) ∧ dOf S dpt w = some d ∧ s = .val d := by
  unfold enOf at h
  rw [List.getElem?_map] at h
  cases q : ρ[i]? with
  | none => rw [q] at h; cases h
  | some o =>
    rw [q] at h
    cases o with
    | none => cases h
    | some w =>
      have h : (dOf S dpt w).map DD.Sl.val = some s := Option.some.inj h
      obtain ⟨d, hd, e⟩ := DD.map_some h
      exact ⟨w, d, rfl, hd, e.symm⟩
theorem good_en {φ : Phi} {S : Sto} {ρ : Env} {σ : L2.St} {H : Hp} (G : Good F φ S ρ σ H) : DD.Good F.K H noT σ (enOf S ρ) H noT := by
  refine ⟨by unfold enOf; rw [List.length_map]; exact G.len, fun i d h => ?_, fun i ds h => ?_, fun i j ds es p h1 _ _ _ => ?_, disT G.gs.tab, fun _ _ h => h, DD.Same.refl H, fun i c h => ?_⟩
  · obtain ⟨w, d', e, hd, z⟩ := en_val h
    cases z
    obtain ⟨v, a, b⟩ := G.val i w e
    exact ⟨v, a, dOf_ok G.gs _ _ _ _ b hd⟩
  · obtain ⟨w, d', e, hd, z⟩ := en_val h
    cases z
  · obtain ⟨w, d', e, hd, z⟩ := en_val h1
    cases z
  · obtain ⟨w, d', e, hd, z⟩ := en_val h
    cases z
def mEt (m : DD.En → Option D) (ρ : Env) (S : Sto) : Rs W := match m (enOf S ρ) with
  | some d => wOf d S
  | none => .bad
def mFl (m : DD.En → Option (List D)) (ρ : Env) (S : Sto) : Rs W := match m (enOf S ρ) with
  | some ds => wOfs ds S
  | none => .bad
def bEt (m : DD.En → Option Bool) (ρ : Env) (S : Sto) : Rs Bool := match m (enOf S ρ) with
  | some b => .ok b S
  | none => .bad
theorem ee_et {x : TE} {m : DD.En → Option D} (h : DD.ET F.K x m) : EE F (fun _ => x) (mEt m) := by
  refine ⟨fun {φ S ρ σ H} G W Q q => ?_⟩
  unfold mEt at q
  cases e : m (enOf S ρ) with
  | none => rw [e] at q; exact q.elim
  | some d =>
    rw [e] at q
    rw [← ov_noT H]
    exact h.run (good_en G) e Q fun v H' s d p => q.data G.gs s d p
theorem ee_fl {x : TE} {m : DD.En → Option (List D)} (h : DD.FL F.K x m) : EE F (fun _ => x) (mFl m) := by
  refine ⟨fun {φ S ρ σ H} G W Q q => ?_⟩
  unfold mFl at q
  cases e : m (enOf S ρ) with
  | none => rw [e] at q; exact q.elim
  | some d =>
    rw [e] at q
    rw [← ov_noT H]
    exact h.run (good_en G) e Q fun p xs H' s d hp g => q.fresh G.gs s d hp g
theorem bb_et {x : TT} {m : DD.En → Option Bool} (h : DD.TTm F.K x m) : BB F (fun _ => x) (bEt m) := by
  refine ⟨fun {φ S ρ σ H} G W Q q => ?_⟩
  unfold bEt at q
  cases e : m (enOf S ρ) with
  | none => rw [e] at q; exact q.elim
  | some b =>
    rw [e] at q
    rw [← ov_noT H]
    exact h.run (good_en G) e Q fun H' s d => q.ok (Ext.same s) (G.gs.same s d.tab) rfl
/-! ### suites -/
theorem sbd_ix {i : Nat} {ta tb : Addr → TE} {ds : List D} {y : D} {j : Nat} (h1 : DD.SBD F.K i ta (.list ds)) (h2 : DD.SBD F.K i tb y) (hs : (SeqAt.shaped (.list ds) && SeqAt.shaped y) = true) (hj : (ds.findIdx? fun z => PyData.eqv z y) = some j) :
    DD.SBD F.K i (fun a => tBM F.K "list" (rIndexD F.K) (ta a) (tCons (tb a) tNil)) (.int j) := by
  refine ⟨fun a σ H T Q e dis q => ?_⟩
  refine h1.run a σ H T _ e dis fun v H1 s1 d1 p1 => ?_
  obtain ⟨p, xs, rfl, hsq, g⟩ := DD.dp_lst p1
  refine ⟨.inl ⟨rfl, xs, DD.sql_ov d1 hsq⟩, ?_⟩
  refine h2.run a σ H1 T _ e d1 fun u H2 s2 d2 p2 => ?_
  rw [Bool.and_eq_true] at hs
  obtain ⟨jl, j1, j2⟩ := List.findIdx?_eq_some_iff_getElem.mp hj
  refine ⟨p, u, y, ds, j, ds[j], rfl, rfl, DD.dp_ov d2 (DD.dp_mono s2 (.lst hsq g)), DD.dp_ov d2 p2, hs.1, hs.2, List.getElem?_eq_getElem jl, j1, fun m z hm hz => ?_, q _ H2 (s1.trans s2) d2 (.int _)⟩
  have ml : m < ds.length := Nat.lt_trans hm jl
  rw [List.getElem?_eq_getElem ml] at hz
  cases hz
  simpa using j2 m hm
end
end EV

set_option Elab.async false
set_option linter.all false
set_option maxRecDepth 100000
set_option maxHeartbeats 4000000
/-! the script stays in its slot; what is drawn becomes a number -/
namespace EV
open PySem
open DD (D)
def Has (x : W) (ρ : Env) : Prop := ρ[0]? = some (some x)
/-- the script stays in slot 0 -/
def Keeps (x : W) (s : St) : Prop := ∀ ρ S ρ1 S1, Has x ρ → s ρ S = .ok (.nx ρ1) S1 → Has x ρ1
def Eqs (x : W) (s s' : St) : Prop := ∀ ρ S, Has x ρ → s ρ S = s' ρ S
def Eqe {α : Type} (x : W) (a b : Env → Sto → Rs α) : Prop := ∀ ρ S, Has x ρ → a ρ S = b ρ S
variable {x : W}
theorem eqs_refl {s : St} : Eqs x s s := fun _ _ _ => rfl
theorem eqe_refl {α : Type} {a : Env → Sto → Rs α} : Eqe x a a := fun _ _ _ => rfl
theorem eqs_seq {s s' r r' : St} (h : Eqs x s s') (k : Keeps x s) (g : Eqs x r r') : Eqs x (sSeq s r) (sSeq s' r') := fun ρ S hx => by
  unfold sSeq
  rw [← h ρ S hx]
  cases q : s ρ S with
  | bad => rfl
  | ex c S1 => rfl
  | ok f S1 =>
    cases f with
    | nx ρ1 => exact g ρ1 S1 (k ρ S ρ1 S1 hx q)
    | rt w => rfl
    | bk ρ1 => rfl
    | ct ρ1 => rfl
    | ex c ρ1 => rfl
theorem eqs_set {a b : Env → Sto → Rs W} {g : W → Env → Sto → Rs Env} (h : Eqe x a b) : Eqs x (sAsg a g) (sAsg b g) := fun ρ S hx => by
  unfold sAsg
  rw [h ρ S hx]
theorem eqe_op {f : W → W → Sto → Rs W} {a b a' b' : Env → Sto → Rs W} (h : Eqe x a a') (g : Eqe x b b') (n : ∀ ρ S w S1, a ρ S = .ok w S1 → b ρ S1 = b' ρ S1 → True) : Eqe x (mOp f a b) (mOp f a' b') := fun ρ S hx => by
  unfold mOp
  rw [← h ρ S hx]
  cases a ρ S with
  | bad => rfl
  | ex c S1 => rfl
  | ok w S1 => simp only [Rs.bind_ok, g ρ S1 hx]
theorem keeps_set {i : Nat} {a : Env → Sto → Rs W} (hi : i ≠ 0) : Keeps x (sAsg a (gSet i)) := fun ρ S ρ1 S1 hx e => by
  unfold sAsg liftX at e
  split at e
  · cases e
  · unfold goE gSet at e
    cases e
    unfold Has at hx ⊢
    rw [List.getElem?_set_ne hi]
    exact hx
  · cases e
theorem keeps_drop {a : Env → Sto → Rs W} : Keeps x (sDrop a) := fun ρ S ρ1 S1 hx e => by
  unfold sDrop liftX at e
  split at e
  · cases e
  · cases e; exact hx
  · cases e
theorem keeps_next : Keeps x sNext := fun ρ S ρ1 S1 hx e => by
  cases e; exact hx
theorem keeps_ret {a : Env → Sto → Rs W} : Keeps x (sRet a) := fun ρ S ρ1 S1 hx e => by
  unfold sRet liftX at e
  split at e <;> cases e
theorem keeps_if {c : Env → Sto → Rs Bool} {a b : St} (h1 : Keeps x a) (h2 : Keeps x b) : Keeps x (sIf c a b) := fun ρ S ρ1 S1 hx e => by
  unfold sIf liftX at e
  split at e
  · cases e
  · rename_i z S2 q
    cases z with
    | true => exact h1 _ _ _ _ hx e
    | false => exact h2 _ _ _ _ hx e
  · cases e
/-- what is drawn from the script in slot 0 -/
theorem eqe_draw {ns : List Int} {f : List D → Option D} {k m d : Int} (h : f [.list (ns.map .int), .int k, .int m] = some (.int d)) :
    Eqe (.frz (ns.map .int)) (mCB (cD (DD.lim 3 f)) (mCons (mVar 0) (mCons (mC (.int k)) (mCons (mC (.int m)) mNil)))) (mC (.int d)) := fun ρ S hx => by
  have hx : ρ[0]? = some (some (.frz (ns.map .int))) := hx
  unfold mCB mCons mVar mC mNil
  simp only [hx, Rs.bind_ok]
  have e : DD.lim 3 f [.list (ns.map .int), .int k, .int m] = some (.int d) := by
    show (if (3 : Nat) = 3 then f [.list (ns.map .int), .int k, .int m] else none) = _
    rw [if_pos rfl]
    exact h
  have e1 : dOfs (dOf S dpt) [.frz (ns.map .int), .dat (.int k), .dat (.int m)] = some [.list (ns.map .int), .int k, .int m] := rfl
  have e2 : pur (.int d) = true := by simp [pur]
  unfold cD
  simp only [e1, e]
  unfold wOf
  rw [e2]
theorem eqs_def {N : Nat} {b b' : St} {S : Sto} (h : Eqs x b b') : mDef (N + 1) b [x] S = mDef (N + 1) b' [x] S := by
  unfold mDef
  rw [h (start0 (N + 1) [x]) S (show (start0 (N + 1) [x])[0]? = some (some x) from rfl)]
end EV

set_option Elab.async false
set_option linter.all false
set_option maxRecDepth 100000
set_option maxHeartbeats 4000000
namespace DD
variable [TabQ] [ExQ]
open PySem PySem.Spec PyProof.Rows L2
def topS (i : Nat) : Stmt := PySem.Challenge.pw_batchyard_k55_disk_refusals.main.body.getD i (.Pass ⟨0, 0, 0, 0⟩)
abbrev s_is_whole : Stmt := topS 8
abbrev N_is_whole : List Str := ["thing", "low", "high"]
theorem sc_is_whole : FnScope N_is_whole ["thing", "low", "high"] (defScope s_is_whole) := ⟨rfl, rfl, rfl, by decide +kernel, rfl, by decide +kernel, by decide +kernel⟩
abbrev s_are_words : Stmt := topS 9
abbrev N_are_words : List Str := ["thing", "word"]
theorem sc_are_words : FnScope N_are_words ["thing"] (defScope s_are_words) := ⟨rfl, rfl, rfl, by decide +kernel, rfl, by decide +kernel, by decide +kernel⟩
abbrev s__are_choices : Stmt := topS 16
abbrev N__are_choices : List Str := ["thing", "many", "part"]
theorem sc__are_choices : FnScope N__are_choices ["thing", "many"] (defScope s__are_choices) := ⟨rfl, rfl, rfl, by decide +kernel, rfl, by decide +kernel, by decide +kernel⟩
abbrev s__law_drawn : Stmt := topS 18
abbrev N__law_drawn : List Str := ["_law_script", "_law_k", "_law_many", "_law_cell", "_law_turn", "_law_rest"]
theorem sc__law_drawn : FnScope N__law_drawn ["_law_script", "_law_k", "_law_many"] (defScope s__law_drawn) := ⟨rfl, rfl, rfl, by decide +kernel, rfl, by decide +kernel, by decide +kernel⟩
def clsS (s : Stmt) (k : Nat) : Stmt := match s with
  | .ClassDef _ _ _ b _ _ _ _ _ _ _ => b.getD k (.Pass ⟨0, 0, 0, 0⟩)
  | _ => .Pass ⟨0, 0, 0, 0⟩
abbrev s_Disk___init__ : Stmt := clsS (topS 15) 0
abbrev N_Disk___init__ : List Str := ["self", "blocks", "size"]
theorem sc_Disk___init__ : FnScope N_Disk___init__ ["self", "blocks", "size"] (defScope s_Disk___init__) := ⟨rfl, rfl, rfl, by decide +kernel, rfl, by decide +kernel, by decide +kernel⟩
abbrev s_Disk__demand : Stmt := clsS (topS 15) 9
abbrev N_Disk__demand : List Str := ["self", "number"]
theorem sc_Disk__demand : FnScope N_Disk__demand ["self", "number"] (defScope s_Disk__demand) := ⟨rfl, rfl, rfl, by decide +kernel, rfl, by decide +kernel, by decide +kernel⟩
abbrev s_Disk_block : Stmt := clsS (topS 15) 3
abbrev N_Disk_block : List Str := ["self", "number"]
theorem sc_Disk_block : FnScope N_Disk_block ["self", "number"] (defScope s_Disk_block) := ⟨rfl, rfl, rfl, by decide +kernel, rfl, by decide +kernel, by decide +kernel⟩
abbrev s_Disk_blocks : Stmt := clsS (topS 15) 7
abbrev N_Disk_blocks : List Str := ["self"]
theorem sc_Disk_blocks : FnScope N_Disk_blocks ["self"] (defScope s_Disk_blocks) := ⟨rfl, rfl, rfl, by decide +kernel, rfl, by decide +kernel, by decide +kernel⟩
abbrev s_Disk_loose : Stmt := clsS (topS 15) 5
abbrev N_Disk_loose : List Str := ["self", "number", "_"]
theorem sc_Disk_loose : FnScope N_Disk_loose ["self"] (defScope s_Disk_loose) := ⟨rfl, rfl, rfl, by decide +kernel, rfl, by decide +kernel, by decide +kernel⟩
abbrev s_Disk_write : Stmt := clsS (topS 15) 2
abbrev N_Disk_write : List Str := ["self", "number", "words", "zeros"]
theorem sc_Disk_write : FnScope N_Disk_write ["self", "number", "words"] (defScope s_Disk_write) := ⟨rfl, rfl, rfl, by decide +kernel, rfl, by decide +kernel, by decide +kernel⟩
abbrev s_Disk_fall : Stmt := clsS (topS 15) 6
abbrev N_Disk_fall : List Str := ["self", "choices", "is_kept", "number", "words"]
theorem sc_Disk_fall : FnScope N_Disk_fall ["self", "choices"] (defScope s_Disk_fall) := ⟨rfl, rfl, rfl, by decide +kernel, rfl, by decide +kernel, by decide +kernel⟩
abbrev s__law_no : Stmt := topS 19
abbrev N__law_no : List Str := ["_law_way", "_law_disk", "_law_one", "_law_other", "e"]
theorem sc__law_no : FnScope N__law_no ["_law_way", "_law_disk", "_law_one", "_law_other"] (defScope s__law_no) := ⟨rfl, rfl, rfl, by decide +kernel, rfl, by decide +kernel, by decide +kernel⟩
abbrev s_law : Stmt := topS 20
abbrev N_law : List Str := ["_law_script", "_law_span", "_law_disk", "_law_then", "_law_odd", "_law_told", "_law_no_words", "_law_bad", "_law_thing"]
theorem sc_law : FnScope N_law ["_law_script"] (defScope s_law) := ⟨rfl, rfl, rfl, by decide +kernel, rfl, by decide +kernel, by decide +kernel⟩
abbrev s_Disk___len__ : Stmt := clsS (topS 15) 1
abbrev N_Disk___len__ : List Str := ["self"]
theorem sc_Disk___len__ : FnScope N_Disk___len__ ["self"] (defScope s_Disk___len__) := ⟨rfl, rfl, rfl, by decide +kernel, rfl, by decide +kernel, by decide +kernel⟩
/-! ### mirrors -/
def b_is_whole : En → Option Fl :=
  (sRet (mAndV (mUn (dIsi "int") (mVar 0)) (mAndV (mNotV (mUn (dIsi "bool") (mVar 0))) (mChain dLeB dLeB (mVar 1) (mVar 0) (mVar 2)))))
def m_is_whole (ds : List D) : Option D := mDef 3 b_is_whole ds
def b_are_words : En → Option Fl :=
  (sSeq (sIf (mNot (mTru (mUn (dIsi "list") (mVar 0))))
  (sRet (mC (.bool false)))
  sNext)
  (sRet (mCall dAll (mCons (mList (mLc (mIter (mVar 0)) (gSet 1) mYes (mAndV (mUn (dIsi "int") (mVar 1)) (mAndV (mChain dLeB dLeB (mC (.int 0)) (mVar 1) (mC (.int (9999)))) (mNotV (mUn (dIsi "bool") (mVar 1))))) [1])) mNil))))
def m_are_words (ds : List D) : Option D := mDef 2 b_are_words ds
def b__are_choices : En → Option Fl :=
  (sRet (mAndV (mUn (dIsi "list") (mVar 0)) (mAndV (mOp dEq (mCall dLen (mCons (mVar 0) mNil)) (mVar 1)) (mCall dAll (mCons (mList (mLc (mIter (mVar 0)) (gSet 2) mYes (mUn (dIsi "bool") (mVar 2)) [2])) mNil)))))
def m__are_choices (ds : List D) : Option D := mDef 3 b__are_choices ds
def fuel__law_drawn_0 (ρ : En) : Nat := fuelOf 4 ρ
def b__law_drawn : En → Option Fl :=
  (sSeq (sAsg (mOp dMul (mC (.int 7)) (mVar 1)) (gSet 3))
  (sSeq (sIf (mTest (mOp dNe (mVar 0) (mList (mLst mNil))))
  (sSeq (sAsg (mOp dIx (mVar 0) (mOp dMod (mVar 1) (mCall dLen (mCons (mVar 0) mNil)))) (gSet 3))
  (sSeq (sAsg (mOp dFdiv (mVar 1) (mCall dLen (mCons (mVar 0) mNil))) (gSet 4))
  (sSeq (sIf (mAnd (mTest (mOp dGe (mVar 3) (mOp dPow (mC (.int 10)) (mC (.int 18))))) (mTest (mOp dLt (mVar 4) (mC (.int 60)))))
  (sSeq (sAsg (mOp dFdiv (mVar 3) (mOp dPow (mC (.int 10)) (mC (.int 18)))) (gSet 5))
  (sSeq (sWhile fuel__law_drawn_0 (mAnd (mTest (mOp dGt (mVar 5) (mC (.int 0)))) (mTest (mOp dGt (mVar 4) (mC (.int 0)))))
  (sSeq (sAsg (mOp dFdiv (mVar 5) (mC (.int 1000000))) (gSet 5))
  (sAsg (mOp dSub (mVar 4) (mC (.int 1))) (gSet 4))))
  (sIf (mTest (mOp dGt (mVar 5) (mC (.int 0))))
  (sRet (mOp dMod (mOp dMod (mVar 5) (mC (.int 1000000))) (mVar 2)))
  sNext)))
  sNext)
  (sAsg (mOp dAdd (mVar 3) (mOp dMul (mC (.int 6553)) (mOp dFdiv (mVar 1) (mCall dLen (mCons (mVar 0) mNil))))) (gSet 3)))))
  sNext)
  (sSeq (sAsg (mOp dMod (mOp dAdd (mOp dMul (mOp dMod (mVar 3) (mC (.int 2147483563))) (mC (.int 69069))) (mOp dMul (mC (.int 104723)) (mOp dAdd (mVar 1) (mC (.int 1))))) (mC (.int 2147483563))) (gSet 3))
  (sSeq (sAsg (mOp dMod (mOp dAdd (mOp dMul (mVar 3) (mVar 3)) (mOp dFdiv (mVar 3) (mC (.int 3)))) (mC (.int 2147483399))) (gSet 3))
  (sRet (mOp dMod (mOp dFdiv (mOp dMod (mOp dAdd (mOp dMul (mVar 3) (mVar 3)) (mOp dFdiv (mVar 3) (mC (.int 7)))) (mC (.int 2147483647))) (mC (.int 11))) (mVar 2)))))))
def m__law_drawn (ds : List D) : Option D := mDef 6 b__law_drawn ds
/-! ### what the top leaves -/
structure Tx (K : PySem.W.Frag) (w : World) (mg : Str → Option Value) where
  f_is_whole : Addr
  d_is_whole : FuncData
  F_is_whole : Fun K "is_whole" "is_whole" s_is_whole f_is_whole d_is_whole
  b_is_whole : Binds K d_is_whole ["thing", "low", "high"] []
  g_is_whole : mg "is_whole" = some (.ref f_is_whole)
  f_are_words : Addr
  d_are_words : FuncData
  F_are_words : Fun K "are_words" "are_words" s_are_words f_are_words d_are_words
  b_are_words : Binds K d_are_words ["thing"] []
  g_are_words : mg "are_words" = some (.ref f_are_words)
  f__are_choices : Addr
  d__are_choices : FuncData
  F__are_choices : Fun K "_are_choices" "_are_choices" s__are_choices f__are_choices d__are_choices
  b__are_choices : Binds K d__are_choices ["thing", "many"] []
  g__are_choices : mg "_are_choices" = some (.ref f__are_choices)
  f__law_drawn : Addr
  d__law_drawn : FuncData
  F__law_drawn : Fun K "_law_drawn" "_law_drawn" s__law_drawn f__law_drawn d__law_drawn
  b__law_drawn : Binds K d__law_drawn ["_law_script", "_law_k", "_law_many"] []
  g__law_drawn : mg "_law_drawn" = some (.ref f__law_drawn)
  t_LEAST_BLOCKS : Tok
  c_LEAST_BLOCKS : mg "LEAST_BLOCKS" = some (.int (6) t_LEAST_BLOCKS)
  t_MOST_BLOCKS : Tok
  c_MOST_BLOCKS : mg "MOST_BLOCKS" = some (.int (2000) t_MOST_BLOCKS)
  t_LEAST_SIZE : Tok
  c_LEAST_SIZE : mg "LEAST_SIZE" = some (.int (16) t_LEAST_SIZE)
  t_MOST_SIZE : Tok
  c_MOST_SIZE : mg "MOST_SIZE" = some (.int (400) t_MOST_SIZE)
  t_GREATEST_WORD : Tok
  c_GREATEST_WORD : mg "GREATEST_WORD" = some (.int (9999) t_GREATEST_WORD)
  n_isinstance : mg "isinstance" = none
  n_len : mg "len" = none
  n_zip : mg "zip" = none
  n_list : mg "list" = none
  n_tuple : mg "tuple" = none
  n_int : mg "int" = none
  n_bool : mg "bool" = none
  n_all : mg "all" = none
  C_YardError : Addr
  g_YardError : mg "YardError" = some (.ref C_YardError)
  C_NoChoices : Addr
  g_NoChoices : mg "NoChoices" = some (.ref C_NoChoices)
  x_NoChoices : PySem.W.excIn K C_NoChoices [.type "ValueError", .type "Exception", .type "BaseException", .type "object"] "ValueError.__new__" = true
  k_NoChoices : PySem.W.keepIn K (.ref C_NoChoices) = true
  b_NoChoices : PySem.W.subIn K (.ref C_NoChoices) (.type "BaseException") = some true
  t_NoChoices : PySem.W.typeIn K (.ref C_NoChoices) = some (.type "type")
  E_NoChoices : ExcC K C_NoChoices
  C_NoNumber : Addr
  g_NoNumber : mg "NoNumber" = some (.ref C_NoNumber)
  x_NoNumber : PySem.W.excIn K C_NoNumber [.type "ValueError", .type "Exception", .type "BaseException", .type "object"] "ValueError.__new__" = true
  k_NoNumber : PySem.W.keepIn K (.ref C_NoNumber) = true
  b_NoNumber : PySem.W.subIn K (.ref C_NoNumber) (.type "BaseException") = some true
  t_NoNumber : PySem.W.typeIn K (.ref C_NoNumber) = some (.type "type")
  E_NoNumber : ExcC K C_NoNumber
  C_NoWords : Addr
  g_NoWords : mg "NoWords" = some (.ref C_NoWords)
  x_NoWords : PySem.W.excIn K C_NoWords [.type "ValueError", .type "Exception", .type "BaseException", .type "object"] "ValueError.__new__" = true
  k_NoWords : PySem.W.keepIn K (.ref C_NoWords) = true
  b_NoWords : PySem.W.subIn K (.ref C_NoWords) (.type "BaseException") = some true
  t_NoWords : PySem.W.typeIn K (.ref C_NoWords) = some (.type "type")
  E_NoWords : ExcC K C_NoWords
  e_NoChoices_YardError : PySem.W.exmOne K (.ref C_NoChoices) (.ref C_YardError) = some true
  e_NoNumber_YardError : PySem.W.exmOne K (.ref C_NoNumber) (.ref C_YardError) = some true
  e_NoWords_YardError : PySem.W.exmOne K (.ref C_NoWords) (.ref C_YardError) = some true
  q_NoChoices_NoChoices : PySem.W.kitOne K (.ref C_NoChoices) (.ref C_NoChoices) = some true
  q_NoChoices_NoNumber : PySem.W.kitOne K (.ref C_NoChoices) (.ref C_NoNumber) = some false
  q_NoChoices_NoWords : PySem.W.kitOne K (.ref C_NoChoices) (.ref C_NoWords) = some false
  q_NoNumber_NoChoices : PySem.W.kitOne K (.ref C_NoNumber) (.ref C_NoChoices) = some false
  q_NoNumber_NoNumber : PySem.W.kitOne K (.ref C_NoNumber) (.ref C_NoNumber) = some true
  q_NoNumber_NoWords : PySem.W.kitOne K (.ref C_NoNumber) (.ref C_NoWords) = some false
  q_NoWords_NoChoices : PySem.W.kitOne K (.ref C_NoWords) (.ref C_NoChoices) = some false
  q_NoWords_NoNumber : PySem.W.kitOne K (.ref C_NoWords) (.ref C_NoNumber) = some false
  q_NoWords_NoWords : PySem.W.kitOne K (.ref C_NoWords) (.ref C_NoWords) = some true
  f_Disk___init__ : Addr
  d_Disk___init__ : FuncData
  F_Disk___init__ : Fun K "__init__" "Disk.__init__" s_Disk___init__ f_Disk___init__ d_Disk___init__
  b_Disk___init__ : Binds K d_Disk___init__ ["self", "blocks", "size"] []
  f_Disk__demand : Addr
  d_Disk__demand : FuncData
  F_Disk__demand : Fun K "_demand" "Disk._demand" s_Disk__demand f_Disk__demand d_Disk__demand
  b_Disk__demand : Binds K d_Disk__demand ["self", "number"] []
  f_Disk_block : Addr
  d_Disk_block : FuncData
  F_Disk_block : Fun K "block" "Disk.block" s_Disk_block f_Disk_block d_Disk_block
  b_Disk_block : Binds K d_Disk_block ["self", "number"] []
  f_Disk_blocks : Addr
  d_Disk_blocks : FuncData
  F_Disk_blocks : Fun K "blocks" "Disk.blocks" s_Disk_blocks f_Disk_blocks d_Disk_blocks
  b_Disk_blocks : Binds K d_Disk_blocks ["self"] []
  f_Disk_loose : Addr
  d_Disk_loose : FuncData
  F_Disk_loose : Fun K "loose" "Disk.loose" s_Disk_loose f_Disk_loose d_Disk_loose
  b_Disk_loose : Binds K d_Disk_loose ["self"] []
  f_Disk_write : Addr
  d_Disk_write : FuncData
  F_Disk_write : Fun K "write" "Disk.write" s_Disk_write f_Disk_write d_Disk_write
  b_Disk_write : Binds K d_Disk_write ["self", "number", "words"] []
  f_Disk_fall : Addr
  d_Disk_fall : FuncData
  F_Disk_fall : Fun K "fall" "Disk.fall" s_Disk_fall f_Disk_fall d_Disk_fall
  b_Disk_fall : Binds K d_Disk_fall ["self", "choices"] []
  f__law_no : Addr
  d__law_no : FuncData
  F__law_no : Fun K "_law_no" "_law_no" s__law_no f__law_no d__law_no
  b__law_no : Binds K d__law_no ["_law_way", "_law_disk", "_law_one", "_law_other"] []
  g__law_no : mg "_law_no" = some (.ref f__law_no)
  f_law : Addr
  d_law : FuncData
  F_law : Fun K "law" "law" s_law f_law d_law
  b_law : Binds K d_law ["_law_script"] []
  g_law : mg "law" = some (.ref f_law)
  f_Disk___len__ : Addr
  d_Disk___len__ : FuncData
  F_Disk___len__ : Fun K "__len__" "Disk.__len__" s_Disk___len__ f_Disk___len__ d_Disk___len__
  b_Disk___len__ : Binds K d_Disk___len__ ["self"] []
  C_Disk : Addr
  g_Disk : mg "Disk" = some (.ref C_Disk)
  cls_Disk : Cls K C_Disk
  mk_Disk : Mk K C_Disk f_Disk___init__
  me_Disk__demand : Meth K C_Disk "_demand" f_Disk__demand
  me_Disk_block : Meth K C_Disk "block" f_Disk_block
  me_Disk_blocks : Meth K C_Disk "blocks" f_Disk_blocks
  me_Disk_loose : Meth K C_Disk "loose" f_Disk_loose
  me_Disk_write : Meth K C_Disk "write" f_Disk_write
  me_Disk_fall : Meth K C_Disk "fall" f_Disk_fall
  ln_Disk : PySem.W.findIn K (.ref C_Disk) "__len__" = some (some (.ref f_Disk___len__))
  lf_Disk : PySem.W.isFn K (.ref f_Disk___len__) = true
  na_Disk__last : NoAttr K C_Disk "_last"
  na_Disk__settled : NoAttr K C_Disk "_settled"
  na_Disk__size : NoAttr K C_Disk "_size"
  na_Disk__writings : NoAttr K C_Disk "_writings"
def Tx.cl {K : PySem.W.Frag} {w : World} {mg : Str → Option Value} (T : Tx K w mg) : Nat → Addr
  | 0 => T.C_NoChoices
  | 1 => T.C_NoNumber
  | _ => T.C_NoWords
section
variable {P : Program} {w : World} {K : PySem.W.Frag} {mg : Str → Option Value} {base : Heap}
theorem ok_is_whole (T : Tx K w mg) : FnOk P w K mg base CX0 1 T.f_is_whole T.d_is_whole ["thing", "low", "high"] (spM K 3 m_is_whole) :=
  def_ok (N := N_is_whole) T.F_is_whole sc_is_whole fun cdv A outer s H E hr => ⟨_,
  (pss_one (ps_ret (pe_and (pe_callB call_isi (by rfl) T.n_isinstance (by decide +kernel) (pa_cons (pv 0) (pa_cons (pe_bltn (v := .ty "int") (by rfl) T.n_int (by decide +kernel) rfl) pa_nil))) (pe_and (pe_not (pe_callB call_isi (by rfl) T.n_isinstance (by decide +kernel) (pa_cons (pv 0) (pa_cons (pe_bltn (v := .ty "bool") (by rfl) T.n_bool (by decide +kernel) rfl) pa_nil)))) (pe_one (pe_chain op_leB op_leB (pv 1) (pv 0) (pv 2))))))),
  ((st_ret (ev_andV (ev_isi cls_int (ev_var 0)) (ev_andV (ev_notV (ev_isi cls_bool (ev_var 0))) (ev_chain rd_leB rd_leB (ev_var 1) (ev_var 0) (ev_var 2))))) : TSm K _ b_is_whole)⟩
theorem ok_are_words (T : Tx K w mg) : FnOk P w K mg base CX0 1 T.f_are_words T.d_are_words ["thing"] (spM K 1 m_are_words) :=
  def_ok (N := N_are_words) T.F_are_words sc_are_words fun cdv A outer s H E hr => ⟨_,
  (pss_cons (ps_if (pt_not (pt_tr (pe_callB call_isi (by rfl) T.n_isinstance (by decide +kernel) (pa_cons (pv 0) (pa_cons (pe_bltn (v := .ty "list") (by rfl) T.n_list (by decide +kernel) rfl) pa_nil))) (fun _ => rfl))) (pss_one (ps_ret pe_bl)) pss_nil)
  (pss_one (ps_ret (pe_callB (cr_all rfl) (by rfl) T.n_all (by decide +kernel) (pa_cons (pe_lc (own := [("word", 1)]) (g := gName 1) (tt := tYes) rfl sc_are_words.nd (pi_any (pv 0)) (blkOk_by (N := N_are_words) (sc := defScope s_are_words) (by decide +kernel)) (fun _ _ _ _ _ => (pg_name (i := 1) sc_are_words.nd rfl (.inl rfl))) (fun _ _ _ _ _ => pts_nil) (fun _ _ _ _ _ => (pe_and (pe_callB call_isi (by rfl) T.n_isinstance (by decide +kernel) (pa_cons (pv 1) (pa_cons (pe_bltn (v := .ty "int") (by rfl) T.n_int (by decide +kernel) rfl) pa_nil))) (pe_and (pe_chain op_leB op_leB pe_int (pv 1) (pe_glob (v := .int (9999)) (by rfl) T.c_GREATEST_WORD ⟨_, rfl⟩)) (pe_one (pe_not (pe_callB call_isi (by rfl) T.n_isinstance (by decide +kernel) (pa_cons (pv 1) (pa_cons (pe_bltn (v := .ty "bool") (by rfl) T.n_bool (by decide +kernel) rfl) pa_nil))))))))) pa_nil))))),
  ((st_seq (st_if (et_not (et_tru (ev_isi cls_list (ev_var 0))))
  (st_ret ev_bl)
  st_next)
  (st_ret (ev_cb cd_all (ea_cons (ev_list (fl_lc (vs := [1]) (it_any (ev_var 0)) (tg_name 1 (by decide)) et_yes (ev_andV (ev_isi cls_int (ev_var 1)) (ev_andV (ev_chain rd_leB rd_leB ev_int (ev_var 1) ev_int) (ev_notV (ev_isi cls_bool (ev_var 1))))))) ea_nil)))) : TSm K _ b_are_words)⟩
theorem ok__are_choices (T : Tx K w mg) : FnOk P w K mg base CX0 1 T.f__are_choices T.d__are_choices ["thing", "many"] (spM K 2 m__are_choices) :=
  def_ok (N := N__are_choices) T.F__are_choices sc__are_choices fun cdv A outer s H E hr => ⟨_,
  (pss_one (ps_ret (pe_and (pe_callB call_isi (by rfl) T.n_isinstance (by decide +kernel) (pa_cons (pv 0) (pa_cons (pe_bltn (v := .ty "list") (by rfl) T.n_list (by decide +kernel) rfl) pa_nil))) (pe_and (pe_cmpR (op_eqD hr.units) (pe_callB cr_len (by rfl) T.n_len (by decide +kernel) (pa_cons (pv 0) pa_nil)) (pv 1) (nomark _)) (pe_one (pe_callB (cr_all rfl) (by rfl) T.n_all (by decide +kernel) (pa_cons (pe_lc (own := [("part", 2)]) (g := gName 2) (tt := tYes) rfl sc__are_choices.nd (pi_any (pv 0)) (blkOk_by (N := N__are_choices) (sc := defScope s__are_choices) (by decide +kernel)) (fun _ _ _ _ _ => (pg_name (i := 2) sc__are_choices.nd rfl (.inl rfl))) (fun _ _ _ _ _ => pts_nil) (fun _ _ _ _ _ => (pe_callB call_isi (by rfl) T.n_isinstance (by decide +kernel) (pa_cons (pv 2) (pa_cons (pe_bltn (v := .ty "bool") (by rfl) T.n_bool (by decide +kernel) rfl) pa_nil))))) pa_nil))))))),
  ((st_ret (ev_andV (ev_isi cls_list (ev_var 0)) (ev_andV (ev_op rd_eq (ev_cb cd_len (ea_cons (ev_var 0) ea_nil)) (ev_var 1)) (ev_cb cd_all (ea_cons (ev_list (fl_lc (vs := [2]) (it_any (ev_var 0)) (tg_name 2 (by decide)) et_yes (ev_isi cls_bool (ev_var 2)))) ea_nil))))) : TSm K _ b__are_choices)⟩
theorem ok__law_drawn (T : Tx K w mg) : FnOk P w K mg base CX0 1 T.f__law_drawn T.d__law_drawn ["_law_script", "_law_k", "_law_many"] (spM K 3 m__law_drawn) :=
  def_ok (N := N__law_drawn) T.F__law_drawn sc__law_drawn fun cdv A outer s H E hr => ⟨_,
  (pss_cons (ps_set (i := 3) sc__law_drawn.nd rfl (.inl rfl) (pe_op op_mulA pe_int (pv 1)))
  (pss_cons (ps_if (pt_cmpR (op_neD hr.units) (pv 0) (pe_lst pa_nil) (nomark _)) (pss_cons (ps_set (i := 3) sc__law_drawn.nd rfl (.inl rfl) (pe_ix ix_seq (pv 0) (pe_op op_mod (pv 1) (pe_callB cr_len (by rfl) T.n_len (by decide +kernel) (pa_cons (pv 0) pa_nil))) (fun _ _ => rfl)))
  (pss_cons (ps_set (i := 4) sc__law_drawn.nd rfl (.inl rfl) (pe_op op_fdivW (pv 1) (pe_callB cr_len (by rfl) T.n_len (by decide +kernel) (pa_cons (pv 0) pa_nil))))
  (pss_cons (ps_if (PW.pt (pw_and (pt_cmpR op_ge (pv 3) (pe_op op_pow pe_int pe_int) (nomark _)) (pw_and1 (pt_cmpR op_lt (pv 4) pe_int (nomark _))))) (pss_cons (ps_set (i := 5) sc__law_drawn.nd rfl (.inl rfl) (pe_op op_fdivW (pv 3) (pe_op op_pow pe_int pe_int)))
  (pss_cons (ps_while PassesOwn.never (PW.pt (pw_and (pt_cmpR op_gt (pv 5) pe_int (nomark _)) (pw_and1 (pt_cmpR op_gt (pv 4) pe_int (nomark _))))) (pss_cons (ps_set (i := 5) sc__law_drawn.nd rfl (.inl rfl) (pe_op op_fdivW (pv 5) pe_int))
  (pss_one (ps_set (i := 4) sc__law_drawn.nd rfl (.inl rfl) (pe_op op_sub (pv 4) pe_int)))))
  (pss_one (ps_if (pt_cmpR op_gt (pv 5) pe_int (nomark _)) (pss_one (ps_ret (pe_op op_mod (pe_op op_mod (pv 5) pe_int) (pv 2)))) pss_nil)))) pss_nil)
  (pss_one (ps_set (i := 3) sc__law_drawn.nd rfl (.inl rfl) (pe_op op_addA (pv 3) (pe_op op_mulA pe_int (pe_op op_fdivW (pv 1) (pe_callB cr_len (by rfl) T.n_len (by decide +kernel) (pa_cons (pv 0) pa_nil)))))))))) pss_nil)
  (pss_cons (ps_set (i := 3) sc__law_drawn.nd rfl (.inl rfl) (pe_op op_mod (pe_op op_addA (pe_op op_mulA (pe_op op_mod (pv 3) pe_int) pe_int) (pe_op op_mulA pe_int (pe_op op_addA (pv 1) pe_int))) pe_int))
  (pss_cons (ps_set (i := 3) sc__law_drawn.nd rfl (.inl rfl) (pe_op op_mod (pe_op op_addA (pe_op op_mulA (pv 3) (pv 3)) (pe_op op_fdivW (pv 3) pe_int)) pe_int))
  (pss_one (ps_ret (pe_op op_mod (pe_op op_fdivW (pe_op op_mod (pe_op op_addA (pe_op op_mulA (pv 3) (pv 3)) (pe_op op_fdivW (pv 3) pe_int)) pe_int) pe_int) (pv 2)))))))),
  ((st_seq (st_set 3 (ev_op rd_mul ev_int (ev_var 1)))
  (st_seq (st_if (et_test (ev_op rd_ne (ev_var 0) (ev_list (fl_lst ea_nil))))
  (st_seq (st_set 3 (ev_op rd_ix (ev_var 0) (ev_op rd_mod (ev_var 1) (ev_cb cd_len (ea_cons (ev_var 0) ea_nil)))))
  (st_seq (st_set 4 (ev_op rd_fdiv (ev_var 1) (ev_cb cd_len (ea_cons (ev_var 0) ea_nil))))
  (st_seq (st_if (et_and (et_test (ev_op rd_ge' (ev_var 3) (ev_op rd_pow ev_int ev_int))) (et_test (ev_op rd_lt' (ev_var 4) ev_int)))
  (st_seq (st_set 5 (ev_op rd_fdiv (ev_var 3) (ev_op rd_pow ev_int ev_int)))
  (st_seq (st_while fuel__law_drawn_0 (et_and (et_test (ev_op rd_gt' (ev_var 5) ev_int)) (et_test (ev_op rd_gt' (ev_var 4) ev_int)))
  (st_seq (st_set 5 (ev_op rd_fdiv (ev_var 5) ev_int))
  (st_set 4 (ev_op rd_sub (ev_var 4) ev_int))))
  (st_if (et_test (ev_op rd_gt' (ev_var 5) ev_int))
  (st_ret (ev_op rd_mod (ev_op rd_mod (ev_var 5) ev_int) (ev_var 2)))
  st_next)))
  st_next)
  (st_set 3 (ev_op rd_add (ev_var 3) (ev_op rd_mul ev_int (ev_op rd_fdiv (ev_var 1) (ev_cb cd_len (ea_cons (ev_var 0) ea_nil)))))))))
  st_next)
  (st_seq (st_set 3 (ev_op rd_mod (ev_op rd_add (ev_op rd_mul (ev_op rd_mod (ev_var 3) ev_int) ev_int) (ev_op rd_mul ev_int (ev_op rd_add (ev_var 1) ev_int))) ev_int))
  (st_seq (st_set 3 (ev_op rd_mod (ev_op rd_add (ev_op rd_mul (ev_var 3) (ev_var 3)) (ev_op rd_fdiv (ev_var 3) ev_int)) ev_int))
  (st_ret (ev_op rd_mod (ev_op rd_fdiv (ev_op rd_mod (ev_op rd_add (ev_op rd_mul (ev_var 3) (ev_var 3)) (ev_op rd_fdiv (ev_var 3) ev_int)) ev_int) ev_int) (ev_var 2))))))) : TSm K _ b__law_drawn)⟩
end
end DD
namespace EV
open PySem PySem.Spec PyProof.Rows L2
open DD (TabQ ExQ D SqB)
variable [TabQ] [ExQ]
def fuelN : Nat := 1000000
def b_Disk___init__ : St :=
  (sSeq (sIf (bOr (bNot (bTru (mCB (cD (DD.lim 3 DD.m_is_whole)) (mCons (mVar 1) (mCons (mC (.int (6))) (mCons (mC (.int (2000))) mNil)))))) (bNot (bTru (mCB (cD (DD.lim 3 DD.m_is_whole)) (mCons (mVar 2) (mCons (mC (.int (16))) (mCons (mC (.int (400))) mNil)))))))
  (sRaise 1)
  sNext)
  (sSeq (sFldM 0 "_size" (mVar 0) (mVar 2))
  (sSeq (sFldM 0 "_settled" (mVar 0) (mOp fRep (mCB fLst (mCons (mOp (oD DD.dMul) (mCB fTup (mCons (mC (.int 0)) mNil)) (mVar 2)) mNil)) (mVar 1)))
  (sSeq (sFldM 0 "_last" (mVar 0) (mCB fList (mCons (mFld 0 "_settled" (mVar 0)) mNil)))
  (sFldM 0 "_writings" (mVar 0) (mCB fLst mNil))))))
def m_Disk___init__ (ws : List W) (S : Sto) : Rs W := mDef 3 b_Disk___init__ ws S
def b_Disk__demand : St :=
  (sIf (bNot (bTru (mCB (cD (DD.lim 3 DD.m_is_whole)) (mCons (mVar 1) (mCons (mC (.int 0)) (mCons (mOp (oD DD.dSub) (mCB fLen (mCons (mFld 0 "_settled" (mVar 0)) mNil)) (mC (.int 1))) mNil))))))
  (sRaise 1)
  sNext)
def m_Disk__demand (ws : List W) (S : Sto) : Rs W := mDef 2 b_Disk__demand ws S
def b_Disk_block : St :=
  (sSeq (sDrop (mMth 0 "_demand" 2 m_Disk__demand (mVar 0) (mCons (mVar 1) mNil)))
  (sRet (mOp fIx (mFld 0 "_last" (mVar 0)) (mVar 1))))
def m_Disk_block (ws : List W) (S : Sto) : Rs W := mDef 2 b_Disk_block ws S
def b_Disk_blocks : St :=
  (sRet (mCB fTuple (mCons (mFld 0 "_settled" (mVar 0)) mNil)))
def m_Disk_blocks (ws : List W) (S : Sto) : Rs W := mDef 1 b_Disk_blocks ws S
def b_Disk_loose : St :=
  (sRet (mLc (mIter (mFld 0 "_writings" (mVar 0))) (gTupM 2 (gConsM (gSet 1) (gConsM (gSet 2) gNilM))) bYes (mVar 1) [1, 2]))
def m_Disk_loose (ws : List W) (S : Sto) : Rs W := mDef 3 b_Disk_loose ws S
def b_Disk_write : St :=
  (sSeq (sDrop (mMth 0 "_demand" 2 m_Disk__demand (mVar 0) (mCons (mVar 1) mNil)))
  (sSeq (sIf (bOr (bNot (bTru (mCB (cD (DD.lim 1 DD.m_are_words)) (mCons (mVar 2) mNil)))) (bTest (mOp (oD DD.dGt) (mCB fLen (mCons (mVar 2) mNil)) (mFld 0 "_size" (mVar 0)))))
  (sRaise 2)
  sNext)
  (sSeq (sAsg (mOp (oD DD.dMul) (mCB fTup (mCons (mC (.int 0)) mNil)) (mOp (oD DD.dSub) (mFld 0 "_size" (mVar 0)) (mCB fLen (mCons (mVar 2) mNil)))) (gSet 3))
  (sSeq (sAsg (mCB fTup (mStar (mVar 2) (mStar (mVar 3) mNil))) (gSubM (mFld 0 "_last" (mVar 0)) (mVar 1)))
  (sDrop (mBM fAppend (mFld 0 "_writings" (mVar 0)) (mCons (mCB fTup (mCons (mVar 1) (mCons (mOp fIx (mFld 0 "_last" (mVar 0)) (mVar 1)) mNil))) mNil)))))))
def m_Disk_write (ws : List W) (S : Sto) : Rs W := mDef 4 b_Disk_write ws S
def b_Disk_fall : St :=
  (sSeq (sIf (bNot (bTru (mCB (cD (DD.lim 2 DD.m__are_choices)) (mCons (mVar 1) (mCons (mCB fLen (mCons (mFld 0 "_writings" (mVar 0)) mNil)) mNil)))))
  (sRaise 0)
  sNext)
  (sSeq (sFor (mZip (mCons (mVar 1) (mCons (mFld 0 "_writings" (mVar 0)) mNil))) (gTupM 2 (gConsM (gSet 2) (gConsM (gTupM 2 (gConsM (gSet 3) (gConsM (gSet 4) gNilM))) gNilM)))
  (sIf (bTru (mVar 2))
  (sAsg (mVar 4) (gSubM (mFld 0 "_settled" (mVar 0)) (mVar 3)))
  sNext))
  (sSeq (sFldM 0 "_writings" (mVar 0) (mCB fLst mNil))
  (sFldM 0 "_last" (mVar 0) (mCB fList (mCons (mFld 0 "_settled" (mVar 0)) mNil))))))
def m_Disk_fall (ws : List W) (S : Sto) : Rs W := mDef 5 b_Disk_fall ws S
def b__law_no : St :=
  (sSeq (sTryF 4 (DD.fOr (DD.fOne 0 (.int (2 : Nat))) (DD.fOr (DD.fOne 1 (.int (0 : Nat))) (DD.fOne 2 (.int (1 : Nat))))) (sIf (bTest (mOp (oD DD.dEq) (mVar 0) (mC (.int 0))))
  (sDrop (mMk 0 3 m_Disk___init__ (mCons (mVar 2) (mCons (mVar 3) mNil))))
  (sIf (bTest (mOp (oD DD.dEq) (mVar 0) (mC (.int 1))))
  (sDrop (mMth 0 "write" 3 m_Disk_write (mVar 1) (mCons (mVar 2) (mCons (mVar 3) mNil))))
  (sIf (bTest (mOp (oD DD.dEq) (mVar 0) (mC (.int 2))))
  (sDrop (mMth 0 "block" 2 m_Disk_block (mVar 1) (mCons (mVar 2) mNil)))
  (sDrop (mMth 0 "fall" 2 m_Disk_fall (mVar 1) (mCons (mVar 2) mNil)))))))
  (sRet (mC .none)))
def m__law_no (ws : List W) (S : Sto) : Rs W := mDef 5 b__law_no ws S
def b_law : St :=
  (sSeq (sAsg (mOp (oD DD.dAdd) (mC (.int 16)) (mCB (cD (DD.lim 3 DD.m__law_drawn)) (mCons (mVar 0) (mCons (mC (.int 0)) (mCons (mC (.int 9)) mNil))))) (gSet 1))
  (sSeq (sAsg (mMk 0 3 m_Disk___init__ (mCons (mC (.int 6)) (mCons (mVar 1) mNil))) (gSet 2))
  (sSeq (sDrop (mMth 0 "write" 3 m_Disk_write (mVar 2) (mCons (mC (.int 1)) (mCons (mCB fLst (mCons (mC (.int 1)) (mCons (mC (.int 2)) mNil))) mNil))))
  (sSeq (sDrop (mMth 0 "write" 3 m_Disk_write (mVar 2) (mCons (mC (.int 3)) (mCons (mCB fLst mNil) mNil))))
  (sSeq (sAsg (mCB fTup (mCons (mMth 0 "blocks" 1 m_Disk_blocks (mVar 2) mNil) (mCons (mMth 0 "loose" 1 m_Disk_loose (mVar 2) mNil) mNil))) (gSet 3))
  (sSeq (sAsg (mOp fIx (mCB fLst (mCons (mC .none) (mCons (mC (.bool true)) (mCons (mC (.str ("6" : Str))) (mCons (mUn (uD DD.dNeg) (mC (.int 1))) (mCons (mCB fTup (mCons (mC (.int 6)) mNil)) (mCons (mC (.int 2001)) mNil))))))) (mCB (cD (DD.lim 3 DD.m__law_drawn)) (mCons (mVar 0) (mCons (mC (.int 1)) (mCons (mC (.int 6)) mNil))))) (gSet 4))
  (sSeq (sAsg (mCB fLst (mCons (mCall 4 m__law_no (mCons (mC (.int 0)) (mCons (mVar 2) (mCons (mVar 4) (mCons (mC (.int 16)) mNil))))) (mCons (mCall 4 m__law_no (mCons (mC (.int 0)) (mCons (mVar 2) (mCons (mC (.int 6)) (mCons (mVar 4) mNil))))) (mCons (mCall 4 m__law_no (mCons (mC (.int 0)) (mCons (mVar 2) (mCons (mC (.int 5)) (mCons (mC (.int 16)) mNil))))) mNil)))) (gSet 5))
  (sSeq (sIf (bTest (mOp (oD DD.dNe) (mOp fCat (mVar 5) (mCB fLst (mCons (mCall 4 m__law_no (mCons (mC (.int 0)) (mCons (mVar 2) (mCons (mC (.int 6)) (mCons (mC (.int 15)) mNil))))) (mCons (mCall 4 m__law_no (mCons (mC (.int 0)) (mCons (mVar 2) (mCons (mC (.int 6)) (mCons (mC (.int 401)) mNil))))) mNil)))) (mOp fRep (mCB fLst (mCons (mC (.int 0)) mNil)) (mC (.int 5)))))
  (sRet (mC (.bool false)))
  sNext)
  (sSeq (sAsg (mOp fIx (mCB fLst (mCons (mC .none) (mCons (mCB fTup (mCons (mC (.int 1)) mNil)) (mCons (mCB fLst (mCons (mC (.int 10000)) mNil)) (mCons (mCB fLst (mCons (mUn (uD DD.dNeg) (mC (.int 1))) mNil)) (mCons (mCB fLst (mCons (mC (.bool true)) mNil)) (mCons (mCB fLst (mCons (mC .none) mNil)) (mCons (mOp fRep (mCB fLst (mCons (mC (.int 0)) mNil)) (mOp (oD DD.dAdd) (mVar 1) (mC (.int 1)))) (mCons (mC (.int 7)) mNil))))))))) (mCB (cD (DD.lim 3 DD.m__law_drawn)) (mCons (mVar 0) (mCons (mC (.int 2)) (mCons (mC (.int 8)) mNil))))) (gSet 6))
  (sSeq (sAsg (mCB fLst (mCons (mCall 4 m__law_no (mCons (mC (.int 1)) (mCons (mVar 2) (mCons (mC (.int 6)) (mCons (mVar 6) mNil))))) (mCons (mCall 4 m__law_no (mCons (mC (.int 1)) (mCons (mVar 2) (mCons (mVar 4) (mCons (mCB fLst (mCons (mC (.int 1)) mNil)) mNil))))) (mCons (mCall 4 m__law_no (mCons (mC (.int 1)) (mCons (mVar 2) (mCons (mC (.int 2)) (mCons (mVar 6) mNil))))) mNil)))) (gSet 5))
  (sSeq (sIf (bTest (mOp (oD DD.dNe) (mOp fCat (mVar 5) (mCB fLst (mCons (mCall 4 m__law_no (mCons (mC (.int 2)) (mCons (mVar 2) (mCons (mC (.int 6)) (mCons (mC (.int 0)) mNil))))) (mCons (mCall 4 m__law_no (mCons (mC (.int 2)) (mCons (mVar 2) (mCons (mVar 4) (mCons (mC (.int 0)) mNil))))) mNil)))) (mCB fLst (mCons (mC (.int 0)) (mCons (mC (.int 0)) (mCons (mC (.int 1)) (mCons (mC (.int 0)) (mCons (mC (.int 0)) mNil))))))))
  (sRet (mC (.bool false)))
  sNext)
  (sSeq (sAsg (mCB fLst (mCons (mC .none) (mCons (mCB fLst mNil) (mCons (mCB fLst (mCons (mC (.bool true)) mNil)) (mCons (mOp fRep (mCB fLst (mCons (mC (.bool true)) mNil)) (mC (.int 3))) (mCons (mCB fTup (mCons (mC (.bool true)) (mCons (mC (.bool true)) mNil))) (mCons (mCB fLst (mCons (mC (.bool true)) (mCons (mC (.int 1)) mNil))) (mCons (mCB fLst (mCons (mC (.int 0)) (mCons (mC (.int 0)) mNil))) (mCons (mCB fLst (mCons (mC .none) (mCons (mC .none) mNil))) (mCons (mC (.int 7)) mNil)))))))))) (gSet 7))
  (sSeq (sIf (bTest (mOp (oD DD.dNe) (mLc (mIter (mVar 7)) (gSet 8) (bTest (mOp (oD DD.dNe) (mCall 4 m__law_no (mCons (mC (.int 3)) (mCons (mVar 2) (mCons (mVar 8) (mCons (mC (.int 0)) mNil))))) (mC (.int 2)))) (mVar 8) [8]) (mCB fLst mNil)))
  (sRet (mC (.bool false)))
  sNext)
  (sSeq (sIf (bTest (mOp (oD DD.dNe) (mCB fTup (mCons (mMth 0 "blocks" 1 m_Disk_blocks (mVar 2) mNil) (mCons (mMth 0 "loose" 1 m_Disk_loose (mVar 2) mNil) mNil))) (mVar 3)))
  (sRet (mC (.bool false)))
  sNext)
  (sSeq (sIf (bNot (bTest (mOp (oD DD.dIs) (mCall 4 m__law_no (mCons (mC (.int 3)) (mCons (mVar 2) (mCons (mCB fLst (mCons (mC (.bool true)) (mCons (mC (.bool false)) mNil))) (mCons (mC (.int 0)) mNil))))) (mC .none))))
  (sRet (mC (.bool false)))
  sNext)
  (sRet (mOp (oD DD.dEq) (mSl fSl (mMth 0 "block" 2 m_Disk_block (mVar 2) (mCons (mC (.int 1)) mNil)) pNo (pPart (mC (.int 3)))) (mCB fTup (mCons (mC (.int 1)) (mCons (mC (.int 2)) (mCons (mC (.int 0)) mNil)))))))))))))))))))))
def m_law (ws : List W) (S : Sto) : Rs W := mDef 9 b_law ws S
def b_Disk___len__ : St :=
  (sRet (mCB fLen (mCons (mFld 0 "_settled" (mVar 0)) mNil)))
def m_Disk___len__ (ws : List W) (S : Sto) : Rs W := mDef 1 b_Disk___len__ ws S
def caT {K : PySem.W.Frag} {w : World} {mg : Str → Option Value} (T : DD.Tx K w mg) : Nat → Addr
  | _ => T.C_Disk
abbrev cf {K : PySem.W.Frag} {w : World} {mg : Str → Option Value} (T : DD.Tx K w mg) : Cf := ⟨K, fun _ => 0, caT T, T.cl⟩
section
open DD
variable {P : Program} {w : World} {K : PySem.W.Frag} {mg : Str → Option Value} {base : Heap}
theorem ok_Disk___init__ (T : DD.Tx K w mg) : FnOk P w K mg base (L2.CX P w) 2 T.f_Disk___init__ T.d_Disk___init__ ["self", "blocks", "size"] (spV (cf T) 3 m_Disk___init__) :=
  def_okV (F := cf T) (N := N_Disk___init__) T.F_Disk___init__ sc_Disk___init__ fun cdv A outer s H E hr => ⟨_,
  ((ss_seq (ss_if (bb_or (bb_not (bb_tru (ee_callD (aa_cons (ee_var 1) (aa_cons ee_int (aa_cons ee_int aa_nil)))))) (bb_not (bb_tru (ee_callD (aa_cons (ee_var 2) (aa_cons ee_int (aa_cons ee_int aa_nil)))))))
  (ss_raise 1)
  ss_next)
  (ss_seq (ss_fld (c := 0) (ee_var 0) (ee_var 2) T.cls_Disk T.na_Disk__size)
  (ss_seq (ss_fld (c := 0) (ee_var 0) (ee_op oo_rep (ee_lst (aa_cons (ee_op (oo_d DD.rd_mul) (ee_tup (aa_cons ee_int aa_nil)) (ee_var 2)) aa_nil)) (ee_var 1)) T.cls_Disk T.na_Disk__settled)
  (ss_seq (ss_fld (c := 0) (ee_var 0) (ee_cb cc_list (aa_cons (ee_fld (c := 0) (ee_var 0) T.cls_Disk T.na_Disk__settled) aa_nil)) T.cls_Disk T.na_Disk__last)
  (ss_fld (c := 0) (ee_var 0) (ee_lst aa_nil) T.cls_Disk T.na_Disk__writings))))) : SS (cf T) _ b_Disk___init__),
  (pss_cons (ps_if (PW.pt (pw_or (pt_not (pt_tr (pe_call (DD.ok_is_whole T) (hr.mono (by decide)) (by rfl) T.g_is_whole T.F_is_whole.kp T.b_is_whole .nil pass0 (pa_cons (pv 1) (pa_cons (pe_glob (v := .int (6)) (by rfl) T.c_LEAST_BLOCKS ⟨_, rfl⟩) (pa_cons (pe_glob (v := .int (2000)) (by rfl) T.c_MOST_BLOCKS ⟨_, rfl⟩) pa_nil)))) (fun _ => rfl))) (pw_or1 (pt_not (pt_tr (pe_call (DD.ok_is_whole T) (hr.mono (by decide)) (by rfl) T.g_is_whole T.F_is_whole.kp T.b_is_whole .nil pass0 (pa_cons (pv 2) (pa_cons (pe_glob (v := .int (16)) (by rfl) T.c_LEAST_SIZE ⟨_, rfl⟩) (pa_cons (pe_glob (v := .int (400)) (by rfl) T.c_MOST_SIZE ⟨_, rfl⟩) pa_nil)))) (fun _ => rfl)))))) (pss_one (ps_raise rfl (takes_of rfl rfl rfl rfl) (pmk_own PySem.F.excBase_ValueError T.x_NoNumber T.g_NoNumber T.k_NoNumber (raises_own T.b_NoNumber T.t_NoNumber) (by rfl)))) pss_nil)
  (pss_cons (ps_fld (pv 0) (pv 2) (by rfl))
  (pss_cons (ps_fld (pv 0) (pe_op op_rep (pe_lst (pa_cons (pe_op op_mulA (pe_tup (pa_cons pe_int pa_nil)) (pv 2)) pa_nil)) (pv 1)) (by rfl))
  (pss_cons (ps_fld (pv 0) (pe_callTy cr_lstOf (by rfl) T.n_list (by decide +kernel) (pa_cons (pe_fld (pv 0) (by rfl)) pa_nil)) (by rfl))
  (pss_one (ps_fld (pv 0) (pe_lst pa_nil) (by rfl)))))))⟩
theorem ok_Disk__demand (T : DD.Tx K w mg) : FnOk P w K mg base (L2.CX P w) 2 T.f_Disk__demand T.d_Disk__demand ["self", "number"] (spV (cf T) 2 m_Disk__demand) :=
  def_okV (F := cf T) (N := N_Disk__demand) T.F_Disk__demand sc_Disk__demand fun cdv A outer s H E hr => ⟨_,
  ((ss_if (bb_not (bb_tru (ee_callD (aa_cons (ee_var 1) (aa_cons ee_int (aa_cons (ee_op (oo_d DD.rd_sub) (ee_cb cc_len (aa_cons (ee_fld (c := 0) (ee_var 0) T.cls_Disk T.na_Disk__settled) aa_nil)) ee_int) aa_nil))))))
  (ss_raise 1)
  ss_next) : SS (cf T) _ b_Disk__demand),
  (pss_one (ps_if (pt_not (pt_tr (pe_call (DD.ok_is_whole T) (hr.mono (by decide)) (by rfl) T.g_is_whole T.F_is_whole.kp T.b_is_whole .nil pass0 (pa_cons (pv 1) (pa_cons pe_int (pa_cons (pe_op op_sub (pe_callB cr_len (by rfl) T.n_len (by decide +kernel) (pa_cons (pe_fld (pv 0) (by rfl)) pa_nil)) pe_int) pa_nil)))) (fun _ => rfl))) (pss_one (ps_raise rfl (takes_of rfl rfl rfl rfl) (pmk_own PySem.F.excBase_ValueError T.x_NoNumber T.g_NoNumber T.k_NoNumber (raises_own T.b_NoNumber T.t_NoNumber) (by rfl)))) pss_nil))⟩
theorem ok_Disk_block (T : DD.Tx K w mg) : FnOk P w K mg base (L2.CX P w) 3 T.f_Disk_block T.d_Disk_block ["self", "number"] (spV (cf T) 2 m_Disk_block) :=
  def_okV (F := cf T) (N := N_Disk_block) T.F_Disk_block sc_Disk_block fun cdv A outer s H E hr => ⟨_,
  ((ss_seq (ss_drop (ee_mth (c := 0) (ee_var 0) (aa_cons (ee_var 1) aa_nil)))
  (ss_ret (ee_op oo_ix (ee_fld (c := 0) (ee_var 0) T.cls_Disk T.na_Disk__last) (ee_var 1)))) : SS (cf T) _ b_Disk_block),
  (pss_cons (ps_expr (pe_methV (pl := _) (pv 0) T.cls_Disk T.me_Disk__demand (ok_Disk__demand T) (hr.mono (by decide)) T.b_Disk__demand (fun σ => passAt (takes_of rfl rfl rfl rfl) σ) (pa_cons (pv 1) pa_nil)))
  (pss_one (ps_ret (pe_ix ix_seq (pe_fld (pv 0) (by rfl)) (pv 1) (fun _ _ => rfl)))))⟩
theorem ok_Disk_blocks (T : DD.Tx K w mg) : FnOk P w K mg base (L2.CX P w) 1 T.f_Disk_blocks T.d_Disk_blocks ["self"] (spV (cf T) 1 m_Disk_blocks) :=
  def_okV (F := cf T) (N := N_Disk_blocks) T.F_Disk_blocks sc_Disk_blocks fun cdv A outer s H E hr => ⟨_,
  ((ss_ret (ee_cb cc_tuple (aa_cons (ee_fld (c := 0) (ee_var 0) T.cls_Disk T.na_Disk__settled) aa_nil))) : SS (cf T) _ b_Disk_blocks),
  (pss_one (ps_ret (pe_callTy cr_tupOf (by rfl) T.n_tuple (by decide +kernel) (pa_cons (pe_fld (pv 0) (by rfl)) pa_nil))))⟩
theorem ok_Disk_loose (T : DD.Tx K w mg) : FnOk P w K mg base (L2.CX P w) 1 T.f_Disk_loose T.d_Disk_loose ["self"] (spV (cf T) 1 m_Disk_loose) :=
  def_okV (F := cf T) (N := N_Disk_loose) T.F_Disk_loose sc_Disk_loose fun cdv A outer s H E hr => ⟨_,
  ((ss_ret (ee_lc (vs := [1, 2]) (ii_any (ee_fld (c := 0) (ee_var 0) T.cls_Disk T.na_Disk__writings)) (gg_tup (n := 2) (gl_cons (gg_name 1 (by decide)) (gl_cons (gg_name 2 (by decide)) gl_nil))) bb_yes (ee_var 1))) : SS (cf T) _ b_Disk_loose),
  (pss_one (ps_ret (pe_lcX (own := [("number", 1), ("_", 2)]) (g := _) (tt := tYes) rfl rfl (takes_of rfl rfl rfl rfl) rfl sc_Disk_loose.nd (pi_any (pe_fld (pv 0) (by rfl))) (blkOk_by (N := N_Disk_loose) (sc := defScope s_Disk_loose) (by decide +kernel)) (fun _ _ _ _ _ _ => (pg_tup rfl (pgs_cons (pg_name (i := 1) sc_Disk_loose.nd rfl (.inl rfl)) (pgs_cons (pg_name (i := 2) sc_Disk_loose.nd rfl (.inl rfl)) pgs_nil)))) (fun _ _ _ _ _ _ => pts_nil) (fun _ _ _ _ _ _ W' ps => (pv 1)))))⟩
theorem ok_Disk_write (T : DD.Tx K w mg) : FnOk P w K mg base (L2.CX P w) 3 T.f_Disk_write T.d_Disk_write ["self", "number", "words"] (spV (cf T) 3 m_Disk_write) :=
  def_okV (F := cf T) (N := N_Disk_write) T.F_Disk_write sc_Disk_write fun cdv A outer s H E hr => ⟨_,
  ((ss_seq (ss_drop (ee_mth (c := 0) (ee_var 0) (aa_cons (ee_var 1) aa_nil)))
  (ss_seq (ss_if (bb_or (bb_not (bb_tru (ee_callD (aa_cons (ee_var 2) aa_nil)))) (bb_test (ee_op (oo_d DD.rd_gt') (ee_cb cc_len (aa_cons (ee_var 2) aa_nil)) (ee_fld (c := 0) (ee_var 0) T.cls_Disk T.na_Disk__size))))
  (ss_raise 2)
  ss_next)
  (ss_seq (ss_set 3 (ee_op (oo_d DD.rd_mul) (ee_tup (aa_cons ee_int aa_nil)) (ee_op (oo_d DD.rd_sub) (ee_fld (c := 0) (ee_var 0) T.cls_Disk T.na_Disk__size) (ee_cb cc_len (aa_cons (ee_var 2) aa_nil)))))
  (ss_seq (ss_asg (vs := []) (ee_tup (aa_star (ee_var 2) (aa_star (ee_var 3) aa_nil))) (gg_sub (ee_fld (c := 0) (ee_var 0) T.cls_Disk T.na_Disk__last) (ee_var 1)))
  (ss_drop (ee_bm mm_append (ee_fld (c := 0) (ee_var 0) T.cls_Disk T.na_Disk__writings) (aa_cons (ee_tup (aa_cons (ee_var 1) (aa_cons (ee_op oo_ix (ee_fld (c := 0) (ee_var 0) T.cls_Disk T.na_Disk__last) (ee_var 1)) aa_nil))) aa_nil))))))) : SS (cf T) _ b_Disk_write),
  (pss_cons (ps_expr (pe_methV (pl := _) (pv 0) T.cls_Disk T.me_Disk__demand (ok_Disk__demand T) (hr.mono (by decide)) T.b_Disk__demand (fun σ => passAt (takes_of rfl rfl rfl rfl) σ) (pa_cons (pv 1) pa_nil)))
  (pss_cons (ps_if (PW.pt (pw_or (pt_not (pt_tr (pe_call (DD.ok_are_words T) (hr.mono (by decide)) (by rfl) T.g_are_words T.F_are_words.kp T.b_are_words .nil pass0 (pa_cons (pv 2) pa_nil)) (fun _ => rfl))) (pw_or1 (pt_cmpR op_gt (pe_callB cr_len (by rfl) T.n_len (by decide +kernel) (pa_cons (pv 2) pa_nil)) (pe_fld (pv 0) (by rfl)) (nomark _))))) (pss_one (ps_raise rfl (takes_of rfl rfl rfl rfl) (pmk_own PySem.F.excBase_ValueError T.x_NoWords T.g_NoWords T.k_NoWords (raises_own T.b_NoWords T.t_NoWords) (by rfl)))) pss_nil)
  (pss_cons (ps_set (i := 3) sc_Disk_write.nd rfl (.inl rfl) (pe_op op_mulA (pe_tup (pa_cons pe_int pa_nil)) (pe_op op_sub (pe_fld (pv 0) (by rfl)) (pe_callB cr_len (by rfl) T.n_len (by decide +kernel) (pa_cons (pv 2) pa_nil)))))
  (pss_cons (ps_asg (pe_tup (StX.pa_star (pv 2) (StX.pa_star (pv 3) pa_nil))) (pg_sub (pe_fld (pv 0) (by rfl)) (pv 1) set_list (fun _ => rfl)))
  (pss_one (ps_expr (pe_bm PySem.F.plainAttrs_list PySem.F.slot_list_append PySem.F.type_list_append mt_append (pe_fld (pv 0) (by rfl)) (pa_cons (pe_tup (pa_cons (pv 1) (pa_cons (pe_ix ix_seq (pe_fld (pv 0) (by rfl)) (pv 1) (fun _ _ => rfl)) pa_nil))) pa_nil))))))))⟩
theorem ok_Disk_fall (T : DD.Tx K w mg) : FnOk P w K mg base (L2.CX P w) 2 T.f_Disk_fall T.d_Disk_fall ["self", "choices"] (spV (cf T) 2 m_Disk_fall) :=
  def_okV (F := cf T) (N := N_Disk_fall) T.F_Disk_fall sc_Disk_fall fun cdv A outer s H E hr => ⟨_,
  ((ss_seq (ss_if (bb_not (bb_tru (ee_callD (aa_cons (ee_var 1) (aa_cons (ee_cb cc_len (aa_cons (ee_fld (c := 0) (ee_var 0) T.cls_Disk T.na_Disk__writings) aa_nil)) aa_nil)))))
  (ss_raise 0)
  ss_next)
  (ss_seq (ss_for (vs := [2, 3, 4]) (ii_zip (aa_cons (ee_var 1) (aa_cons (ee_fld (c := 0) (ee_var 0) T.cls_Disk T.na_Disk__writings) aa_nil))) (gg_tup (n := 2) (gl_cons (gg_name 2 (by decide)) (gl_cons (gg_tup (n := 2) (gl_cons (gg_name 3 (by decide)) (gl_cons (gg_name 4 (by decide)) gl_nil))) gl_nil)))
  (ss_if (bb_tru (ee_var 2))
  (ss_asg (vs := []) (ee_var 4) (gg_sub (ee_fld (c := 0) (ee_var 0) T.cls_Disk T.na_Disk__settled) (ee_var 3)))
  ss_next))
  (ss_seq (ss_fld (c := 0) (ee_var 0) (ee_lst aa_nil) T.cls_Disk T.na_Disk__writings)
  (ss_fld (c := 0) (ee_var 0) (ee_cb cc_list (aa_cons (ee_fld (c := 0) (ee_var 0) T.cls_Disk T.na_Disk__settled) aa_nil)) T.cls_Disk T.na_Disk__last)))) : SS (cf T) _ b_Disk_fall),
  (pss_cons (ps_if (pt_not (pt_tr (pe_call (DD.ok__are_choices T) (hr.mono (by decide)) (by rfl) T.g__are_choices T.F__are_choices.kp T.b__are_choices .nil pass0 (pa_cons (pv 1) (pa_cons (pe_callB cr_len (by rfl) T.n_len (by decide +kernel) (pa_cons (pe_fld (pv 0) (by rfl)) pa_nil)) pa_nil))) (fun _ => rfl))) (pss_one (ps_raise rfl (takes_of rfl rfl rfl rfl) (pmk_own PySem.F.excBase_ValueError T.x_NoChoices T.g_NoChoices T.k_NoChoices (raises_own T.b_NoChoices T.t_NoChoices) (by rfl)))) pss_nil)
  (pss_cons (ps_for (passes_of rfl) rfl (pi_zipX (by rfl) T.n_zip (pa_cons (pv 1) (pa_cons (pe_fld (pv 0) (by rfl)) pa_nil))) (pg_tup rfl (pgs_cons (pg_name (i := 2) sc_Disk_fall.nd rfl (.inl rfl)) (pgs_cons (pg_tup rfl (pgs_cons (pg_name (i := 3) sc_Disk_fall.nd rfl (.inl rfl)) (pgs_cons (pg_name (i := 4) sc_Disk_fall.nd rfl (.inl rfl)) pgs_nil))) pgs_nil))) (pss_one (ps_if (pt_tr (pv 2) (fun _ => rfl)) (pss_one (ps_asg (pv 4) (pg_sub (pe_fld (pv 0) (by rfl)) (pv 3) set_list (fun _ => rfl)))) pss_nil)))
  (pss_cons (ps_fld (pv 0) (pe_lst pa_nil) (by rfl))
  (pss_one (ps_fld (pv 0) (pe_callTy cr_lstOf (by rfl) T.n_list (by decide +kernel) (pa_cons (pe_fld (pv 0) (by rfl)) pa_nil)) (by rfl))))))⟩
theorem ok__law_no (T : DD.Tx K w mg) : FnOk P w K mg base (L2.CX P w) 4 T.f__law_no T.d__law_no ["_law_way", "_law_disk", "_law_one", "_law_other"] (spV (cf T) 4 m__law_no) :=
  def_okV (F := cf T) (N := N__law_no) T.F__law_no sc__law_no fun cdv A outer s H E hr => ⟨_,
  ((ss_seq (ss_tryF (C := T.C_YardError) (ss_if (bb_test (ee_op (oo_d DD.rd_eq) (ee_var 0) ee_int))
  (ss_drop (ee_mk (c := 0) (aa_cons (ee_var 2) (aa_cons (ee_var 3) aa_nil))))
  (ss_if (bb_test (ee_op (oo_d DD.rd_eq) (ee_var 0) ee_int))
  (ss_drop (ee_mth (c := 0) (ee_var 1) (aa_cons (ee_var 2) (aa_cons (ee_var 3) aa_nil))))
  (ss_if (bb_test (ee_op (oo_d DD.rd_eq) (ee_var 0) ee_int))
  (ss_drop (ee_mth (c := 0) (ee_var 1) (aa_cons (ee_var 2) aa_nil)))
  (ss_drop (ee_mth (c := 0) (ee_var 1) (aa_cons (ee_var 2) aa_nil)))))) (DD.su_or (DD.su_one (cl := T.cl) (c0 := 0) (d0 := (.int (2 : Nat))) T.e_NoChoices_YardError (sbd_ix (sbd_lst (sba_cons (DD.sbd_of (DD.sb_is T.q_NoChoices_NoNumber) (fun _ => .bl _)) (sba_cons (DD.sbd_of (DD.sb_is T.q_NoChoices_NoWords) (fun _ => .bl _)) (sba_cons (DD.sbd_of (DD.sb_is T.q_NoChoices_NoChoices) (fun _ => .bl _)) sba_nil))) (by decide)) (DD.sbd_of DD.sb_c (fun _ => .bl _)) (by decide +kernel) (by decide +kernel))) (DD.su_or (DD.su_one (cl := T.cl) (c0 := 1) (d0 := (.int (0 : Nat))) T.e_NoNumber_YardError (sbd_ix (sbd_lst (sba_cons (DD.sbd_of (DD.sb_is T.q_NoNumber_NoNumber) (fun _ => .bl _)) (sba_cons (DD.sbd_of (DD.sb_is T.q_NoNumber_NoWords) (fun _ => .bl _)) (sba_cons (DD.sbd_of (DD.sb_is T.q_NoNumber_NoChoices) (fun _ => .bl _)) sba_nil))) (by decide)) (DD.sbd_of DD.sb_c (fun _ => .bl _)) (by decide +kernel) (by decide +kernel))) (DD.su_one (cl := T.cl) (c0 := 2) (d0 := (.int (1 : Nat))) T.e_NoWords_YardError (sbd_ix (sbd_lst (sba_cons (DD.sbd_of (DD.sb_is T.q_NoWords_NoNumber) (fun _ => .bl _)) (sba_cons (DD.sbd_of (DD.sb_is T.q_NoWords_NoWords) (fun _ => .bl _)) (sba_cons (DD.sbd_of (DD.sb_is T.q_NoWords_NoChoices) (fun _ => .bl _)) sba_nil))) (by decide)) (DD.sbd_of DD.sb_c (fun _ => .bl _)) (by decide +kernel) (by decide +kernel))))))
  (ss_ret ee_non)) : SS (cf T) _ b__law_no),
  (pss_cons (ps_try_as (i := 4) (Wout := fun _ _ _ _ => False) rfl rfl sc__law_no.nd (by rfl) (by rfl) ⟨by rfl, by decide, .inl T.g_YardError⟩ takes0 (fun W pn xe tk po => (pss_one (ps_if (pt_cmpR (op_eqD hr.units) (pv 0) pe_int (nomark _)) (pss_one (ps_expr (pe_makeV T.mk_Disk (ok_Disk___init__ T) (hr.mono (by decide)) (by rfl) T.g_Disk T.b_Disk___init__ (fun σ => passAt tk σ) (pa_cons (pv 2) (pa_cons (pv 3) pa_nil))))) (pss_one (ps_if (pt_cmpR (op_eqD hr.units) (pv 0) pe_int (nomark _)) (pss_one (ps_expr (pe_methV (pl := _) (pv 1) T.cls_Disk T.me_Disk_write (ok_Disk_write T) (hr.mono (by decide)) T.b_Disk_write (fun σ => passAt tk σ) (pa_cons (pv 2) (pa_cons (pv 3) pa_nil))))) (pss_one (ps_if (pt_cmpR (op_eqD hr.units) (pv 0) pe_int (nomark _)) (pss_one (ps_expr (pe_methV (pl := _) (pv 1) T.cls_Disk T.me_Disk_block (ok_Disk_block T) (hr.mono (by decide)) T.b_Disk_block (fun σ => passAt tk σ) (pa_cons (pv 2) pa_nil)))) (pss_one (ps_expr (pe_methV (pl := _) (pv 1) T.cls_Disk T.me_Disk_fall (ok_Disk_fall T) (hr.mono (by decide)) T.b_Disk_fall (fun σ => passAt tk σ) (pa_cons (pv 2) pa_nil))))))))))) (fun a oe cls d pn hz hf => (pss_or (pss_cls (C := T.C_NoChoices) hz fun hz => pss_one (ps_ret (pe_bm PySem.F.plainAttrs_list PySem.F.slot_list_index PySem.F.type_list_index (mt_indexD (by have z := hu65 hr; exact z)) (pe_lst (pa_cons (pe_callB (call_isE T.E_NoChoices hz hf) (by rfl) T.n_isinstance (by decide +kernel) (pa_cons (pv 4) (pa_cons (pe_glob (v := .ref T.C_NoNumber) (by rfl) T.g_NoNumber rfl) pa_nil))) (pa_cons (pe_callB (call_isE T.E_NoChoices hz hf) (by rfl) T.n_isinstance (by decide +kernel) (pa_cons (pv 4) (pa_cons (pe_glob (v := .ref T.C_NoWords) (by rfl) T.g_NoWords rfl) pa_nil))) (pa_cons (pe_callB (call_isE T.E_NoChoices hz hf) (by rfl) T.n_isinstance (by decide +kernel) (pa_cons (pv 4) (pa_cons (pe_glob (v := .ref T.C_NoChoices) (by rfl) T.g_NoChoices rfl) pa_nil))) pa_nil)))) (pa_cons pe_bl pa_nil)))) (pss_or (pss_cls (C := T.C_NoNumber) hz fun hz => pss_one (ps_ret (pe_bm PySem.F.plainAttrs_list PySem.F.slot_list_index PySem.F.type_list_index (mt_indexD (by have z := hu65 hr; exact z)) (pe_lst (pa_cons (pe_callB (call_isE T.E_NoNumber hz hf) (by rfl) T.n_isinstance (by decide +kernel) (pa_cons (pv 4) (pa_cons (pe_glob (v := .ref T.C_NoNumber) (by rfl) T.g_NoNumber rfl) pa_nil))) (pa_cons (pe_callB (call_isE T.E_NoNumber hz hf) (by rfl) T.n_isinstance (by decide +kernel) (pa_cons (pv 4) (pa_cons (pe_glob (v := .ref T.C_NoWords) (by rfl) T.g_NoWords rfl) pa_nil))) (pa_cons (pe_callB (call_isE T.E_NoNumber hz hf) (by rfl) T.n_isinstance (by decide +kernel) (pa_cons (pv 4) (pa_cons (pe_glob (v := .ref T.C_NoChoices) (by rfl) T.g_NoChoices rfl) pa_nil))) pa_nil)))) (pa_cons pe_bl pa_nil)))) (pss_cls (C := T.C_NoWords) hz fun hz => pss_one (ps_ret (pe_bm PySem.F.plainAttrs_list PySem.F.slot_list_index PySem.F.type_list_index (mt_indexD (by have z := hu65 hr; exact z)) (pe_lst (pa_cons (pe_callB (call_isE T.E_NoWords hz hf) (by rfl) T.n_isinstance (by decide +kernel) (pa_cons (pv 4) (pa_cons (pe_glob (v := .ref T.C_NoNumber) (by rfl) T.g_NoNumber rfl) pa_nil))) (pa_cons (pe_callB (call_isE T.E_NoWords hz hf) (by rfl) T.n_isinstance (by decide +kernel) (pa_cons (pv 4) (pa_cons (pe_glob (v := .ref T.C_NoWords) (by rfl) T.g_NoWords rfl) pa_nil))) (pa_cons (pe_callB (call_isE T.E_NoWords hz hf) (by rfl) T.n_isinstance (by decide +kernel) (pa_cons (pv 4) (pa_cons (pe_glob (v := .ref T.C_NoChoices) (by rfl) T.g_NoChoices rfl) pa_nil))) pa_nil)))) (pa_cons pe_bl pa_nil))))))))
  (pss_one (ps_ret pe_non)))⟩
theorem ok_law (T : DD.Tx K w mg) : FnOk P w K mg base (L2.CX P w) 5 T.f_law T.d_law ["_law_script"] (spV (cf T) 1 m_law) :=
  def_okV (F := cf T) (N := N_law) T.F_law sc_law fun cdv A outer s H E hr => ⟨_,
  ((ss_seq (ss_set 1 (ee_op (oo_d DD.rd_add) ee_int (ee_callD (aa_cons (ee_var 0) (aa_cons ee_int (aa_cons ee_int aa_nil))))))
  (ss_seq (ss_set 2 (ee_mk (c := 0) (aa_cons ee_int (aa_cons (ee_var 1) aa_nil))))
  (ss_seq (ss_drop (ee_mth (c := 0) (ee_var 2) (aa_cons ee_int (aa_cons (ee_lst (aa_cons ee_int (aa_cons ee_int aa_nil))) aa_nil))))
  (ss_seq (ss_drop (ee_mth (c := 0) (ee_var 2) (aa_cons ee_int (aa_cons (ee_lst aa_nil) aa_nil))))
  (ss_seq (ss_set 3 (ee_tup (aa_cons (ee_mth (c := 0) (ee_var 2) aa_nil) (aa_cons (ee_mth (c := 0) (ee_var 2) aa_nil) aa_nil))))
  (ss_seq (ss_set 4 (ee_op oo_ix (ee_lst (aa_cons ee_non (aa_cons ee_bl (aa_cons ee_str (aa_cons (ee_un (uu_d DD.ud_neg) ee_int) (aa_cons (ee_tup (aa_cons ee_int aa_nil)) (aa_cons ee_int aa_nil))))))) (ee_callD (aa_cons (ee_var 0) (aa_cons ee_int (aa_cons ee_int aa_nil))))))
  (ss_seq (ss_set 5 (ee_lst (aa_cons (ee_callV (aa_cons ee_int (aa_cons (ee_var 2) (aa_cons (ee_var 4) (aa_cons ee_int aa_nil))))) (aa_cons (ee_callV (aa_cons ee_int (aa_cons (ee_var 2) (aa_cons ee_int (aa_cons (ee_var 4) aa_nil))))) (aa_cons (ee_callV (aa_cons ee_int (aa_cons (ee_var 2) (aa_cons ee_int (aa_cons ee_int aa_nil))))) aa_nil)))))
  (ss_seq (ss_if (bb_test (ee_op (oo_d DD.rd_ne) (ee_op oo_cat (ee_var 5) (ee_lst (aa_cons (ee_callV (aa_cons ee_int (aa_cons (ee_var 2) (aa_cons ee_int (aa_cons ee_int aa_nil))))) (aa_cons (ee_callV (aa_cons ee_int (aa_cons (ee_var 2) (aa_cons ee_int (aa_cons ee_int aa_nil))))) aa_nil)))) (ee_op oo_rep (ee_lst (aa_cons ee_int aa_nil)) ee_int)))
  (ss_ret ee_bl)
  ss_next)
  (ss_seq (ss_set 6 (ee_op oo_ix (ee_lst (aa_cons ee_non (aa_cons (ee_tup (aa_cons ee_int aa_nil)) (aa_cons (ee_lst (aa_cons ee_int aa_nil)) (aa_cons (ee_lst (aa_cons (ee_un (uu_d DD.ud_neg) ee_int) aa_nil)) (aa_cons (ee_lst (aa_cons ee_bl aa_nil)) (aa_cons (ee_lst (aa_cons ee_non aa_nil)) (aa_cons (ee_op oo_rep (ee_lst (aa_cons ee_int aa_nil)) (ee_op (oo_d DD.rd_add) (ee_var 1) ee_int)) (aa_cons ee_int aa_nil))))))))) (ee_callD (aa_cons (ee_var 0) (aa_cons ee_int (aa_cons ee_int aa_nil))))))
  (ss_seq (ss_set 5 (ee_lst (aa_cons (ee_callV (aa_cons ee_int (aa_cons (ee_var 2) (aa_cons ee_int (aa_cons (ee_var 6) aa_nil))))) (aa_cons (ee_callV (aa_cons ee_int (aa_cons (ee_var 2) (aa_cons (ee_var 4) (aa_cons (ee_lst (aa_cons ee_int aa_nil)) aa_nil))))) (aa_cons (ee_callV (aa_cons ee_int (aa_cons (ee_var 2) (aa_cons ee_int (aa_cons (ee_var 6) aa_nil))))) aa_nil)))))
  (ss_seq (ss_if (bb_test (ee_op (oo_d DD.rd_ne) (ee_op oo_cat (ee_var 5) (ee_lst (aa_cons (ee_callV (aa_cons ee_int (aa_cons (ee_var 2) (aa_cons ee_int (aa_cons ee_int aa_nil))))) (aa_cons (ee_callV (aa_cons ee_int (aa_cons (ee_var 2) (aa_cons (ee_var 4) (aa_cons ee_int aa_nil))))) aa_nil)))) (ee_lst (aa_cons ee_int (aa_cons ee_int (aa_cons ee_int (aa_cons ee_int (aa_cons ee_int aa_nil))))))))
  (ss_ret ee_bl)
  ss_next)
  (ss_seq (ss_set 7 (ee_lst (aa_cons ee_non (aa_cons (ee_lst aa_nil) (aa_cons (ee_lst (aa_cons ee_bl aa_nil)) (aa_cons (ee_op oo_rep (ee_lst (aa_cons ee_bl aa_nil)) ee_int) (aa_cons (ee_tup (aa_cons ee_bl (aa_cons ee_bl aa_nil))) (aa_cons (ee_lst (aa_cons ee_bl (aa_cons ee_int aa_nil))) (aa_cons (ee_lst (aa_cons ee_int (aa_cons ee_int aa_nil))) (aa_cons (ee_lst (aa_cons ee_non (aa_cons ee_non aa_nil))) (aa_cons ee_int aa_nil)))))))))))
  (ss_seq (ss_if (bb_test (ee_op (oo_d DD.rd_ne) (ee_lc (vs := [8]) (ii_any (ee_var 7)) (gg_name 8 (by decide)) (bb_test (ee_op (oo_d DD.rd_ne) (ee_callV (aa_cons ee_int (aa_cons (ee_var 2) (aa_cons (ee_var 8) (aa_cons ee_int aa_nil))))) ee_int)) (ee_var 8)) (ee_lst aa_nil)))
  (ss_ret ee_bl)
  ss_next)
  (ss_seq (ss_if (bb_test (ee_op (oo_d DD.rd_ne) (ee_tup (aa_cons (ee_mth (c := 0) (ee_var 2) aa_nil) (aa_cons (ee_mth (c := 0) (ee_var 2) aa_nil) aa_nil))) (ee_var 3)))
  (ss_ret ee_bl)
  ss_next)
  (ss_seq (ss_if (bb_not (bb_test (ee_op (oo_d DD.rd_is) (ee_callV (aa_cons ee_int (aa_cons (ee_var 2) (aa_cons (ee_lst (aa_cons ee_bl (aa_cons ee_bl aa_nil))) (aa_cons ee_int aa_nil))))) ee_non)))
  (ss_ret ee_bl)
  ss_next)
  (ss_ret (ee_op (oo_d DD.rd_eq) (ee_sl sl_w (ee_mth (c := 0) (ee_var 2) (aa_cons ee_int aa_nil)) pp_no (pp_part ee_int)) (ee_tup (aa_cons ee_int (aa_cons ee_int (aa_cons ee_int aa_nil))))))))))))))))))))) : SS (cf T) _ b_law),
  (pss_cons (ps_set (i := 1) sc_law.nd rfl (.inl rfl) (pe_op op_addA pe_int (pe_call (DD.ok__law_drawn T) (hr.mono (by decide)) (by rfl) T.g__law_drawn T.F__law_drawn.kp T.b__law_drawn .nil pass0 (pa_cons (pv 0) (pa_cons pe_int (pa_cons pe_int pa_nil))))))
  (pss_cons (ps_set (i := 2) sc_law.nd rfl (.inr rfl) (pe_makeV T.mk_Disk (ok_Disk___init__ T) (hr.mono (by decide)) (by rfl) T.g_Disk T.b_Disk___init__ (fun σ => passAt (takes_of rfl rfl rfl rfl) σ) (pa_cons pe_int (pa_cons (pv 1) pa_nil))))
  (pss_cons (ps_expr (pe_methV (pl := _) (pv 2) T.cls_Disk T.me_Disk_write (ok_Disk_write T) (hr.mono (by decide)) T.b_Disk_write (fun σ => passAt (takes_of rfl rfl rfl rfl) σ) (pa_cons pe_int (pa_cons (pe_lst (pa_cons pe_int (pa_cons pe_int pa_nil))) pa_nil))))
  (pss_cons (ps_expr (pe_methV (pl := _) (pv 2) T.cls_Disk T.me_Disk_write (ok_Disk_write T) (hr.mono (by decide)) T.b_Disk_write (fun σ => passAt (takes_of rfl rfl rfl rfl) σ) (pa_cons pe_int (pa_cons (pe_lst pa_nil) pa_nil))))
  (pss_cons (ps_set (i := 3) sc_law.nd rfl (.inl rfl) (pe_tup (pa_cons (pe_methV0 (pl := _) (pv 2) T.cls_Disk T.me_Disk_blocks (ok_Disk_blocks T) (hr.mono (by decide)) T.b_Disk_blocks (fun σ => passAt (takes_of rfl rfl rfl rfl) σ)) (pa_cons (pe_methV0 (pl := _) (pv 2) T.cls_Disk T.me_Disk_loose (ok_Disk_loose T) (hr.mono (by decide)) T.b_Disk_loose (fun σ => passAt (takes_of rfl rfl rfl rfl) σ)) pa_nil))))
  (pss_cons (ps_set (i := 4) sc_law.nd rfl (.inl rfl) (pe_ix ix_seq (pe_lst (pa_cons pe_non (pa_cons pe_bl (pa_cons pe_str (pa_cons (pe_un un_neg pe_int) (pa_cons (pe_tup (pa_cons pe_int pa_nil)) (pa_cons pe_int pa_nil))))))) (pe_call (DD.ok__law_drawn T) (hr.mono (by decide)) (by rfl) T.g__law_drawn T.F__law_drawn.kp T.b__law_drawn .nil pass0 (pa_cons (pv 0) (pa_cons pe_int (pa_cons pe_int pa_nil)))) (fun _ _ => rfl)))
  (pss_cons (ps_set (i := 5) sc_law.nd rfl (.inl rfl) (pe_lst (pa_cons (pe_callS (ok__law_no T) (hr.mono (by decide)) (by rfl) T.g__law_no T.F__law_no.kp T.b__law_no (fun σ => passAt (takes_of rfl rfl rfl rfl) σ) (pa_cons pe_int (pa_cons (pv 2) (pa_cons (pv 4) (pa_cons pe_int pa_nil))))) (pa_cons (pe_callS (ok__law_no T) (hr.mono (by decide)) (by rfl) T.g__law_no T.F__law_no.kp T.b__law_no (fun σ => passAt (takes_of rfl rfl rfl rfl) σ) (pa_cons pe_int (pa_cons (pv 2) (pa_cons pe_int (pa_cons (pv 4) pa_nil))))) (pa_cons (pe_callS (ok__law_no T) (hr.mono (by decide)) (by rfl) T.g__law_no T.F__law_no.kp T.b__law_no (fun σ => passAt (takes_of rfl rfl rfl rfl) σ) (pa_cons pe_int (pa_cons (pv 2) (pa_cons pe_int (pa_cons pe_int pa_nil))))) pa_nil)))))
  (pss_cons (ps_if (pt_cmpR (op_neD hr.units) (pe_op op_catX (pv 5) (pe_lst (pa_cons (pe_callS (ok__law_no T) (hr.mono (by decide)) (by rfl) T.g__law_no T.F__law_no.kp T.b__law_no (fun σ => passAt (takes_of rfl rfl rfl rfl) σ) (pa_cons pe_int (pa_cons (pv 2) (pa_cons pe_int (pa_cons pe_int pa_nil))))) (pa_cons (pe_callS (ok__law_no T) (hr.mono (by decide)) (by rfl) T.g__law_no T.F__law_no.kp T.b__law_no (fun σ => passAt (takes_of rfl rfl rfl rfl) σ) (pa_cons pe_int (pa_cons (pv 2) (pa_cons pe_int (pa_cons pe_int pa_nil))))) pa_nil)))) (pe_op op_rep (pe_lst (pa_cons pe_int pa_nil)) pe_int) (nomark _)) (pss_one (ps_ret pe_bl)) pss_nil)
  (pss_cons (ps_set (i := 6) sc_law.nd rfl (.inl rfl) (pe_ix ix_seq (pe_lst (pa_cons pe_non (pa_cons (pe_tup (pa_cons pe_int pa_nil)) (pa_cons (pe_lst (pa_cons pe_int pa_nil)) (pa_cons (pe_lst (pa_cons (pe_un un_neg pe_int) pa_nil)) (pa_cons (pe_lst (pa_cons pe_bl pa_nil)) (pa_cons (pe_lst (pa_cons pe_non pa_nil)) (pa_cons (pe_op op_rep (pe_lst (pa_cons pe_int pa_nil)) (pe_op op_addA (pv 1) pe_int)) (pa_cons pe_int pa_nil))))))))) (pe_call (DD.ok__law_drawn T) (hr.mono (by decide)) (by rfl) T.g__law_drawn T.F__law_drawn.kp T.b__law_drawn .nil pass0 (pa_cons (pv 0) (pa_cons pe_int (pa_cons pe_int pa_nil)))) (fun _ _ => rfl)))
  (pss_cons (ps_set (i := 5) sc_law.nd rfl (.inl rfl) (pe_lst (pa_cons (pe_callS (ok__law_no T) (hr.mono (by decide)) (by rfl) T.g__law_no T.F__law_no.kp T.b__law_no (fun σ => passAt (takes_of rfl rfl rfl rfl) σ) (pa_cons pe_int (pa_cons (pv 2) (pa_cons pe_int (pa_cons (pv 6) pa_nil))))) (pa_cons (pe_callS (ok__law_no T) (hr.mono (by decide)) (by rfl) T.g__law_no T.F__law_no.kp T.b__law_no (fun σ => passAt (takes_of rfl rfl rfl rfl) σ) (pa_cons pe_int (pa_cons (pv 2) (pa_cons (pv 4) (pa_cons (pe_lst (pa_cons pe_int pa_nil)) pa_nil))))) (pa_cons (pe_callS (ok__law_no T) (hr.mono (by decide)) (by rfl) T.g__law_no T.F__law_no.kp T.b__law_no (fun σ => passAt (takes_of rfl rfl rfl rfl) σ) (pa_cons pe_int (pa_cons (pv 2) (pa_cons pe_int (pa_cons (pv 6) pa_nil))))) pa_nil)))))
  (pss_cons (ps_if (pt_cmpR (op_neD hr.units) (pe_op op_catX (pv 5) (pe_lst (pa_cons (pe_callS (ok__law_no T) (hr.mono (by decide)) (by rfl) T.g__law_no T.F__law_no.kp T.b__law_no (fun σ => passAt (takes_of rfl rfl rfl rfl) σ) (pa_cons pe_int (pa_cons (pv 2) (pa_cons pe_int (pa_cons pe_int pa_nil))))) (pa_cons (pe_callS (ok__law_no T) (hr.mono (by decide)) (by rfl) T.g__law_no T.F__law_no.kp T.b__law_no (fun σ => passAt (takes_of rfl rfl rfl rfl) σ) (pa_cons pe_int (pa_cons (pv 2) (pa_cons (pv 4) (pa_cons pe_int pa_nil))))) pa_nil)))) (pe_lst (pa_cons pe_int (pa_cons pe_int (pa_cons pe_int (pa_cons pe_int (pa_cons pe_int pa_nil)))))) (nomark _)) (pss_one (ps_ret pe_bl)) pss_nil)
  (pss_cons (ps_set (i := 7) sc_law.nd rfl (.inl rfl) (pe_lst (pa_cons pe_non (pa_cons (pe_lst pa_nil) (pa_cons (pe_lst (pa_cons pe_bl pa_nil)) (pa_cons (pe_op op_rep (pe_lst (pa_cons pe_bl pa_nil)) pe_int) (pa_cons (pe_tup (pa_cons pe_bl (pa_cons pe_bl pa_nil))) (pa_cons (pe_lst (pa_cons pe_bl (pa_cons pe_int pa_nil))) (pa_cons (pe_lst (pa_cons pe_int (pa_cons pe_int pa_nil))) (pa_cons (pe_lst (pa_cons pe_non (pa_cons pe_non pa_nil))) (pa_cons pe_int pa_nil)))))))))))
  (pss_cons (ps_if (pt_cmpR (op_neD hr.units) (pe_lcX (own := [("_law_thing", 8)]) (g := gName 8) (tt := _) rfl rfl (takes_of rfl rfl rfl rfl) rfl sc_law.nd (pi_any (pv 7)) (blkOk_by (N := N_law) (sc := defScope s_law) (by decide +kernel)) (fun _ _ _ _ _ _ => (pg_name (i := 8) sc_law.nd rfl (.inl rfl))) (fun _ _ _ _ _ _ => pts_one (pt_cmpR (op_neD hr.units) (pe_callS (ok__law_no T) (hr.mono (by decide)) (by rfl) T.g__law_no T.F__law_no.kp T.b__law_no (fun σ => passNo σ) (pa_cons pe_int (pa_cons (pv 2) (pa_cons (pv 8) (pa_cons pe_int pa_nil))))) pe_int (nomark _))) (fun _ _ _ _ _ _ W' ps => (pv 8))) (pe_lst pa_nil) (nomark _)) (pss_one (ps_ret pe_bl)) pss_nil)
  (pss_cons (ps_if (pt_cmpR (op_neD hr.units) (pe_tup (pa_cons (pe_methV0 (pl := _) (pv 2) T.cls_Disk T.me_Disk_blocks (ok_Disk_blocks T) (hr.mono (by decide)) T.b_Disk_blocks (fun σ => passAt (takes_of rfl rfl rfl rfl) σ)) (pa_cons (pe_methV0 (pl := _) (pv 2) T.cls_Disk T.me_Disk_loose (ok_Disk_loose T) (hr.mono (by decide)) T.b_Disk_loose (fun σ => passAt (takes_of rfl rfl rfl rfl) σ)) pa_nil))) (pv 3) (nomark _)) (pss_one (ps_ret pe_bl)) pss_nil)
  (pss_cons (ps_if (pt_not (pt_cmpR op_isA (pe_callS (ok__law_no T) (hr.mono (by decide)) (by rfl) T.g__law_no T.F__law_no.kp T.b__law_no (fun σ => passAt (takes_of rfl rfl rfl rfl) σ) (pa_cons pe_int (pa_cons (pv 2) (pa_cons (pe_lst (pa_cons pe_bl (pa_cons pe_bl pa_nil))) (pa_cons pe_int pa_nil))))) pe_non (nomark _))) (pss_one (ps_ret pe_bl)) pss_nil)
  (pss_one (ps_ret (pe_cmpR (op_eqD hr.units) (pe_slice sl_any2 (pe_methV (pl := _) (pv 2) T.cls_Disk T.me_Disk_block (ok_Disk_block T) (hr.mono (by decide)) T.b_Disk_block (fun σ => passAt (takes_of rfl rfl rfl rfl) σ) (pa_cons pe_int pa_nil)) po_none (po_some pe_int)) (pe_tup (pa_cons pe_int (pa_cons pe_int (pa_cons pe_int pa_nil)))) (nomark _)))))))))))))))))))⟩
theorem ok_Disk___len__ (T : DD.Tx K w mg) : FnOk P w K mg base (L2.CX P w) 1 T.f_Disk___len__ T.d_Disk___len__ ["self"] (spV (cf T) 1 m_Disk___len__) :=
  def_okV (F := cf T) (N := N_Disk___len__) T.F_Disk___len__ sc_Disk___len__ fun cdv A outer s H E hr => ⟨_,
  ((ss_ret (ee_cb cc_len (aa_cons (ee_fld (c := 0) (ee_var 0) T.cls_Disk T.na_Disk__settled) aa_nil))) : SS (cf T) _ b_Disk___len__),
  (pss_one (ps_ret (pe_callB cr_len (by rfl) T.n_len (by decide +kernel) (pa_cons (pe_fld (pv 0) (by rfl)) pa_nil))))⟩
end
end EV

set_option Elab.async false
set_option linter.all false
set_option maxRecDepth 100000
set_option maxHeartbeats 4000000
namespace DD
local instance : TabQ := ⟨[]⟩
local instance : ExQ := ⟨0, 0⟩
open PySem PySem.Spec PyProof.Rows L2
/-! a drawn number -/
def tl_drawn : En → Option Fl :=
  (sSeq (sAsg (mOp dMod (mOp dAdd (mOp dMul (mOp dMod (mVar 3) (mC (.int 2147483563))) (mC (.int 69069))) (mOp dMul (mC (.int 104723)) (mOp dAdd (mVar 1) (mC (.int 1))))) (mC (.int 2147483563))) (gSet 3))
  (sSeq (sAsg (mOp dMod (mOp dAdd (mOp dMul (mVar 3) (mVar 3)) (mOp dFdiv (mVar 3) (mC (.int 3)))) (mC (.int 2147483399))) (gSet 3))
  (sRet (mOp dMod (mOp dFdiv (mOp dMod (mOp dAdd (mOp dMul (mVar 3) (mVar 3)) (mOp dFdiv (mVar 3) (mC (.int 7)))) (mC (.int 2147483647))) (mC (.int 11))) (mVar 2)))))
theorem dAdd_of (i j : Int) : dAdd (.int i) (.int j) = some (.int (i + j)) := rfl
theorem dSub_of (i j : Int) : dSub (.int i) (.int j) = some (.int (i - j)) := rfl
theorem drawn_tail (L : D) (k many z : Int) (g1 g2 : Option Sl) (hk : 0 ≤ k) (hk2 : k ≤ 100000) (hm : 1 ≤ many) :
    ∃ r : Int, tl_drawn [some (.val L), some (.val (.int k)), some (.val (.int many)), some (.val (.int z)), g1, g2] = some (.rt (.int r)) ∧ 0 ≤ r ∧ r < many := by
  have a1 := dMod_of (i := z) (j := 2147483563) (by decide)
  obtain ⟨x1, e1⟩ : ∃ x1, z % 2147483563 = x1 := ⟨_, rfl⟩
  have a2 := dMul_r (i := x1) (j := 69069) (by decide) (by decide)
  have a3 := dMul_r (i := 104723) (j := k + 1) (by omega) (by omega)
  have a4 := dMod_of (i := x1 * 69069 + 104723 * (k + 1)) (j := 2147483563) (by decide)
  have b0 := Int.emod_nonneg (x1 * 69069 + 104723 * (k + 1)) (show (2147483563 : Int) ≠ 0 by decide)
  have b1 := Int.emod_lt_of_pos (x1 * 69069 + 104723 * (k + 1)) (show (0 : Int) < 2147483563 by decide)
  obtain ⟨x2, e2⟩ : ∃ x2, (x1 * 69069 + 104723 * (k + 1)) % 2147483563 = x2 := ⟨_, rfl⟩
  rw [e2] at b0 b1
  have a5 := dMul_r (i := x2) (j := x2) (by omega) (by omega)
  have a6 := dFdiv_of (i := x2) (j := 3) (by decide) (by decide)
  have a7 := dMod_of (i := x2 * x2 + x2 / 3) (j := 2147483399) (by decide)
  have c0 := Int.emod_nonneg (x2 * x2 + x2 / 3) (show (2147483399 : Int) ≠ 0 by decide)
  have c1 := Int.emod_lt_of_pos (x2 * x2 + x2 / 3) (show (0 : Int) < 2147483399 by decide)
  obtain ⟨x3, e3⟩ : ∃ x3, (x2 * x2 + x2 / 3) % 2147483399 = x3 := ⟨_, rfl⟩
  rw [e3] at c0 c1
  have a8 := dMul_r (i := x3) (j := x3) (by omega) (by omega)
  have a9 := dFdiv_of (i := x3) (j := 7) (by decide) (by decide)
  have a10 := dMod_of (i := x3 * x3 + x3 / 7) (j := 2147483647) (by decide)
  have a11 := dFdiv_of (i := (x3 * x3 + x3 / 7) % 2147483647) (j := 11) (by decide) (by decide)
  have a12 := dMod_of (i := (x3 * x3 + x3 / 7) % 2147483647 / 11) (j := many) (by omega)
  refine ⟨_, ?_, Int.emod_nonneg ((x3 * x3 + x3 / 7) % 2147483647 / 11) (show many ≠ 0 by omega), Int.emod_lt_of_pos _ (show (0 : Int) < many by omega)⟩
  simp only [tl_drawn, sSeq, sAsg, sIf, sRet, sNext, sOwn, sFrz, sDrop, sPar, sPar3, sParOV, sParOO, sParOOO, sStop, mOp, mUn, mVar, mC, mTest, mTru, mIfE, mList, mLst, mStar, mCons, mNil, mTup, mCall, mCallL, mAnd, mOr, mNot, mAndV, mOrV, mNotV, mIter, mSl, mSlL, mPart, mNoPart, mIfL, mCatL, mCatV, gSet, gTupM, gConsM, gNilM, isI, frz, wipeM, lim, isB, its, List.map_cons, List.map_nil, List.length_cons, List.length_nil, List.replicate, List.replicate_zero, List.cons_append, List.nil_append, List.getElem?_cons_zero, List.getElem?_cons_succ, List.set_cons_zero, List.set_cons_succ, Option.bind_some, Option.bind_none, Option.map_some, Option.map_none, if_true, if_false, if_pos, Bool.not_true, Bool.not_false, Bool.false_eq_true, reduceCtorEq, a1, e1, a2, a3, dAdd_of, a4, e2, a5, a6, a7, e3, a8, a9, a10, a11, a12]
/-- the loop of a drawn number -/
theorem drawn_loop : ∀ (n : Nat) (L k many c : D) (r t : Int), 0 ≤ t → t.toNat + 1 = n →
    ∃ r' t' : Int, whl (mAnd (mTest (mOp dGt (mVar 5) (mC (.int 0)))) (mTest (mOp dGt (mVar 4) (mC (.int 0)))))
      (sSeq (sAsg (mOp dFdiv (mVar 5) (mC (.int 1000000))) (gSet 5)) (sAsg (mOp dSub (mVar 4) (mC (.int 1))) (gSet 4))) n
      [some (.val L), some (.val k), some (.val many), some (.val c), some (.val (.int t)), some (.val (.int r))] = some (.nx [some (.val L), some (.val k), some (.val many), some (.val c), some (.val (.int t')), some (.val (.int r'))])
  | 0, _, _, _, _, _, _, h, e => by omega
  | n + 1, L, k, many, c, r, t, h, e => by
    have hc : mAnd (mTest (mOp dGt (mVar 5) (mC (.int 0)))) (mTest (mOp dGt (mVar 4) (mC (.int 0)))) [some (.val L), some (.val k), some (.val many), some (.val c), some (.val (.int t)), some (.val (.int r))] = some (decide (0 < r) && decide (0 < t)) := by
      have g1 : dGt (.int r) (.int 0) = some (.bool (decide (0 < r))) := rfl
      have g2 : dGt (.int t) (.int 0) = some (.bool (decide (0 < t))) := rfl
      simp only [sSeq, sAsg, sIf, sRet, sNext, sOwn, sFrz, sDrop, sPar, sPar3, sParOV, sParOO, sParOOO, sStop, mOp, mUn, mVar, mC, mTest, mTru, mIfE, mList, mLst, mStar, mCons, mNil, mTup, mCall, mCallL, mAnd, mOr, mNot, mAndV, mOrV, mNotV, mIter, mSl, mSlL, mPart, mNoPart, mIfL, mCatL, mCatV, gSet, gTupM, gConsM, gNilM, isI, frz, wipeM, lim, isB, its, List.map_cons, List.map_nil, List.length_cons, List.length_nil, List.replicate, List.replicate_zero, List.cons_append, List.nil_append, List.getElem?_cons_zero, List.getElem?_cons_succ, List.set_cons_zero, List.set_cons_succ, Option.bind_some, Option.bind_none, Option.map_some, Option.map_none, if_true, if_false, if_pos, Bool.not_true, Bool.not_false, Bool.false_eq_true, reduceCtorEq, g1, g2]
      cases decide (0 < r) <;> rfl
    cases hq : (decide (0 < r) && decide (0 < t)) with
    | true =>
      rw [hq] at hc
      rw [Bool.and_eq_true] at hq
      have ht : 0 < t := of_decide_eq_true hq.2
      have a1 := dFdiv_of (i := r) (j := 1000000) (by decide) (by decide)
      have hb : (sSeq (sAsg (mOp dFdiv (mVar 5) (mC (.int 1000000))) (gSet 5)) (sAsg (mOp dSub (mVar 4) (mC (.int 1))) (gSet 4))) [some (.val L), some (.val k), some (.val many), some (.val c), some (.val (.int t)), some (.val (.int r))] =
          some (.nx [some (.val L), some (.val k), some (.val many), some (.val c), some (.val (.int (t - 1))), some (.val (.int (r / 1000000)))]) := by
        simp only [sSeq, sAsg, sIf, sRet, sNext, sOwn, sFrz, sDrop, sPar, sPar3, sParOV, sParOO, sParOOO, sStop, mOp, mUn, mVar, mC, mTest, mTru, mIfE, mList, mLst, mStar, mCons, mNil, mTup, mCall, mCallL, mAnd, mOr, mNot, mAndV, mOrV, mNotV, mIter, mSl, mSlL, mPart, mNoPart, mIfL, mCatL, mCatV, gSet, gTupM, gConsM, gNilM, isI, frz, wipeM, lim, isB, its, List.map_cons, List.map_nil, List.length_cons, List.length_nil, List.replicate, List.replicate_zero, List.cons_append, List.nil_append, List.getElem?_cons_zero, List.getElem?_cons_succ, List.set_cons_zero, List.set_cons_succ, Option.bind_some, Option.bind_none, Option.map_some, Option.map_none, if_true, if_false, if_pos, Bool.not_true, Bool.not_false, Bool.false_eq_true, reduceCtorEq, a1, dSub_of]
      rw [whl_t hc hb]
      exact drawn_loop n L k many c (r / 1000000) (t - 1) (by omega) (by omega)
    | false =>
      rw [hq] at hc
      rw [whl_f hc]
      exact ⟨r, t, rfl⟩
theorem drawn_ok (ns : List Int) (h63 : ns.length ≤ 63) (k many : Int) (hk : 0 ≤ k) (hk2 : k ≤ 100000) (hm : 1 ≤ many) (hm2 : many ≤ 30000000000) :
    ∃ r : Int, m__law_drawn [.list (ns.map .int), .int k, .int many] = some (.int r) ∧ 0 ≤ r ∧ r < many := by
  have a1 := dMul_r (i := 7) (j := k) (by omega) (by omega)
  cases ns with
  | nil =>
    obtain ⟨r, t1, t2, t3⟩ := drawn_tail (.list []) k many (7 * k) none none hk hk2 hm
    refine ⟨r, mDef_rt ?_, t2, t3⟩
    have b1 : dNe (.list []) (.list []) = some (.bool false) := dNe_self (k := 1) (lay_list fun d hd => nomatch hd) (by decide)
    have e : b__law_drawn (start0 6 [.list [], .int k, .int many]) = tl_drawn [some (.val (.list [])), some (.val (.int k)), some (.val (.int many)), some (.val (.int (7 * k))), none, none] := by
      unfold b__law_drawn
      simp only [start0, List.length_cons, List.length_nil, List.map_cons, List.map_nil]
      have z : sAsg (mOp dMul (mC (.int 7)) (mVar 1)) (gSet 3) [some (Sl.val (.list [])), some (.val (.int k)), some (.val (.int many)), none, none, none] = some (.nx [some (.val (.list [])), some (.val (.int k)), some (.val (.int many)), some (.val (.int (7 * k))), none, none]) := by
        simp only [sSeq, sAsg, sIf, sRet, sNext, sOwn, sFrz, sDrop, sPar, sPar3, sParOV, sParOO, sParOOO, sStop, mOp, mUn, mVar, mC, mTest, mTru, mIfE, mList, mLst, mStar, mCons, mNil, mTup, mCall, mCallL, mAnd, mOr, mNot, mAndV, mOrV, mNotV, mIter, mSl, mSlL, mPart, mNoPart, mIfL, mCatL, mCatV, gSet, gTupM, gConsM, gNilM, isI, frz, wipeM, lim, isB, its, List.map_cons, List.map_nil, List.length_cons, List.length_nil, List.replicate, List.replicate_zero, List.cons_append, List.nil_append, List.getElem?_cons_zero, List.getElem?_cons_succ, List.set_cons_zero, List.set_cons_succ, Option.bind_some, Option.bind_none, Option.map_some, Option.map_none, if_true, if_false, if_pos, Bool.not_true, Bool.not_false, Bool.false_eq_true, reduceCtorEq, a1]
      refine (seq_nx z).trans ?_
      refine (seq_nx (ρ' := [some (.val (.list [])), some (.val (.int k)), some (.val (.int many)), some (.val (.int (7 * k))), none, none]) ?_).trans rfl
      refine (if_f ?_).trans rfl
      simp only [sSeq, sAsg, sIf, sRet, sNext, sOwn, sFrz, sDrop, sPar, sPar3, sParOV, sParOO, sParOOO, sStop, mOp, mUn, mVar, mC, mTest, mTru, mIfE, mList, mLst, mStar, mCons, mNil, mTup, mCall, mCallL, mAnd, mOr, mNot, mAndV, mOrV, mNotV, mIter, mSl, mSlL, mPart, mNoPart, mIfL, mCatL, mCatV, gSet, gTupM, gConsM, gNilM, isI, frz, wipeM, lim, isB, its, List.map_cons, List.map_nil, List.length_cons, List.length_nil, List.replicate, List.replicate_zero, List.cons_append, List.nil_append, List.getElem?_cons_zero, List.getElem?_cons_succ, List.set_cons_zero, List.set_cons_succ, Option.bind_some, Option.bind_none, Option.map_some, Option.map_none, if_true, if_false, if_pos, Bool.not_true, Bool.not_false, Bool.false_eq_true, reduceCtorEq, b1, sized]
      rfl
    exact e.trans t1
  | cons n0 nr =>
    generalize hn : n0 :: nr = ns at h63 ⊢
    have ne : 0 < ns.length := by rw [← hn]; exact Nat.succ_pos _
    have hlen : ((ns.map PyData.int).length : Nat) ≤ cap := by rw [List.length_map]; exact Nat.le_trans h63 (by decide)
    have b1 : dNe (.list (ns.map .int)) (.list []) = some (.bool true) := by
      rw [dNe_of (shaped_ints ns) shaped_nil, eqv_nil, ← hn]
      rfl
    have b2 : dLen [.list (ns.map PyData.int)] = some (.int ns.length) := by rw [dLen_list hlen, List.length_map]
    have b3 := dMod_of (i := k) (j := ns.length) (by omega)
    have b4 := dFdiv_of (i := k) (j := ns.length) (by omega) (by omega)
    have q1 : 0 ≤ k % (ns.length : Int) := Int.emod_nonneg _ (by omega)
    have q2 : k % (ns.length : Int) < ns.length := Int.emod_lt_of_pos _ (by omega)
    obtain ⟨j, hj⟩ : ∃ j : Nat, k % (ns.length : Int) = (j : Int) := ⟨(k % (ns.length : Int)).toNat, by omega⟩
    have hjl : j < ns.length := by omega
    have b5 : dIx (.list (ns.map .int)) (.int (k % ns.length)) = some (.int ns[j]) := by
      rw [hj]
      exact atI_nat (by rw [List.getElem?_map, List.getElem?_eq_getElem hjl]; rfl)
    generalize ns[j] = c at b5
    have u0 : 0 ≤ k / (ns.length : Int) := Int.ediv_nonneg hk (by omega)
    have u1 : k / (ns.length : Int) ≤ k := Int.ediv_le_self _ hk
    obtain ⟨u, hu⟩ : ∃ u, k / (ns.length : Int) = u := ⟨_, rfl⟩
    rw [hu] at u0 u1 b4
    have b6 := dMul_r (i := 6553) (j := u) (by omega) (by omega)
    generalize PyData.list (ns.map .int) = L at *
    obtain ⟨p, c18, b7, b10⟩ : ∃ p c18 : Int, dPow (.int 10) (.int 18) = some (.int p) ∧ dFdiv (.int c) (.int p) = some (.int c18) := ⟨10 ^ 18, _, rfl, dFdiv_of (i := c) (j := 10 ^ 18) (by decide +kernel) (by decide +kernel)⟩
    have b8 : dGe (.int c) (.int p) = some (.bool (decide (p ≤ c))) := rfl
    have b9 : dLt (.int u) (.int 60) = some (.bool (decide (u < 60))) := rfl
    have start : b__law_drawn (start0 6 [L, .int k, .int many]) = b__law_drawn [some (.val L), some (.val (.int k)), some (.val (.int many)), none, none, none] := rfl
    -- where the cell is not large, or nothing is left of it
    have hend : ∀ g : Option Sl, sAsg (mOp dAdd (mVar 3) (mOp dMul (mC (.int 6553)) (mOp dFdiv (mVar 1) (mCall dLen (mCons (mVar 0) mNil))))) (gSet 3) [some (.val L), some (.val (.int k)), some (.val (.int many)), some (.val (.int c)), some (.val (.int u)), g] =
        some (.nx [some (.val L), some (.val (.int k)), some (.val (.int many)), some (.val (.int (c + 6553 * u))), some (.val (.int u)), g]) := fun g => by
      simp only [sSeq, sAsg, sIf, sRet, sNext, sOwn, sFrz, sDrop, sPar, sPar3, sParOV, sParOO, sParOOO, sStop, mOp, mUn, mVar, mC, mTest, mTru, mIfE, mList, mLst, mStar, mCons, mNil, mTup, mCall, mCallL, mAnd, mOr, mNot, mAndV, mOrV, mNotV, mIter, mSl, mSlL, mPart, mNoPart, mIfL, mCatL, mCatV, gSet, gTupM, gConsM, gNilM, isI, frz, wipeM, lim, isB, its, List.map_cons, List.map_nil, List.length_cons, List.length_nil, List.replicate, List.replicate_zero, List.cons_append, List.nil_append, List.getElem?_cons_zero, List.getElem?_cons_succ, List.set_cons_zero, List.set_cons_succ, Option.bind_some, Option.bind_none, Option.map_some, Option.map_none, if_true, if_false, if_pos, Bool.not_true, Bool.not_false, Bool.false_eq_true, reduceCtorEq, b2, b4, b6, dAdd_of]
    have hend2 : ∀ (t : Int) (g : Option Sl), sAsg (mOp dAdd (mVar 3) (mOp dMul (mC (.int 6553)) (mOp dFdiv (mVar 1) (mCall dLen (mCons (mVar 0) mNil))))) (gSet 3) [some (.val L), some (.val (.int k)), some (.val (.int many)), some (.val (.int c)), some (.val (.int t)), g] =
        some (.nx [some (.val L), some (.val (.int k)), some (.val (.int many)), some (.val (.int (c + 6553 * u))), some (.val (.int t)), g]) := fun t g => by
      simp only [sSeq, sAsg, sIf, sRet, sNext, sOwn, sFrz, sDrop, sPar, sPar3, sParOV, sParOO, sParOOO, sStop, mOp, mUn, mVar, mC, mTest, mTru, mIfE, mList, mLst, mStar, mCons, mNil, mTup, mCall, mCallL, mAnd, mOr, mNot, mAndV, mOrV, mNotV, mIter, mSl, mSlL, mPart, mNoPart, mIfL, mCatL, mCatV, gSet, gTupM, gConsM, gNilM, isI, frz, wipeM, lim, isB, its, List.map_cons, List.map_nil, List.length_cons, List.length_nil, List.replicate, List.replicate_zero, List.cons_append, List.nil_append, List.getElem?_cons_zero, List.getElem?_cons_succ, List.set_cons_zero, List.set_cons_succ, Option.bind_some, Option.bind_none, Option.map_some, Option.map_none, if_true, if_false, if_pos, Bool.not_true, Bool.not_false, Bool.false_eq_true, reduceCtorEq, b2, b4, b6, dAdd_of]
    have s1 : sAsg (mOp dMul (mC (.int 7)) (mVar 1)) (gSet 3) [some (.val L), some (.val (.int k)), some (.val (.int many)), none, none, none] = some (.nx [some (.val L), some (.val (.int k)), some (.val (.int many)), some (.val (.int (7 * k))), none, none]) := by
      simp only [sSeq, sAsg, sIf, sRet, sNext, sOwn, sFrz, sDrop, sPar, sPar3, sParOV, sParOO, sParOOO, sStop, mOp, mUn, mVar, mC, mTest, mTru, mIfE, mList, mLst, mStar, mCons, mNil, mTup, mCall, mCallL, mAnd, mOr, mNot, mAndV, mOrV, mNotV, mIter, mSl, mSlL, mPart, mNoPart, mIfL, mCatL, mCatV, gSet, gTupM, gConsM, gNilM, isI, frz, wipeM, lim, isB, its, List.map_cons, List.map_nil, List.length_cons, List.length_nil, List.replicate, List.replicate_zero, List.cons_append, List.nil_append, List.getElem?_cons_zero, List.getElem?_cons_succ, List.set_cons_zero, List.set_cons_succ, Option.bind_some, Option.bind_none, Option.map_some, Option.map_none, if_true, if_false, if_pos, Bool.not_true, Bool.not_false, Bool.false_eq_true, reduceCtorEq, a1]
    have s2 : mTest (mOp dNe (mVar 0) (mList (mLst mNil))) [some (.val L), some (.val (.int k)), some (.val (.int many)), some (.val (.int (7 * k))), none, none] = some true := by
      have z : sized ([] : List D) = some [] := rfl
      simp only [sSeq, sAsg, sIf, sRet, sNext, sOwn, sFrz, sDrop, sPar, sPar3, sParOV, sParOO, sParOOO, sStop, mOp, mUn, mVar, mC, mTest, mTru, mIfE, mList, mLst, mStar, mCons, mNil, mTup, mCall, mCallL, mAnd, mOr, mNot, mAndV, mOrV, mNotV, mIter, mSl, mSlL, mPart, mNoPart, mIfL, mCatL, mCatV, gSet, gTupM, gConsM, gNilM, isI, frz, wipeM, lim, isB, its, List.map_cons, List.map_nil, List.length_cons, List.length_nil, List.replicate, List.replicate_zero, List.cons_append, List.nil_append, List.getElem?_cons_zero, List.getElem?_cons_succ, List.set_cons_zero, List.set_cons_succ, Option.bind_some, Option.bind_none, Option.map_some, Option.map_none, if_true, if_false, if_pos, Bool.not_true, Bool.not_false, Bool.false_eq_true, reduceCtorEq, z, b1]
    have s3 : sAsg (mOp dIx (mVar 0) (mOp dMod (mVar 1) (mCall dLen (mCons (mVar 0) mNil)))) (gSet 3) [some (.val L), some (.val (.int k)), some (.val (.int many)), some (.val (.int (7 * k))), none, none] = some (.nx [some (.val L), some (.val (.int k)), some (.val (.int many)), some (.val (.int c)), none, none]) := by
      simp only [sSeq, sAsg, sIf, sRet, sNext, sOwn, sFrz, sDrop, sPar, sPar3, sParOV, sParOO, sParOOO, sStop, mOp, mUn, mVar, mC, mTest, mTru, mIfE, mList, mLst, mStar, mCons, mNil, mTup, mCall, mCallL, mAnd, mOr, mNot, mAndV, mOrV, mNotV, mIter, mSl, mSlL, mPart, mNoPart, mIfL, mCatL, mCatV, gSet, gTupM, gConsM, gNilM, isI, frz, wipeM, lim, isB, its, List.map_cons, List.map_nil, List.length_cons, List.length_nil, List.replicate, List.replicate_zero, List.cons_append, List.nil_append, List.getElem?_cons_zero, List.getElem?_cons_succ, List.set_cons_zero, List.set_cons_succ, Option.bind_some, Option.bind_none, Option.map_some, Option.map_none, if_true, if_false, if_pos, Bool.not_true, Bool.not_false, Bool.false_eq_true, reduceCtorEq, b2, b3, b5]
    have s4 : sAsg (mOp dFdiv (mVar 1) (mCall dLen (mCons (mVar 0) mNil))) (gSet 4) [some (.val L), some (.val (.int k)), some (.val (.int many)), some (.val (.int c)), none, none] = some (.nx [some (.val L), some (.val (.int k)), some (.val (.int many)), some (.val (.int c)), some (.val (.int u)), none]) := by
      simp only [sSeq, sAsg, sIf, sRet, sNext, sOwn, sFrz, sDrop, sPar, sPar3, sParOV, sParOO, sParOOO, sStop, mOp, mUn, mVar, mC, mTest, mTru, mIfE, mList, mLst, mStar, mCons, mNil, mTup, mCall, mCallL, mAnd, mOr, mNot, mAndV, mOrV, mNotV, mIter, mSl, mSlL, mPart, mNoPart, mIfL, mCatL, mCatV, gSet, gTupM, gConsM, gNilM, isI, frz, wipeM, lim, isB, its, List.map_cons, List.map_nil, List.length_cons, List.length_nil, List.replicate, List.replicate_zero, List.cons_append, List.nil_append, List.getElem?_cons_zero, List.getElem?_cons_succ, List.set_cons_zero, List.set_cons_succ, Option.bind_some, Option.bind_none, Option.map_some, Option.map_none, if_true, if_false, if_pos, Bool.not_true, Bool.not_false, Bool.false_eq_true, reduceCtorEq, b2, b4]
    have s5 : mAnd (mTest (mOp dGe (mVar 3) (mOp dPow (mC (.int 10)) (mC (.int 18))))) (mTest (mOp dLt (mVar 4) (mC (.int 60)))) [some (.val L), some (.val (.int k)), some (.val (.int many)), some (.val (.int c)), some (.val (.int u)), none] = some (decide (p ≤ c) && decide (u < 60)) := by
      simp only [sSeq, sAsg, sIf, sRet, sNext, sOwn, sFrz, sDrop, sPar, sPar3, sParOV, sParOO, sParOOO, sStop, mOp, mUn, mVar, mC, mTest, mTru, mIfE, mList, mLst, mStar, mCons, mNil, mTup, mCall, mCallL, mAnd, mOr, mNot, mAndV, mOrV, mNotV, mIter, mSl, mSlL, mPart, mNoPart, mIfL, mCatL, mCatV, gSet, gTupM, gConsM, gNilM, isI, frz, wipeM, lim, isB, its, List.map_cons, List.map_nil, List.length_cons, List.length_nil, List.replicate, List.replicate_zero, List.cons_append, List.nil_append, List.getElem?_cons_zero, List.getElem?_cons_succ, List.set_cons_zero, List.set_cons_succ, Option.bind_some, Option.bind_none, Option.map_some, Option.map_none, if_true, if_false, if_pos, Bool.not_true, Bool.not_false, Bool.false_eq_true, reduceCtorEq, b7, b8, b9]
      cases decide (p ≤ c) <;> rfl
    cases hq : (decide (p ≤ c) && decide (u < 60)) with
    | false =>
      rw [hq] at s5
      obtain ⟨r, t1, t2, t3⟩ := drawn_tail L k many (c + 6553 * u) (some (.val (.int u))) none hk hk2 hm
      refine ⟨r, mDef_rt ?_, t2, t3⟩
      rw [start]
      unfold b__law_drawn
      refine (seq_nx s1).trans ((seq_nx ((if_t s2).trans ((seq_nx s3).trans ((seq_nx s4).trans ((seq_nx (if_f s5)).trans (hend none)))))).trans t1)
    | true =>
      rw [hq] at s5
      have s6 : sAsg (mOp dFdiv (mVar 3) (mOp dPow (mC (.int 10)) (mC (.int 18)))) (gSet 5) [some (.val L), some (.val (.int k)), some (.val (.int many)), some (.val (.int c)), some (.val (.int u)), none] = some (.nx [some (.val L), some (.val (.int k)), some (.val (.int many)), some (.val (.int c)), some (.val (.int u)), some (.val (.int c18))]) := by
        simp only [sSeq, sAsg, sIf, sRet, sNext, sOwn, sFrz, sDrop, sPar, sPar3, sParOV, sParOO, sParOOO, sStop, mOp, mUn, mVar, mC, mTest, mTru, mIfE, mList, mLst, mStar, mCons, mNil, mTup, mCall, mCallL, mAnd, mOr, mNot, mAndV, mOrV, mNotV, mIter, mSl, mSlL, mPart, mNoPart, mIfL, mCatL, mCatV, gSet, gTupM, gConsM, gNilM, isI, frz, wipeM, lim, isB, its, List.map_cons, List.map_nil, List.length_cons, List.length_nil, List.replicate, List.replicate_zero, List.cons_append, List.nil_append, List.getElem?_cons_zero, List.getElem?_cons_succ, List.set_cons_zero, List.set_cons_succ, Option.bind_some, Option.bind_none, Option.map_some, Option.map_none, if_true, if_false, if_pos, Bool.not_true, Bool.not_false, Bool.false_eq_true, reduceCtorEq, b7, b10]
      obtain ⟨r', t', hl⟩ := drawn_loop (u.toNat + 1) L (.int k) (.int many) (.int c) c18 u u0 rfl
      have hw : sWhile fuel__law_drawn_0 (mAnd (mTest (mOp dGt (mVar 5) (mC (.int 0)))) (mTest (mOp dGt (mVar 4) (mC (.int 0)))))
          (sSeq (sAsg (mOp dFdiv (mVar 5) (mC (.int 1000000))) (gSet 5)) (sAsg (mOp dSub (mVar 4) (mC (.int 1))) (gSet 4)))
          [some (.val L), some (.val (.int k)), some (.val (.int many)), some (.val (.int c)), some (.val (.int u)), some (.val (.int c18))] = some (.nx [some (.val L), some (.val (.int k)), some (.val (.int many)), some (.val (.int c)), some (.val (.int t')), some (.val (.int r'))]) := hl
      have hg : ∀ t'' : Int, mTest (mOp dGt (mVar 5) (mC (.int 0))) [some (.val L), some (.val (.int k)), some (.val (.int many)), some (.val (.int c)), some (.val (.int t'')), some (.val (.int r'))] = some (decide (0 < r')) := fun t'' => rfl
      cases hr : decide (0 < r') with
      | true =>
        have d1 := dMod_of (i := r') (j := 1000000) (by decide)
        have d2 := dMod_of (i := r' % 1000000) (j := many) (by omega)
        refine ⟨_, mDef_rt ?_, Int.emod_nonneg (r' % 1000000) (show many ≠ 0 by omega), Int.emod_lt_of_pos _ (show (0 : Int) < many by omega)⟩
        rw [start]
        unfold b__law_drawn
        have hret : sRet (mOp dMod (mOp dMod (mVar 5) (mC (.int 1000000))) (mVar 2)) [some (.val L), some (.val (.int k)), some (.val (.int many)), some (.val (.int c)), some (.val (.int t')), some (.val (.int r'))] = some (.rt (.int (r' % 1000000 % many))) := by
          simp only [sSeq, sAsg, sIf, sRet, sNext, sOwn, sFrz, sDrop, sPar, sPar3, sParOV, sParOO, sParOOO, sStop, mOp, mUn, mVar, mC, mTest, mTru, mIfE, mList, mLst, mStar, mCons, mNil, mTup, mCall, mCallL, mAnd, mOr, mNot, mAndV, mOrV, mNotV, mIter, mSl, mSlL, mPart, mNoPart, mIfL, mCatL, mCatV, gSet, gTupM, gConsM, gNilM, isI, frz, wipeM, lim, isB, its, List.map_cons, List.map_nil, List.length_cons, List.length_nil, List.replicate, List.replicate_zero, List.cons_append, List.nil_append, List.getElem?_cons_zero, List.getElem?_cons_succ, List.set_cons_zero, List.set_cons_succ, Option.bind_some, Option.bind_none, Option.map_some, Option.map_none, if_true, if_false, if_pos, Bool.not_true, Bool.not_false, Bool.false_eq_true, reduceCtorEq, d1, d2]
        refine (seq_nx s1).trans (seq_rt ((if_t s2).trans ((seq_nx s3).trans ((seq_nx s4).trans (seq_rt ((if_t s5).trans ((seq_nx s6).trans ((seq_nx hw).trans ((if_t ((hg t').trans (by rw [hr]))).trans hret)))))))))
      | false =>
        obtain ⟨r, t1, t2, t3⟩ := drawn_tail L k many (c + 6553 * u) (some (.val (.int t'))) (some (.val (.int r'))) hk hk2 hm
        refine ⟨r, mDef_rt ?_, t2, t3⟩
        rw [start]
        unfold b__law_drawn
        have s8 : sIf (mTest (mOp dGt (mVar 5) (mC (.int 0)))) (sRet (mOp dMod (mOp dMod (mVar 5) (mC (.int 1000000))) (mVar 2))) sNext [some (.val L), some (.val (.int k)), some (.val (.int many)), some (.val (.int c)), some (.val (.int t')), some (.val (.int r'))] =
            some (.nx [some (.val L), some (.val (.int k)), some (.val (.int many)), some (.val (.int c)), some (.val (.int t')), some (.val (.int r'))]) := by
          rw [if_f ((hg t').trans (by rw [hr]))]
          rfl
        refine (seq_nx s1).trans ((seq_nx ((if_t s2).trans ((seq_nx s3).trans ((seq_nx s4).trans ((seq_nx ((if_t s5).trans ((seq_nx s6).trans ((seq_nx hw).trans s8)))).trans (hend2 t' _)))))).trans t1)
end DD

set_option Elab.async false
set_option linter.all false
set_option maxRecDepth 100000
set_option maxHeartbeats 4000000
namespace EV
open PySem PySem.Spec PyProof.Rows L2
open DD (D)
local instance : DD.TabQ := ⟨[]⟩
local instance : DD.ExQ := ⟨0, 0⟩
def q_law (x0 x1 x2 : Int) : St :=
  (sSeq (sAsg (mOp (oD DD.dAdd) (mC (.int 16)) (mC (.int x0))) (gSet 1))
  (sSeq (sAsg (mMk 0 3 m_Disk___init__ (mCons (mC (.int 6)) (mCons (mVar 1) mNil))) (gSet 2))
  (sSeq (sDrop (mMth 0 "write" 3 m_Disk_write (mVar 2) (mCons (mC (.int 1)) (mCons (mCB fLst (mCons (mC (.int 1)) (mCons (mC (.int 2)) mNil))) mNil))))
  (sSeq (sDrop (mMth 0 "write" 3 m_Disk_write (mVar 2) (mCons (mC (.int 3)) (mCons (mCB fLst mNil) mNil))))
  (sSeq (sAsg (mCB fTup (mCons (mMth 0 "blocks" 1 m_Disk_blocks (mVar 2) mNil) (mCons (mMth 0 "loose" 1 m_Disk_loose (mVar 2) mNil) mNil))) (gSet 3))
  (sSeq (sAsg (mOp fIx (mCB fLst (mCons (mC .none) (mCons (mC (.bool true)) (mCons (mC (.str ("6" : Str))) (mCons (mUn (uD DD.dNeg) (mC (.int 1))) (mCons (mCB fTup (mCons (mC (.int 6)) mNil)) (mCons (mC (.int 2001)) mNil))))))) (mC (.int x1))) (gSet 4))
  (sSeq (sAsg (mCB fLst (mCons (mCall 4 m__law_no (mCons (mC (.int 0)) (mCons (mVar 2) (mCons (mVar 4) (mCons (mC (.int 16)) mNil))))) (mCons (mCall 4 m__law_no (mCons (mC (.int 0)) (mCons (mVar 2) (mCons (mC (.int 6)) (mCons (mVar 4) mNil))))) (mCons (mCall 4 m__law_no (mCons (mC (.int 0)) (mCons (mVar 2) (mCons (mC (.int 5)) (mCons (mC (.int 16)) mNil))))) mNil)))) (gSet 5))
  (sSeq (sIf (bTest (mOp (oD DD.dNe) (mOp fCat (mVar 5) (mCB fLst (mCons (mCall 4 m__law_no (mCons (mC (.int 0)) (mCons (mVar 2) (mCons (mC (.int 6)) (mCons (mC (.int 15)) mNil))))) (mCons (mCall 4 m__law_no (mCons (mC (.int 0)) (mCons (mVar 2) (mCons (mC (.int 6)) (mCons (mC (.int 401)) mNil))))) mNil)))) (mOp fRep (mCB fLst (mCons (mC (.int 0)) mNil)) (mC (.int 5)))))
  (sRet (mC (.bool false)))
  sNext)
  (sSeq (sAsg (mOp fIx (mCB fLst (mCons (mC .none) (mCons (mCB fTup (mCons (mC (.int 1)) mNil)) (mCons (mCB fLst (mCons (mC (.int 10000)) mNil)) (mCons (mCB fLst (mCons (mUn (uD DD.dNeg) (mC (.int 1))) mNil)) (mCons (mCB fLst (mCons (mC (.bool true)) mNil)) (mCons (mCB fLst (mCons (mC .none) mNil)) (mCons (mOp fRep (mCB fLst (mCons (mC (.int 0)) mNil)) (mOp (oD DD.dAdd) (mVar 1) (mC (.int 1)))) (mCons (mC (.int 7)) mNil))))))))) (mC (.int x2))) (gSet 6))
  (sSeq (sAsg (mCB fLst (mCons (mCall 4 m__law_no (mCons (mC (.int 1)) (mCons (mVar 2) (mCons (mC (.int 6)) (mCons (mVar 6) mNil))))) (mCons (mCall 4 m__law_no (mCons (mC (.int 1)) (mCons (mVar 2) (mCons (mVar 4) (mCons (mCB fLst (mCons (mC (.int 1)) mNil)) mNil))))) (mCons (mCall 4 m__law_no (mCons (mC (.int 1)) (mCons (mVar 2) (mCons (mC (.int 2)) (mCons (mVar 6) mNil))))) mNil)))) (gSet 5))
  (sSeq (sIf (bTest (mOp (oD DD.dNe) (mOp fCat (mVar 5) (mCB fLst (mCons (mCall 4 m__law_no (mCons (mC (.int 2)) (mCons (mVar 2) (mCons (mC (.int 6)) (mCons (mC (.int 0)) mNil))))) (mCons (mCall 4 m__law_no (mCons (mC (.int 2)) (mCons (mVar 2) (mCons (mVar 4) (mCons (mC (.int 0)) mNil))))) mNil)))) (mCB fLst (mCons (mC (.int 0)) (mCons (mC (.int 0)) (mCons (mC (.int 1)) (mCons (mC (.int 0)) (mCons (mC (.int 0)) mNil))))))))
  (sRet (mC (.bool false)))
  sNext)
  (sSeq (sAsg (mCB fLst (mCons (mC .none) (mCons (mCB fLst mNil) (mCons (mCB fLst (mCons (mC (.bool true)) mNil)) (mCons (mOp fRep (mCB fLst (mCons (mC (.bool true)) mNil)) (mC (.int 3))) (mCons (mCB fTup (mCons (mC (.bool true)) (mCons (mC (.bool true)) mNil))) (mCons (mCB fLst (mCons (mC (.bool true)) (mCons (mC (.int 1)) mNil))) (mCons (mCB fLst (mCons (mC (.int 0)) (mCons (mC (.int 0)) mNil))) (mCons (mCB fLst (mCons (mC .none) (mCons (mC .none) mNil))) (mCons (mC (.int 7)) mNil)))))))))) (gSet 7))
  (sSeq (sIf (bTest (mOp (oD DD.dNe) (mLc (mIter (mVar 7)) (gSet 8) (bTest (mOp (oD DD.dNe) (mCall 4 m__law_no (mCons (mC (.int 3)) (mCons (mVar 2) (mCons (mVar 8) (mCons (mC (.int 0)) mNil))))) (mC (.int 2)))) (mVar 8) [8]) (mCB fLst mNil)))
  (sRet (mC (.bool false)))
  sNext)
  (sSeq (sIf (bTest (mOp (oD DD.dNe) (mCB fTup (mCons (mMth 0 "blocks" 1 m_Disk_blocks (mVar 2) mNil) (mCons (mMth 0 "loose" 1 m_Disk_loose (mVar 2) mNil) mNil))) (mVar 3)))
  (sRet (mC (.bool false)))
  sNext)
  (sSeq (sIf (bNot (bTest (mOp (oD DD.dIs) (mCall 4 m__law_no (mCons (mC (.int 3)) (mCons (mVar 2) (mCons (mCB fLst (mCons (mC (.bool true)) (mCons (mC (.bool false)) mNil))) (mCons (mC (.int 0)) mNil))))) (mC .none))))
  (sRet (mC (.bool false)))
  sNext)
  (sRet (mOp (oD DD.dEq) (mSl fSl (mMth 0 "block" 2 m_Disk_block (mVar 2) (mCons (mC (.int 1)) mNil)) pNo (pPart (mC (.int 3)))) (mCB fTup (mCons (mC (.int 1)) (mCons (mC (.int 2)) (mCons (mC (.int 0)) mNil)))))))))))))))))))))
def yes : Rs W → Bool
  | .ok (.dat (.bool true)) _ => true
  | _ => false
def runQ (x : W) (a b c : Nat) : Bool := yes (mDef 9 (q_law a b c) [x] Sto.empty)
theorem run_all (x : W) : ((List.range 9).all fun a => (List.range 6).all fun b => (List.range 8).all fun c => runQ x a b c) = true := by kernel_rfl
end EV

set_option Elab.async false
set_option linter.all false
set_option maxRecDepth 100000
set_option maxHeartbeats 4000000
namespace EV
open PySem PySem.Spec PyProof.Rows L2
open DD (D)
local instance : DD.TabQ := ⟨[]⟩
local instance : DD.ExQ := ⟨0, 0⟩
theorem eqs_law {ns : List Int} {d0 d1 d2 : Int} (h0 : DD.m__law_drawn [.list (ns.map .int), .int 0, .int 9] = some (.int d0)) (h1 : DD.m__law_drawn [.list (ns.map .int), .int 1, .int 6] = some (.int d1)) (h2 : DD.m__law_drawn [.list (ns.map .int), .int 2, .int 8] = some (.int d2)) :
    Eqs (.frz (ns.map .int)) b_law (q_law d0 d1 d2) :=
  (eqs_seq (eqs_set (eqe_op eqe_refl (eqe_draw h0) (fun _ _ _ _ _ _ => trivial))) (keeps_set (by decide)) (eqs_seq eqs_refl (keeps_set (by decide)) (eqs_seq eqs_refl keeps_drop (eqs_seq eqs_refl keeps_drop (eqs_seq eqs_refl (keeps_set (by decide)) (eqs_seq (eqs_set (eqe_op eqe_refl (eqe_draw h1) (fun _ _ _ _ _ _ => trivial))) (keeps_set (by decide)) (eqs_seq eqs_refl (keeps_set (by decide)) (eqs_seq eqs_refl (keeps_if keeps_ret keeps_next) (eqs_seq (eqs_set (eqe_op eqe_refl (eqe_draw h2) (fun _ _ _ _ _ _ => trivial))) (keeps_set (by decide)) (eqs_seq eqs_refl (keeps_set (by decide)) (eqs_seq eqs_refl (keeps_if keeps_ret keeps_next) (eqs_seq eqs_refl (keeps_set (by decide)) (eqs_seq eqs_refl (keeps_if keeps_ret keeps_next) (eqs_seq eqs_refl (keeps_if keeps_ret keeps_next) (eqs_seq eqs_refl (keeps_if keeps_ret keeps_next) eqs_refl)))))))))))))))
theorem yes_some {r : Rs W} (h : yes r = true) : ∃ S, r = .ok (.dat (.bool true)) S := by
  unfold yes at h
  split at h
  · exact ⟨_, rfl⟩
  · cases h
theorem law_true (ns : List Int) (hl : ns.length ≤ 63) : ∃ S, m_law [.frz (ns.map .int)] Sto.empty = .ok (.dat (.bool true)) S := by
  obtain ⟨d0, h0, a0, b0⟩ := DD.drawn_ok ns hl 0 9 (by decide) (by decide) (by decide) (by decide)
  obtain ⟨d1, h1, a1, b1⟩ := DD.drawn_ok ns hl 1 6 (by decide) (by decide) (by decide) (by decide)
  obtain ⟨d2, h2, a2, b2⟩ := DD.drawn_ok ns hl 2 8 (by decide) (by decide) (by decide) (by decide)
  obtain ⟨x, rfl⟩ := Int.eq_ofNat_of_zero_le a0
  obtain ⟨y, rfl⟩ := Int.eq_ofNat_of_zero_le a1
  obtain ⟨z, rfl⟩ := Int.eq_ofNat_of_zero_le a2
  have e : m_law [.frz (ns.map .int)] Sto.empty = mDef 9 (q_law x y z) [.frz (ns.map .int)] Sto.empty := eqs_def (eqs_law h0 h1 h2)
  rw [e]
  have r := run_all (.frz (ns.map .int))
  rw [List.all_eq_true] at r
  have r := r x (List.mem_range.mpr (by omega))
  rw [List.all_eq_true] at r
  have r := r y (List.mem_range.mpr (by omega))
  rw [List.all_eq_true] at r
  exact yes_some (r z (List.mem_range.mpr (by omega)))
theorem ints_pur : ∀ ns : List Int, purs (ns.map PyData.int) = true
  | [] => by simp [purs]
  | n :: r => by
    show purs (.int n :: r.map PyData.int) = true
    rw [purs_cons, ints_pur r]
    simp [pur]
theorem gs_empty {F : Cf} {H : Hp} : GS F [] Sto.empty H := by
  refine ⟨rfl, fun i c h => ?_, fun i a h => ?_, fun i j a h => ?_, fun p hp => absurd (show p ∈ [] from hp) List.not_mem_nil⟩
  · rw [Sto.get_empty] at h
    cases h
  · rw [List.getElem?_nil] at h
    cases h
  · rw [List.getElem?_nil] at h
    cases h
def spL (K : PySem.W.Frag) : Sp := fun vs H Q _ => ∃ (a : Addr) (ns : List Int), vs = [.ref a] ∧ ns.length ≤ 63 ∧ Only H ∧ SqL K H a (ns.map V.int) ∧ ∀ v H', v = .bl true → Q v H'
theorem sp_law {F : Cf} {vs : List V} {H : Hp} {Q : VK} {E : XK} (h : spL F.K vs H Q E) : spV F 1 m_law vs H Q E := by
  obtain ⟨a, ns, rfl, hl, o, hS, q⟩ := h
  obtain ⟨S, e⟩ := law_true ns hl
  refine ⟨[], Sto.empty, [.frz (ns.map .int)], gs_empty, .cons (.frz (.of o hS) (DD.dpa_ints ns) (ints_pur ns)) .nil, rfl, ?_⟩
  rw [e]
  exact fun v φ' H' _ _ r => q v H' (rv_bool r)
theorem fn_weak {P : Program} {w : World} {K : PySem.W.Frag} {mg : Str → Option Value} {base : Heap} {CX : CXT} {k : Nat} {f : Addr} {fd : FuncData} {ps : List Str} {sp sp' : Sp} (F : FnOk P w K mg base CX k f fd ps sp) (h : ∀ vs H Q E, sp' vs H Q E → sp vs H Q E) : FnOk P w K mg base CX k f fd ps sp' :=
  ⟨fun vs H Q E x => F.len vs H Q E (h _ _ _ _ x), fun A outer s H args us vs Q E hr e0 hb r x => F.run A outer s H args us vs Q E hr e0 hb r (h _ _ _ _ x)⟩
theorem no_cx {P : Program} {w : World} {outer : List PySem.Env} {H : Hp} {s : Shared} {u : Value} {s' : Shared} (h : L2.CX P w outer H s (fun _ _ _ => False) u s') : False := by
  obtain ⟨_, _, _, _, _, _, _, _, _, _, _, _, z⟩ := h
  exact z
end EV

set_option Elab.async false
set_option linter.all false
set_option maxRecDepth 100000
set_option maxHeartbeats 4000000
namespace DD
open PySem PySem.Spec PyProof.Rows L2
open EV
local instance : TabQ := ⟨[]⟩
local instance : ExQ := ⟨0, 0⟩
theorem all_mk {w : World} {K : PySem.W.Frag} {h : Heap} {mg : Str → Option Value} {fa : Addr} (X : K.In h) (G : h.Ns mainGlobals mg) (hfa : mg "law" = some (.ref fa))
    {fC_Disk : Addr} (aC_Disk : PySem.W.nsIn K mainGlobals "Disk" = some (some (.ref fC_Disk))) (c1_Disk : PySem.W.plainGet K fC_Disk Str.empty = true) (c2_Disk : PySem.W.hasDictIn K fC_Disk = true) (c3_Disk : PySem.W.plainOver K fC_Disk = true) (c4_Disk : PySem.W.findIn K (.ref fC_Disk) "__setattr__" = some (some (.builtin "object.__setattr__"))) (c5_Disk : PySem.W.makesIn K fC_Disk = true) (c6_Disk : PySem.W.keepIn K (.ref fC_Disk) = true)
    (na_Disk__last : PySem.W.findIn K (.ref fC_Disk) "_last" = some none)
    (na_Disk__settled : PySem.W.findIn K (.ref fC_Disk) "_settled" = some none)
    (na_Disk__size : PySem.W.findIn K (.ref fC_Disk) "_size" = some none)
    (na_Disk__writings : PySem.W.findIn K (.ref fC_Disk) "_writings" = some none)
    {f1 : Addr} {od1 an1 : Option Addr} {sl1 : Array (Option Value)} {oc1 kV1 dc1 pm1 cd1 ct1 : Value}
    (a1 : PySem.W.nsIn K mainGlobals "is_whole" = some (some (.ref f1))) (l1 : K.lookup f1 = some ⟨oc1, od1, .func (PySem.W.fnOf "is_whole" "is_whole" (defArgs s_is_whole) (defBody s_is_whole) (defScope s_is_whole) .none kV1 dc1 pm1 an1 cd1 ct1), sl1⟩) (c1 : PySem.W.codeIn K cd1 "is_whole" = true) (k1 : PySem.W.keepIn K (.ref f1) = true)
    {f2 : Addr} {od2 an2 : Option Addr} {sl2 : Array (Option Value)} {oc2 kV2 dc2 pm2 cd2 ct2 : Value}
    (a2 : PySem.W.nsIn K mainGlobals "are_words" = some (some (.ref f2))) (l2 : K.lookup f2 = some ⟨oc2, od2, .func (PySem.W.fnOf "are_words" "are_words" (defArgs s_are_words) (defBody s_are_words) (defScope s_are_words) .none kV2 dc2 pm2 an2 cd2 ct2), sl2⟩) (c2 : PySem.W.codeIn K cd2 "are_words" = true) (k2 : PySem.W.keepIn K (.ref f2) = true)
    {f3 : Addr} {od3 an3 : Option Addr} {sl3 : Array (Option Value)} {oc3 kV3 dc3 pm3 cd3 ct3 : Value}
    (a3 : PySem.W.nsIn K mainGlobals "_are_choices" = some (some (.ref f3))) (l3 : K.lookup f3 = some ⟨oc3, od3, .func (PySem.W.fnOf "_are_choices" "_are_choices" (defArgs s__are_choices) (defBody s__are_choices) (defScope s__are_choices) .none kV3 dc3 pm3 an3 cd3 ct3), sl3⟩) (c3 : PySem.W.codeIn K cd3 "_are_choices" = true) (k3 : PySem.W.keepIn K (.ref f3) = true)
    {f4 : Addr} {od4 an4 : Option Addr} {sl4 : Array (Option Value)} {oc4 kV4 dc4 pm4 cd4 ct4 : Value}
    (a4 : PySem.W.nsIn K mainGlobals "_law_drawn" = some (some (.ref f4))) (l4 : K.lookup f4 = some ⟨oc4, od4, .func (PySem.W.fnOf "_law_drawn" "_law_drawn" (defArgs s__law_drawn) (defBody s__law_drawn) (defScope s__law_drawn) .none kV4 dc4 pm4 an4 cd4 ct4), sl4⟩) (c4 : PySem.W.codeIn K cd4 "_law_drawn" = true) (k4 : PySem.W.keepIn K (.ref f4) = true)
    {f5 : Addr} {od5 an5 : Option Addr} {sl5 : Array (Option Value)} {oc5 kV5 dc5 pm5 cd5 ct5 : Value}
    (a5 : PySem.W.findIn K (.ref fC_Disk) "__init__" = some (some (.ref f5))) (l5 : K.lookup f5 = some ⟨oc5, od5, .func (PySem.W.fnOf "__init__" "Disk.__init__" (defArgs s_Disk___init__) (defBody s_Disk___init__) (defScope s_Disk___init__) .none kV5 dc5 pm5 an5 cd5 ct5), sl5⟩) (c5 : PySem.W.codeIn K cd5 "Disk.__init__" = true) (k5 : PySem.W.keepIn K (.ref f5) = true)
    (n5 : PySem.W.isFn K (.ref f5) = true)
    {f6 : Addr} {od6 an6 : Option Addr} {sl6 : Array (Option Value)} {oc6 kV6 dc6 pm6 cd6 ct6 : Value}
    (a6 : PySem.W.findIn K (.ref fC_Disk) "_demand" = some (some (.ref f6))) (l6 : K.lookup f6 = some ⟨oc6, od6, .func (PySem.W.fnOf "_demand" "Disk._demand" (defArgs s_Disk__demand) (defBody s_Disk__demand) (defScope s_Disk__demand) .none kV6 dc6 pm6 an6 cd6 ct6), sl6⟩) (c6 : PySem.W.codeIn K cd6 "Disk._demand" = true) (k6 : PySem.W.keepIn K (.ref f6) = true)
    (n6 : PySem.W.isFn K (.ref f6) = true)
    {f7 : Addr} {od7 an7 : Option Addr} {sl7 : Array (Option Value)} {oc7 kV7 dc7 pm7 cd7 ct7 : Value}
    (a7 : PySem.W.findIn K (.ref fC_Disk) "block" = some (some (.ref f7))) (l7 : K.lookup f7 = some ⟨oc7, od7, .func (PySem.W.fnOf "block" "Disk.block" (defArgs s_Disk_block) (defBody s_Disk_block) (defScope s_Disk_block) .none kV7 dc7 pm7 an7 cd7 ct7), sl7⟩) (c7 : PySem.W.codeIn K cd7 "Disk.block" = true) (k7 : PySem.W.keepIn K (.ref f7) = true)
    (n7 : PySem.W.isFn K (.ref f7) = true)
    {f8 : Addr} {od8 an8 : Option Addr} {sl8 : Array (Option Value)} {oc8 kV8 dc8 pm8 cd8 ct8 : Value}
    (a8 : PySem.W.findIn K (.ref fC_Disk) "blocks" = some (some (.ref f8))) (l8 : K.lookup f8 = some ⟨oc8, od8, .func (PySem.W.fnOf "blocks" "Disk.blocks" (defArgs s_Disk_blocks) (defBody s_Disk_blocks) (defScope s_Disk_blocks) .none kV8 dc8 pm8 an8 cd8 ct8), sl8⟩) (c8 : PySem.W.codeIn K cd8 "Disk.blocks" = true) (k8 : PySem.W.keepIn K (.ref f8) = true)
    (n8 : PySem.W.isFn K (.ref f8) = true)
    {f9 : Addr} {od9 an9 : Option Addr} {sl9 : Array (Option Value)} {oc9 kV9 dc9 pm9 cd9 ct9 : Value}
    (a9 : PySem.W.findIn K (.ref fC_Disk) "loose" = some (some (.ref f9))) (l9 : K.lookup f9 = some ⟨oc9, od9, .func (PySem.W.fnOf "loose" "Disk.loose" (defArgs s_Disk_loose) (defBody s_Disk_loose) (defScope s_Disk_loose) .none kV9 dc9 pm9 an9 cd9 ct9), sl9⟩) (c9 : PySem.W.codeIn K cd9 "Disk.loose" = true) (k9 : PySem.W.keepIn K (.ref f9) = true)
    (n9 : PySem.W.isFn K (.ref f9) = true)
    {f10 : Addr} {od10 an10 : Option Addr} {sl10 : Array (Option Value)} {oc10 kV10 dc10 pm10 cd10 ct10 : Value}
    (a10 : PySem.W.findIn K (.ref fC_Disk) "write" = some (some (.ref f10))) (l10 : K.lookup f10 = some ⟨oc10, od10, .func (PySem.W.fnOf "write" "Disk.write" (defArgs s_Disk_write) (defBody s_Disk_write) (defScope s_Disk_write) .none kV10 dc10 pm10 an10 cd10 ct10), sl10⟩) (c10 : PySem.W.codeIn K cd10 "Disk.write" = true) (k10 : PySem.W.keepIn K (.ref f10) = true)
    (n10 : PySem.W.isFn K (.ref f10) = true)
    {f11 : Addr} {od11 an11 : Option Addr} {sl11 : Array (Option Value)} {oc11 kV11 dc11 pm11 cd11 ct11 : Value}
    (a11 : PySem.W.findIn K (.ref fC_Disk) "fall" = some (some (.ref f11))) (l11 : K.lookup f11 = some ⟨oc11, od11, .func (PySem.W.fnOf "fall" "Disk.fall" (defArgs s_Disk_fall) (defBody s_Disk_fall) (defScope s_Disk_fall) .none kV11 dc11 pm11 an11 cd11 ct11), sl11⟩) (c11 : PySem.W.codeIn K cd11 "Disk.fall" = true) (k11 : PySem.W.keepIn K (.ref f11) = true)
    (n11 : PySem.W.isFn K (.ref f11) = true)
    {f12 : Addr} {od12 an12 : Option Addr} {sl12 : Array (Option Value)} {oc12 kV12 dc12 pm12 cd12 ct12 : Value}
    (a12 : PySem.W.nsIn K mainGlobals "_law_no" = some (some (.ref f12))) (l12 : K.lookup f12 = some ⟨oc12, od12, .func (PySem.W.fnOf "_law_no" "_law_no" (defArgs s__law_no) (defBody s__law_no) (defScope s__law_no) .none kV12 dc12 pm12 an12 cd12 ct12), sl12⟩) (c12 : PySem.W.codeIn K cd12 "_law_no" = true) (k12 : PySem.W.keepIn K (.ref f12) = true)
    {f13 : Addr} {od13 an13 : Option Addr} {sl13 : Array (Option Value)} {oc13 kV13 dc13 pm13 cd13 ct13 : Value}
    (a13 : PySem.W.nsIn K mainGlobals "law" = some (some (.ref f13))) (l13 : K.lookup f13 = some ⟨oc13, od13, .func (PySem.W.fnOf "law" "law" (defArgs s_law) (defBody s_law) (defScope s_law) .none kV13 dc13 pm13 an13 cd13 ct13), sl13⟩) (c13 : PySem.W.codeIn K cd13 "law" = true) (k13 : PySem.W.keepIn K (.ref f13) = true)
    {f14 : Addr} {od14 an14 : Option Addr} {sl14 : Array (Option Value)} {oc14 kV14 dc14 pm14 cd14 ct14 : Value}
    (a14 : PySem.W.findIn K (.ref fC_Disk) "__len__" = some (some (.ref f14))) (l14 : K.lookup f14 = some ⟨oc14, od14, .func (PySem.W.fnOf "__len__" "Disk.__len__" (defArgs s_Disk___len__) (defBody s_Disk___len__) (defScope s_Disk___len__) .none kV14 dc14 pm14 an14 cd14 ct14), sl14⟩) (c14 : PySem.W.codeIn K cd14 "Disk.__len__" = true) (k14 : PySem.W.keepIn K (.ref f14) = true)
    (n14 : PySem.W.isFn K (.ref f14) = true)
    {t15 : Tok} (c_LEAST_BLOCKS : PySem.W.nsIn K mainGlobals "LEAST_BLOCKS" = some (some (.int (6) t15)))
    {t16 : Tok} (c_MOST_BLOCKS : PySem.W.nsIn K mainGlobals "MOST_BLOCKS" = some (some (.int (2000) t16)))
    {t17 : Tok} (c_LEAST_SIZE : PySem.W.nsIn K mainGlobals "LEAST_SIZE" = some (some (.int (16) t17)))
    {t18 : Tok} (c_MOST_SIZE : PySem.W.nsIn K mainGlobals "MOST_SIZE" = some (some (.int (400) t18)))
    {t19 : Tok} (c_GREATEST_WORD : PySem.W.nsIn K mainGlobals "GREATEST_WORD" = some (some (.int (9999) t19)))
    {f20 : Addr} (a_YardError : PySem.W.nsIn K mainGlobals "YardError" = some (some (.ref f20)))
    (kb_YardError : PySem.W.subIn K (.ref f20) (.type "BaseException") = some true) (kd_YardError : PySem.W.hasDictIn K f20 = true) (kt_YardError : PySem.W.typeIn K (.ref f20) = some (.type "type")) (ki_YardError : PySem.W.isClsIn K f20 = true) (ks_YardError : PySem.W.subIn K (.ref f20) (.ref f20) = some true)
    {f21 : Addr} (a_NoChoices : PySem.W.nsIn K mainGlobals "NoChoices" = some (some (.ref f21)))
    (kb_NoChoices : PySem.W.subIn K (.ref f21) (.type "BaseException") = some true) (kd_NoChoices : PySem.W.hasDictIn K f21 = true) (kt_NoChoices : PySem.W.typeIn K (.ref f21) = some (.type "type")) (ki_NoChoices : PySem.W.isClsIn K f21 = true) (ks_NoChoices : PySem.W.subIn K (.ref f21) (.ref f21) = some true)
    (kx_NoChoices : PySem.W.excIn K f21 [.type "ValueError", .type "Exception", .type "BaseException", .type "object"] "ValueError.__new__" = true) (kk_NoChoices : PySem.W.keepIn K (.ref f21) = true)
    (k1_NoChoices : PySem.W.findIn K (.ref f21) "__getattribute__" = some (some (.builtin "BaseException.__getattribute__"))) (k2_NoChoices : PySem.W.findIn K (.ref f21) "__getattr__" = some none) (k3_NoChoices : PySem.W.findIn K (.ref f21) "__class__" = some (some (.builtin "object.__class__"))) (k4_NoChoices : PySem.W.specialIn K (.builtin "object.__class__") "__get__" = some (some (.builtin "getset_descriptor.__get__"))) (k5_NoChoices : PySem.W.takesIn K (.builtin "object.__class__") = some true) (k6_NoChoices : PySem.W.mroIn K f21 (.type "object") = some true)
    {f22 : Addr} (a_NoNumber : PySem.W.nsIn K mainGlobals "NoNumber" = some (some (.ref f22)))
    (kb_NoNumber : PySem.W.subIn K (.ref f22) (.type "BaseException") = some true) (kd_NoNumber : PySem.W.hasDictIn K f22 = true) (kt_NoNumber : PySem.W.typeIn K (.ref f22) = some (.type "type")) (ki_NoNumber : PySem.W.isClsIn K f22 = true) (ks_NoNumber : PySem.W.subIn K (.ref f22) (.ref f22) = some true)
    (kx_NoNumber : PySem.W.excIn K f22 [.type "ValueError", .type "Exception", .type "BaseException", .type "object"] "ValueError.__new__" = true) (kk_NoNumber : PySem.W.keepIn K (.ref f22) = true)
    (k1_NoNumber : PySem.W.findIn K (.ref f22) "__getattribute__" = some (some (.builtin "BaseException.__getattribute__"))) (k2_NoNumber : PySem.W.findIn K (.ref f22) "__getattr__" = some none) (k3_NoNumber : PySem.W.findIn K (.ref f22) "__class__" = some (some (.builtin "object.__class__"))) (k4_NoNumber : PySem.W.specialIn K (.builtin "object.__class__") "__get__" = some (some (.builtin "getset_descriptor.__get__"))) (k5_NoNumber : PySem.W.takesIn K (.builtin "object.__class__") = some true) (k6_NoNumber : PySem.W.mroIn K f22 (.type "object") = some true)
    {f23 : Addr} (a_NoWords : PySem.W.nsIn K mainGlobals "NoWords" = some (some (.ref f23)))
    (kb_NoWords : PySem.W.subIn K (.ref f23) (.type "BaseException") = some true) (kd_NoWords : PySem.W.hasDictIn K f23 = true) (kt_NoWords : PySem.W.typeIn K (.ref f23) = some (.type "type")) (ki_NoWords : PySem.W.isClsIn K f23 = true) (ks_NoWords : PySem.W.subIn K (.ref f23) (.ref f23) = some true)
    (kx_NoWords : PySem.W.excIn K f23 [.type "ValueError", .type "Exception", .type "BaseException", .type "object"] "ValueError.__new__" = true) (kk_NoWords : PySem.W.keepIn K (.ref f23) = true)
    (k1_NoWords : PySem.W.findIn K (.ref f23) "__getattribute__" = some (some (.builtin "BaseException.__getattribute__"))) (k2_NoWords : PySem.W.findIn K (.ref f23) "__getattr__" = some none) (k3_NoWords : PySem.W.findIn K (.ref f23) "__class__" = some (some (.builtin "object.__class__"))) (k4_NoWords : PySem.W.specialIn K (.builtin "object.__class__") "__get__" = some (some (.builtin "getset_descriptor.__get__"))) (k5_NoWords : PySem.W.takesIn K (.builtin "object.__class__") = some true) (k6_NoWords : PySem.W.mroIn K f23 (.type "object") = some true)
    (kp_NoChoices_NoChoices : PySem.W.subIn K (.ref f21) (.ref f21) = some true)
    (kp_NoChoices_NoNumber : PySem.W.subIn K (.ref f21) (.ref f22) = some false)
    (kp_NoChoices_NoWords : PySem.W.subIn K (.ref f21) (.ref f23) = some false)
    (kp_NoChoices_YardError : PySem.W.subIn K (.ref f21) (.ref f20) = some true)
    (kp_NoNumber_NoChoices : PySem.W.subIn K (.ref f22) (.ref f21) = some false)
    (kp_NoNumber_NoNumber : PySem.W.subIn K (.ref f22) (.ref f22) = some true)
    (kp_NoNumber_NoWords : PySem.W.subIn K (.ref f22) (.ref f23) = some false)
    (kp_NoNumber_YardError : PySem.W.subIn K (.ref f22) (.ref f20) = some true)
    (kp_NoWords_NoChoices : PySem.W.subIn K (.ref f23) (.ref f21) = some false)
    (kp_NoWords_NoNumber : PySem.W.subIn K (.ref f23) (.ref f22) = some false)
    (kp_NoWords_NoWords : PySem.W.subIn K (.ref f23) (.ref f23) = some true)
    (kp_NoWords_YardError : PySem.W.subIn K (.ref f23) (.ref f20) = some true)
    (z_isinstance : PySem.W.nsIn K mainGlobals "isinstance" = some none)
    (z_len : PySem.W.nsIn K mainGlobals "len" = some none)
    (z_zip : PySem.W.nsIn K mainGlobals "zip" = some none)
    (z_list : PySem.W.nsIn K mainGlobals "list" = some none)
    (z_tuple : PySem.W.nsIn K mainGlobals "tuple" = some none)
    (z_int : PySem.W.nsIn K mainGlobals "int" = some none)
    (z_bool : PySem.W.nsIn K mainGlobals "bool" = some none)
    (z_all : PySem.W.nsIn K mainGlobals "all" = some none) :
    ∃ fd : FuncData, (∀ (s : Shared) (v : Value), BindsTo s fd ⟨[v], []⟩ [("_law_script", v)]) ∧ ∀ base : Heap, K.In base → base.Ns mainGlobals mg → FnOk PySem.Challenge.rw_batchyard_k55_disk_refusals.prog w K mg base (L2.CX PySem.Challenge.rw_batchyard_k55_disk_refusals.prog w) 5 fa fd ["_law_script"] (EV.spL K) := by
  have e := hfa.symm.trans (PySem.W.mg_of X G a13)
  cases e
  have F1 := fun_mk (st := s_is_whole) l1 c1 k1
  have F2 := fun_mk (st := s_are_words) l2 c2 k2
  have F3 := fun_mk (st := s__are_choices) l3 c3 k3
  have F4 := fun_mk (st := s__law_drawn) l4 c4 k4
  have F5 := fun_mk (st := s_Disk___init__) l5 c5 k5
  have F6 := fun_mk (st := s_Disk__demand) l6 c6 k6
  have F7 := fun_mk (st := s_Disk_block) l7 c7 k7
  have F8 := fun_mk (st := s_Disk_blocks) l8 c8 k8
  have F9 := fun_mk (st := s_Disk_loose) l9 c9 k9
  have F10 := fun_mk (st := s_Disk_write) l10 c10 k10
  have F11 := fun_mk (st := s_Disk_fall) l11 c11 k11
  have F12 := fun_mk (st := s__law_no) l12 c12 k12
  have F13 := fun_mk (st := s_law) l13 c13 k13
  have F14 := fun_mk (st := s_Disk___len__) l14 c14 k14
  let T : Tx K w mg := {
    C_Disk := fC_Disk, g_Disk := PySem.W.mg_of X G aC_Disk, cls_Disk := ⟨c1_Disk, c2_Disk, c3_Disk, c4_Disk⟩,
    na_Disk__last := na_Disk__last,
    na_Disk__settled := na_Disk__settled,
    na_Disk__size := na_Disk__size,
    na_Disk__writings := na_Disk__writings,
    f_is_whole := f1, d_is_whole := _, F_is_whole := F1, b_is_whole := F1.binds (ps := ["thing", "low", "high"]) fun _ _ _ _ _ _ us hl => match us, hl with | [_, _, _], _ => rfl, g_is_whole := PySem.W.mg_of X G a1,
    f_are_words := f2, d_are_words := _, F_are_words := F2, b_are_words := F2.binds (ps := ["thing"]) fun _ _ _ _ _ _ us hl => match us, hl with | [_], _ => rfl, g_are_words := PySem.W.mg_of X G a2,
    f__are_choices := f3, d__are_choices := _, F__are_choices := F3, b__are_choices := F3.binds (ps := ["thing", "many"]) fun _ _ _ _ _ _ us hl => match us, hl with | [_, _], _ => rfl, g__are_choices := PySem.W.mg_of X G a3,
    f__law_drawn := f4, d__law_drawn := _, F__law_drawn := F4, b__law_drawn := F4.binds (ps := ["_law_script", "_law_k", "_law_many"]) fun _ _ _ _ _ _ us hl => match us, hl with | [_, _, _], _ => rfl, g__law_drawn := PySem.W.mg_of X G a4,
    f_Disk___init__ := f5, d_Disk___init__ := _, F_Disk___init__ := F5, b_Disk___init__ := F5.binds (ps := ["self", "blocks", "size"]) fun _ _ _ _ _ _ us hl => match us, hl with | [_, _, _], _ => rfl,
    mk_Disk := ⟨c5_Disk, a5, n5, c6_Disk⟩,
    f_Disk__demand := f6, d_Disk__demand := _, F_Disk__demand := F6, b_Disk__demand := F6.binds (ps := ["self", "number"]) fun _ _ _ _ _ _ us hl => match us, hl with | [_, _], _ => rfl,
    me_Disk__demand := ⟨a6, n6, k6⟩,
    f_Disk_block := f7, d_Disk_block := _, F_Disk_block := F7, b_Disk_block := F7.binds (ps := ["self", "number"]) fun _ _ _ _ _ _ us hl => match us, hl with | [_, _], _ => rfl,
    me_Disk_block := ⟨a7, n7, k7⟩,
    f_Disk_blocks := f8, d_Disk_blocks := _, F_Disk_blocks := F8, b_Disk_blocks := F8.binds (ps := ["self"]) fun _ _ _ _ _ _ us hl => match us, hl with | [_], _ => rfl,
    me_Disk_blocks := ⟨a8, n8, k8⟩,
    f_Disk_loose := f9, d_Disk_loose := _, F_Disk_loose := F9, b_Disk_loose := F9.binds (ps := ["self"]) fun _ _ _ _ _ _ us hl => match us, hl with | [_], _ => rfl,
    me_Disk_loose := ⟨a9, n9, k9⟩,
    f_Disk_write := f10, d_Disk_write := _, F_Disk_write := F10, b_Disk_write := F10.binds (ps := ["self", "number", "words"]) fun _ _ _ _ _ _ us hl => match us, hl with | [_, _, _], _ => rfl,
    me_Disk_write := ⟨a10, n10, k10⟩,
    f_Disk_fall := f11, d_Disk_fall := _, F_Disk_fall := F11, b_Disk_fall := F11.binds (ps := ["self", "choices"]) fun _ _ _ _ _ _ us hl => match us, hl with | [_, _], _ => rfl,
    me_Disk_fall := ⟨a11, n11, k11⟩,
    f__law_no := f12, d__law_no := _, F__law_no := F12, b__law_no := F12.binds (ps := ["_law_way", "_law_disk", "_law_one", "_law_other"]) fun _ _ _ _ _ _ us hl => match us, hl with | [_, _, _, _], _ => rfl, g__law_no := PySem.W.mg_of X G a12,
    f_law := fa, d_law := _, F_law := F13, b_law := F13.binds (ps := ["_law_script"]) fun _ _ _ _ _ _ us hl => match us, hl with | [_], _ => rfl, g_law := PySem.W.mg_of X G a13,
    f_Disk___len__ := f14, d_Disk___len__ := _, F_Disk___len__ := F14, b_Disk___len__ := F14.binds (ps := ["self"]) fun _ _ _ _ _ _ us hl => match us, hl with | [_], _ => rfl,
    ln_Disk := a14, lf_Disk := n14,
    t_LEAST_BLOCKS := t15, c_LEAST_BLOCKS := PySem.W.mg_of X G c_LEAST_BLOCKS,
    t_MOST_BLOCKS := t16, c_MOST_BLOCKS := PySem.W.mg_of X G c_MOST_BLOCKS,
    t_LEAST_SIZE := t17, c_LEAST_SIZE := PySem.W.mg_of X G c_LEAST_SIZE,
    t_MOST_SIZE := t18, c_MOST_SIZE := PySem.W.mg_of X G c_MOST_SIZE,
    t_GREATEST_WORD := t19, c_GREATEST_WORD := PySem.W.mg_of X G c_GREATEST_WORD,
    C_YardError := f20, g_YardError := PySem.W.mg_of X G a_YardError,
    C_NoChoices := f21, g_NoChoices := PySem.W.mg_of X G a_NoChoices,
    x_NoChoices := kx_NoChoices, k_NoChoices := kk_NoChoices, b_NoChoices := kb_NoChoices, t_NoChoices := kt_NoChoices,
    E_NoChoices := ⟨k1_NoChoices, k2_NoChoices, kb_NoChoices, kd_NoChoices, k3_NoChoices, k4_NoChoices, k5_NoChoices, k6_NoChoices⟩,
    C_NoNumber := f22, g_NoNumber := PySem.W.mg_of X G a_NoNumber,
    x_NoNumber := kx_NoNumber, k_NoNumber := kk_NoNumber, b_NoNumber := kb_NoNumber, t_NoNumber := kt_NoNumber,
    E_NoNumber := ⟨k1_NoNumber, k2_NoNumber, kb_NoNumber, kd_NoNumber, k3_NoNumber, k4_NoNumber, k5_NoNumber, k6_NoNumber⟩,
    C_NoWords := f23, g_NoWords := PySem.W.mg_of X G a_NoWords,
    x_NoWords := kx_NoWords, k_NoWords := kk_NoWords, b_NoWords := kb_NoWords, t_NoWords := kt_NoWords,
    E_NoWords := ⟨k1_NoWords, k2_NoWords, kb_NoWords, kd_NoWords, k3_NoWords, k4_NoWords, k5_NoWords, k6_NoWords⟩,
    e_NoChoices_YardError := PySem.W.exm_ref kb_YardError kd_YardError kt_YardError kp_NoChoices_YardError,
    e_NoNumber_YardError := PySem.W.exm_ref kb_YardError kd_YardError kt_YardError kp_NoNumber_YardError,
    e_NoWords_YardError := PySem.W.exm_ref kb_YardError kd_YardError kt_YardError kp_NoWords_YardError,
    q_NoChoices_NoChoices := kit_of ki_NoChoices kt_NoChoices kp_NoChoices_NoChoices ks_NoChoices,
    q_NoChoices_NoNumber := kit_of ki_NoNumber kt_NoNumber kp_NoChoices_NoNumber ks_NoNumber,
    q_NoChoices_NoWords := kit_of ki_NoWords kt_NoWords kp_NoChoices_NoWords ks_NoWords,
    q_NoNumber_NoChoices := kit_of ki_NoChoices kt_NoChoices kp_NoNumber_NoChoices ks_NoChoices,
    q_NoNumber_NoNumber := kit_of ki_NoNumber kt_NoNumber kp_NoNumber_NoNumber ks_NoNumber,
    q_NoNumber_NoWords := kit_of ki_NoWords kt_NoWords kp_NoNumber_NoWords ks_NoWords,
    q_NoWords_NoChoices := kit_of ki_NoChoices kt_NoChoices kp_NoWords_NoChoices ks_NoChoices,
    q_NoWords_NoNumber := kit_of ki_NoNumber kt_NoNumber kp_NoWords_NoNumber ks_NoNumber,
    q_NoWords_NoWords := kit_of ki_NoWords kt_NoWords kp_NoWords_NoWords ks_NoWords,
    n_isinstance := PySem.W.mg_none_of X G z_isinstance,
    n_len := PySem.W.mg_none_of X G z_len,
    n_zip := PySem.W.mg_none_of X G z_zip,
    n_list := PySem.W.mg_none_of X G z_list,
    n_tuple := PySem.W.mg_none_of X G z_tuple,
    n_int := PySem.W.mg_none_of X G z_int,
    n_bool := PySem.W.mg_none_of X G z_bool,
    n_all := PySem.W.mg_none_of X G z_all }
  exact ⟨PySem.W.fnOf "law" "law" (defArgs s_law) (defBody s_law) (defScope s_law) .none kV13 dc13 pm13 an13 cd13 ct13, fun s v => .of_eq rfl, fun base _ _ => EV.fn_weak (EV.ok_law T) fun vs H Q E h => EV.sp_law (F := EV.cf T) h⟩
end DD
open PySem PySem.W PyProof.Rows
set_option maxHeartbeats 0 in
theorem PySem.Challenge.cw_batchyard_k55_disk_refusals_holds : PySem.Challenge.rw_batchyard_k55_disk_refusals.Holds := by
  w_on; o_law; k_head; (case hw => w_witness2)
  k_fill
  refine L2.walk_of (l := PySem.Challenge.rw_batchyard_k55_disk_refusals) (n := 63) (k := 5) (x := "_law_script") (CX := fun w => L2.CX PySem.Challenge.rw_batchyard_k55_disk_refusals.prog w) (sp := fun w => EV.spL _) rfl (by decide) rfl ⟨rfl, by decide, by decide⟩ (fun w h Y => PySem.W.kIn_of Y) ?F (fun _ _ a ns hl o hS => ⟨a, ns, rfl, hl, o, hS, fun v H' e => e⟩) (fun _ _ _ _ _ h => EV.no_cx h)
  case F =>
    intro w mg fa h KX G hmg
    refine' DD.all_mk KX G hmg ?aC_Disk ?c1_Disk ?c2_Disk ?c3_Disk ?c4_Disk ?c5_Disk ?c6_Disk ?na_Disk__last ?na_Disk__settled ?na_Disk__size ?na_Disk__writings ?a1 ?l1 ?c1 ?k1 ?a2 ?l2 ?c2 ?k2 ?a3 ?l3 ?c3 ?k3 ?a4 ?l4 ?c4 ?k4 ?a5 ?l5 ?c5 ?k5 ?n5 ?a6 ?l6 ?c6 ?k6 ?n6 ?a7 ?l7 ?c7 ?k7 ?n7 ?a8 ?l8 ?c8 ?k8 ?n8 ?a9 ?l9 ?c9 ?k9 ?n9 ?a10 ?l10 ?c10 ?k10 ?n10 ?a11 ?l11 ?c11 ?k11 ?n11 ?a12 ?l12 ?c12 ?k12 ?a13 ?l13 ?c13 ?k13 ?a14 ?l14 ?c14 ?k14 ?n14 ?c_LEAST_BLOCKS ?c_MOST_BLOCKS ?c_LEAST_SIZE ?c_MOST_SIZE ?c_GREATEST_WORD ?a_YardError ?kb_YardError ?kd_YardError ?kt_YardError ?ki_YardError ?ks_YardError ?a_NoChoices ?kb_NoChoices ?kd_NoChoices ?kt_NoChoices ?ki_NoChoices ?ks_NoChoices ?kx_NoChoices ?kk_NoChoices ?k1_NoChoices ?k2_NoChoices ?k3_NoChoices ?k4_NoChoices ?k5_NoChoices ?k6_NoChoices ?a_NoNumber ?kb_NoNumber ?kd_NoNumber ?kt_NoNumber ?ki_NoNumber ?ks_NoNumber ?kx_NoNumber ?kk_NoNumber ?k1_NoNumber ?k2_NoNumber ?k3_NoNumber ?k4_NoNumber ?k5_NoNumber ?k6_NoNumber ?a_NoWords ?kb_NoWords ?kd_NoWords ?kt_NoWords ?ki_NoWords ?ks_NoWords ?kx_NoWords ?kk_NoWords ?k1_NoWords ?k2_NoWords ?k3_NoWords ?k4_NoWords ?k5_NoWords ?k6_NoWords ?kp_NoChoices_NoChoices ?kp_NoChoices_NoNumber ?kp_NoChoices_NoWords ?kp_NoChoices_YardError ?kp_NoNumber_NoChoices ?kp_NoNumber_NoNumber ?kp_NoNumber_NoWords ?kp_NoNumber_YardError ?kp_NoWords_NoChoices ?kp_NoWords_NoNumber ?kp_NoWords_NoWords ?kp_NoWords_YardError ?z_isinstance ?z_len ?z_zip ?z_list ?z_tuple ?z_int ?z_bool ?z_all
    (case aC_Disk => k_is); (case c1_Disk => first | k_is | rfl | decide +kernel); (case c2_Disk => first | k_is | rfl | decide +kernel); (case c3_Disk => first | k_is | rfl | decide +kernel); (case c4_Disk => first | k_is | rfl | decide +kernel); (case c5_Disk => first | k_is | rfl | decide +kernel); (case c6_Disk => first | k_is | rfl | decide +kernel); (case na_Disk__last => first | k_is | rfl | decide +kernel); (case na_Disk__settled => first | k_is | rfl | decide +kernel); (case na_Disk__size => first | k_is | rfl | decide +kernel); (case na_Disk__writings => first | k_is | rfl | decide +kernel); (case a1 => k_is); (case l1 => k_is); (case c1 => k_is); (case k1 => k_is); (case a2 => k_is); (case l2 => k_is); (case c2 => k_is); (case k2 => k_is); (case a3 => k_is); (case l3 => k_is); (case c3 => k_is); (case k3 => k_is); (case a4 => k_is); (case l4 => k_is); (case c4 => k_is); (case k4 => k_is); (case a5 => k_is); (case l5 => k_is); (case c5 => k_is); (case k5 => k_is); (case n5 => first | k_is | rfl | decide +kernel); (case a6 => k_is); (case l6 => k_is); (case c6 => k_is); (case k6 => k_is); (case n6 => first | k_is | rfl | decide +kernel); (case a7 => k_is); (case l7 => k_is); (case c7 => k_is); (case k7 => k_is); (case n7 => first | k_is | rfl | decide +kernel); (case a8 => k_is); (case l8 => k_is); (case c8 => k_is); (case k8 => k_is); (case n8 => first | k_is | rfl | decide +kernel); (case a9 => k_is); (case l9 => k_is); (case c9 => k_is); (case k9 => k_is); (case n9 => first | k_is | rfl | decide +kernel); (case a10 => k_is); (case l10 => k_is); (case c10 => k_is); (case k10 => k_is); (case n10 => first | k_is | rfl | decide +kernel); (case a11 => k_is); (case l11 => k_is); (case c11 => k_is); (case k11 => k_is); (case n11 => first | k_is | rfl | decide +kernel); (case a12 => k_is); (case l12 => k_is); (case c12 => k_is); (case k12 => k_is); (case a13 => k_is); (case l13 => k_is); (case c13 => k_is); (case k13 => k_is); (case a14 => k_is); (case l14 => k_is); (case c14 => k_is); (case k14 => k_is); (case n14 => first | k_is | rfl | decide +kernel); (case c_LEAST_BLOCKS => k_is); (case c_MOST_BLOCKS => k_is); (case c_LEAST_SIZE => k_is); (case c_MOST_SIZE => k_is); (case c_GREATEST_WORD => k_is); (case a_YardError => k_is); (case kb_YardError => k_is); (case kd_YardError => k_is); (case kt_YardError => k_is); (case ki_YardError => k_is); (case ks_YardError => first | k_is | rfl); (case a_NoChoices => k_is); (case kb_NoChoices => k_is); (case kd_NoChoices => k_is); (case kt_NoChoices => k_is); (case ki_NoChoices => k_is); (case ks_NoChoices => first | k_is | rfl); (case kx_NoChoices => k_exc); (case kk_NoChoices => k_is); (case k1_NoChoices => k_is); (case k2_NoChoices => k_is); (case k3_NoChoices => k_is); (case k4_NoChoices => k_is); (case k5_NoChoices => k_is); (case k6_NoChoices => k_is); (case a_NoNumber => k_is); (case kb_NoNumber => k_is); (case kd_NoNumber => k_is); (case kt_NoNumber => k_is); (case ki_NoNumber => k_is); (case ks_NoNumber => first | k_is | rfl); (case kx_NoNumber => k_exc); (case kk_NoNumber => k_is); (case k1_NoNumber => k_is); (case k2_NoNumber => k_is); (case k3_NoNumber => k_is); (case k4_NoNumber => k_is); (case k5_NoNumber => k_is); (case k6_NoNumber => k_is); (case a_NoWords => k_is); (case kb_NoWords => k_is); (case kd_NoWords => k_is); (case kt_NoWords => k_is); (case ki_NoWords => k_is); (case ks_NoWords => first | k_is | rfl); (case kx_NoWords => k_exc); (case kk_NoWords => k_is); (case k1_NoWords => k_is); (case k2_NoWords => k_is); (case k3_NoWords => k_is); (case k4_NoWords => k_is); (case k5_NoWords => k_is); (case k6_NoWords => k_is); (case kp_NoChoices_NoChoices => first | k_is | rfl); (case kp_NoChoices_NoNumber => first | k_is | rfl); (case kp_NoChoices_NoWords => first | k_is | rfl); (case kp_NoChoices_YardError => first | k_is | rfl); (case kp_NoNumber_NoChoices => first | k_is | rfl); (case kp_NoNumber_NoNumber => first | k_is | rfl); (case kp_NoNumber_NoWords => first | k_is | rfl); (case kp_NoNumber_YardError => first | k_is | rfl); (case kp_NoWords_NoChoices => first | k_is | rfl); (case kp_NoWords_NoNumber => first | k_is | rfl); (case kp_NoWords_NoWords => first | k_is | rfl); (case kp_NoWords_YardError => first | k_is | rfl); (case z_isinstance => k_is); (case z_len => k_is); (case z_zip => k_is); (case z_list => k_is); (case z_tuple => k_is); (case z_int => k_is); (case z_bool => k_is); (case z_all => k_is)
