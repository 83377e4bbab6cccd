import PyProof.Rows.All
import Wide.All
import OpenK.AllK
import Wide.FinOn
import HandS.Base
import HandS.Call
import HandS.List
import HandS.Comp
import HandS.Ends
import HandS.Words
import HandS.WordsList
import HandS.More
import HandS.Wide
import HandS.Text
import HandS.TupAny
import HandS.TupMul
import HandS.NoneIn
import HandS.Iter
import HandS.Set
import HandS.SetFor
import HandS.SetTxt0
import HandS.SetKeys
import HandS.SetBool
import PyProof.Rows.SortShellAny
import PyProof.Rows.RuleB_pow
import PyProof.P3Eq
import KE.GoesEnum
import HandS.IsInst
import HandS.StrMore
import PyProof.ReprRoads
import HandS.Exc
import HandS.ExcIs
import HandS.ExcField
import HandS.ExcInit
import HandS.ExcOwn
import HandS.Property
import KE.KCallOwn
import PyProof.InstNe
import HandS.WordsExc
import HandS.ExcInitHot
import KE.SortKeyHeap
import HandS.Star
import PyProof.NsCount
import HandS.Dict
import HandS.DictComp
import HandS.Zip
import KE.KDictZip
import HandS.ListItems
import HandS.ClsMeth
import PyProof.Rows.StrItems
import PyProof.Rows.StrSplitAre
import PyProof.Rows.StrFacts
import KE.KOpsOwn
import HandS.ListEq
import HandS.DeepEq
import PyProof.NeKinds
import KE.SortLaws
import HandS.Style
import PyProof.StrOps2
import HandS.TupSets
import KE.KeyNested
import HandS.Small
import PySem.Challenge.RW_marktables_k02_queries
/-! text Hd02 -/
set_option Elab.async false
open PySem PySem.W PyProof.Rows
set_option maxRecDepth 100000
set_option maxHeartbeats 0
open_top head02 for PySem.Challenge.rw_marktables_k02_queries
/-! text Pl0 -/
set_option Elab.async false
set_option linter.all false
set_option maxRecDepth 100000
/-! Pl: a layer of pure data over the readings of the hand layer. -/
namespace Pl
open PySem PySem.Spec PyProof.Rows L2

/-- pure data -/
inductive D where
  | non | bl (b : Bool) | int (i : Int) | str (x : Str) | obj (a : Addr)
  | tup (l : List D) | lst (l : List D) | ins (C : Addr) (ks : List Str) (l : List D)
  /-- a dict that no one changes -/
  | dct (ks : List L2.Key) (l : List D)

mutual
def Rep (K : PySem.W.Frag) (M : List Addr) (H : Hp) : D → V → Prop
  | .non, v => v = .non
  | .bl b, v => v = .bl b
  | .int i, v => v = .int i
  | .str x, v => v = .str x
  | .obj a, v => v = .ref a
  | .tup l, v => ∃ a xs, v = .ref a ∧ SqT K H a xs ∧ RepL K M H l xs
  | .lst l, v => ∃ a xs, v = .ref a ∧ a ∉ M ∧ H a = some (.lst xs) ∧ RepL K M H l xs
  | .ins C ks l, v => ∃ a dx fs, v = .ref a ∧ a ∉ M ∧ H a = some (.ins C dx fs) ∧ fs.map (·.1) = ks ∧ RepL K M H l (fs.map (·.2))
  | .dct ks l, v => ∃ a o fs, v = .ref a ∧ H a = some (.frz o (.dK fs)) ∧ fs.map (·.1) = ks ∧ RepL K M H l (fs.map (·.2))
def RepL (K : PySem.W.Frag) (M : List Addr) (H : Hp) : List D → List V → Prop
  | [], [] => True
  | d :: ds, v :: vs => Rep K M H d v ∧ RepL K M H ds vs
  | _, _ => False
end

def fixed : HO → Bool
  | .tup _ => true
  | .frz _ _ => true
  | _ => false
/-- all but what stands at M is as it was -/
def Gr (M : List Addr) (H H' : Hp) : Prop := ∀ a o, H a = some o → (a ∉ M ∨ fixed o = true) → H' a = some o
theorem Gr.refl (M : List Addr) (H : Hp) : Gr M H H := fun _ _ h _ => h
theorem Gr.trans {M : List Addr} {H H1 H2 : Hp} (a : Gr M H H1) (b : Gr M H1 H2) : Gr M H H2 := fun x o h m => b x o (a x o h m) m
theorem Gr.mono {M M' : List Addr} {H H' : Hp} (g : Gr M H H') (h : ∀ a ∈ M, a ∈ M') : Gr M' H H' := fun a o e m => g a o e (m.imp (fun q z => q (h a z)) id)
theorem Gr.new {M : List Addr} {H : Hp} {p : Addr} {o : HO} (h : H p = none) : Gr M H (upd H p o) := fun a u e _ => by
  rw [upd_ne (ne_of_none e h)]
  exact e
theorem Gr.put {M : List Addr} {H H' : Hp} {p : Addr} {o : HO} (g : Gr M H H') (h : H p = none) : Gr M H (upd H' p o) := fun a u e m => by
  rw [upd_ne (ne_of_none e h)]
  exact g a u e m
theorem Gr.none {M : List Addr} {H H' : Hp} {p : Addr} (g : Gr M H H') (h : H' p = none) (hp : p ∉ M) : H p = none := by
  cases q : H p with
  | none => rfl
  | some o =>
    rw [g p o q (.inl hp)] at h
    cases h

section
variable {K : PySem.W.Frag} {M M' : List Addr} {H H' : Hp}
theorem gr_rd {a : Addr} {o : HO} (g : Gr M H H') (hf : a ∉ M ∨ fixed o = true) (h : Rd H a o) : Rd H' a o := by
  rcases h with h | ⟨u, h⟩
  · exact .inl (g a _ h hf)
  · exact .inr ⟨u, g a _ h (.inr rfl)⟩
theorem gr_t {a : Addr} {xs : List V} (g : Gr M H H') (h : SqT K H a xs) : SqT K H' a xs := by
  rcases h with h | h
  · exact .inl (gr_rd g (.inr rfl) h)
  · exact .inr h
mutual
theorem Rep.gr (g : Gr M H H') : ∀ {d : D} {v : V}, Rep K M H d v → Rep K M H' d v
  | .non, _, h => h
  | .bl _, _, h => h
  | .int _, _, h => h
  | .str _, _, h => h
  | .obj _, _, h => h
  | .tup _, _, h => by
    obtain ⟨a, xs, e, q, r⟩ := h
    exact ⟨a, xs, e, gr_t g q, RepL.gr g r⟩
  | .lst _, _, h => by
    obtain ⟨a, xs, e, m, q, r⟩ := h
    exact ⟨a, xs, e, m, g a _ q (.inl m), RepL.gr g r⟩
  | .ins _ _ _, _, h => by
    obtain ⟨a, dx, fs, e, m, q, k, r⟩ := h
    exact ⟨a, dx, fs, e, m, g a _ q (.inl m), k, RepL.gr g r⟩
  | .dct _ _, _, h => by
    obtain ⟨a, o, fs, e, q, k, r⟩ := h
    exact ⟨a, o, fs, e, g a _ q (.inr rfl), k, RepL.gr g r⟩
theorem RepL.gr (g : Gr M H H') : ∀ {ds : List D} {vs : List V}, RepL K M H ds vs → RepL K M H' ds vs
  | [], [], h => h
  | _ :: _, _ :: _, h => ⟨Rep.gr g h.1, RepL.gr g h.2⟩
  | [], _ :: _, h => h.elim
  | _ :: _, [], h => h.elim
end
mutual
theorem Rep.mono (hm : ∀ a ∈ M, a ∈ M') : ∀ {d : D} {v : V}, Rep K M' H d v → Rep K M H d v
  | .non, _, h => h
  | .bl _, _, h => h
  | .int _, _, h => h
  | .str _, _, h => h
  | .obj _, _, h => h
  | .tup _, _, h => by
    obtain ⟨a, xs, e, q, r⟩ := h
    exact ⟨a, xs, e, q, RepL.mono hm r⟩
  | .lst _, _, h => by
    obtain ⟨a, xs, e, m, q, r⟩ := h
    exact ⟨a, xs, e, fun z => m (hm a z), q, RepL.mono hm r⟩
  | .ins _ _ _, _, h => by
    obtain ⟨a, dx, fs, e, m, q, k, r⟩ := h
    exact ⟨a, dx, fs, e, fun z => m (hm a z), q, k, RepL.mono hm r⟩
  | .dct _ _, _, h => by
    obtain ⟨a, o, fs, e, q, k, r⟩ := h
    exact ⟨a, o, fs, e, q, k, RepL.mono hm r⟩
theorem RepL.mono (hm : ∀ a ∈ M, a ∈ M') : ∀ {ds : List D} {vs : List V}, RepL K M' H ds vs → RepL K M H ds vs
  | [], [], h => h
  | _ :: _, _ :: _, h => ⟨Rep.mono hm h.1, RepL.mono hm h.2⟩
  | [], _ :: _, h => h.elim
  | _ :: _, [], h => h.elim
end
theorem rd_some {a : Addr} {o : HO} (h : Rd H a o) : ∃ u, H a = some u := by
  rcases h with h | ⟨u, h⟩
  · exact ⟨_, h⟩
  · exact ⟨_, h⟩
mutual
/-- an address that holds nothing may be set apart -/
theorem Rep.apart {p : Addr} (hp : H p = none) : ∀ {d : D} {v : V}, Rep K M H d v → Rep K (p :: M) H d v
  | .non, _, h => h
  | .bl _, _, h => h
  | .int _, _, h => h
  | .str _, _, h => h
  | .obj _, _, h => h
  | .tup _, _, h => by
    obtain ⟨a, xs, e, q, r⟩ := h
    exact ⟨a, xs, e, q, RepL.apart hp r⟩
  | .lst _, _, h => by
    obtain ⟨a, xs, e, m, q, r⟩ := h
    refine ⟨a, xs, e, fun z => ?_, q, RepL.apart hp r⟩
    rcases List.mem_cons.mp z with z | z
    · exact ne_of_none q hp z
    · exact m z
  | .ins _ _ _, _, h => by
    obtain ⟨a, dx, fs, e, m, q, k, r⟩ := h
    refine ⟨a, dx, fs, e, fun z => ?_, q, k, RepL.apart hp r⟩
    rcases List.mem_cons.mp z with z | z
    · exact ne_of_none q hp z
    · exact m z
  | .dct _ _, _, h => by
    obtain ⟨a, o, fs, e, q, k, r⟩ := h
    exact ⟨a, o, fs, e, q, k, RepL.apart hp r⟩
theorem RepL.apart {p : Addr} (hp : H p = none) : ∀ {ds : List D} {vs : List V}, RepL K M H ds vs → RepL K (p :: M) H ds vs
  | [], [], h => h
  | _ :: _, _ :: _, h => ⟨Rep.apart hp h.1, RepL.apart hp h.2⟩
  | [], _ :: _, h => h.elim
  | _ :: _, [], h => h.elim
end
end
end Pl
/-! text Pl1 -/
set_option Elab.async false
set_option linter.all false
set_option maxRecDepth 100000
namespace Pl
open PySem PySem.Spec PyProof.Rows L2

/-- the heap without the addresses O -/
def minus (H : Hp) (O : List Addr) : Hp := fun a => if a ∈ O then none else H a
theorem minus_in {H : Hp} {O : List Addr} {a : Addr} (h : a ∈ O) : minus H O a = none := if_pos h
theorem minus_out {H : Hp} {O : List Addr} {a : Addr} (h : a ∉ O) : minus H O a = H a := if_neg h
theorem minus_some {H : Hp} {O : List Addr} {a : Addr} {o : HO} (h : minus H O a = some o) : a ∉ O ∧ H a = some o := by
  by_cases q : a ∈ O
  · rw [minus_in q] at h; cases h
  · rw [minus_out q] at h; exact ⟨q, h⟩

section
variable {K : PySem.W.Frag} {M M' O : List Addr} {H H' : Hp}
theorem rd_minus {a : Addr} {u : HO} (hO : a ∉ O) (h : Rd H a u) : Rd (minus H O) a u := by
  rcases h with h | ⟨o, h⟩
  · exact .inl (by rw [minus_out hO]; exact h)
  · exact .inr ⟨o, by rw [minus_out hO]; exact h⟩
theorem t_minus {a : Addr} {xs : List V} (hO : ∀ o ∈ O, ∃ ys, H o = some (.lst ys)) (h : SqT K H a xs) : SqT K (minus H O) a xs := by
  rcases h with h | h
  · refine .inl (rd_minus (fun z => ?_) h)
    obtain ⟨ys, e⟩ := hO a z
    rcases h with h | ⟨o, h⟩ <;> (rw [e] at h; cases h)
  · exact .inr h
mutual
theorem Rep.minus (hO : ∀ o ∈ O, ∃ ys, H o = some (.lst ys)) : ∀ {d : D} {v : V}, Rep K (O ++ M) H d v → Rep K M (minus H O) d v
  | .non, _, h => h
  | .bl _, _, h => h
  | .int _, _, h => h
  | .str _, _, h => h
  | .obj _, _, h => h
  | .tup _, _, h => by
    obtain ⟨a, xs, e, q, r⟩ := h
    exact ⟨a, xs, e, t_minus hO q, RepL.minus hO r⟩
  | .lst _, _, h => by
    obtain ⟨a, xs, e, m, q, r⟩ := h
    exact ⟨a, xs, e, fun z => m (List.mem_append_right _ z), by rw [minus_out fun z => m (List.mem_append_left _ z)]; exact q, RepL.minus hO r⟩
  | .ins _ _ _, _, h => by
    obtain ⟨a, dx, fs, e, m, q, k, r⟩ := h
    exact ⟨a, dx, fs, e, fun z => m (List.mem_append_right _ z), by rw [minus_out fun z => m (List.mem_append_left _ z)]; exact q, k, RepL.minus hO r⟩
  | .dct _ _, _, h => by
    obtain ⟨a, o, fs, e, q, k, r⟩ := h
    exact ⟨a, o, fs, e, by rw [minus_out fun z => by obtain ⟨ys, e2⟩ := hO a z; rw [q] at e2; cases e2]; exact q, k, RepL.minus hO r⟩
theorem RepL.minus (hO : ∀ o ∈ O, ∃ ys, H o = some (.lst ys)) : ∀ {ds : List D} {vs : List V}, RepL K (O ++ M) H ds vs → RepL K M (minus H O) ds vs
  | [], [], h => h
  | _ :: _, _ :: _, h => ⟨Rep.minus hO h.1, RepL.minus hO h.2⟩
  | [], _ :: _, h => h.elim
  | _ :: _, [], h => h.elim
end
theorem Rep.parts {d : D} {v : V} : ∀ {O : List Addr}, (∀ o ∈ O, H o = none) → Rep K M H d v → Rep K (O ++ M) H d v
  | [], _, h => h
  | o :: O, hO, h => Rep.apart (hO o List.mem_cons_self) (Rep.parts (fun p hp => hO p (List.mem_cons_of_mem _ hp)) h)
theorem RepL.parts {d : List D} {v : List V} : ∀ {O : List Addr}, (∀ o ∈ O, H o = none) → RepL K M H d v → RepL K (O ++ M) H d v
  | [], _, h => h
  | o :: O, hO, h => RepL.apart (hO o List.mem_cons_self) (RepL.parts (fun p hp => hO p (List.mem_cons_of_mem _ hp)) h)
theorem RepL.length : ∀ {ds : List D} {vs : List V}, RepL K M H ds vs → ds.length = vs.length
  | [], [], _ => rfl
  | _ :: _, _ :: _, h => congrArg (· + 1) (RepL.length h.2)
  | [], _ :: _, h => h.elim
  | _ :: _, [], h => h.elim
theorem RepL.at : ∀ {ds : List D} {vs : List V} {i : Nat} {d : D}, RepL K M H ds vs → ds[i]? = some d → ∃ v, vs[i]? = some v ∧ Rep K M H d v
  | [], [], _, _, _, e => by simp at e
  | d :: _, v :: _, 0, _, h, e => by
    simp at e; subst e
    exact ⟨v, rfl, h.1⟩
  | _ :: ds, _ :: vs, i + 1, d, h, e => by
    obtain ⟨v, e1, r⟩ := RepL.at (i := i) (d := d) h.2 (by simpa using e)
    exact ⟨v, by simpa using e1, r⟩
  | [], _ :: _, _, _, h, _ => h.elim
  | _ :: _, [], _, _, h, _ => h.elim
theorem RepL.at' {ds : List D} {vs : List V} {i : Nat} {v : V} (h : RepL K M H ds vs) (e : vs[i]? = some v) : ∃ d, ds[i]? = some d ∧ Rep K M H d v := by
  have hi : i < ds.length := by
    rw [h.length]
    exact (List.getElem?_eq_some_iff.mp e).1
  obtain ⟨u, e1, r⟩ := h.at (List.getElem?_eq_getElem hi)
  rw [e] at e1
  cases e1
  exact ⟨_, List.getElem?_eq_getElem hi, r⟩
theorem RepL.append : ∀ {ds es : List D} {vs us : List V}, RepL K M H ds vs → RepL K M H es us → RepL K M H (ds ++ es) (vs ++ us)
  | [], _, [], _, _, h => h
  | _ :: _, _, _ :: _, _, h, k => ⟨h.1, RepL.append h.2 k⟩
  | [], _, _ :: _, _, h, _ => h.elim
  | _ :: _, _, [], _, h, _ => h.elim
theorem RepL.take : ∀ {ds : List D} {vs : List V} (n : Nat), RepL K M H ds vs → RepL K M H (ds.take n) (vs.take n)
  | [], [], n, h => by simp [RepL]
  | _ :: _, _ :: _, 0, h => trivial
  | _ :: _, _ :: _, n + 1, h => ⟨h.1, RepL.take n h.2⟩
  | [], _ :: _, _, h => h.elim
  | _ :: _, [], _, h => h.elim
theorem RepL.drop : ∀ {ds : List D} {vs : List V} (n : Nat), RepL K M H ds vs → RepL K M H (ds.drop n) (vs.drop n)
  | [], [], n, h => by simp [RepL]
  | _ :: _, _ :: _, 0, h => h
  | _ :: _, _ :: _, n + 1, h => RepL.drop n h.2
  | [], _ :: _, _, h => h.elim
  | _ :: _, [], _, h => h.elim
theorem RepL.one {d : D} {v : V} (h : Rep K M H d v) : RepL K M H [d] [v] := ⟨h, trivial⟩
theorem RepL.inv1 : ∀ {d : D} {vs : List V}, RepL K M H [d] vs → ∃ v, vs = [v] ∧ Rep K M H d v
  | _, [v], h => ⟨v, rfl, h.1⟩
  | _, [], h => h.elim
  | _, _ :: _ :: _, h => h.2.elim
theorem RepL.inv2 : ∀ {d e : D} {vs : List V}, RepL K M H [d, e] vs → ∃ v w, vs = [v, w] ∧ Rep K M H d v ∧ Rep K M H e w
  | _, _, [v, w], h => ⟨v, w, rfl, h.1, h.2.1⟩
  | _, _, [], h => h.elim
  | _, _, [_], h => h.2.elim
  | _, _, _ :: _ :: _ :: _, h => h.2.2.elim
end

/-! ### the drawn source -/
def Wd (x : Int) : Prop := x.natAbs < 2 ^ 4000
structure Src (s c : Addr) (n : Nat) (H : Hp) : Prop where
  ne : s ≠ c
  ex : ∃ (t : Int) (ns : List Int), H s = some (.lst [.ref c, .int t]) ∧ H c = some (.lst (ns.map V.int)) ∧ ns ≠ [] ∧ ns.length ≤ 63 ∧ (∀ x ∈ ns, Wd x) ∧ 0 ≤ t ∧ t ≤ n
theorem Src.mono {s c : Addr} {n m : Nat} {H : Hp} (h : Src s c n H) (l : n ≤ m) : Src s c m H := by
  obtain ⟨t, ns, h1, h2, h3, h4, h5, h6, h7⟩ := h.ex
  exact ⟨h.ne, t, ns, h1, h2, h3, h4, h5, h6, by omega⟩
theorem Src.keep {s c : Addr} {n : Nat} {H H' : Hp} (h : Src s c n H) (k : ∀ a o, H a = some o → H' a = some o) : Src s c n H' := by
  obtain ⟨t, ns, h1, h2, r⟩ := h.ex
  exact ⟨h.ne, t, ns, k _ _ h1, k _ _ h2, r⟩
theorem Src.new {s c : Addr} {n : Nat} {H : Hp} {p : Addr} {o : HO} (h : Src s c n H) (hp : H p = none) : Src s c n (upd H p o) := h.keep fun a u e => by
  rw [upd_ne (ne_of_none e hp)]
  exact e
theorem Src.put {s c : Addr} {n : Nat} {H : Hp} {p : Addr} {o : HO} (h : Src s c n H) (hs : p ≠ s) (hc : p ≠ c) : Src s c n (upd H p o) := by
  obtain ⟨t, ns, h1, h2, r⟩ := h.ex
  exact ⟨h.ne, t, ns, by rw [upd_ne hs.symm]; exact h1, by rw [upd_ne hc.symm]; exact h2, r⟩
theorem Src.s_some {s c : Addr} {n : Nat} {H : Hp} (h : Src s c n H) : ∃ o, H s = some o := let ⟨_, _, h1, _⟩ := h.ex; ⟨_, h1⟩
theorem Src.c_some {s c : Addr} {n : Nat} {H : Hp} (h : Src s c n H) : ∃ o, H c = some o := let ⟨_, _, _, h1, _⟩ := h.ex; ⟨_, h1⟩

/-! ### slots -/
/-- a slot: forgotten, pure data, a list of the def's own that it may change -/
inductive Sl where
  | no | va (d : D) | ow (l : List D)
def SlR (K : PySem.W.Frag) (M : List Addr) (H : Hp) : List Sl → L2.St → List Addr → Prop
  | [], [], [] => True
  | .no :: ρ, _ :: σ, O => SlR K M H ρ σ O
  | .va d :: ρ, some v :: σ, O => Rep K M H d v ∧ SlR K M H ρ σ O
  | .ow l :: ρ, some v :: σ, q :: O => v = .ref q ∧ (∃ xs, H q = some (.lst xs) ∧ RepL K M H l xs) ∧ SlR K M H ρ σ O
  | _, _, _ => False

section
variable {K : PySem.W.Frag} {M M' O : List Addr} {H H' : Hp} {ρ : List Sl} {σ : L2.St}
theorem SlR.lsts : ∀ {ρ : List Sl} {σ : L2.St} {O : List Addr}, SlR K M H ρ σ O → ∀ o ∈ O, ∃ xs, H o = some (.lst xs)
  | [], [], [], _, o, ho => by simp at ho
  | .no :: ρ, _ :: σ, O, h, o, ho => SlR.lsts (ρ := ρ) (σ := σ) (O := O) h o ho
  | .va d :: ρ, some v :: σ, O, h, o, ho => SlR.lsts (ρ := ρ) (σ := σ) (O := O) h.2 o ho
  | .ow l :: ρ, some v :: σ, q :: O, h, o, ho => by
    rcases List.mem_cons.mp ho with e | ho
    · obtain ⟨xs, hx, _⟩ := h.2.1
      exact ⟨xs, by rw [e]; exact hx⟩
    · exact SlR.lsts (ρ := ρ) (σ := σ) (O := O) h.2.2 o ho
  | [], [], _ :: _, h, _, _ => h.elim
  | [], _ :: _, _, h, _, _ => by cases h
  | .no :: _, [], _, h, _, _ => by cases h
  | .va _ :: _, [], _, h, _, _ => by cases h
  | .va _ :: _, none :: _, _, h, _, _ => by cases h
  | .ow _ :: _, [], _, h, _, _ => by cases h
  | .ow _ :: _, none :: _, _, h, _, _ => by cases h
  | .ow _ :: _, some _ :: _, [], h, _, _ => by cases h
/-- the slots stand in another heap: data by R, own lists by F -/
theorem SlR.imp (hR : ∀ d v, Rep K M H d v → Rep K M' H' d v) (hL : ∀ d v, RepL K M H d v → RepL K M' H' d v) : ∀ {ρ : List Sl} {σ : L2.St} {O : List Addr}, (∀ o ∈ O, ∀ xs, H o = some (.lst xs) → H' o = some (.lst xs)) → SlR K M H ρ σ O → SlR K M' H' ρ σ O
  | [], [], [], _, _ => trivial
  | .no :: ρ, _ :: σ, O, hO, h => SlR.imp hR hL (ρ := ρ) (σ := σ) (O := O) hO h
  | .va d :: ρ, some v :: σ, O, hO, h => ⟨hR _ _ h.1, SlR.imp hR hL (ρ := ρ) (σ := σ) (O := O) hO h.2⟩
  | .ow l :: ρ, some v :: σ, q :: O, hO, h => by
    obtain ⟨h1, ⟨xs, h2, h3⟩, h4⟩ := h
    exact ⟨h1, ⟨xs, hO q List.mem_cons_self xs h2, hL _ _ h3⟩, SlR.imp hR hL (ρ := ρ) (σ := σ) (O := O) (fun o ho => hO o (List.mem_cons_of_mem _ ho)) h4⟩
  | [], [], _ :: _, _, h => h.elim
  | [], _ :: _, _, _, h => by cases h
  | .no :: _, [], _, _, h => by cases h
  | .va _ :: _, [], _, _, h => by cases h
  | .va _ :: _, none :: _, _, _, h => by cases h
  | .ow _ :: _, [], _, _, h => by cases h
  | .ow _ :: _, none :: _, _, _, h => by cases h
  | .ow _ :: _, some _ :: _, [], _, h => by cases h
theorem SlR.len : ∀ {ρ : List Sl} {σ : L2.St} {O : List Addr}, SlR K M H ρ σ O → σ.length = ρ.length
  | [], [], [], _ => rfl
  | .no :: ρ, _ :: σ, O, h => congrArg (· + 1) (SlR.len (ρ := ρ) (σ := σ) (O := O) h)
  | .va d :: ρ, some v :: σ, O, h => congrArg (· + 1) (SlR.len (ρ := ρ) (σ := σ) (O := O) h.2)
  | .ow l :: ρ, some v :: σ, q :: O, h => congrArg (· + 1) (SlR.len (ρ := ρ) (σ := σ) (O := O) h.2.2)
  | [], [], _ :: _, h => h.elim
  | [], _ :: _, _, h => by cases h
  | .no :: _, [], _, h => by cases h
  | .va _ :: _, [], _, h => by cases h
  | .va _ :: _, none :: _, _, h => by cases h
  | .ow _ :: _, [], _, h => by cases h
  | .ow _ :: _, none :: _, _, h => by cases h
  | .ow _ :: _, some _ :: _, [], h => by cases h
theorem SlR.get : ∀ {ρ : List Sl} {σ : L2.St} {O : List Addr} {i : Nat} {d : D}, SlR K M H ρ σ O → ρ[i]? = some (.va d) → ∃ v, σ[i]? = some (some v) ∧ Rep K M H d v
  | .no :: ρ, _ :: σ, O, 0, d, h, e => by simp at e
  | .no :: ρ, _ :: σ, O, i + 1, d, h, e => by
    obtain ⟨v, h1, h2⟩ := SlR.get (ρ := ρ) (σ := σ) (O := O) (i := i) h (by simpa using e)
    exact ⟨v, by simpa using h1, h2⟩
  | .va d' :: ρ, some v :: σ, O, 0, d, h, e => by
    simp at e; subst e
    exact ⟨v, rfl, h.1⟩
  | .va d' :: ρ, some v :: σ, O, i + 1, d, h, e => by
    obtain ⟨v, h1, h2⟩ := SlR.get (ρ := ρ) (σ := σ) (O := O) (i := i) h.2 (by simpa using e)
    exact ⟨v, by simpa using h1, h2⟩
  | .ow l :: ρ, some v :: σ, q :: O, 0, d, h, e => by simp at e
  | .ow l :: ρ, some v :: σ, q :: O, i + 1, d, h, e => by
    obtain ⟨v, h1, h2⟩ := SlR.get (ρ := ρ) (σ := σ) (O := O) (i := i) h.2.2 (by simpa using e)
    exact ⟨v, by simpa using h1, h2⟩
  | [], _, _, _, _, _, e => by simp at e
  | .no :: _, [], _, _, _, h, _ => by cases h
  | .va _ :: _, [], _, _, _, h, _ => by cases h
  | .va _ :: _, none :: _, _, _, _, h, _ => by cases h
  | .ow _ :: _, [], _, _, _, h, _ => by cases h
  | .ow _ :: _, none :: _, _, _, _, h, _ => by cases h
  | .ow _ :: _, some _ :: _, [], _, _, h, _ => by cases h
/-- an own list's slot -/
theorem SlR.own : ∀ {ρ : List Sl} {σ : L2.St} {O : List Addr} {i : Nat} {l : List D}, SlR K M H ρ σ O → ρ[i]? = some (.ow l) → ∃ p xs, p ∈ O ∧ σ[i]? = some (some (.ref p)) ∧ H p = some (.lst xs) ∧ RepL K M H l xs
  | .no :: ρ, _ :: σ, O, 0, d, h, e => by simp at e
  | .no :: ρ, _ :: σ, O, i + 1, d, h, e => by
    obtain ⟨p, xs, m, h1, h2⟩ := SlR.own (ρ := ρ) (σ := σ) (O := O) (i := i) h (by simpa using e)
    exact ⟨p, xs, m, by simpa using h1, h2⟩
  | .va d' :: ρ, some v :: σ, O, 0, d, h, e => by simp at e
  | .va d' :: ρ, some v :: σ, O, i + 1, d, h, e => by
    obtain ⟨p, xs, m, h1, h2⟩ := SlR.own (ρ := ρ) (σ := σ) (O := O) (i := i) h.2 (by simpa using e)
    exact ⟨p, xs, m, by simpa using h1, h2⟩
  | .ow l :: ρ, some v :: σ, q :: O, 0, d, h, e => by
    simp at e; subst e
    obtain ⟨h1, ⟨xs, h2, h3⟩, h4⟩ := h
    exact ⟨q, xs, List.mem_cons_self, by rw [h1]; rfl, h2, h3⟩
  | .ow l :: ρ, some v :: σ, q :: O, i + 1, d, h, e => by
    obtain ⟨p, xs, m, h1, h2⟩ := SlR.own (ρ := ρ) (σ := σ) (O := O) (i := i) h.2.2 (by simpa using e)
    exact ⟨p, xs, List.mem_cons_of_mem _ m, by simpa using h1, h2⟩
  | [], _, _, _, _, _, e => by simp at e
  | .no :: _, [], _, _, _, h, _ => by cases h
  | .va _ :: _, [], _, _, _, h, _ => by cases h
  | .va _ :: _, none :: _, _, _, _, h, _ => by cases h
  | .ow _ :: _, [], _, _, _, h, _ => by cases h
  | .ow _ :: _, none :: _, _, _, _, h, _ => by cases h
  | .ow _ :: _, some _ :: _, [], _, _, h, _ => by cases h
def isOw : Option Sl → Bool
  | some (.ow _) => true
  | _ => false
/-- a slot is set to data, or forgotten -/
theorem SlR.set {d : D} {v : V} (r : Rep K M H d v) : ∀ {ρ : List Sl} {σ : L2.St} {O : List Addr} {i : Nat}, SlR K M H ρ σ O → isOw ρ[i]? = false → SlR K M H (ρ.set i (.va d)) (σ.set i (some v)) O
  | .no :: ρ, _ :: σ, O, 0, h, _ => ⟨r, h⟩
  | .no :: ρ, _ :: σ, O, i + 1, h, e => SlR.set r (ρ := ρ) (σ := σ) (O := O) (i := i) h (by simpa using e)
  | .va d' :: ρ, some v :: σ, O, 0, h, _ => ⟨r, h.2⟩
  | .va d' :: ρ, some v :: σ, O, i + 1, h, e => ⟨h.1, SlR.set r (ρ := ρ) (σ := σ) (O := O) (i := i) h.2 (by simpa using e)⟩
  | .ow l :: ρ, some v :: σ, q :: O, 0, h, e => by simp [isOw] at e
  | .ow l :: ρ, some v :: σ, q :: O, i + 1, h, e => ⟨h.1, h.2.1, SlR.set r (ρ := ρ) (σ := σ) (O := O) (i := i) h.2.2 (by simpa using e)⟩
  | [], [], [], i, _, _ => by simp [SlR]
  | [], [], _ :: _, _, h, _ => h.elim
  | [], _ :: _, _, _, h, _ => by cases h
  | .no :: _, [], _, _, h, _ => by cases h
  | .va _ :: _, [], _, _, h, _ => by cases h
  | .va _ :: _, none :: _, _, _, h, _ => by cases h
  | .ow _ :: _, [], _, _, h, _ => by cases h
  | .ow _ :: _, none :: _, _, _, h, _ => by cases h
  | .ow _ :: _, some _ :: _, [], _, h, _ => by cases h
theorem SlR.off {x : Option V} : ∀ {ρ : List Sl} {σ : L2.St} {O : List Addr} {i : Nat}, SlR K M H ρ σ O → isOw ρ[i]? = false → SlR K M H (ρ.set i .no) (σ.set i x) O
  | .no :: ρ, _ :: σ, O, 0, h, _ => h
  | .no :: ρ, _ :: σ, O, i + 1, h, e => SlR.off (ρ := ρ) (σ := σ) (O := O) (i := i) h (by simpa using e)
  | .va d' :: ρ, some v :: σ, O, 0, h, _ => h.2
  | .va d' :: ρ, some v :: σ, O, i + 1, h, e => ⟨h.1, SlR.off (ρ := ρ) (σ := σ) (O := O) (i := i) h.2 (by simpa using e)⟩
  | .ow l :: ρ, some v :: σ, q :: O, 0, h, e => by simp [isOw] at e
  | .ow l :: ρ, some v :: σ, q :: O, i + 1, h, e => ⟨h.1, h.2.1, SlR.off (ρ := ρ) (σ := σ) (O := O) (i := i) h.2.2 (by simpa using e)⟩
  | [], [], [], i, _, _ => by simp [SlR]
  | [], [], _ :: _, _, h, _ => h.elim
  | [], _ :: _, _, _, h, _ => by cases h
  | .no :: _, [], _, _, h, _ => by cases h
  | .va _ :: _, [], _, _, h, _ => by cases h
  | .va _ :: _, none :: _, _, _, h, _ => by cases h
  | .ow _ :: _, [], _, _, h, _ => by cases h
  | .ow _ :: _, none :: _, _, _, h, _ => by cases h
  | .ow _ :: _, some _ :: _, [], _, h, _ => by cases h
end
end Pl
/-! text Pl2 -/
set_option Elab.async false
set_option linter.all false
set_option maxRecDepth 100000
namespace Pl
open PySem PySem.Spec PyProof.Rows L2

/-- a state of a def's body: M0 the addresses that callers set apart, H0 what stands since the entry, O the def's own lists -/
structure Ok (K : PySem.W.Frag) (s c : Addr) (M0 : List Addr) (H0 : Hp) (O : List Addr) (ρ : List Sl) (n : Nat) (σ : L2.St) (H : Hp) : Prop where
  ms : s ∈ M0 ∧ c ∈ M0
  tr : ∀ a ∈ M0, a = s ∨ a = c ∨ ∃ o, H0 a = some o
  src : Src s c n H
  gr : Gr [s, c] H0 H
  fr : ∀ o ∈ O, H0 o = none ∧ o ≠ s ∧ o ≠ c
  nd : O.Nodup
  sl : SlR K (O ++ M0) H ρ σ O

section
variable {K : PySem.W.Frag} {s c : Addr} {M0 : List Addr} {H0 : Hp} {O : List Addr} {ρ : List Sl} {n n' : Nat} {σ : L2.St} {H H' : Hp}
theorem two_sub {s c : Addr} {M : List Addr} (h : s ∈ M ∧ c ∈ M) : ∀ a ∈ [s, c], a ∈ M := fun a ha => by
  rcases List.mem_cons.mp ha with e | ha
  · rw [e]; exact h.1
  · rcases List.mem_cons.mp ha with e | ha
    · rw [e]; exact h.2
    · simp at ha
theorem not_two {s c a : Addr} (h1 : a ≠ s) (h2 : a ≠ c) : a ∉ [s, c] := fun z => by
  rcases List.mem_cons.mp z with e | z
  · exact h1 e
  · rcases List.mem_cons.mp z with e | z
    · exact h2 e
    · simp at z
theorem Ok.sub (I : Ok K s c M0 H0 O ρ n σ H) : ∀ a ∈ [s, c], a ∈ O ++ M0 := fun a ha => List.mem_append_right _ (two_sub I.ms a ha)
/-- what stands at M0 stands -/
theorem Ok.there (I : Ok K s c M0 H0 O ρ n σ H) : ∀ a ∈ M0, ∃ o, H a = some o := fun a ha => by
  rcases I.tr a ha with e | e | ⟨o, e⟩
  · rw [e]; exact I.src.s_some
  · rw [e]; exact I.src.c_some
  · by_cases h1 : a = s
    · rw [h1]; exact I.src.s_some
    · by_cases h2 : a = c
      · rw [h2]; exact I.src.c_some
      · exact ⟨o, I.gr a o e (.inl (not_two h1 h2))⟩
theorem Ok.lst (I : Ok K s c M0 H0 O ρ n σ H) : ∀ o ∈ O, ∃ xs, H o = some (.lst xs) := I.sl.lsts
theorem Ok.new_out (I : Ok K s c M0 H0 O ρ n σ H) {p : Addr} (hp : H p = none) : p ∉ O ++ M0 := fun z => by
  rcases List.mem_append.mp z with z | z
  · obtain ⟨xs, e⟩ := I.lst p z
    rw [hp] at e; cases e
  · obtain ⟨o, e⟩ := I.there p z
    rw [hp] at e; cases e
theorem Ok.next (I : Ok K s c M0 H0 O ρ n σ H) (g : Gr [s, c] H H') (hs : Src s c n' H') : Ok K s c M0 H0 O ρ n' σ H' where
  ms := I.ms
  tr := I.tr
  src := hs
  gr := I.gr.trans g
  fr := I.fr
  nd := I.nd
  sl := I.sl.imp (fun _ _ r => r.gr (g.mono I.sub)) (fun _ _ r => r.gr (g.mono I.sub)) fun o ho xs e => g o _ e (.inl (not_two (I.fr o ho).2.1 (I.fr o ho).2.2))
/-- the strongest heap that the body so far leaves as it is -/
theorem Ok.focus (I : Ok K s c M0 H0 O ρ n σ H) : Ok K s c M0 (minus H O) O ρ n σ H where
  ms := I.ms
  tr := fun a ha => by
    obtain ⟨o, e⟩ := I.there a ha
    by_cases h : a ∈ O
    · rcases I.tr a ha with z | z | ⟨u, z⟩
      · exact .inl z
      · exact .inr (.inl z)
      · rw [(I.fr a h).1] at z; cases z
    · exact .inr (.inr ⟨o, by rw [minus_out h]; exact e⟩)
  src := I.src
  gr := fun a o e m => (minus_some e).2
  fr := fun o ho => ⟨minus_in ho, (I.fr o ho).2⟩
  nd := I.nd
  sl := I.sl
theorem Ok.unfocus {O' : List Addr} {ρ' : List Sl} {σ' : L2.St} (I : Ok K s c M0 H0 O ρ n σ H) (J : Ok K s c M0 (minus H O) O' ρ' n' σ' H') : Ok K s c M0 H0 O' ρ' n' σ' H' where
  ms := J.ms
  tr := I.tr
  src := J.src
  gr := fun a o e m => J.gr a o (by
    have hO : a ∉ O := fun z => by rw [(I.fr a z).1] at e; cases e
    rw [minus_out hO]
    exact I.gr a o e m) m
  fr := fun o ho => by
    obtain ⟨h1, h2, h3⟩ := J.fr o ho
    refine ⟨?_, h2, h3⟩
    cases q : H0 o with
    | none => rfl
    | some u =>
      have e : H o = some u := I.gr o u q (.inl (not_two h2 h3))
      have hO : o ∉ O := fun z => by rw [(I.fr o z).1] at q; cases q
      rw [minus_out hO, e] at h1
      cases h1
  nd := J.nd
  sl := J.sl
theorem gr_unfocus {a : Addr} (I : Ok K s c M0 H0 O ρ n σ H) (g : Gr [s, c] (minus H O) H') : Gr [s, c] H0 H' := fun a o e m => g a o (by
    have hO : a ∉ O := fun z => by rw [(I.fr a z).1] at e; cases e
    rw [minus_out hO]
    exact I.gr a o e m) m
/-- data of a state, later -/
theorem Ok.later {O' : List Addr} {ρ' : List Sl} {σ' : L2.St} {d : D} {v : V} (I : Ok K s c M0 H0 O ρ n σ H) (J : Ok K s c M0 (minus H O) O' ρ' n' σ' H') (r : Rep K (O ++ M0) H d v) : Rep K (O' ++ M0) H' d v :=
  ((r.minus I.lst).parts fun o ho => (J.fr o ho).1).gr (J.gr.mono J.sub)
theorem Ok.laterL {O' : List Addr} {ρ' : List Sl} {σ' : L2.St} {d : List D} {v : List V} (I : Ok K s c M0 H0 O ρ n σ H) (J : Ok K s c M0 (minus H O) O' ρ' n' σ' H') (r : RepL K (O ++ M0) H d v) : RepL K (O' ++ M0) H' d v :=
  ((r.minus I.lst).parts fun o ho => (J.fr o ho).1).gr (J.gr.mono J.sub)
theorem Ok.laterR {O' : List Addr} {ρ' : List Sl} {σ' : L2.St} {a : Addr} {u : HO} (I : Ok K s c M0 H0 O ρ n σ H) (J : Ok K s c M0 (minus H O) O' ρ' n' σ' H') (m : a ∉ O ++ M0) (r : Rd H a u) : Rd H' a u :=
  gr_rd J.gr (.inl fun z => m (List.mem_append_right _ (two_sub I.ms a z))) (rd_minus (fun z => m (List.mem_append_left _ z)) r)
theorem Ok.laterT {O' : List Addr} {ρ' : List Sl} {σ' : L2.St} {a : Addr} {xs : List V} (I : Ok K s c M0 H0 O ρ n σ H) (J : Ok K s c M0 (minus H O) O' ρ' n' σ' H') (r : SqT K H a xs) : SqT K H' a xs :=
  gr_t J.gr (t_minus I.lst r)

/-! ### the judgements -/
def EvE (K : PySem.W.Frag) (s c : Addr) (te : TE) (ρ : List Sl) (n n' : Nat) (P : D → Prop) : Prop := ∀ M0 H0 O σ H (Q : VK), Ok K s c M0 H0 O ρ n σ H →
  (∀ v H' d, Gr [s, c] H H' → Src s c n' H' → Rep K (O ++ M0) H' d v → P d → Q v H') → te σ H Q
def EvA (K : PySem.W.Frag) (s c : Addr) (ta : TA) (ρ : List Sl) (n n' : Nat) (P : List D → Prop) : Prop := ∀ M0 H0 O σ H (Q : List V → Hp → Prop), Ok K s c M0 H0 O ρ n σ H →
  (∀ vs H' ds, Gr [s, c] H H' → Src s c n' H' → RepL K (O ++ M0) H' ds vs → P ds → Q vs H') → ta σ H Q
def EvT (K : PySem.W.Frag) (s c : Addr) (tt : TT) (ρ : List Sl) (n n' : Nat) (P : Bool → Prop) : Prop := ∀ M0 H0 O σ H (Q : Bool → Hp → Prop), Ok K s c M0 H0 O ρ n σ H →
  (∀ b H', Gr [s, c] H H' → Src s c n' H' → P b → Q b H') → tt σ H Q
/-- a new list -/
def EvN (K : PySem.W.Frag) (s c : Addr) (te : TE) (ρ : List Sl) (n n' : Nat) (P : List D → Prop) : Prop := ∀ M0 H0 O σ H (Q : VK), Ok K s c M0 H0 O ρ n σ H →
  (∀ p H' ds xs, Gr [s, c] H H' → Src s c n' H' → H p = none → H' p = some (.lst xs) → RepL K (p :: (O ++ M0)) H' ds xs → P ds → Q (.ref p) H') → te σ H Q
structure Pn where
  nx : List Sl → Nat → Prop
  rt : D → Nat → Prop
  bk : List Sl → Nat → Prop := fun _ _ => False
  ct : List Sl → Nat → Prop := fun _ _ => False
structure Go (K : PySem.W.Frag) (s c : Addr) (M0 : List Addr) (H0 : Hp) (D : Pn) (Dn : Ends) : Prop where
  nx : ∀ O' ρ' n' σ' H', Ok K s c M0 H0 O' ρ' n' σ' H' → D.nx ρ' n' → Dn.nx σ' H'
  rt : ∀ v H' d n', Gr [s, c] H0 H' → Src s c n' H' → Rep K M0 H' d v → D.rt d n' → Dn.rt v H'
  bk : ∀ O' ρ' n' σ' H', Ok K s c M0 H0 O' ρ' n' σ' H' → D.bk ρ' n' → Dn.bk σ' H'
  ct : ∀ O' ρ' n' σ' H', Ok K s c M0 H0 O' ρ' n' σ' H' → D.ct ρ' n' → Dn.ct σ' H'
def EvS (K : PySem.W.Frag) (s c : Addr) (ts : TS) (ρ : List Sl) (n : Nat) (D : Pn) : Prop := ∀ M0 H0 O σ H (Dn : Ends), Ok K s c M0 H0 O ρ n σ H → Go K s c M0 H0 D Dn → ts Dn σ H
end

section
variable {K : PySem.W.Frag} {s c : Addr} {ρ : List Sl} {n n1 n2 n3 n' : Nat} {te ta tb : TE} {P : D → Prop}

/-! ### expressions -/
theorem EvE.imp {P' : D → Prop} (h : EvE K s c te ρ n n1 P) (i : ∀ d, P d → P' d) : EvE K s c te ρ n n1 P' := fun M0 H0 O σ H Q I k => h M0 H0 O σ H Q I fun v H' d g hs r p => k v H' d g hs r (i d p)
theorem EvE.le (h : EvE K s c te ρ n n1 P) (l : n1 ≤ n2) : EvE K s c te ρ n n2 P := fun M0 H0 O σ H Q I k => h M0 H0 O σ H Q I fun v H' d g hs r p => k v H' d g (hs.mono l) r p
theorem ev_var {i : Nat} {d : D} (h : ρ[i]? = some (.va d)) : EvE K s c (tVar i) ρ n n (fun x => x = d) := fun M0 H0 O σ H Q I k => by
  obtain ⟨v, e, r⟩ := I.sl.get h
  exact ⟨v, e, k v H d (Gr.refl _ _) I.src r rfl⟩
/-- an own list is read as data (it may not be kept while it changes) -/
theorem ev_int {i : Int} : EvE K s c (tC (.int i)) ρ n n (fun x => x = .int i) := fun M0 H0 O σ H Q I k => k _ H (.int i) (Gr.refl _ _) I.src rfl rfl
theorem ev_bl {b : Bool} : EvE K s c (tC (.bl b)) ρ n n (fun x => x = .bl b) := fun M0 H0 O σ H Q I k => k _ H (.bl b) (Gr.refl _ _) I.src rfl rfl
theorem ev_non : EvE K s c (tC .non) ρ n n (fun x => x = .non) := fun M0 H0 O σ H Q I k => k _ H .non (Gr.refl _ _) I.src rfl rfl
theorem ev_str {x : Str} : EvE K s c (tC (.str x)) ρ n n (fun d => d = .str x) := fun M0 H0 O σ H Q I k => k _ H (.str x) (Gr.refl _ _) I.src rfl rfl
theorem ev_ref {a : Addr} : EvE K s c (tC (.ref a)) ρ n n (fun x => x = .obj a) := fun M0 H0 O σ H Q I k => k _ H (.obj a) (Gr.refl _ _) I.src rfl rfl
theorem ea_nil : EvA K s c tNil ρ n n (fun l => l = []) := fun M0 H0 O σ H Q I k => k [] H [] (Gr.refl _ _) I.src trivial rfl
theorem ea_cons {tr : TA} {PL : List D → Prop} (h : EvE K s c te ρ n n1 P) (hr : EvA K s c tr ρ n1 n2 PL) : EvA K s c (tCons te tr) ρ n n2 (fun l => ∃ d r, l = d :: r ∧ P d ∧ PL r) := fun M0 H0 O σ H Q I k =>
  h M0 H0 O σ H _ I fun v H1 d g1 s1 r1 p1 => hr M0 H0 O σ H1 _ (I.next g1 s1) fun vs H2 ds g2 s2 r2 p2 => k (v :: vs) H2 (d :: ds) (g1.trans g2) s2 ⟨r1.gr (g2.mono I.sub), r2⟩ ⟨d, ds, rfl, p1, p2⟩
theorem ev_tup {tr : TA} {PL : List D → Prop} (h : EvA K s c tr ρ n n1 PL) (hl : ∀ l, PL l → l.length ≤ 1000) : EvE K s c (tTup tr) ρ n n1 (fun d => ∃ l, d = .tup l ∧ PL l) := fun M0 H0 O σ H Q I k =>
  h M0 H0 O σ H _ I fun vs H1 ds g1 s1 r1 p1 => ⟨Nat.le_of_lt (small1000 (by rw [← r1.length]; exact hl ds p1)), fun p hp => k (.ref p) _ (.tup ds) (g1.trans (Gr.new hp)) (s1.new hp) ⟨p, vs, rfl, .inl (.inl upd_same), r1.gr (Gr.new hp)⟩ ⟨ds, rfl, p1⟩⟩
theorem en_lst {tr : TA} {PL : List D → Prop} (h : EvA K s c tr ρ n n1 PL) (hl : ∀ l, PL l → l.length ≤ 1000) : EvN K s c (tLst tr) ρ n n1 PL := fun M0 H0 O σ H Q I k =>
  h M0 H0 O σ H _ I fun vs H1 ds g1 s1 r1 p1 => ⟨Nat.le_of_lt (small1000 (by rw [← r1.length]; exact hl ds p1)), fun p hp => k p _ ds vs (g1.trans (Gr.new hp)) (s1.new hp)
    (g1.none hp fun z => (I.next g1 s1).new_out hp ((I.next g1 s1).sub p z)) upd_same ((r1.apart hp).gr (Gr.new hp)) p1⟩
/-- a new list, as data -/
theorem EvN.ev {PL : List D → Prop} (h : EvN K s c te ρ n n1 PL) : EvE K s c te ρ n n1 (fun d => ∃ l, d = .lst l ∧ PL l) := fun M0 H0 O σ H Q I k =>
  h M0 H0 O σ H Q I fun p H' ds xs g hs hp e r p1 => k (.ref p) H' (.lst ds) g hs ⟨p, xs, rfl, I.new_out hp, e, r.mono fun a ha => List.mem_cons_of_mem _ ha⟩ ⟨ds, rfl, p1⟩
theorem ev_lst {tr : TA} {PL : List D → Prop} (h : EvA K s c tr ρ n n1 PL) (hl : ∀ l, PL l → l.length ≤ 1000) : EvE K s c (tLst tr) ρ n n1 (fun d => ∃ l, d = .lst l ∧ PL l) := (en_lst h hl).ev
/-- an operation on two values: R x y z, the heap grows -/
def RV (K : PySem.W.Frag) (s c : Addr) (r : R2) (A B : D → Prop) (R : D → D → D → Prop) : Prop := ∀ M n x y dx dy H (Q : VK), s ∈ M ∧ c ∈ M → (∀ a ∈ M, ∃ o, H a = some o) → Src s c n H → Rep K M H dx x → Rep K M H dy y → A dx → B dy →
  (∀ v H' d, Gr [s, c] H H' → Src s c n H' → Rep K M H' d v → R dx dy d → Q v H') → r x y H Q
theorem Ok.thereA {M0 : List Addr} {H0 : Hp} {O : List Addr} {σ : L2.St} {H : Hp} (I : Ok K s c M0 H0 O ρ n σ H) : ∀ a ∈ O ++ M0, ∃ o, H a = some o := fun a ha => by
  rcases List.mem_append.mp ha with z | z
  · obtain ⟨xs, e⟩ := I.lst a z
    exact ⟨_, e⟩
  · exact I.there a z
theorem ev_op {r : R2} {A B : D → Prop} {R : D → D → D → Prop} (ha : EvE K s c ta ρ n n1 A) (hb : EvE K s c tb ρ n1 n2 B) (hr : RV K s c r A B R) : EvE K s c (tOp r ta tb) ρ n n2 (fun z => ∃ x y, A x ∧ B y ∧ R x y z) := fun M0 H0 O σ H Q I k =>
  ha M0 H0 O σ H _ I fun v H1 d g1 s1 r1 p1 => hb M0 H0 O σ H1 _ (I.next g1 s1) fun w H2 e g2 s2 r2 p2 =>
    hr (O ++ M0) n2 v w d e H2 Q ⟨List.mem_append_right _ I.ms.1, List.mem_append_right _ I.ms.2⟩ ((I.next g1 s1).next g2 s2).thereA s2 (r1.gr (g2.mono I.sub)) r2 p1 p2 fun z H3 f g3 s3 r3 p3 => k z H3 f ((g1.trans g2).trans g3) s3 r3 ⟨d, e, p1, p2, p3⟩
/-- a call on values -/
def RC (K : PySem.W.Frag) (s c : Addr) (n n' : Nat) (r : List V → Hp → VK → Prop) (A : List D → Prop) (R : List D → D → Prop) : Prop := ∀ M xs ds H (Q : VK), s ∈ M ∧ c ∈ M → (∀ a ∈ M, ∃ o, H a = some o) → Src s c n H → RepL K M H ds xs → A ds →
  (∀ v H' d, Gr [s, c] H H' → Src s c n' H' → Rep K M H' d v → R ds d → Q v H') → r xs H Q
theorem ev_call {r : List V → Hp → VK → Prop} {t : TA} {A : List D → Prop} {R : List D → D → Prop} (ha : EvA K s c t ρ n n1 A) (hr : RC K s c n1 n2 r A R) : EvE K s c (tCB r t) ρ n n2 (fun z => ∃ l, A l ∧ R l z) := fun M0 H0 O σ H Q I k =>
  ha M0 H0 O σ H _ I fun vs H1 ds g1 s1 r1 p1 => hr (O ++ M0) vs ds H1 Q ⟨List.mem_append_right _ I.ms.1, List.mem_append_right _ I.ms.2⟩ (I.next g1 s1).thereA s1 r1 p1 fun v H2 d g2 s2 r2 p2 => k v H2 d (g1.trans g2) s2 r2 ⟨ds, p1, p2⟩

/-! ### promises -/
/-- from the data of the arguments: what is asked, how many draws at most, what comes back -/
def Pr (K : PySem.W.Frag) (pre : Addr → Addr → List D → Prop) (k : Nat) (post : Addr → Addr → List D → D → Prop) : Sp := fun vs H Q _ => ∃ s c M n ds, s ∈ M ∧ c ∈ M ∧ (∀ a ∈ M, ∃ o, H a = some o) ∧ Src s c n H ∧ n + k ≤ 2 ^ 40 ∧ RepL K M H ds vs ∧ pre s c ds ∧
  ∀ v H' d, Gr [s, c] H H' → Src s c (n + k) H' → Rep K M H' d v → post s c ds d → Q v H'
theorem ev_def {pre : Addr → Addr → List D → Prop} {k : Nat} {post : Addr → Addr → List D → D → Prop} {t : TA} {A : List D → Prop} (ha : EvA K s c t ρ n n1 A) (hn : n1 + k ≤ 2 ^ 40) (hp : ∀ l, A l → pre s c l) : EvE K s c (tCall (Pr K pre k post) [] E0 t) ρ n (n1 + k) (fun z => ∃ l, A l ∧ post s c l z) := fun M0 H0 O σ H Q I q =>
  ha M0 H0 O σ H _ I fun vs H1 ds g1 s1 r1 p1 => ⟨s, c, O ++ M0, n1, ds, List.mem_append_right _ I.ms.1, List.mem_append_right _ I.ms.2, (I.next g1 s1).thereA, s1, hn, by rw [List.append_nil]; exact r1, hp ds p1, fun v H2 d g2 s2 r2 p2 => q v H2 d (g1.trans g2) s2 r2 ⟨ds, p1, p2⟩⟩
def slots (N : Nat) (ds : List D) : List Sl := ds.map .va ++ List.replicate (N - ds.length) .no
theorem sl_no {M : List Addr} {H : Hp} : ∀ k : Nat, SlR K M H (List.replicate k .no) (List.replicate k none) []
  | 0 => trivial
  | k + 1 => sl_no k
theorem sl_start {M : List Addr} {H : Hp} {m : Nat} : ∀ {ds : List D} {vs : List V}, RepL K M H ds vs → SlR K M H (ds.map .va ++ List.replicate m .no) (vs.map some ++ List.replicate m none) []
  | [], [], _ => sl_no m
  | _ :: _, _ :: _, h => ⟨h.1, sl_start h.2⟩
  | [], _ :: _, h => h.elim
  | _ :: _, [], h => h.elim
/-- a body keeps the promise -/
theorem body_ok {N : List Str} {t : TS} {pre : Addr → Addr → List D → Prop} {k : Nat} {post : Addr → Addr → List D → D → Prop} {vs : List V} {H : Hp} {Q : VK} {E : XK} (h : Pr K pre k post vs H Q E)
    (hb : ∀ s c n ds, n + k ≤ 2 ^ 40 → pre s c ds → EvS K s c t (slots N.length ds) n ⟨fun _ m => m ≤ n + k ∧ post s c ds .non, fun d m => m ≤ n + k ∧ post s c ds d, fun _ _ => False, fun _ _ => False⟩) : t { nx := fun _ H' => Q .non H', rt := Q } (L2.start N vs) H := by
  obtain ⟨s, c, M, n, ds, h1, h2, h3, h4, h5, h6, h7, q⟩ := h
  refine hb s c n ds h5 h7 M H [] (L2.start N vs) H _ ⟨⟨h1, h2⟩, fun a ha => .inr (.inr (h3 a ha)), h4, Gr.refl _ _, fun o ho => by simp at ho, List.nodup_nil, ?_⟩ ⟨fun O' ρ' m σ' H' J hp => ?_, fun v H' d m g hs r hp => q v H' d g (hs.mono hp.1) r hp.2, fun _ _ _ _ _ _ hp => hp.elim, fun _ _ _ _ _ _ hp => hp.elim⟩
  · unfold slots L2.start
    rw [h6.length]
    exact sl_start h6
  · exact q .non H' .non J.gr (J.src.mono hp.1) rfl hp.2
end
end Pl
/-! text Pl3 -/
set_option Elab.async false
set_option linter.all false
set_option maxRecDepth 100000
namespace Pl
open PySem PySem.Spec PyProof.Rows L2

section
variable {K : PySem.W.Frag} {s c : Addr} {ρ ρ1 ρ2 : List Sl} {n n1 n2 n3 n' : Nat} {te ta tb : TE} {P : D → Prop} {tt tu : TT}
/-! ### tests -/
theorem EvT.imp {T T' : Bool → Prop} (h : EvT K s c tt ρ n n1 T) (i : ∀ b, T b → T' b) : EvT K s c tt ρ n n1 T' := fun M0 H0 O σ H Q I k => h M0 H0 O σ H Q I fun b H' g hs p => k b H' g hs (i b p)
theorem EvT.le {T : Bool → Prop} (h : EvT K s c tt ρ n n1 T) (l : n1 ≤ n2) : EvT K s c tt ρ n n2 T := fun M0 H0 O σ H Q I k => h M0 H0 O σ H Q I fun b H' g hs p => k b H' g (hs.mono l) p
theorem et_yes : EvT K s c tYes ρ n n (fun b => b = true) := fun M0 H0 O σ H Q I k => k true H (Gr.refl _ _) I.src rfl
theorem bl_of {M : List Addr} {H : Hp} {b : Bool} {v : V} (r : Rep K M H (.bl b) v) : v = .bl b := r
theorem et_B (h : EvE K s c te ρ n n1 P) (hb : ∀ d, P d → ∃ b, d = .bl b) : EvT K s c (tB te) ρ n n1 (fun b => P (.bl b)) := fun M0 H0 O σ H Q I k => h M0 H0 O σ H _ I fun v H' d g hs r p => by
  obtain ⟨b, rfl⟩ := hb d p
  exact ⟨b, r, k b H' g hs p⟩
theorem et_test (h : EvE K s c te ρ n n1 P) (hb : ∀ d, P d → ∃ b, d = .bl b) : EvT K s c (tTest te) ρ n n1 (fun b => P (.bl b)) := fun M0 H0 O σ H Q I k => h M0 H0 O σ H _ I fun v H' d g hs r p => by
  obtain ⟨b, rfl⟩ := hb d p
  exact ⟨b, r, k b H' g hs p⟩
theorem et_not {T : Bool → Prop} (h : EvT K s c tt ρ n n1 T) : EvT K s c (tNot tt) ρ n n1 (fun b => T (!b)) := fun M0 H0 O σ H Q I k => h M0 H0 O σ H _ I fun b H' g hs p => k (!b) H' g hs (by show T (!!b); rw [Bool.not_not]; exact p)
theorem et_and {T U : Bool → Prop} (h : EvT K s c tt ρ n n1 T) (hu : T true → EvT K s c tu ρ n1 n2 U) (l : n1 ≤ n2) : EvT K s c (tAnd tt tu) ρ n n2 (fun b => (T false ∧ b = false) ∨ (T true ∧ U b)) := fun M0 H0 O σ H Q I k => h M0 H0 O σ H _ I fun b H1 g hs p => by
  cases b with
  | true => exact iteT (hu p M0 H0 O σ H1 Q (I.next g hs) fun b H2 g2 s2 p2 => k b H2 (g.trans g2) s2 (.inr ⟨p, p2⟩))
  | false => exact iteF (k false H1 g (hs.mono l) (.inl ⟨p, rfl⟩))
theorem et_or {T U : Bool → Prop} (h : EvT K s c tt ρ n n1 T) (hu : T false → EvT K s c tu ρ n1 n2 U) (l : n1 ≤ n2) : EvT K s c (tOr tt tu) ρ n n2 (fun b => (T true ∧ b = true) ∨ (T false ∧ U b)) := fun M0 H0 O σ H Q I k => h M0 H0 O σ H _ I fun b H1 g hs p => by
  cases b with
  | true => exact iteT (k true H1 g (hs.mono l) (.inl ⟨p, rfl⟩))
  | false => exact iteF (hu p M0 H0 O σ H1 Q (I.next g hs) fun b H2 g2 s2 p2 => k b H2 (g.trans g2) s2 (.inr ⟨p, p2⟩))

/-! ### own lists -/
mutual
/-- no lists and no instances within -/
def flat : D → Bool
  | .lst _ => false
  | .ins _ _ _ => false
  | .dct _ _ => false
  | .tup l => flatL l
  | _ => true
def flatL : List D → Bool
  | [] => true
  | d :: l => flat d && flatL l
end
mutual
theorem Rep.flat {M M' : List Addr} {H : Hp} : ∀ {d : D} {v : V}, Rep K M H d v → flat d = true → Rep K M' H d v
  | .non, _, h, _ => h
  | .bl _, _, h, _ => h
  | .int _, _, h, _ => h
  | .str _, _, h, _ => h
  | .obj _, _, h, _ => h
  | .tup l, _, h, f => by
    obtain ⟨a, xs, e, q, r⟩ := h
    exact ⟨a, xs, e, q, RepL.flat r f⟩
  | .lst _, _, h, f => by cases f
  | .ins _ _ _, _, h, f => by cases f
  | .dct _ _, _, h, f => by cases f
theorem RepL.flat {M M' : List Addr} {H : Hp} : ∀ {d : List D} {v : List V}, RepL K M H d v → flatL d = true → RepL K M' H d v
  | [], [], h, _ => h
  | d :: ds, v :: vs, h, f => by
    have f' : (Pl.flat d && flatL ds) = true := f
    rw [Bool.and_eq_true] at f'
    exact ⟨Rep.flat h.1 f'.1, RepL.flat h.2 f'.2⟩
  | [], _ :: _, h, _ => h.elim
  | _ :: _, [], h, _ => h.elim
end
theorem SlR.freeze {M : List Addr} {H : Hp} {l : List D} : ∀ {ρ : List Sl} {σ : L2.St} {O : List Addr} {i : Nat}, SlR K M H ρ σ O → ρ[i]? = some (.ow l) →
    ∃ A p B, O = A ++ p :: B ∧ σ[i]? = some (some (.ref p)) ∧ ∀ M', (∀ a ∈ M', a ∈ M) → p ∉ M' → SlR K M' H (ρ.set i (.va (.lst l))) σ (A ++ B)
  | .no :: ρ, _ :: σ, O, 0, h, e => by simp at e
  | .no :: ρ, _ :: σ, O, i + 1, h, e => by
    obtain ⟨A, p, B, e1, e2, k⟩ := SlR.freeze (ρ := ρ) (σ := σ) (O := O) (i := i) h (by simpa using e)
    exact ⟨A, p, B, e1, by simpa using e2, fun M' hm hp => k M' hm hp⟩
  | .va d' :: ρ, some v :: σ, O, 0, h, e => by simp at e
  | .va d' :: ρ, some v :: σ, O, i + 1, h, e => by
    obtain ⟨A, p, B, e1, e2, k⟩ := SlR.freeze (ρ := ρ) (σ := σ) (O := O) (i := i) h.2 (by simpa using e)
    exact ⟨A, p, B, e1, by simpa using e2, fun M' hm hp => ⟨h.1.mono hm, k M' hm hp⟩⟩
  | .ow l' :: ρ, some v :: σ, q :: O, 0, h, e => by
    simp at e; subst e
    obtain ⟨h1, ⟨xs, h2, h3⟩, h4⟩ := h
    refine ⟨[], q, O, rfl, by rw [h1]; rfl, fun M' hm hp => ⟨⟨q, xs, h1, hp, h2, h3.mono hm⟩, ?_⟩⟩
    exact SlR.imp (fun _ _ r => r.mono hm) (fun _ _ r => r.mono hm) (fun _ _ _ e => e) h4
  | .ow l' :: ρ, some v :: σ, q :: O, i + 1, h, e => by
    obtain ⟨A, p, B, e1, e2, k⟩ := SlR.freeze (ρ := ρ) (σ := σ) (O := O) (i := i) h.2.2 (by simpa using e)
    obtain ⟨h1, ⟨xs, h2, h3⟩, h4⟩ := h
    exact ⟨q :: A, p, B, by rw [e1]; rfl, by simpa using e2, fun M' hm hp => ⟨h1, ⟨xs, h2, h3.mono hm⟩, k M' hm hp⟩⟩
  | [], _, _, _, _, e => by simp at e
  | .no :: _, [], _, _, h, _ => by cases h
  | .va _ :: _, [], _, _, h, _ => by cases h
  | .va _ :: _, none :: _, _, _, h, _ => by cases h
  | .ow _ :: _, [], _, _, h, _ => by cases h
  | .ow _ :: _, none :: _, _, _, h, _ => by cases h
  | .ow _ :: _, some _ :: _, [], _, h, _ => by cases h
/-- an own list becomes data -/
theorem Ok.freeze {M0 : List Addr} {H0 : Hp} {O : List Addr} {σ : L2.St} {H : Hp} {l : List D} {i : Nat} (I : Ok K s c M0 H0 O ρ n σ H) (e : ρ[i]? = some (.ow l)) :
    ∃ O', (∀ o ∈ O', o ∈ O) ∧ Ok K s c M0 H0 O' (ρ.set i (.va (.lst l))) n σ H := by
  obtain ⟨A, p, B, e1, e2, k⟩ := I.sl.freeze e
  have sub : ∀ o ∈ A ++ B, o ∈ O := fun o ho => by
    rw [e1]
    rcases List.mem_append.mp ho with z | z
    · exact List.mem_append_left _ z
    · exact List.mem_append_right _ (List.mem_cons_of_mem _ z)
  have nd := I.nd
  rw [e1, List.nodup_append] at nd
  have hp : p ∈ O := by rw [e1]; exact List.mem_append_right _ List.mem_cons_self
  refine ⟨A ++ B, sub, ⟨I.ms, I.tr, I.src, I.gr, fun o ho => I.fr o (sub o ho), ?_, k _ (fun a ha => ?_) fun z => ?_⟩⟩
  · have nd2 := List.nodup_cons.mp nd.2.1
    exact List.nodup_append.mpr ⟨nd.1, nd2.2, fun a ha b hb => nd.2.2 a ha b (List.mem_cons_of_mem _ hb)⟩
  · rcases List.mem_append.mp ha with z | z
    · exact List.mem_append_left _ (sub a z)
    · exact List.mem_append_right _ z
  · rcases List.mem_append.mp z with z | z
    · rcases List.mem_append.mp z with z | z
      · exact nd.2.2 p z p List.mem_cons_self rfl
      · exact (List.nodup_cons.mp nd.2.1).1 z
    · obtain ⟨f1, f2, f3⟩ := I.fr p hp
      rcases I.tr p z with q | q | ⟨u, q⟩
      · exact f2 q
      · exact f3 q
      · rw [f1] at q; cases q
/-- an own list is read -/
theorem ev_thaw {i : Nat} {l : List D} (e : ρ[i]? = some (.ow l)) (h : EvE K s c te (ρ.set i (.va (.lst l))) n n1 P) (hf : ∀ d, P d → flat d = true) : EvE K s c te ρ n n1 P := fun M0 H0 O σ H Q I k => by
  obtain ⟨O', _, J⟩ := I.freeze e
  exact h M0 H0 O' σ H Q J fun v H' d g hs r p => k v H' d g hs (r.flat (hf d p)) p
theorem et_thaw {i : Nat} {l : List D} {T : Bool → Prop} (e : ρ[i]? = some (.ow l)) (h : EvT K s c tt (ρ.set i (.va (.lst l))) n n1 T) : EvT K s c tt ρ n n1 T := fun M0 H0 O σ H Q I k => by
  obtain ⟨O', _, J⟩ := I.freeze e
  exact h M0 H0 O' σ H Q J fun b H' g hs p => k b H' g hs p
theorem ea_thaw {i : Nat} {l : List D} {t : TA} {PL : List D → Prop} (e : ρ[i]? = some (.ow l)) (h : EvA K s c t (ρ.set i (.va (.lst l))) n n1 PL) (hf : ∀ d, PL d → flatL d = true) : EvA K s c t ρ n n1 PL := fun M0 H0 O σ H Q I k => by
  obtain ⟨O', _, J⟩ := I.freeze e
  exact h M0 H0 O' σ H Q J fun v H' d g hs r p => k v H' d g hs (r.flat (hf d p)) p
/-- .. for good -/
theorem s_freeze {ts : TS} {D : Pn} {i : Nat} {l : List Pl.D} (e : ρ[i]? = some (.ow l)) (h : EvS K s c ts (ρ.set i (.va (.lst l))) n D) : EvS K s c ts ρ n D := fun M0 H0 O σ H Dn I G => by
  obtain ⟨O', _, J⟩ := I.freeze e
  exact h M0 H0 O' σ H Dn J G
end

/-! ### targets -/
section
variable {K : PySem.W.Frag} {s c : Addr} {ρ ρ1 ρ2 ρ3 : List Sl} {n n1 n2 n3 n' : Nat} {te ta tb : TE} {P : D → Prop} {tt tu : TT}
def EvG (K : PySem.W.Frag) (s c : Addr) (g : TG) (d : D) (ρ ρ2 : List Sl) (js : List Nat) : Prop := ∀ M0 H0 O n σ H v (Q : L2.St → Hp → Prop), Ok K s c M0 H0 O ρ n σ H → Rep K (O ++ M0) H d v →
  (∀ σ2, Ok K s c M0 H0 O ρ2 n σ2 H → (∀ vs : List Nat, (∀ j ∈ js, j ∈ vs) → wipe σ2 vs = wipe σ vs) → Q σ2 H) → g v σ H Q
def EvGs (K : PySem.W.Frag) (s c : Addr) (g : TGs) (d : List D) (ρ ρ2 : List Sl) (js : List Nat) : Prop := ∀ M0 H0 O n σ H v (Q : L2.St → Hp → Prop), Ok K s c M0 H0 O ρ n σ H → RepL K (O ++ M0) H d v →
  (∀ σ2, Ok K s c M0 H0 O ρ2 n σ2 H → (∀ vs : List Nat, (∀ j ∈ js, j ∈ vs) → wipe σ2 vs = wipe σ vs) → Q σ2 H) → g v σ H Q
theorem wipe_set {σ : L2.St} {x : Option V} {j : Nat} : ∀ {vs : List Nat}, j ∈ vs → wipe (σ.set j x) vs = wipe σ vs
  | [], h => by simp at h
  | v :: vs, h => by
    unfold wipe
    by_cases e : j = v
    · subst e
      by_cases q : j ∈ vs
      · rw [wipe_set q]
      · clear h
        have : ∀ (us : List Nat) (τ : L2.St) (y : Option V), j ∉ us → wipe (τ.set j y) us = (wipe τ us).set j y := fun us => by
          induction us with
          | nil => intro τ y _; rfl
          | cons u us ih =>
            intro τ y hm
            unfold wipe
            rw [ih τ y fun z => hm (List.mem_cons_of_mem _ z), List.set_comm _ _ (fun e => hm (by rw [← e]; exact List.mem_cons_self))]
        rw [this vs σ x q, List.set_set]
    · rw [wipe_set ((List.mem_cons.mp h).resolve_left e)]
theorem eg_name {j : Nat} {d : D} (h : isOw ρ[j]? = false) : EvG K s c (gName j) d ρ (ρ.set j (.va d)) [j] := fun M0 H0 O n σ H v Q I r k =>
  k (σ.set j (some v)) ⟨I.ms, I.tr, I.src, I.gr, I.fr, I.nd, I.sl.set r h⟩ fun vs hv => wipe_set (hv j List.mem_cons_self)
theorem egs_nil : EvGs K s c gNil [] ρ ρ [] := fun M0 H0 O n σ H v Q I r k => by
  cases v with
  | nil => exact ⟨rfl, k σ I fun _ _ => rfl⟩
  | cons _ _ => exact r.elim
theorem egs_cons {t : TG} {u : TGs} {d : D} {ds : List D} {js ks : List Nat} (h : EvG K s c t d ρ ρ1 js) (hu : EvGs K s c u ds ρ1 ρ2 ks) : EvGs K s c (gCons t u) (d :: ds) ρ ρ2 (js ++ ks) := fun M0 H0 O n σ H v Q I r k => by
  cases v with
  | nil => exact r.elim
  | cons v vs =>
    exact ⟨v, vs, rfl, h M0 H0 O n σ H v _ I r.1 fun σ1 I1 w1 => hu M0 H0 O n σ1 H vs Q I1 r.2 fun σ2 I2 w2 => k σ2 I2 fun ws hw =>
      (w2 ws fun j hj => hw j (List.mem_append_right _ hj)).trans (w1 ws fun j hj => hw j (List.mem_append_left _ hj))⟩
theorem eg_tup {m : Nat} {t : TGs} {ds : List D} {js : List Nat} (h : EvGs K s c t ds ρ ρ2 js) (hm : ds.length = m) : EvG K s c (gTup K m t) (.tup ds) ρ ρ2 js := fun M0 H0 O n σ H v Q I r k => by
  obtain ⟨a, xs, e, q, r⟩ := r
  exact ⟨a, xs, e, q, by rw [← r.length]; exact hm, h M0 H0 O n σ H xs Q I r k⟩

/-! ### statements -/
theorem Go.nx' {M0 : List Addr} {H0 : Hp} {D : Pn} {Dn : Ends} {N : List Sl → Nat → Prop} {nxt : L2.St → Hp → Prop} (G : Go K s c M0 H0 D Dn) (h : ∀ O' ρ' n' σ' H', Ok K s c M0 H0 O' ρ' n' σ' H' → N ρ' n' → nxt σ' H') : Go K s c M0 H0 { D with nx := N } { Dn with nx := nxt } := ⟨h, G.rt, G.bk, G.ct⟩
theorem s_seq {t u : TS} {D : Pn} {N : List Sl → Nat → Prop} (h : EvS K s c t ρ n { D with nx := N }) (hu : ∀ ρ1 n1, N ρ1 n1 → EvS K s c u ρ1 n1 D) : EvS K s c (tSeq t u) ρ n D := fun M0 H0 O σ H Dn I G =>
  h M0 H0 O σ H { Dn with nx := u Dn } I (G.nx' fun O1 ρ1 m σ1 H1 J p => hu ρ1 m p M0 H0 O1 σ1 H1 Dn J G)
theorem s_next {D : Pn} (h : D.nx ρ n) : EvS K s c tNext ρ n D := fun M0 H0 O σ H Dn I G => G.nx O ρ n σ H I h
theorem s_break {D : Pn} (h : D.bk ρ n) : EvS K s c tBreak ρ n D := fun M0 H0 O σ H Dn I G => G.bk O ρ n σ H I h
theorem s_cont {D : Pn} (h : D.ct ρ n) : EvS K s c tCont ρ n D := fun M0 H0 O σ H Dn I G => G.ct O ρ n σ H I h
theorem s_drop {D : Pn} (h : EvE K s c te ρ n n1 P) (k : D.nx ρ n1) : EvS K s c (tDrop te) ρ n D := fun M0 H0 O σ H Dn I G =>
  h M0 H0 O σ H _ I fun v H' d g hs r p => G.nx O ρ n1 σ H' (I.next g hs) k
theorem s_asg {g : TG} {D : Pn} (h : EvE K s c te ρ n n1 P) (k : ∀ d, P d → ∃ ρ2 js, EvG K s c g d ρ ρ2 js ∧ D.nx ρ2 n1) : EvS K s c (tAsg te g) ρ n D := fun M0 H0 O σ H Dn I G =>
  h M0 H0 O σ H _ I fun v H' d gr hs r p => by
    obtain ⟨ρ2, js, hg, q⟩ := k d p
    exact hg M0 H0 O n1 σ H' v _ (I.next gr hs) r fun σ2 J _ => G.nx O ρ2 n1 σ2 H' J q
/-- x = e -/
theorem s_set {i : Nat} {D : Pn} (h : EvE K s c te ρ n n1 P) (ho : isOw ρ[i]? = false) (k : ∀ d, P d → D.nx (ρ.set i (.va d)) n1) : EvS K s c (tAsg te (gName i)) ρ n D := s_asg h fun d p => ⟨_, _, eg_name ho, k d p⟩
theorem s_ret {D : Pn} (h : EvE K s c te ρ n n1 P) (k : ∀ d, P d → D.rt d n1) : EvS K s c (tRet te) ρ n D := fun M0 H0 O σ H Dn I G =>
  h M0 H0 O σ H _ I fun v H' d gr hs r p => G.rt v H' d n1 (I.gr.trans gr) hs (r.mono fun a ha => List.mem_append_right _ ha) (k d p)
theorem s_if {t u : TS} {D : Pn} {T : Bool → Prop} (h : EvT K s c tt ρ n n1 T) (h1 : T true → EvS K s c t ρ n1 D) (h2 : T false → EvS K s c u ρ n1 D) : EvS K s c (tIfS tt t u) ρ n D := fun M0 H0 O σ H Dn I G =>
  h M0 H0 O σ H _ I fun b H' g hs p => by
    cases b with
    | true => exact iteT (h1 p M0 H0 O σ H' Dn (I.next g hs) G)
    | false => exact iteF (h2 p M0 H0 O σ H' Dn (I.next g hs) G)

/-! ### own lists change -/
theorem SlR.laid {M M' : List Addr} {H H' : Hp} {p : Addr} {xs : List V} {ds : List D} (hx : H' p = some (.lst xs)) (r : RepL K M' H' ds xs) (hM : ∀ d v, Rep K M H d v → Rep K M' H' d v) (hL : ∀ d v, RepL K M H d v → RepL K M' H' d v) :
    ∀ {ρ : List Sl} {σ : L2.St} {O : List Addr} {i : Nat}, (∀ o ∈ O, ∀ xs, H o = some (.lst xs) → H' o = some (.lst xs)) → SlR K M H ρ σ O → isOw ρ[i]? = false → i < ρ.length → ∃ A B, O = A ++ B ∧ SlR K M' H' (ρ.set i (.ow ds)) (σ.set i (some (.ref p))) (A ++ p :: B)
  | .no :: ρ, _ :: σ, O, 0, hO, h, _, _ => ⟨[], O, rfl, rfl, ⟨xs, hx, r⟩, SlR.imp hM hL hO h⟩
  | .no :: ρ, _ :: σ, O, i + 1, hO, h, e, hi => by
    obtain ⟨A, B, e1, k⟩ := SlR.laid hx r hM hL (ρ := ρ) (σ := σ) (O := O) (i := i) hO h (by simpa using e) (by simpa using hi)
    exact ⟨A, B, e1, k⟩
  | .va d' :: ρ, some v :: σ, O, 0, hO, h, _, _ => ⟨[], O, rfl, rfl, ⟨xs, hx, r⟩, SlR.imp hM hL hO h.2⟩
  | .va d' :: ρ, some v :: σ, O, i + 1, hO, h, e, hi => by
    obtain ⟨A, B, e1, k⟩ := SlR.laid hx r hM hL (ρ := ρ) (σ := σ) (O := O) (i := i) hO h.2 (by simpa using e) (by simpa using hi)
    exact ⟨A, B, e1, hM _ _ h.1, k⟩
  | .ow l :: ρ, some v :: σ, q :: O, 0, hO, h, e, _ => by simp [isOw] at e
  | .ow l :: ρ, some v :: σ, q :: O, i + 1, hO, h, e, hi => by
    obtain ⟨A, B, e1, k⟩ := SlR.laid hx r hM hL (ρ := ρ) (σ := σ) (O := O) (i := i) (fun o ho => hO o (List.mem_cons_of_mem _ ho)) h.2.2 (by simpa using e) (by simpa using hi)
    obtain ⟨h1, ⟨ys, h2, h3⟩, h4⟩ := h
    exact ⟨q :: A, B, by rw [e1]; rfl, h1, ⟨ys, hO q List.mem_cons_self ys h2, hL _ _ h3⟩, k⟩
  | [], _, _, _, _, _, _, hi => by simp at hi
  | .no :: _, [], _, _, _, h, _, _ => by cases h
  | .va _ :: _, [], _, _, _, h, _, _ => by cases h
  | .va _ :: _, none :: _, _, _, _, h, _, _ => by cases h
  | .ow _ :: _, [], _, _, _, h, _, _ => by cases h
  | .ow _ :: _, none :: _, _, _, _, h, _, _ => by cases h
  | .ow _ :: _, some _ :: _, [], _, _, h, _, _ => by cases h
/-- x = a new list, that the def may change -/
theorem s_own {i : Nat} {D : Pn} {PL : List Pl.D → Prop} (h : EvN K s c te ρ n n1 PL) (ho : isOw ρ[i]? = false) (hi : i < ρ.length) (k : ∀ l, PL l → D.nx (ρ.set i (.ow l)) n1) : EvS K s c (tAsg te (gName i)) ρ n D := fun M0 H0 O σ H Dn I G =>
  h M0 H0 O σ H _ I fun p H' ds xs g hs hp e r p1 => by
    have hpO : p ∉ O ++ M0 := I.new_out hp
    have hp0 : H0 p = none := by
      cases q : H0 p with
      | none => rfl
      | some u =>
        have := I.gr p u q (.inl fun z => hpO (I.sub p z))
        rw [hp] at this; cases this
    have J := I.next g hs
    have gM : Gr (O ++ M0) H H' := g.mono I.sub
    have hM : ∀ d v, Rep K (O ++ M0) H d v → Rep K (p :: (O ++ M0)) H' d v := fun d v q => (q.apart hp).gr (gM.mono fun a ha => List.mem_cons_of_mem _ ha)
    have hL : ∀ d v, RepL K (O ++ M0) H d v → RepL K (p :: (O ++ M0)) H' d v := fun d v q => (q.apart hp).gr (gM.mono fun a ha => List.mem_cons_of_mem _ ha)
    obtain ⟨A, B, e1, q⟩ := SlR.laid (i := i) e r hM hL (fun o ho xs e => g o _ e (.inl (not_two (I.fr o ho).2.1 (I.fr o ho).2.2))) I.sl ho hi
    have sub : ∀ a, a ∈ (A ++ p :: B) ++ M0 → a ∈ p :: (O ++ M0) := fun a ha => by
      rw [e1]
      simp only [List.mem_append, List.mem_cons] at ha ⊢
      rcases ha with (z | z | z) | z
      · exact .inr (.inl (.inl z))
      · exact .inl z
      · exact .inr (.inl (.inr z))
      · exact .inr (.inr z)
    have nd := I.nd
    rw [e1] at nd
    have nd3 := List.nodup_append.mp nd
    have hpA : p ∉ A := fun z => hpO (List.mem_append_left _ (by rw [e1]; exact List.mem_append_left _ z))
    have hpB : p ∉ B := fun z => hpO (List.mem_append_left _ (by rw [e1]; exact List.mem_append_right _ z))
    refine G.nx (A ++ p :: B) _ n1 _ H' ⟨I.ms, I.tr, hs, J.gr, fun o ho => ?_, ?_, q.imp (fun _ _ r => r.mono sub) (fun _ _ r => r.mono sub) fun _ _ _ e => e⟩ (k ds p1)
    · rcases List.mem_append.mp ho with z | z
      · exact I.fr o (by rw [e1]; exact List.mem_append_left _ z)
      · rcases List.mem_cons.mp z with z | z
        · rw [z]
          exact ⟨hp0, fun y => hpO (by rw [y]; exact List.mem_append_right _ I.ms.1), fun y => hpO (by rw [y]; exact List.mem_append_right _ I.ms.2)⟩
        · exact I.fr o (by rw [e1]; exact List.mem_append_right _ z)
    · refine List.nodup_append.mpr ⟨nd3.1, List.nodup_cons.mpr ⟨hpB, nd3.2.1⟩, fun a ha b hb => ?_⟩
      rcases List.mem_cons.mp hb with z | z
      · rw [z]
        exact fun y => hpA (y ▸ ha)
      · exact nd3.2.2 a ha b z
theorem SlR.put {M : List Addr} {H : Hp} {p : Addr} {xs : List V} {ds : List D} (hp : p ∈ M) (hl : ∃ ys, H p = some (.lst ys)) (r : RepL K M H ds xs) : ∀ {ρ : List Sl} {σ : L2.St} {O : List Addr} {i : Nat} {l : List D}, O.Nodup → SlR K M H ρ σ O → ρ[i]? = some (.ow l) → σ[i]? = some (some (.ref p)) →
    SlR K M (upd H p (.lst xs)) (ρ.set i (.ow ds)) σ O := by
  obtain ⟨ys, hy⟩ := hl
  have g : Gr M H (upd H p (.lst xs)) := fun a o e m => by
    have ne : a ≠ p := fun z => by
      subst z
      rcases m with m | m
      · exact m hp
      · rw [hy] at e; cases e; cases m
    rw [upd_ne ne]
    exact e
  have stay : ∀ {ρ : List Sl} {σ : L2.St} {O : List Addr}, p ∉ O → SlR K M H ρ σ O → SlR K M (upd H p (.lst xs)) ρ σ O := fun {ρ σ O} hO h => h.imp (fun _ _ r => r.gr g) (fun _ _ r => r.gr g) fun o ho zs e => by
    have ne : o ≠ p := fun z => hO (by rw [← z]; exact ho)
    rw [upd_ne ne]
    exact e
  intro ρ σ O i l nd h e1 e2
  induction ρ generalizing σ O i with
  | nil => simp at e1
  | cons x ρ ih =>
    cases σ with
    | nil => cases x <;> exact h.elim
    | cons y σ =>
      cases x with
      | no =>
        cases i with
        | zero => simp at e1
        | succ i => exact ih (i := i) nd h (by simpa using e1) (by simpa using e2)
      | va d =>
        cases y with
        | none => exact h.elim
        | some v =>
          cases i with
          | zero => simp at e1
          | succ i => exact ⟨h.1.gr g, ih (i := i) nd h.2 (by simpa using e1) (by simpa using e2)⟩
      | ow l' =>
        cases y with
        | none => exact h.elim
        | some v =>
          cases O with
          | nil => exact h.elim
          | cons q O =>
            have nd2 := List.nodup_cons.mp nd
            obtain ⟨h1, ⟨zs, h2, h3⟩, h4⟩ := h
            cases i with
            | zero =>
              have e : q = p := by
                simp at e2
                rw [h1] at e2
                exact V.ref.inj e2
              subst e
              exact ⟨h1, ⟨xs, upd_same, r.gr g⟩, stay nd2.1 h4⟩
            | succ i =>
              have e2' : σ[i]? = some (some (V.ref p)) := by simpa using e2
              have e1' : ρ[i]? = some (.ow l) := by simpa using e1
              obtain ⟨p', _, m, e3, _, _⟩ := h4.own e1'
              have ep : p' = p := by
                rw [e2'] at e3
                cases e3
                rfl
              have ne : q ≠ p := fun z => nd2.1 (by rw [z, ← ep]; exact m)
              exact ⟨h1, ⟨zs, by rw [upd_ne ne]; exact h2, h3.gr g⟩, ih (i := i) nd2.2 h4 e1' e2'⟩
theorem Ok.put {M0 : List Addr} {H0 : Hp} {O : List Addr} {σ : L2.St} {H : Hp} {l ds : List D} {i : Nat} {p : Addr} {xs : List V} (I : Ok K s c M0 H0 O ρ n σ H) (e : ρ[i]? = some (.ow l)) (e2 : σ[i]? = some (some (.ref p))) (hp : p ∈ O) (r : RepL K (O ++ M0) H ds xs) :
    Ok K s c M0 H0 O (ρ.set i (.ow ds)) n σ (upd H p (.lst xs)) where
  ms := I.ms
  tr := I.tr
  src := I.src.put (I.fr p hp).2.1 (I.fr p hp).2.2
  gr := I.gr.put (I.fr p hp).1
  fr := I.fr
  nd := I.nd
  sl := I.sl.put (List.mem_append_left _ hp) (I.lst p hp) r I.nd e e2
/-- x.append(e) -/
theorem s_append {i : Nat} {l : List D} {D : Pn} (e : ρ[i]? = some (.ow l)) (h : EvE K s c te ρ n n1 P) (hl : l.length ≤ 1000) (k : ∀ d, P d → D.nx (ρ.set i (.ow (l ++ [d]))) n1) : EvS K s c (tDrop (tBM K "list" rAppend (tVar i) (tCons te tNil))) ρ n D := fun M0 H0 O σ H Dn I G => by
  obtain ⟨p, xs, hp, e2, hx, r⟩ := I.sl.own e
  refine ⟨.ref p, e2, .inl ⟨rfl, xs, .inl (.inl hx)⟩, h M0 H0 O σ H _ I fun v H1 d g s1 r1 p1 => ?_⟩
  have J := I.next g s1
  have hx1 : H1 p = some (.lst xs) := g p _ hx (.inl (not_two (I.fr p hp).2.1 (I.fr p hp).2.2))
  have rr := r.gr (g.mono I.sub)
  refine ⟨p, xs, v, rfl, rfl, hx1, small1000 (by rw [← r.length]; exact hl), ?_⟩
  exact G.nx O _ n1 σ _ (J.put e e2 hp (rr.append (RepL.one r1))) (k d p1)
end
end Pl
/-! text Pl4 -/
set_option Elab.async false
set_option linter.all false
set_option maxRecDepth 100000
namespace Pl
open PySem PySem.Spec PyProof.Rows L2

/-- what an iterator walks over: the data ds, while the heap H1 without O stands -/
def Walks (K : PySem.W.Frag) (s c : Addr) (M0 : List Addr) (H1 : Hp) (O : List Addr) (J : It) (ds : List D) : Prop := ∀ A H, Gr M0 (minus H1 O) H → (∀ a ∈ A, minus H1 O a = none) →
  J.stop ds.length H ∧ ∀ i d, ds[i]? = some d → J.go i H ∧ ∀ x H', J.yld i H x H' → Gr [s, c] H H' ∧ (∀ m, Src s c m H → Src s c m H') ∧ Rep K (A ++ M0) H' d x
def EvI (K : PySem.W.Frag) (s c : Addr) (wi : TI) (ρ : List Sl) (n n' : Nat) (P : List D → Prop) : Prop := ∀ M0 H0 O σ H (R : It → Hp → Prop), Ok K s c M0 H0 O ρ n σ H →
  (∀ J H1 ds, Gr [s, c] H H1 → Src s c n' H1 → Walks K s c M0 H1 O J ds → P ds → R J H1) → wi σ H R

section
variable {K : PySem.W.Frag} {s c : Addr} {ρ ρ1 ρ2 : List Sl} {n n1 n2 n3 n' : Nat} {te ta tb tl : TE} {P : D → Prop} {tt tu : TT}
theorem ei_list {PL : List D → Prop} (h : EvE K s c tl ρ n n1 P) (hp : ∀ d, P d → ∃ ds, d = .lst ds ∧ PL ds) : EvI K s c (iList K tl) ρ n n1 PL := fun M0 H0 O σ H R I k =>
  h M0 H0 O σ H _ I fun v H1 d g hs r p => by
    obtain ⟨ds, rfl, q⟩ := hp d p
    obtain ⟨a, xs, rfl, m, rd, rl⟩ := r
    have J := I.next g hs
    refine ⟨a, rfl, ⟨xs, SqL.of rd⟩, k _ H1 ds g hs (fun A H2 g2 hA => ?_) q⟩
    have rd2 : H2 a = some (.lst xs) := g2 a _ (by rw [minus_out fun z => m (List.mem_append_left _ z)]; exact rd) (.inl fun z => m (List.mem_append_right _ z))
    have rl2 : RepL K (A ++ M0) H2 ds xs := ((rl.minus J.lst).parts hA).gr (g2.mono fun b hb => List.mem_append_right _ hb)
    refine ⟨⟨xs, SqL.of rd2, Nat.le_of_eq rl.length.symm⟩, fun i d hi => ?_⟩
    obtain ⟨x, hx, rx⟩ := rl2.at hi
    refine ⟨⟨xs, x, SqL.of rd2, hx⟩, fun y H3 hy => ?_⟩
    obtain ⟨rfl, hy⟩ := hy
    have := hy xs (SqL.of rd2)
    rw [hx] at this; cases this
    exact ⟨Gr.refl _ _, fun _ z => z, rx⟩
theorem ei_tup {PL : List D → Prop} (h : EvE K s c tl ρ n n1 P) (hp : ∀ d, P d → ∃ ds, d = .tup ds ∧ PL ds) : EvI K s c (iTup K tl) ρ n n1 PL := fun M0 H0 O σ H R I k =>
  h M0 H0 O σ H _ I fun v H1 d g hs r p => by
    obtain ⟨ds, rfl, q⟩ := hp d p
    obtain ⟨a, xs, rfl, st, rl⟩ := r
    have J := I.next g hs
    refine ⟨a, rfl, ⟨xs, st⟩, k _ H1 ds g hs (fun A H2 g2 hA => ?_) q⟩
    have rd2 : SqT K H2 a xs := gr_t g2 (t_minus J.lst st)
    have rl2 : RepL K (A ++ M0) H2 ds xs := ((rl.minus J.lst).parts hA).gr (g2.mono fun b hb => List.mem_append_right _ hb)
    refine ⟨⟨xs, rd2, Nat.le_of_eq rl.length.symm⟩, fun i d hi => ?_⟩
    obtain ⟨x, hx, rx⟩ := rl2.at hi
    refine ⟨⟨xs, x, rd2, hx⟩, fun y H3 hy => ?_⟩
    obtain ⟨rfl, hy⟩ := hy
    have := hy xs rd2
    rw [hx] at this; cases this
    exact ⟨Gr.refl _ _, fun _ z => z, rx⟩
def dInts (lo : Int) (m : Nat) : List D := (List.range m).map fun i => .int (lo + (i : Nat))
theorem ints_len (lo : Int) (m : Nat) : (dInts lo m).length = m := by simp [dInts]
theorem ints_at {lo : Int} {m i : Nat} (h : i < m) : (dInts lo m)[i]? = some (.int (lo + (i : Nat))) := by simp [dInts, h]
theorem ints_at' {lo : Int} {m i : Nat} {d : D} (h : (dInts lo m)[i]? = some d) : i < m ∧ d = .int (lo + (i : Nat)) := by
  have hi : i < m := by
    have := (List.getElem?_eq_some_iff.mp h).1
    rwa [ints_len] at this
  rw [ints_at hi] at h
  exact ⟨hi, (Option.some.inj h).symm⟩
theorem walks_rng {M0 : List Addr} {H1 : Hp} {O : List Addr} {lo : Int} {m : Nat} : Walks K s c M0 H1 O (Itr lo m) (dInts lo m) := fun A H g hA => by
  refine ⟨by rw [ints_len]; exact Nat.le_refl m, fun i d hi => ?_⟩
  obtain ⟨h1, rfl⟩ := ints_at' hi
  refine ⟨h1, fun x H' hy => ?_⟩
  obtain ⟨rfl, rfl⟩ := hy
  exact ⟨Gr.refl _ _, fun _ z => z, rfl⟩
theorem ei_rng1 {t : TA} {PA : List D → Prop} {PL : List D → Prop} (h : EvA K s c t ρ n n1 PA) (hp : ∀ l, PA l → ∃ j : Int, l = [.int j] ∧ j ≤ 2 ^ 40 ∧ 0 ≤ j ∧ PL (dInts 0 j.toNat)) : EvI K s c (iRng1 t) ρ n n1 PL := fun M0 H0 O σ H R I k =>
  h M0 H0 O σ H _ I fun vs H1 l g hs r p => by
    obtain ⟨j, rfl, h1, h0, q⟩ := hp l p
    obtain ⟨v, rfl, e⟩ := r.inv1
    have e : v = .int j := e
    subst e
    exact ⟨j, rfl, by omega, by omega, k _ H1 _ g hs walks_rng q⟩

/-! ### for -/
theorem s_for {wi : TI} {g : TG} {tb : TS} {D : Pn} {PL : List Pl.D → Prop} (h : EvI K s c wi ρ n n1 PL) (Inv : List Pl.D → Nat → List Sl → Nat → Prop) (h0 : ∀ ds, PL ds → Inv ds 0 ρ n1)
    (hs : ∀ ds, PL ds → ∀ i d ρ' m, ds[i]? = some d → Inv ds i ρ' m → ∃ ρ2 js, EvG K s c g d ρ' ρ2 js ∧ EvS K s c tb ρ2 m { D with nx := Inv ds (i + 1), ct := Inv ds (i + 1), bk := D.nx })
    (hd : ∀ ds, PL ds → ∀ ρ' m, Inv ds ds.length ρ' m → D.nx ρ' m) : EvS K s c (tFor wi g tb) ρ n D := fun M0 H0 O σ H Dn I G =>
  h M0 H0 O σ H _ I fun J H1 ds g1 s1 w p => by
    have I1 := I.next g1 s1
    refine ⟨fun i k σ' H' => ∃ O' ρ' m, Ok K s c M0 (minus H1 O) O' ρ' m σ' H' ∧ Inv ds i ρ' m ∧ i ≤ ds.length ∧ k = ds.length - i, ⟨ds.length, O, ρ, n1, I1.focus, h0 ds p, Nat.zero_le _, rfl⟩, ?_⟩
    rintro i k σ' H' ⟨O', ρ', m, J', inv, hi, rfl⟩
    obtain ⟨w1, w2⟩ := w O' H' (J'.gr.mono (two_sub J'.ms)) fun o ho => (J'.fr o ho).1
    by_cases hlt : i < ds.length
    · obtain ⟨w3, w4⟩ := w2 i ds[i] (List.getElem?_eq_getElem hlt)
      refine .inr ⟨w3, fun σ2 H2 => ∃ O' ρ' m, Ok K s c M0 (minus H1 O) O' ρ' m σ2 H2 ∧ Inv ds (i + 1) ρ' m, fun σ2 H2 ⟨O2, ρ2, m2, J2, inv2⟩ => ⟨ds.length - (i + 1), by omega, O2, ρ2, m2, J2, inv2, hlt, rfl⟩, fun x H2 hy => ?_⟩
      obtain ⟨g2, s2, r2⟩ := w4 x H2 hy
      have J2 := J'.next g2 (s2 _ J'.src)
      obtain ⟨ρ2, js, eg, es⟩ := hs ds p i _ ρ' m (List.getElem?_eq_getElem hlt) inv
      refine eg M0 _ O' m σ' H2 x _ J2 r2 fun σ2 J3 _ => ?_
      refine es M0 _ O' σ2 H2 _ J3 ⟨fun O3 ρ3 m3 σ3 H3 J4 q => ⟨O3, ρ3, m3, J4, q⟩, fun v H3 d n3 g3 s3 r3 q => G.rt v H3 d n3 (gr_unfocus (a := 0) I1 g3) s3 r3 q, fun O3 ρ3 m3 σ3 H3 J4 q => G.nx O3 ρ3 m3 σ3 H3 (I1.unfocus J4) q, fun O3 ρ3 m3 σ3 H3 J4 q => ⟨O3, ρ3, m3, J4, q⟩⟩
    · have e : i = ds.length := by omega
      subst e
      exact .inl ⟨w1, G.nx O' ρ' m σ' H' (I1.unfocus J') (hd ds p ρ' m inv)⟩

/-! ### comprehensions -/
def wipeS (ρ : List Sl) : List Nat → List Sl
  | [] => ρ
  | v :: vs => (wipeS ρ vs).set v .no
def noOws (ρ : List Sl) : List Nat → Bool
  | [] => true
  | v :: vs => !isOw (wipeS ρ vs)[v]? && noOws ρ vs
theorem SlR.wipe {M : List Addr} {H : Hp} {σ : L2.St} {O : List Addr} (h : SlR K M H ρ σ O) : ∀ {vs : List Nat}, noOws ρ vs = true → SlR K M H (wipeS ρ vs) (L2.wipe σ vs) O
  | [], _ => h
  | v :: vs, e => by
    have e' : (!isOw (wipeS ρ vs)[v]? && noOws ρ vs) = true := e
    rw [Bool.and_eq_true, Bool.not_eq_true'] at e'
    exact (SlR.wipe h e'.2).off e'.1
theorem wipe_wipe (σ : L2.St) (vs : List Nat) : ∀ us : List Nat, (∀ u ∈ us, u ∈ vs) → L2.wipe (L2.wipe σ us) vs = L2.wipe σ vs
  | [], _ => rfl
  | u :: us, h => by
    show L2.wipe ((L2.wipe σ us).set u none) vs = _
    rw [wipe_set (h u List.mem_cons_self), wipe_wipe σ vs us fun x hx => h x (List.mem_cons_of_mem _ hx)]
/-- [elt for .. in .. if ..]: Inv by the turn and the list so far -/
theorem en_lc {wi : TI} {g : TG} {vs : List Nat} {PL : List D → Prop} (h : EvI K s c wi ρ n n1 PL) (hv : noOws ρ vs = true) (Inv : List D → Nat → List D → Nat → Prop) (h0 : ∀ ds, PL ds → ds.length ≤ 1000 ∧ Inv ds 0 [] n1)
    (hs : ∀ ds, PL ds → ∀ i d acc m, ds[i]? = some d → acc.length ≤ i → Inv ds i acc m → ∃ ρ2 js m1 T, EvG K s c g d (wipeS ρ vs) ρ2 js ∧ (∀ j ∈ js, j ∈ vs) ∧ EvT K s c tt ρ2 m m1 T ∧
      (T true → ∃ m2 R, EvE K s c te ρ2 m1 m2 R ∧ ∀ y, R y → Inv ds (i + 1) (acc ++ [y]) m2) ∧ (T false → Inv ds (i + 1) acc m1))
    (hd : ∀ ds, PL ds → ∀ acc m, Inv ds ds.length acc m → m ≤ n2) : EvN K s c (tLc wi g tt te vs) ρ n n2 (fun l => ∃ ds, PL ds ∧ ∃ m, Inv ds ds.length l m) := fun M0 H0 O σ H Q I k =>
  h M0 H0 O σ H _ I fun J H1 ds g1 s1 w p D hD => by
    have I1 := I.next g1 s1
    have hDout := I1.new_out hD
    have hDs : D ∉ [s, c] := fun z => hDout (I1.sub D z)
    have hDO : D ∉ O := fun z => hDout (List.mem_append_left _ z)
    -- the state within: D stands apart
    have start : ∀ xs : List V, minus (upd H1 D (.lst xs)) O D = some (.lst xs) := fun xs => by
      rw [minus_out hDO, upd_same]
    have base : ∀ a o, minus H1 O a = some o → minus (upd H1 D (.lst [])) O a = some o := fun a o e => by
      obtain ⟨h1, h2⟩ := minus_some e
      rw [minus_out h1, upd_ne (ne_of_none h2 hD)]
      exact h2
    refine ⟨fun i kk H' => ∃ acc xs m, Gr [s, c] (minus H1 O) H' ∧ (∀ o ∈ O, ∀ ys, H1 o = some (.lst ys) → H' o = some (.lst ys)) ∧ H' D = some (.lst xs) ∧ RepL K (D :: (O ++ M0)) H' acc xs ∧ Src s c m H' ∧ acc.length ≤ i ∧ Inv ds i acc m ∧ i ≤ ds.length ∧ kk = ds.length - i,
      ⟨ds.length, [], [], n1, ?_, fun o ho ys e => ?_, upd_same, trivial, s1.new hD, Nat.le_refl _, (h0 ds p).2, Nat.zero_le _, rfl⟩, ?_⟩
    · exact fun a o e m => by
        obtain ⟨h1, h2⟩ := minus_some e
        rw [upd_ne (ne_of_none h2 hD)]
        exact h2
    · rw [upd_ne (fun z => hDO (by rw [← z]; exact ho))]
      exact e
    rintro i kk H2 ⟨acc, xs, m, gr2, ow2, eD, ra, s2, la, inv, hi, rfl⟩
    obtain ⟨w1, w2⟩ := w (D :: O) H2 (gr2.mono (two_sub I.ms)) fun a ha => by
      rcases List.mem_cons.mp ha with z | z
      · rw [z, minus_out hDO]; exact hD
      · exact minus_in z
    -- the body's state over H2: what callers set apart is D :: M0
    have st : Ok K s c (D :: M0) (minus H2 O) O (wipeS ρ vs) m (L2.wipe σ vs) H2 := by
      have gH : Gr (O ++ M0) H1 H2 := fun a o e mm => by
        by_cases z : a ∈ O
        · obtain ⟨ys, hy⟩ := I1.lst a z
          rw [hy] at e; cases e
          exact ow2 a z ys hy
        · refine gr2 a o (by rw [minus_out z]; exact e) ?_
          rcases mm with mm | mm
          · exact .inl fun q => mm (I1.sub a q)
          · exact .inr mm
      have sl2 : SlR K (D :: (O ++ M0)) H2 ρ σ O := I1.sl.imp (fun _ _ r => (r.apart hD).gr (gH.mono fun a ha => List.mem_cons_of_mem _ ha)) (fun _ _ r => (r.apart hD).gr (gH.mono fun a ha => List.mem_cons_of_mem _ ha)) ow2
      refine ⟨⟨List.mem_cons_of_mem _ I.ms.1, List.mem_cons_of_mem _ I.ms.2⟩, fun a ha => ?_, s2, fun a o e _ => (minus_some e).2, fun o ho => ⟨minus_in ho, (I.fr o ho).2⟩, I.nd, ?_⟩
      · rcases List.mem_cons.mp ha with z | z
        · exact .inr (.inr ⟨.lst xs, by rw [z, minus_out hDO]; exact eD⟩)
        · obtain ⟨o, e⟩ := I1.there a z
          by_cases z1 : a = s
          · exact .inl z1
          · by_cases z2 : a = c
            · exact .inr (.inl z2)
            · have z3 : a ∉ O := fun q => by
                rcases I.tr a z with y | y | ⟨u, y⟩
                · exact z1 y
                · exact z2 y
                · rw [(I.fr a q).1] at y; cases y
              exact .inr (.inr ⟨o, by rw [minus_out z3]; exact gr2 a o (by rw [minus_out z3]; exact e) (.inl (not_two z1 z2))⟩)
      · refine (sl2.wipe hv).imp (fun _ _ r => r.mono ?_) (fun _ _ r => r.mono ?_) fun _ _ _ e => e
        all_goals
          intro a ha
          simp only [List.mem_append, List.mem_cons] at ha ⊢
          rcases ha with z | z | z
          · exact .inr (.inl z)
          · exact .inl z
          · exact .inr (.inr z)
    by_cases hlt : i < ds.length
    · obtain ⟨w3, w4⟩ := w2 i ds[i] (List.getElem?_eq_getElem hlt)
      have lz : acc.length < sizeLine := small1000 (by have := (h0 ds p).1; omega)
      obtain ⟨ρ2, js, m1, T, eg, hj, et, h1, h2⟩ := hs ds p i _ acc m (List.getElem?_eq_getElem hlt) la inv
      refine .inr ⟨w3, fun H' => ∃ acc xs m, Gr [s, c] (minus H1 O) H' ∧ (∀ o ∈ O, ∀ ys, H1 o = some (.lst ys) → H' o = some (.lst ys)) ∧ H' D = some (.lst xs) ∧ RepL K (D :: (O ++ M0)) H' acc xs ∧ Src s c m H' ∧ acc.length ≤ i + 1 ∧ Inv ds (i + 1) acc m,
        fun H' ⟨acc', xs', m', q1, q2, q3, q4, q5, q6, q7⟩ => ⟨ds.length - (i + 1), by omega, acc', xs', m', q1, q2, q3, q4, q5, q6, q7, hlt, rfl⟩, fun x H3 hy => ?_⟩
      obtain ⟨g3, s3, r3⟩ := w4 x H3 hy
      have st3 := st.next g3 (s3 _ s2)
      have keep : ∀ {H4 : Hp}, Gr [s, c] H2 H4 → Gr [s, c] (minus H1 O) H4 ∧ (∀ o ∈ O, ∀ ys, H1 o = some (.lst ys) → H4 o = some (.lst ys)) ∧ H4 D = some (.lst xs) ∧ RepL K (D :: (O ++ M0)) H4 acc xs := fun {H4} g =>
        ⟨gr2.trans g, fun o ho ys e => g o _ (ow2 o ho ys e) (.inl (not_two (I.fr o ho).2.1 (I.fr o ho).2.2)), g D _ eD (.inl hDs), ra.gr (g.mono fun a ha => List.mem_cons_of_mem _ (I1.sub a ha))⟩
      have rx : Rep K (O ++ (D :: M0)) H3 ds[i] x := r3.mono fun a ha => by
        simp only [List.mem_append, List.mem_cons] at ha ⊢
        rcases ha with z | z | z
        · exact .inl (.inr z)
        · exact .inl (.inl z)
        · exact .inr z
      refine eg (D :: M0) _ O m (L2.wipe σ vs) H3 x _ st3 rx fun σ2 st4 wq => ?_
      refine ⟨by rw [wq vs hj, wipe_wipe σ vs vs fun _ z => z], ?_⟩
      refine et (D :: M0) _ O σ2 H3 _ st4 fun b H4 g4 s4 pb => ?_
      cases b with
      | false =>
        obtain ⟨q1, q2, q3, q4⟩ := keep (g3.trans g4)
        exact iteF ⟨acc, xs, m1, q1, q2, q3, q4, s4, by omega, h2 pb⟩
      | true =>
        obtain ⟨m2, R, ee, hR⟩ := h1 pb
        refine iteT (ee (D :: M0) _ O σ2 H4 _ (st4.next g4 s4) fun y H5 e g5 s5 r5 py => ?_)
        obtain ⟨q1, q2, q3, q4⟩ := keep ((g3.trans g4).trans g5)
        have gD : Gr (D :: (O ++ M0)) H5 (upd H5 D (.lst (xs ++ [y]))) := fun a o ea mm => by
          have ne : a ≠ D := fun z => by
            subst z
            rcases mm with mm | mm
            · exact mm List.mem_cons_self
            · rw [q3] at ea; cases ea; cases mm
          rw [upd_ne ne]
          exact ea
        have r5' : Rep K (D :: (O ++ M0)) H5 e y := r5.mono fun a ha => by
          simp only [List.mem_append, List.mem_cons] at ha ⊢
          rcases ha with z | z | z
          · exact .inr (.inl z)
          · exact .inl z
          · exact .inr (.inr z)
        refine ⟨xs, q3, by rw [← ra.length]; exact lz, acc ++ [e], xs ++ [y], m2, ?_, ?_, upd_same, (q4.append (RepL.one r5')).gr gD, s5.put (fun z => hDs (by rw [z]; exact List.mem_cons_self)) (fun z => hDs (by rw [z]; exact List.mem_cons_of_mem _ List.mem_cons_self)), ?_, hR e py⟩
        · intro a o ea mm
          have h3 := q1 a o ea mm
          have ne : a ≠ D := fun z => by
            have := (minus_some ea).2
            rw [z, hD] at this; cases this
          rw [upd_ne ne]
          exact h3
        · intro o ho ys eo
          rw [upd_ne (fun z => hDO (by rw [← z]; exact ho))]
          exact q2 o ho ys eo
        · rw [List.length_append]
          exact Nat.succ_le_succ la
    · have e : i = ds.length := by omega
      subst e
      have gH : Gr [s, c] H H2 := fun a o ea mm => by
        have e1 := g1 a o ea mm
        by_cases z : a ∈ O
        · obtain ⟨ys, hy⟩ := I1.lst a z
          rw [hy] at e1; cases e1
          exact ow2 a z ys hy
        · exact gr2 a o (by rw [minus_out z]; exact e1) mm
      have hD0 : H D = none := g1.none hD hDs
      exact .inl ⟨w1, k D H2 acc xs gH (s2.mono (hd ds p acc m inv)) hD0 eD ra ⟨ds, p, m, inv⟩⟩
end
end Pl
/-! text Pl5 -/
set_option Elab.async false
set_option linter.all false
set_option maxRecDepth 100000
namespace Pl
open PySem PySem.Spec PyProof.Rows L2

section
variable {K : PySem.W.Frag} {s c : Addr} {ρ ρ1 ρ2 : List Sl} {n n1 n2 n3 n' : Nat} {te ta tb tl : TE} {P : D → Prop} {tt tu : TT}
/-! ### operations on data -/
theorem rv_I0 {g : Int → Int → V} {f : Int → Int → D} (hg : ∀ (M : List Addr) H i j, Rep K M H (f i j) (g i j)) {A B : D → Prop} (ha : ∀ d, A d → ∃ i, d = .int i) (hb : ∀ d, B d → ∃ i, d = .int i) :
    RV K s c (rI0 g) A B (fun x y z => ∃ i j, x = .int i ∧ y = .int j ∧ z = f i j) := fun M n x y dx dy H Q _ _ hs rx ry pa pb k => by
  obtain ⟨i, rfl⟩ := ha dx pa
  obtain ⟨j, rfl⟩ := hb dy pb
  exact ⟨i, j, rx, ry, k _ H (f i j) (Gr.refl _ _) hs (hg M H i j) ⟨i, j, rfl, rfl, rfl⟩⟩
theorem rv_I {C : Int → Int → Prop} {g : Int → Int → V} {f : Int → Int → D} (hg : ∀ (M : List Addr) H i j, Rep K M H (f i j) (g i j)) {A B : D → Prop} (ha : ∀ d, A d → ∃ i, d = .int i) (hb : ∀ d, B d → ∃ i, d = .int i)
    (hC : ∀ i j, A (.int i) → B (.int j) → C i j) : RV K s c (rI C g) A B (fun x y z => ∃ i j, x = .int i ∧ y = .int j ∧ z = f i j) := fun M n x y dx dy H Q _ _ hs rx ry pa pb k => by
  obtain ⟨i, rfl⟩ := ha dx pa
  obtain ⟨j, rfl⟩ := hb dy pb
  exact ⟨i, j, rx, ry, hC i j pa pb, k _ H (f i j) (Gr.refl _ _) hs (hg M H i j) ⟨i, j, rfl, rfl, rfl⟩⟩
/-- on ints that are known -/
theorem ev_I0 {g : Int → Int → V} {f : Int → Int → D} {i j : Int} (hg : ∀ (M : List Addr) H i j, Rep K M H (f i j) (g i j)) (ha : EvE K s c ta ρ n n1 (fun d => d = .int i)) (hb : EvE K s c tb ρ n1 n2 (fun d => d = .int j)) :
    EvE K s c (tOp (rI0 g) ta tb) ρ n n2 (fun z => z = f i j) := (ev_op ha hb (rv_I0 hg (fun d e => ⟨i, e⟩) fun d e => ⟨j, e⟩)).imp fun z h => by
  obtain ⟨x, y, rfl, rfl, i', j', e1, e2, rfl⟩ := h
  cases e1; cases e2; rfl
theorem ev_I {C : Int → Int → Prop} {g : Int → Int → V} {f : Int → Int → D} {i j : Int} (hg : ∀ (M : List Addr) H i j, Rep K M H (f i j) (g i j)) (ha : EvE K s c ta ρ n n1 (fun d => d = .int i)) (hb : EvE K s c tb ρ n1 n2 (fun d => d = .int j)) (hC : C i j) :
    EvE K s c (tOp (rI C g) ta tb) ρ n n2 (fun z => z = f i j) := (ev_op ha hb (rv_I hg (fun d e => ⟨i, e⟩) (fun d e => ⟨j, e⟩) fun i' j' e1 e2 => by cases e1; cases e2; exact hC)).imp fun z h => by
  obtain ⟨x, y, rfl, rfl, i', j', e1, e2, rfl⟩ := h
  cases e1; cases e2; rfl
theorem ev_add {i j : Int} (ha : EvE K s c ta ρ n n1 (fun d => d = .int i)) (hb : EvE K s c tb ρ n1 n2 (fun d => d = .int j)) : EvE K s c (tOp (rI0 fun i j => .int (i + j)) ta tb) ρ n n2 (fun z => z = .int (i + j)) := ev_I0 (f := fun i j => .int (i + j)) (fun _ _ _ _ => rfl) ha hb
theorem ev_sub {i j : Int} (ha : EvE K s c ta ρ n n1 (fun d => d = .int i)) (hb : EvE K s c tb ρ n1 n2 (fun d => d = .int j)) : EvE K s c (tOp (rI0 fun i j => .int (i - j)) ta tb) ρ n n2 (fun z => z = .int (i - j)) := ev_I0 (f := fun i j => .int (i - j)) (fun _ _ _ _ => rfl) ha hb
theorem ev_mulW {i j : Int} (ha : EvE K s c ta ρ n n1 (fun d => d = .int i)) (hb : EvE K s c tb ρ n1 n2 (fun d => d = .int j)) (h : CMulW i j) : EvE K s c (tOp (rI CMulW fun i j => .int (i * j)) ta tb) ρ n n2 (fun z => z = .int (i * j)) := ev_I (f := fun i j => .int (i * j)) (fun _ _ _ _ => rfl) ha hb h
theorem ev_mod {i j : Int} (ha : EvE K s c ta ρ n n1 (fun d => d = .int i)) (hb : EvE K s c tb ρ n1 n2 (fun d => d = .int j)) (h : 0 < j) : EvE K s c (tOp (rI (fun _ j => 0 < j) fun i j => .int (i % j)) ta tb) ρ n n2 (fun z => z = .int (i % j)) := ev_I (f := fun i j => .int (i % j)) (fun _ _ _ _ => rfl) ha hb h
theorem ev_fdivW {i j : Int} (ha : EvE K s c ta ρ n n1 (fun d => d = .int i)) (hb : EvE K s c tb ρ n1 n2 (fun d => d = .int j)) (h : CDivW i j) : EvE K s c (tOp (rI CDivW fun i j => .int (i / j)) ta tb) ρ n n2 (fun z => z = .int (i / j)) := ev_I (f := fun i j => .int (i / j)) (fun _ _ _ _ => rfl) ha hb h
theorem ev_lt {i j : Int} (ha : EvE K s c ta ρ n n1 (fun d => d = .int i)) (hb : EvE K s c tb ρ n1 n2 (fun d => d = .int j)) : EvE K s c (tOp (rI0 fun i j => .bl (decide (i < j))) ta tb) ρ n n2 (fun z => z = .bl (decide (i < j))) := ev_I0 (f := fun i j => .bl (decide (i < j))) (fun _ _ _ _ => rfl) ha hb
theorem ev_le {i j : Int} (ha : EvE K s c ta ρ n n1 (fun d => d = .int i)) (hb : EvE K s c tb ρ n1 n2 (fun d => d = .int j)) : EvE K s c (tOp (rI0 fun i j => .bl (decide (i ≤ j))) ta tb) ρ n n2 (fun z => z = .bl (decide (i ≤ j))) := ev_I0 (f := fun i j => .bl (decide (i ≤ j))) (fun _ _ _ _ => rfl) ha hb
theorem ev_gt {i j : Int} (ha : EvE K s c ta ρ n n1 (fun d => d = .int i)) (hb : EvE K s c tb ρ n1 n2 (fun d => d = .int j)) : EvE K s c (tOp (rI0 fun i j => .bl (decide (j < i))) ta tb) ρ n n2 (fun z => z = .bl (decide (j < i))) := ev_I0 (f := fun i j => .bl (decide (j < i))) (fun _ _ _ _ => rfl) ha hb
theorem ev_ge {i j : Int} (ha : EvE K s c ta ρ n n1 (fun d => d = .int i)) (hb : EvE K s c tb ρ n1 n2 (fun d => d = .int j)) : EvE K s c (tOp (rI0 fun i j => .bl (decide (j ≤ i))) ta tb) ρ n n2 (fun z => z = .bl (decide (j ≤ i))) := ev_I0 (f := fun i j => .bl (decide (j ≤ i))) (fun _ _ _ _ => rfl) ha hb
/-- a scalar -/
def scD : D → Bool
  | .non => true | .bl _ => true | .int _ => true | .str _ => true | _ => false
/-- xs[i] -/
theorem ev_ixL {l : List D} {i : Int} {d : D} (ha : EvE K s c ta ρ n n1 (fun d => d = .lst l)) (hb : EvE K s c tb ρ n1 n2 (fun d => d = .int i)) (h : atI l i = some d) : EvE K s c (tOp (rIxL K) ta tb) ρ n n2 (fun z => z = d) := fun M0 H0 O σ H Q I k =>
  ha M0 H0 O σ H _ I fun v H1 e g1 s1 r1 p1 => hb M0 H0 O σ H1 _ (I.next g1 s1) fun w H2 f g2 s2 r2 p2 => by
    subst p1; subst p2
    obtain ⟨a, xs, rfl, m, rd, rl⟩ := Rep.gr (g2.mono I.sub) r1
    have r2 : w = .int i := r2
    subst r2
    obtain ⟨j, e1, e2, e3, _⟩ := atI_get h
    obtain ⟨x, hx, rx⟩ := rl.at e2
    refine ⟨a, xs, i, x, rfl, rfl, SqL.of rd, ?_, k x H2 d (g1.trans g2) s2 rx rfl⟩
    unfold atI at h ⊢
    rw [← rl.length]
    cases q : ixN l.length i with
    | none => rw [q] at h; cases h
    | some j' =>
      rw [q] at h
      have q2 := (ixN_seq q).1
      rw [q2] at e1; cases e1
      exact hx
theorem ev_ixT {l : List D} {i : Int} {d : D} (ha : EvE K s c ta ρ n n1 (fun d => d = .tup l)) (hb : EvE K s c tb ρ n1 n2 (fun d => d = .int i)) (h : atI l i = some d) : EvE K s c (tOp (rIxT K) ta tb) ρ n n2 (fun z => z = d) := fun M0 H0 O σ H Q I k =>
  ha M0 H0 O σ H _ I fun v H1 e g1 s1 r1 p1 => hb M0 H0 O σ H1 _ (I.next g1 s1) fun w H2 f g2 s2 r2 p2 => by
    subst p1; subst p2
    obtain ⟨a, xs, rfl, rd, rl⟩ := Rep.gr (g2.mono I.sub) r1
    have r2 : w = .int i := r2
    subst r2
    obtain ⟨j, e1, e2, e3, _⟩ := atI_get h
    obtain ⟨x, hx, rx⟩ := rl.at e2
    refine ⟨a, xs, i, x, rfl, rfl, rd, ?_, k x H2 d (g1.trans g2) s2 rx rfl⟩
    unfold atI at h ⊢
    rw [← rl.length]
    cases q : ixN l.length i with
    | none => rw [q] at h; cases h
    | some j' =>
      rw [q] at h
      have q2 := (ixN_seq q).1
      rw [q2] at e1; cases e1
      exact hx
/-- a sign of a text -/
theorem ev_ixS {z : Str} {i : Int} {q : Nat} (ha : EvE K s c ta ρ n n1 (fun d => d = .str z)) (hb : EvE K s c tb ρ n1 n2 (fun d => d = .int i)) (hz : z.length ≤ sizeLine) (h : atI z.cps.toList i = some q) : EvE K s c (tOp rIxS ta tb) ρ n n2 (fun d => d = .str ⟨#[q]⟩) := fun M0 H0 O σ H Q I k =>
  ha M0 H0 O σ H _ I fun v H1 e g1 s1 r1 p1 => hb M0 H0 O σ H1 _ (I.next g1 s1) fun w H2 f g2 s2 r2 p2 => by
    subst p1; subst p2
    exact ⟨z, i, q, r1, r2, hz, h, k _ H2 (.str ⟨#[q]⟩) (g1.trans g2) s2 rfl rfl⟩
/-- len of a list or tuple -/
def rLenS (K : PySem.W.Frag) : List V → Hp → VK → Prop := fun xs H Q => ∃ p ys, xs = [.ref p] ∧ (SqL K H p ys ∨ SqT K H p ys) ∧ Q (.int ys.length) H
def seqD : D → Option (List D)
  | .lst l => some l
  | .tup l => some l
  | _ => none
theorem rep_seq {M : List Addr} {H : Hp} {d : D} {l : List D} {v : V} (e : seqD d = some l) (r : Rep K M H d v) : ∃ a xs, v = .ref a ∧ (SqL K H a xs ∨ SqT K H a xs) ∧ RepL K M H l xs := by
  cases d with
  | lst l' =>
    cases e
    obtain ⟨a, xs, e1, m, rd, rl⟩ := r
    exact ⟨a, xs, e1, .inl (SqL.of rd), rl⟩
  | tup l' =>
    cases e
    obtain ⟨a, xs, e1, rd, rl⟩ := r
    exact ⟨a, xs, e1, .inr rd, rl⟩
  | _ => cases e
theorem ev_len {l : List D} (ha : EvE K s c ta ρ n n1 (fun d => seqD d = some l)) : EvE K s c (tCB (rLenS K) (tCons ta tNil)) ρ n n1 (fun d => d = .int (l.length : Int)) := fun M0 H0 O σ H Q I k =>
  ha M0 H0 O σ H _ I fun v H1 e g1 s1 r1 p1 => by
    obtain ⟨a, xs, rfl, sq, rl⟩ := rep_seq p1 r1
    refine ⟨a, xs, rfl, sq, k _ H1 (.int (l.length : Int)) g1 s1 ?_ rfl⟩
    show V.int _ = V.int _
    rw [rl.length]
/-- len of a text -/
theorem ev_lenS {z : Str} (ha : EvE K s c ta ρ n n1 (fun d => d = .str z)) (hz : z.length ≤ sizeLine) : EvE K s c (tCB (fun xs H Q => ∃ z, xs = [.str z] ∧ z.length ≤ sizeLine ∧ Q (.int z.length) H) (tCons ta tNil)) ρ n n1 (fun d => d = .int z.length) := fun M0 H0 O σ H Q I k =>
  ha M0 H0 O σ H _ I fun v H1 e g1 s1 r1 p1 => by
    subst p1
    have r1 : v = .str z := r1
    subst r1
    exact ⟨z, rfl, hz, k _ H1 (.int z.length) g1 s1 rfl rfl⟩
/-- int(x) of an int -/
theorem ev_int1 {i : Int} (ha : EvE K s c ta ρ n n1 (fun d => d = .int i)) : EvE K s c (tCB (fun xs H Q => (∃ i, xs = [.int i] ∧ Q (.int i) H) ∨ ∃ k, xs = [.bl k] ∧ Q (.int (if k then 1 else 0)) H) (tCons ta tNil)) ρ n n1 (fun d => d = .int i) := fun M0 H0 O σ H Q I k =>
  ha M0 H0 O σ H _ I fun v H1 e g1 s1 r1 p1 => by
    subst p1
    have r1 : v = .int i := r1
    subst r1
    exact .inl ⟨i, rfl, k _ H1 (.int i) g1 s1 rfl rfl⟩
/-- abs(x) -/
theorem ev_abs {i : Int} (ha : EvE K s c ta ρ n n1 (fun d => d = .int i)) : EvE K s c (tCB (fun xs H Q => ∃ i, xs = [.int i] ∧ Q (.int (if i < 0 then -i else i)) H) (tCons ta tNil)) ρ n n1 (fun d => d = .int (if i < 0 then -i else i)) := fun M0 H0 O σ H Q I k =>
  ha M0 H0 O σ H _ I fun v H1 e g1 s1 r1 p1 => by
    subst p1
    have r1 : v = .int i := r1
    subst r1
    exact ⟨i, rfl, k _ H1 (.int (if i < 0 then -i else i)) g1 s1 rfl rfl⟩
/-- an argument list of one, of two -/
theorem ea_one {d : D} (h : EvE K s c te ρ n n1 (fun x => x = d)) : EvA K s c (tCons te tNil) ρ n n1 (fun l => l = [d]) := fun M0 H0 O σ H Q I k =>
  h M0 H0 O σ H _ I fun v H1 e g1 s1 r1 p1 => k [v] H1 [e] g1 s1 (RepL.one r1) (by rw [p1])
theorem ea_c {d : D} {tr : TA} {l : List D} (h : EvE K s c te ρ n n1 (fun x => x = d)) (hr : EvA K s c tr ρ n1 n2 (fun x => x = l)) : EvA K s c (tCons te tr) ρ n n2 (fun x => x = d :: l) := fun M0 H0 O σ H Q I k =>
  ea_cons h hr M0 H0 O σ H Q I fun vs H' ds g hs r p => k vs H' ds g hs r (by
    obtain ⟨x, y, e1, e2, e3⟩ := p
    rw [e1, e2, e3])
theorem ev_tupE {tr : TA} {l : List D} (h : EvA K s c tr ρ n n1 (fun x => x = l)) (hl : l.length ≤ 1000) : EvE K s c (tTup tr) ρ n n1 (fun d => d = .tup l) := (ev_tup h fun x e => by rw [e]; exact hl).imp fun d h => by
  obtain ⟨x, e1, e2⟩ := h
  rw [e1, e2]
theorem ev_lstE {tr : TA} {l : List D} (h : EvA K s c tr ρ n n1 (fun x => x = l)) (hl : l.length ≤ 1000) : EvE K s c (tLst tr) ρ n n1 (fun d => d = .lst l) := (ev_lst h fun x e => by rw [e]; exact hl).imp fun d h => by
  obtain ⟨x, e1, e2⟩ := h
  rw [e1, e2]
theorem ev_is {d d' : D} (h : EvE K s c te ρ n n1 (fun x => x = d)) (e : d = d') : EvE K s c te ρ n n1 (fun x => x = d') := by rw [← e]; exact h
/-- for every value of the expression -/
theorem EvE.all {α : Type} {Q : D → Prop} {R : α → Prop} {f : α → D} (h : EvE K s c te ρ n n1 (fun d => ∃ x, R x ∧ d = f x)) (k : ∀ x, R x → Q (f x)) : EvE K s c te ρ n n1 Q := h.imp fun d ⟨x, r, e⟩ => by rw [e]; exact k x r
/-- x.insert(e, y) -/
def rInsert : V → List V → Hp → VK → Prop := fun x vs H Q => ∃ (l : Addr) (xs : List V) (i : Int) (y : V), x = .ref l ∧ vs = [.int i, y] ∧ H l = some (.lst xs) ∧ xs.length < sizeLine ∧ 0 ≤ i ∧ i < 2 ^ 63 ∧
    Q .non (upd H l (.lst (xs.take i.toNat ++ [y] ++ xs.drop i.toNat)))
theorem s_insert {j : Nat} {l : List D} {D : Pn} {PI PV : Pl.D → Prop} (e : ρ[j]? = some (.ow l)) (hi : EvE K s c ta ρ n n1 PI) (hI : ∀ d, PI d → ∃ i : Int, d = .int i ∧ 0 ≤ i ∧ i < 2 ^ 63) (h : EvE K s c tb ρ n1 n2 PV) (hl : l.length ≤ 1000)
    (k : ∀ (i : Int) d, PI (.int i) → PV d → D.nx (ρ.set j (.ow (l.take i.toNat ++ [d] ++ l.drop i.toNat))) n2) : EvS K s c (tDrop (tBM K "list" rInsert (tVar j) (tCons ta (tCons tb tNil)))) ρ n D := fun M0 H0 O σ H Dn I G => by
  obtain ⟨p, xs, hp, e2, hx, r⟩ := I.sl.own e
  refine ⟨.ref p, e2, .inl ⟨rfl, xs, .inl (.inl hx)⟩, hi M0 H0 O σ H _ I fun v H1 d g s1 r1 p1 => h M0 H0 O σ H1 _ (I.next g s1) fun w H2 f g2 s2 r2 p2 => ?_⟩
  obtain ⟨i, rfl, i0, i1⟩ := hI d p1
  have r1 : v = .int i := r1
  subst r1
  have J := (I.next g s1).next g2 s2
  have g3 := g.trans g2
  have hx1 : H2 p = some (.lst xs) := g3 p _ hx (.inl (not_two (I.fr p hp).2.1 (I.fr p hp).2.2))
  have rr := r.gr (g3.mono I.sub)
  refine ⟨p, xs, i, w, rfl, rfl, hx1, small1000 (by rw [← r.length]; exact hl), i0, i1, ?_⟩
  exact G.nx O _ n2 σ _ (J.put e e2 hp (((rr.take i.toNat).append (RepL.one r2)).append (rr.drop i.toNat))) (k i f p1 p2)
end
end Pl
/-! text Pl6 -/
set_option Elab.async false
set_option linter.all false
set_option maxRecDepth 100000
namespace Pl
open PySem PySem.Spec PyProof.Rows L2

section
variable {X : Cx}
/-! ### operators whatever the kinds -/
def rAddA (K : PySem.W.Frag) : R2 := fun x y H Q => rI0 (fun i j => .int (i + j)) x y H Q ∨ (∃ i j, x = .str i ∧ y = .str j ∧ i.length + j.length ≤ sizeLine ∧ Q (.str (i ++ j)) H) ∨ rCat x y H Q ∨ rCatA K x y H Q
theorem op_addA : OpR X (binaryOp .Add) (rAddA X.K) := op_add.or (op_add_str.or (op_cat.or op_catA))
def rMulA (K : PySem.W.Frag) : R2 := fun x y H Q => rI CMulW (fun i j => .int (i * j)) x y H Q ∨ rRep x y H Q ∨ rRepT K x y H Q
theorem op_mulA : OpR X (binaryOp .Mult) (rMulA X.K) := op_mulW.or (op_rep.or op_repT)
def rSlAny (K : PySem.W.Frag) : V → Option Int → Option Int → Hp → VK → Prop := fun x lo hi H Q => rSlL K x lo hi H Q ∨ rSlA K x lo hi H Q ∨ rSlS x lo hi H Q
theorem sl_any : L2.SlR X (rSlAny X.K) := sl_list.or (sl_tupA.or sl_str)
def rLenA (K : PySem.W.Frag) : List V → Hp → VK → Prop := fun xs H Q => (∃ p ys, xs = [.ref p] ∧ (SqL K H p ys ∨ SqT K H p ys) ∧ Q (.int ys.length) H) ∨ (∃ z, xs = [.str z] ∧ z.length ≤ sizeLine ∧ Q (.int z.length) H)
theorem call_lenA : CallR X (.builtin "len") (rLenA X.K) := call_len_seq.or call_len_str
end

section
variable {K : PySem.W.Frag} {s c : Addr} {ρ ρ1 ρ2 : List Sl} {n n1 n2 n3 n' : Nat} {te ta tb tl : TE} {P : D → Prop} {tt tu : TT}
/-! ### operations on known data -/
def RK (K : PySem.W.Frag) (s c : Addr) (r : R2) (x y z : D) : Prop := ∀ M n v w H (Q : VK), s ∈ M ∧ c ∈ M → (∀ a ∈ M, ∃ o, H a = some o) → Src s c n H → Rep K M H x v → Rep K M H y w →
  (∀ u H', Gr [s, c] H H' → Src s c n H' → Rep K M H' z u → Q u H') → r v w H Q
theorem rk_or1 {r r' : R2} {x y z : D} (h : RK K s c r x y z) : RK K s c (fun v w H Q => r v w H Q ∨ r' v w H Q) x y z := fun M n v w H Q a b c d e k => .inl (h M n v w H Q a b c d e k)
theorem rk_or2 {r r' : R2} {x y z : D} (h : RK K s c r' x y z) : RK K s c (fun v w H Q => r v w H Q ∨ r' v w H Q) x y z := fun M n v w H Q a b c d e k => .inr (h M n v w H Q a b c d e k)
theorem ev_opP {r : R2} {A B P : D → Prop} (ha : EvE K s c ta ρ n n1 A) (hb : EvE K s c tb ρ n1 n2 B) (hr : ∀ x y, A x → B y → ∃ z, RK K s c r x y z ∧ P z) : EvE K s c (tOp r ta tb) ρ n n2 P := fun M0 H0 O σ H Q I k =>
  ha M0 H0 O σ H _ I fun v H1 d g1 s1 r1 p1 => hb M0 H0 O σ H1 _ (I.next g1 s1) fun w H2 e g2 s2 r2 p2 => by
    obtain ⟨z, hz, pz⟩ := hr d e p1 p2
    exact hz (O ++ M0) n2 v w H2 Q ⟨List.mem_append_right _ I.ms.1, List.mem_append_right _ I.ms.2⟩ ((I.next g1 s1).next g2 s2).thereA s2 (r1.gr (g2.mono I.sub)) r2 fun u H3 g3 s3 r3 => k u H3 z ((g1.trans g2).trans g3) s3 r3 pz
theorem ev_opK {r : R2} {x y z : D} (ha : EvE K s c ta ρ n n1 (fun d => d = x)) (hb : EvE K s c tb ρ n1 n2 (fun d => d = y)) (hr : RK K s c r x y z) : EvE K s c (tOp r ta tb) ρ n n2 (fun d => d = z) := ev_opP ha hb fun x' y' e1 e2 => ⟨z, by rw [e1, e2]; exact hr, rfl⟩
theorem rk_I0 {g : Int → Int → V} {i j : Int} {z : D} (hg : ∀ (M : List Addr) H, Rep K M H z (g i j)) : RK K s c (rI0 g) (.int i) (.int j) z := fun M n v w H Q _ _ hs rx ry k => ⟨i, j, rx, ry, k _ H (Gr.refl _ _) hs (hg M H)⟩
theorem rk_I {C : Int → Int → Prop} {g : Int → Int → V} {i j : Int} {z : D} (hg : ∀ (M : List Addr) H, Rep K M H z (g i j)) (hC : C i j) : RK K s c (rI C g) (.int i) (.int j) z := fun M n v w H Q _ _ hs rx ry k => ⟨i, j, rx, ry, hC, k _ H (Gr.refl _ _) hs (hg M H)⟩
theorem rk_add {i j : Int} : RK K s c (rAddA K) (.int i) (.int j) (.int (i + j)) := rk_or1 (rk_I0 fun _ _ => rfl)
theorem rk_sub {i j : Int} : RK K s c (rI0 fun i j => .int (i - j)) (.int i) (.int j) (.int (i - j)) := rk_I0 fun _ _ => rfl
theorem rk_mul {i j : Int} (h : CMulW i j) : RK K s c (rMulA K) (.int i) (.int j) (.int (i * j)) := rk_or1 (rk_I (fun _ _ => rfl) h)
theorem rk_mod {i j : Int} (h : 0 < j) : RK K s c (rI (fun _ j => 0 < j) fun i j => .int (i % j)) (.int i) (.int j) (.int (i % j)) := rk_I (fun _ _ => rfl) h
theorem rk_fdiv {i j : Int} (h : CDivW i j) : RK K s c (rI CDivW fun i j => .int (i / j)) (.int i) (.int j) (.int (i / j)) := rk_I (fun _ _ => rfl) h
theorem rk_lt {i j : Int} : RK K s c (rI0 fun i j => .bl (decide (i < j))) (.int i) (.int j) (.bl (decide (i < j))) := rk_I0 fun _ _ => rfl
theorem rk_le {i j : Int} : RK K s c (rI0 fun i j => .bl (decide (i ≤ j))) (.int i) (.int j) (.bl (decide (i ≤ j))) := rk_I0 fun _ _ => rfl
theorem rk_gt {i j : Int} : RK K s c (rI0 fun i j => .bl (decide (j < i))) (.int i) (.int j) (.bl (decide (j < i))) := rk_I0 fun _ _ => rfl
theorem rk_ge {i j : Int} : RK K s c (rI0 fun i j => .bl (decide (j ≤ i))) (.int i) (.int j) (.bl (decide (j ≤ i))) := rk_I0 fun _ _ => rfl
theorem rk_addS {i j : Str} (h : i.length + j.length ≤ sizeLine) : RK K s c (rAddA K) (.str i) (.str j) (.str (i ++ j)) := rk_or2 (rk_or1 fun M n v w H Q _ _ hs rx ry k => ⟨i, j, rx, ry, h, k _ H (Gr.refl _ _) hs rfl⟩)
theorem rk_addL {l m : List D} (h : l.length + m.length ≤ 2000) : RK K s c (rAddA K) (.lst l) (.lst m) (.lst (l ++ m)) := rk_or2 (rk_or2 (rk_or1 fun M n v w H Q hm ht hs rx ry k => by
  obtain ⟨a, xs, rfl, ma, ea, ra⟩ := rx
  obtain ⟨b, ys, rfl, mb, eb, rb⟩ := ry
  refine ⟨a, b, xs, ys, rfl, rfl, ea, eb, Nat.le_trans (by rw [← ra.length, ← rb.length]; exact h) (by decide), fun p hp => k (.ref p) _ (Gr.new hp) (hs.new hp) ⟨p, xs ++ ys, rfl, fun z => ?_, upd_same, (ra.append rb).gr (Gr.new hp)⟩⟩
  obtain ⟨o, e⟩ := ht p z
  rw [hp] at e; cases e))
theorem RepL.nil_iff {M : List Addr} {H : Hp} {l : List D} {xs : List V} (r : RepL K M H l xs) : xs = [] ↔ l = [] := by
  have := r.length
  constructor
  · intro e; rw [e] at this; exact List.length_eq_zero_iff.mp this
  · intro e; rw [e] at this; exact List.length_eq_zero_iff.mp this.symm
theorem rk_addT {l m : List D} (h : l.length + m.length ≤ 2000) : RK K s c (rAddA K) (.tup l) (.tup m) (.tup (l ++ m)) := rk_or2 (rk_or2 (rk_or2 fun M n v w H Q hm ht hs rx ry k => by
  obtain ⟨a, xs, rfl, ea, ra⟩ := rx
  obtain ⟨b, ys, rfl, eb, rb⟩ := ry
  refine ⟨a, b, xs, ys, rfl, rfl, ea, eb, Nat.le_trans (by rw [← ra.length, ← rb.length]; exact h) (by decide), fun e => ?_, fun e1 e2 => ?_, fun e1 e2 p hp => k (.ref p) _ (Gr.new hp) (hs.new hp) ⟨p, xs ++ ys, rfl, .inl (.inl upd_same), (ra.append rb).gr (Gr.new hp)⟩⟩
  · refine k (.ref b) H (Gr.refl _ _) hs ⟨b, ys, rfl, eb, ?_⟩
    rw [ra.nil_iff.mp e]
    exact rb
  · refine k (.ref a) H (Gr.refl _ _) hs ⟨a, xs, rfl, ea, ?_⟩
    rw [rb.nil_iff.mp e2, List.append_nil]
    exact ra))
theorem atI_rep {M : List Addr} {H : Hp} {l : List D} {xs : List V} {i : Int} {d : D} (r : RepL K M H l xs) (h : atI l i = some d) : ∃ x, atI xs i = some x ∧ Rep K M H d x := by
  obtain ⟨j, e1, e2, e3, _⟩ := atI_get h
  obtain ⟨x, hx, rx⟩ := r.at e2
  refine ⟨x, ?_, rx⟩
  unfold atI at h ⊢
  rw [← r.length]
  cases q : ixN l.length i with
  | none => rw [q] at h; cases h
  | some j' =>
    rw [q] at h
    have q2 := (ixN_seq q).1
    rw [q2] at e1; cases e1
    exact hx
theorem rk_ixL {l : List D} {i : Int} {d : D} (h : atI l i = some d) : RK K s c (rIx K) (.lst l) (.int i) d := fun M n v w H Q hm ht hs rx ry k => by
  obtain ⟨a, xs, rfl, ma, ea, ra⟩ := rx
  have ry : w = .int i := ry
  subst ry
  obtain ⟨x, h1, h2⟩ := atI_rep ra h
  exact .inl ⟨a, xs, i, x, rfl, rfl, SqL.of ea, h1, k x H (Gr.refl _ _) hs h2⟩
theorem rk_ixT {l : List D} {i : Int} {d : D} (h : atI l i = some d) : RK K s c (rIx K) (.tup l) (.int i) d := fun M n v w H Q hm ht hs rx ry k => by
  obtain ⟨a, xs, rfl, ea, ra⟩ := rx
  have ry : w = .int i := ry
  subst ry
  obtain ⟨x, h1, h2⟩ := atI_rep ra h
  exact .inr (.inl ⟨a, xs, i, x, rfl, rfl, ea, h1, k x H (Gr.refl _ _) hs h2⟩)
theorem rk_ixS {z : Str} {i : Int} {q : Nat} (hz : z.length ≤ sizeLine) (h : atI z.cps.toList i = some q) : RK K s c (rIx K) (.str z) (.int i) (.str ⟨#[q]⟩) := fun M n v w H Q hm ht hs rx ry k =>
  .inr (.inr ⟨z, i, q, rx, ry, hz, h, k _ H (Gr.refl _ _) hs rfl⟩)
/-- a call on known data -/
def CK (K : PySem.W.Frag) (s c : Addr) (r : List V → Hp → VK → Prop) (l : List D) (z : D) : Prop := ∀ M n vs H (Q : VK), s ∈ M ∧ c ∈ M → (∀ a ∈ M, ∃ o, H a = some o) → Src s c n H → RepL K M H l vs →
  (∀ u H', Gr [s, c] H H' → Src s c n H' → Rep K M H' z u → Q u H') → r vs H Q
theorem ev_callP {r : List V → Hp → VK → Prop} {t : TA} {A : List D → Prop} {P : D → Prop} (ha : EvA K s c t ρ n n1 A) (hr : ∀ l, A l → ∃ z, CK K s c r l z ∧ P z) : EvE K s c (tCB r t) ρ n n1 P := fun M0 H0 O σ H Q I k =>
  ha M0 H0 O σ H _ I fun vs H1 ds g1 s1 r1 p1 => by
    obtain ⟨z, hz, pz⟩ := hr ds p1
    exact hz (O ++ M0) n1 vs H1 Q ⟨List.mem_append_right _ I.ms.1, List.mem_append_right _ I.ms.2⟩ (I.next g1 s1).thereA s1 r1 fun u H2 g2 s2 r2 => k u H2 z (g1.trans g2) s2 r2 pz
theorem ev_callK {r : List V → Hp → VK → Prop} {t : TA} {l : List D} {z : D} (ha : EvA K s c t ρ n n1 (fun x => x = l)) (hr : CK K s c r l z) : EvE K s c (tCB r t) ρ n n1 (fun d => d = z) := ev_callP ha fun l' e => ⟨z, by rw [e]; exact hr, rfl⟩
/-- .. that makes a list of it -/
theorem ck_len {d : D} {l : List D} (e : seqD d = some l) : CK K s c (rLenA K) [d] (.int (l.length : Int)) := fun M n vs H Q hm ht hs r k => by
  obtain ⟨v, rfl, rv⟩ := r.inv1
  obtain ⟨a, xs, rfl, sq, rl⟩ := rep_seq e rv
  exact .inl ⟨a, xs, rfl, sq, k _ H (Gr.refl _ _) hs (by show V.int _ = V.int _; rw [rl.length])⟩
theorem ck_lenS {z : Str} (hz : z.length ≤ sizeLine) : CK K s c (rLenA K) [.str z] (.int z.length) := fun M n vs H Q hm ht hs r k => by
  obtain ⟨v, rfl, rv⟩ := r.inv1
  have rv : v = .str z := rv
  subst rv
  exact .inr ⟨z, rfl, hz, k _ H (Gr.refl _ _) hs rfl⟩
theorem ck_int {i : Int} : CK K s c (fun xs H Q => (∃ i, xs = [.int i] ∧ Q (.int i) H) ∨ ∃ k, xs = [.bl k] ∧ Q (.int (if k then 1 else 0)) H) [.int i] (.int i) := fun M n vs H Q hm ht hs r k => by
  obtain ⟨v, rfl, rv⟩ := r.inv1
  have rv : v = .int i := rv
  subst rv
  exact .inl ⟨i, rfl, k _ H (Gr.refl _ _) hs rfl⟩
/-- tuple(x), list(x) -/
theorem ck_tuple {d : D} {l : List D} (e : seqD d = some l) : CK K s c (fun xs H Q => ∃ p ys, xs = [.ref p] ∧ ((SqL K H p ys ∧ ∀ l, H l = none → Q (.ref l) (upd H l (.tup ys))) ∨ (SqT K H p ys ∧ Q (.ref p) H))) [d] (.tup l) := fun M n vs H Q hm ht hs r k => by
  obtain ⟨v, rfl, rv⟩ := r.inv1
  cases d with
  | lst l' =>
    cases e
    obtain ⟨a, xs, rfl, ma, ea, ra⟩ := rv
    exact ⟨a, xs, rfl, .inl ⟨SqL.of ea, fun p hp => k (.ref p) _ (Gr.new hp) (hs.new hp) ⟨p, xs, rfl, .inl (.inl upd_same), ra.gr (Gr.new hp)⟩⟩⟩
  | tup l' =>
    cases e
    obtain ⟨a, xs, rfl, ea, ra⟩ := rv
    exact ⟨a, xs, rfl, .inr ⟨ea, k (.ref a) H (Gr.refl _ _) hs ⟨a, xs, rfl, ea, ra⟩⟩⟩
  | _ => cases e
theorem ck_list {d : D} {l : List D} (e : seqD d = some l) : CK K s c (fun xs H Q => ∃ p ys, xs = [.ref p] ∧ (SqL K H p ys ∨ SqT K H p ys) ∧ ∀ l, H l = none → Q (.ref l) (upd H l (.lst ys))) [d] (.lst l) := fun M n vs H Q hm ht hs r k => by
  obtain ⟨v, rfl, rv⟩ := r.inv1
  obtain ⟨a, xs, rfl, sq, rl⟩ := rep_seq e rv
  refine ⟨a, xs, rfl, sq, fun p hp => k (.ref p) _ (Gr.new hp) (hs.new hp) ⟨p, xs, rfl, fun z => ?_, upd_same, rl.gr (Gr.new hp)⟩⟩
  obtain ⟨o, e⟩ := ht p z
  rw [hp] at e; cases e
/-- slices -/
theorem RepL.cut {M : List Addr} {H : Hp} {l : List D} {xs : List V} (r : RepL K M H l xs) (lo hi : Option Int) : RepL K M H ((l.drop (HT.sIx l.length 0 lo)).take (HT.sIx l.length l.length hi - HT.sIx l.length 0 lo)) (cutV xs lo hi) := by
  unfold cutV
  rw [← r.length]
  exact (r.drop _).take _
def cutD (l : List D) (lo hi : Option Int) : List D := (l.drop (HT.sIx l.length 0 lo)).take (HT.sIx l.length l.length hi - HT.sIx l.length 0 lo)
def EvO (K : PySem.W.Frag) (s c : Addr) (to : TO) (ρ : List Sl) (n n' : Nat) (o : Option Int) : Prop := ∀ M0 H0 O σ H (Q : Option Int → Hp → Prop), Ok K s c M0 H0 O ρ n σ H → (∀ H', Gr [s, c] H H' → Src s c n' H' → Q o H') → to σ H Q
theorem eo_none : EvO K s c tNoPart ρ n n none := fun M0 H0 O σ H Q I k => k H (Gr.refl _ _) I.src
theorem eo_some {i : Int} (h : EvE K s c te ρ n n1 (fun d => d = .int i)) : EvO K s c (tPart te) ρ n n1 (some i) := fun M0 H0 O σ H Q I k => h M0 H0 O σ H _ I fun v H' d g hs r p => by
  subst p
  exact ⟨i, r, k H' g hs⟩
theorem ev_slL {to tu : TO} {l : List D} {lo hi : Option Int} (h : EvE K s c te ρ n n1 (fun d => d = .lst l)) (hl : EvO K s c to ρ n1 n2 lo) (hh : EvO K s c tu ρ n2 n3 hi) : EvE K s c (tSl (rSlAny K) te to tu) ρ n n3 (fun d => d = .lst (cutD l lo hi)) := fun M0 H0 O σ H Q I k =>
  h M0 H0 O σ H _ I fun v H1 d g1 s1 r1 p1 => hl M0 H0 O σ H1 _ (I.next g1 s1) fun H2 g2 s2 => hh M0 H0 O σ H2 _ ((I.next g1 s1).next g2 s2) fun H3 g3 s3 => by
    subst p1
    have g4 := g2.trans g3
    obtain ⟨a, xs, rfl, ma, ea, ra⟩ := Rep.gr (g4.mono I.sub) r1
    have J := ((I.next g1 s1).next g2 s2).next g3 s3
    exact .inl ⟨a, xs, rfl, SqL.of ea, fun p hp => k (.ref p) _ (.lst (cutD l lo hi)) ((g1.trans g4).trans (Gr.new hp)) (s3.new hp) ⟨p, _, rfl, J.new_out hp, upd_same, (ra.cut lo hi).gr (Gr.new hp)⟩ rfl⟩
theorem ev_slT {to tu : TO} {l : List D} {lo hi : Option Int} (h : EvE K s c te ρ n n1 (fun d => d = .tup l)) (hl : EvO K s c to ρ n1 n2 lo) (hh : EvO K s c tu ρ n2 n3 hi) : EvE K s c (tSl (rSlAny K) te to tu) ρ n n3 (fun d => d = .tup (cutD l lo hi)) := fun M0 H0 O σ H Q I k =>
  h M0 H0 O σ H _ I fun v H1 d g1 s1 r1 p1 => hl M0 H0 O σ H1 _ (I.next g1 s1) fun H2 g2 s2 => hh M0 H0 O σ H2 _ ((I.next g1 s1).next g2 s2) fun H3 g3 s3 => by
    subst p1
    have g4 := g2.trans g3
    obtain ⟨a, xs, rfl, ea, ra⟩ := Rep.gr (g4.mono I.sub) r1
    refine .inr (.inl ⟨a, xs, rfl, ea, fun w => k (.ref a) H3 (.tup (cutD l lo hi)) (g1.trans g4) s3 ⟨a, xs, rfl, ea, ?_⟩ rfl, fun _ p hp => k (.ref p) _ (.tup (cutD l lo hi)) ((g1.trans g4).trans (Gr.new hp)) (s3.new hp) ⟨p, _, rfl, .inl (.inl upd_same), (ra.cut lo hi).gr (Gr.new hp)⟩ rfl⟩)
    have e : cutD l lo hi = l := by
      unfold cutD
      rw [ra.length, w.1, w.2, ← ra.length, Nat.sub_zero, List.drop_zero, List.take_length]
    rw [e]
    exact ra
end
end Pl
namespace Pl
open PySem PySem.Spec PyProof.Rows L2
theorem pr_len {K : PySem.W.Frag} {pre : Addr → Addr → List D → Prop} {k m : Nat} {post : Addr → Addr → List D → D → Prop} {vs : List V} {H : Hp} {Q : VK} {E : XK} (h : Pr K pre k post vs H Q E) (hp : ∀ s c ds, pre s c ds → ds.length = m) : vs.length = m := by
  obtain ⟨s, c, M, n, ds, _, _, _, _, _, r, p, _⟩ := h
  rw [← r.length]
  exact hp s c ds p
/-- any item of a list or tuple -/
theorem rk_ixD {K : PySem.W.Frag} {s c : Addr} {d : D} {l : List D} {i : Int} {x : D} (e : seqD d = some l) (h : atI l i = some x) : RK K s c (rIx K) d (.int i) x := by
  cases d with
  | lst l' => cases e; exact rk_ixL h
  | tup l' => cases e; exact rk_ixT h
  | _ => cases e
theorem at_some {α : Type} {l : List α} {k : Int} (h0 : 0 ≤ k) (h1 : k < (l.length : Int)) : ∃ x, atI l k = some x ∧ x ∈ l := by
  have hk : k.toNat < l.length := by omega
  refine ⟨l[k.toNat], ?_, List.getElem_mem hk⟩
  have q := atI_nat (xs := l) (j := k.toNat) (List.getElem?_eq_getElem hk)
  have e : ((k.toNat : Nat) : Int) = k := by omega
  rw [e] at q
  exact q
end Pl
/-! text Pl7 -/
set_option Elab.async false
set_option linter.all false
set_option maxRecDepth 100000
namespace Pl
open PySem PySem.Spec PyProof.Rows L2

section
variable {K : PySem.W.Frag} {s c : Addr} {ρ ρ1 ρ2 : List Sl} {n n1 n2 n3 n' : Nat} {te ta tb tl to : TE} {P : D → Prop} {tt tu : TT}
theorem EvA.imp {t : TA} {A B : List D → Prop} (h : EvA K s c t ρ n n1 A) (i : ∀ l, A l → B l) : EvA K s c t ρ n n1 B := fun M0 H0 O σ H Q I k => h M0 H0 O σ H Q I fun vs H' ds g hs r p => k vs H' ds g hs r (i ds p)
theorem EvA.le {t : TA} {A : List D → Prop} (h : EvA K s c t ρ n n1 A) (l : n1 ≤ n2) : EvA K s c t ρ n n2 A := fun M0 H0 O σ H Q I k => h M0 H0 O σ H Q I fun vs H' ds g hs r p => k vs H' ds g (hs.mono l) r p
/-! ### methods of built-in values, on known data -/
def MK (K : PySem.W.Frag) (s c : Addr) (T : String) (r : V → List V → Hp → VK → Prop) (x : D) (l : List D) (z : D) : Prop := (∀ M H v, Rep K M H x v → tyV K T v H) ∧
  ∀ M n v vs H (Q : VK), s ∈ M ∧ c ∈ M → (∀ a ∈ M, ∃ o, H a = some o) → Src s c n H → Rep K M H x v → RepL K M H l vs → (∀ u H', Gr [s, c] H H' → Src s c n H' → Rep K M H' z u → Q u H') → r v vs H Q
theorem ev_methP {T : String} {r : V → List V → Hp → VK → Prop} {t : TA} {A : D → Prop} {B : List D → Prop} (ho : EvE K s c to ρ n n1 A) (ha : EvA K s c t ρ n1 n2 B) (hr : ∀ x l, A x → B l → ∃ z, MK K s c T r x l z ∧ P z) (hA : ∀ x, A x → ∀ M H v, Rep K M H x v → tyV K T v H) : EvE K s c (tBM K T r to t) ρ n n2 P := fun M0 H0 O σ H Q I k =>
  ho M0 H0 O σ H _ I fun v H1 d g1 s1 r1 p1 => ⟨hA d p1 _ H1 v r1, ha M0 H0 O σ H1 _ (I.next g1 s1) fun vs H2 ds g2 s2 r2 p2 => by
    obtain ⟨z, hz, pz⟩ := hr d ds p1 p2
    exact hz.2 (O ++ M0) n2 v vs H2 Q ⟨List.mem_append_right _ I.ms.1, List.mem_append_right _ I.ms.2⟩ ((I.next g1 s1).next g2 s2).thereA s2 (r1.gr (g2.mono I.sub)) r2 fun u H3 g3 s3 r3 => k u H3 z ((g1.trans g2).trans g3) s3 r3 pz⟩
theorem ty_str {z : Str} : ∀ M H v, Rep K M H (.str z) v → tyV K "str" v H := fun M H v r => by
  have r : v = .str z := r
  subst r
  rfl
theorem ty_lst {l : List D} : ∀ M H v, Rep K M H (.lst l) v → tyV K "list" v H := fun M H v r => by
  obtain ⟨a, xs, rfl, m, e, _⟩ := r
  exact .inl ⟨rfl, xs, SqL.of e⟩
/-- texts in a list -/
def dStrs (ys : List Str) : List D := ys.map .str
theorem dStrs_rep {M : List Addr} {H : Hp} : ∀ {ys : List Str} {vs : List V}, RepL K M H (dStrs ys) vs → vs = ys.map V.str
  | [], [], _ => rfl
  | y :: ys, v :: vs, h => by
    have h1 : v = .str y := h.1
    rw [h1, dStrs_rep (ys := ys) h.2]
    rfl
  | [], _ :: _, h => h.elim
  | _ :: _, [], h => h.elim
theorem dStrs_of : ∀ {l : List D}, (∀ x ∈ l, ∃ z, x = .str z) → ∃ ys, l = dStrs ys
  | [], _ => ⟨[], rfl⟩
  | d :: l, h => by
    obtain ⟨z, rfl⟩ := h d List.mem_cons_self
    obtain ⟨ys, e⟩ := dStrs_of (l := l) fun x hx => h x (List.mem_cons_of_mem _ hx)
    exact ⟨z :: ys, by rw [e]; rfl⟩
def rJoin (K : PySem.W.Frag) : V → List V → Hp → VK → Prop := fun x xs H Q => ∃ a p, ∃ ys : List Str, x = .str a ∧ xs = [.ref p] ∧ (SqL K H p (ys.map V.str) ∨ SqT K H p (ys.map V.str)) ∧
    (ys.map (·.length)).sum + ys.length * a.length ≤ 16777216 ∧ Q (.str (Txt.join a ys)) H
theorem mk_join {a : Str} {d : D} {ys : List Str} (e : seqD d = some (dStrs ys)) (h : (ys.map (·.length)).sum + ys.length * a.length ≤ 16777216) : MK K s c "str" (rJoin K) (.str a) [d] (.str (Txt.join a ys)) := ⟨ty_str, fun M n v vs H Q hm ht hs rx r k => by
  obtain ⟨w, rfl, rw'⟩ := r.inv1
  obtain ⟨p, xs, rfl, sq, rl⟩ := rep_seq e rw'
  rw [dStrs_rep rl] at sq
  exact ⟨a, p, ys, rx, rfl, sq, h, k _ H (Gr.refl _ _) hs rfl⟩⟩
end
/-! ### texts of small letters -/
def low (q : Nat) : Prop := 97 ≤ q ∧ q ≤ 122
def Low (z : Str) : Prop := ∀ q ∈ z.cps.toList, low q
theorem joinL_ones : ∀ l : List Nat, TL.joinL [] (l.map fun q => [q]) = l
  | [] => rfl
  | [q] => rfl
  | q :: r :: l => by
    show [q] ++ ([] ++ TL.joinL [] ((r :: l).map fun q => [q])) = _
    rw [joinL_ones (r :: l)]
    rfl
theorem join_ones (l : List Nat) : Txt.join (Str.ofString "") (l.map fun q => (⟨#[q]⟩ : Str)) = ⟨l.toArray⟩ := by
  have e1 := TL.join_eq (Str.ofString "") (l.map fun q => (⟨#[q]⟩ : Str))
  have e2 := TL.tl_join (Str.ofString "") (l.map fun q => (⟨#[q]⟩ : Str))
  refine TL.ext_tl ?_
  rw [e1, e2, List.map_map]
  have e3 : TL.tl (Str.ofString "") = [] := rfl
  have e4 : ((TL.tl ∘ fun q => (⟨#[q]⟩ : Str)) : Nat → List Nat) = fun q => [q] := rfl
  rw [e3, e4, joinL_ones]
end Pl
/-! text PlK -/
set_option Elab.async false
set_option linter.all false
set_option maxRecDepth 100000
namespace Pl
open PySem PySem.Spec PyProof.Rows L2
/-! ### the rules with the written part named -/
section
variable {X : Cx} (K : PySem.W.Frag)
theorem k_add (h : X.K = K := by rfl) : OpR X (binaryOp .Add) (rAddA K) := by subst h; exact op_addA
theorem k_mul (h : X.K = K := by rfl) : OpR X (binaryOp .Mult) (rMulA K) := by subst h; exact op_mulA
theorem k_sl (h : X.K = K := by rfl) : L2.SlR X (rSlAny K) := by subst h; exact sl_any
theorem k_len (h : X.K = K := by rfl) : CallR X (.builtin "len") (rLenA K) := by subst h; exact call_lenA
theorem k_ix (h : X.K = K := by rfl) : IxR X (rIx K) := by subst h; exact ix_seq
theorem k_list (h : X.K = K := by rfl) : CallR X (.type "list") (fun xs H Q => ∃ p ys, xs = [.ref p] ∧ (SqL K H p ys ∨ SqT K H p ys) ∧ ∀ l, H l = none → Q (.ref l) (upd H l (.lst ys))) := by subst h; exact call_list_of
theorem k_tuple (h : X.K = K := by rfl) : CallR X (.type "tuple") (fun xs H Q => ∃ p ys, xs = [.ref p] ∧ ((SqL K H p ys ∧ ∀ l, H l = none → Q (.ref l) (upd H l (.tup ys))) ∨ (SqT K H p ys ∧ Q (.ref p) H))) := by subst h; exact call_tuple_of
theorem k_eqD (hu : X.A.units + 64 < cLine) (h : X.K = K := by rfl) : OpR X (compareOp .Eq) (rEqD K) := by subst h; exact op_eqD hu
theorem k_neD (hu : X.A.units + 64 < cLine) (h : X.K = K := by rfl) : OpR X (compareOp .NotEq) (rNeD K) := by subst h; exact op_neD hu
theorem k_join (h : X.K = K := by rfl) : MtR X "str.join" (rJoin K) := by subst h; exact mt_join
theorem k_all (hc : X.calm = true) (h : X.K = K := by rfl) : CallR X (.builtin "all") (rAll K) := by subst h; exact cr_all hc
theorem k_any (hc : X.calm = true) (h : X.K = K := by rfl) : CallR X (.builtin "any") (rAny K) := by subst h; exact cr_any hc
variable {tg l e : Expr} {es : List Expr} {tl te ta to : TE} {t : TA} {pos : Pos}
theorem k_pilist (hl : PE X l tl) (h : X.K = K := by rfl) : PI X tg l (iList K tl) := by subst h; exact pi_list hl
theorem k_pitup (hl : PE X l tl) (h : X.K = K := by rfl) : PI X tg l (iTup K tl) := by subst h; exact pi_tup hl
theorem k_pgtup {k : Nat} {t : TGs} {n : Nat} (hc : X.calm = true) (hh : PGs X es t) (hn : (assignEach es X.env).length = n := by rfl) (hst : (assignEach es X.env).findIdx? (·.1) = none := by rfl) (h : X.K = K := by rfl) : PG X (.Tuple es k pos) (gTup K n t) := by subst h; exact pg_tup hc hh hn hst
theorem k_pgunl {k : Nat} {t : TGs} {n : Nat} (hc : X.calm = true) (hh : PGs X es t) (hn : (assignEach es X.env).length = n := by rfl) (hst : (assignEach es X.env).findIdx? (·.1) = none := by rfl) (h : X.K = K := by rfl) : PG X (.Tuple es k pos) (gUnl K n t) := by subst h; exact pg_unl hc hh hn hst
theorem k_fld {f : Str} (he : PE X e ta) (hb : attributeBase e f X.env (eval e X.env) = eval e X.env) (h : X.K = K := by rfl) : PE X (.Attribute e f pos) (tFld K ta f) := by subst h; exact pe_fld he hb
theorem k_bm {T id : String} {name : Str} {r : V → List V → Hp → VK → Prop} {o : Expr} {apos cpos : Pos} (pa : PlainAttrs T) (slot : Slot T name id) (hty : typeOf (.builtin id) = pure (.type "method_descriptor")) (hm : MtR X id r) (ho : PE X o to) (ha : PA X (e :: es) t)
    (hbase : attributeBase o name X.env (eval o X.env) = eval o X.env := by rfl)
    (hfew : ((backTo cpos (starEach (e :: es) X.env)).all (fun x => !x.1) && (backToKw cpos (keywordEach [] X.env)).all (fun x => x.1.isSome)
      && decide ((e :: es).length + ([] : List Keyword).length + (if ([] : List Keyword).isEmpty then 0 else 1) < 30)) = true := by rfl)
    (hline : (apos.endLine == cpos.line) = true := by rfl) (hs : starEach (e :: es) X.env = (false, eval e X.env) :: starEach es X.env := by rfl) (hplain : (backTo cpos (starEach es X.env)).any (·.1) = false := by rfl) (h : X.K = K := by rfl) :
    PE X (.Call (.Attribute o name apos) (e :: es) [] cpos) (tBM K T r to t) := by subst h; exact pe_bm pa slot hty hm ho ha hbase hfew hline hs hplain
end
end Pl
/-! text PlS -/
set_option Elab.async false
set_option linter.all false
set_option maxRecDepth 100000
/-! Sets of texts: what stands in one, put in, made of a list, sorted. -/
namespace PlS
open PySem PySem.Spec PyProof.Rows L2 PySem.Froz
def blank (w : World) : Obj := { cls := .type "set", dict := none, data := .set #[] 0 (.fresh 0 0 (!w.params.followText "set-order")) }
/-- the set at a holds just the texts l, each once -/
structure SetS (P : Program) (w : World) (h : Heap) (a : Addr) (l : List Str) : Prop where
  ex : ∃ D : SD, h.get? a = some (sObj "set" D) ∧ TxOk P w D l ∧ Ris D.2.2.place.toList ∧ (w.params.followText "set-order" = true ∨ D.2.2.led = true)
  nd : l.Nodup
section
variable {P : Program} {w : World} {A : Around} {E : Value → Shared → Prop} {s : Shared} {a : Addr} {l : List Str}
theorem SetS.keep {h h' : Heap} (R : SetS P w h a l) (k : ∀ o, h.get? a = some o → h'.get? a = some o) : SetS P w h' a l := by
  obtain ⟨⟨D, e, r⟩, nd⟩ := R
  exact ⟨⟨D, k _ e, r⟩, nd⟩
theorem SetS.fresh {h : Heap} (e : h.get? a = some (blank w)) : SetS P w h a [] := by
  refine ⟨⟨(#[], 0, .fresh 0 0 (!w.params.followText "set-order")), e, TxOk.nil (by rfl), List.Pairwise.nil, ?_⟩, List.nodup_nil⟩
  cases q : w.params.followText "set-order" with
  | true => exact .inl rfl
  | false => exact .inr rfl
theorem addTx_ris {x : Int} {v : Value} {D : SD} (r : Ris D.2.2.place.toList) : Ris (addTx x v D).2.2.place.toList ∧ (addTx x v D).2.2.led = D.2.2.led := by
  have r1 := layNew_ris D.2.2 D.1 x v r
  have e1 := layNew_led D.2.2 D.1 x v
  unfold addTx
  generalize layNew D.2.2 D.1 x v = Z at r1 e1
  have key : ∀ t2 : SetTable, Ris t2.place.toList → t2.led = D.2.2.led → ∀ b, Ris (tailTx D.2.1 Z.1 t2 b).2.2.place.toList ∧ (tailTx D.2.1 Z.1 t2 b).2.2.led = D.2.2.led := fun t2 q1 q2 b => by
    unfold tailTx
    split
    · exact ⟨relayAll_ris _ _ _, (relayAll_led _ _ _).trans q2⟩
    · exact ⟨q1, q2⟩
  apply key
  · split
    · exact r1
    · exact r1
  · split
    · exact e1
    · exact e1
/-- a text is put in -/
theorem SetS.add {k : Str} {u : Tok} {Q : Bool → Shared → Prop} (R : SetS P w s.heap a l) (hb : l.length + 1 < scanBound)
    (h : ∀ h', Heap.SameBut a s.heap h' → SetS P w h' a (if k ∈ l then l else k :: l) → Q (decide (k ∉ l)) { s with heap := h' }) : wpAny (model P w) A (setAddHashed a (.str k u) (hashStr w k)) Q E s := by
  obtain ⟨⟨D, e, F, r, fl⟩, nd⟩ := R
  by_cases hk : k ∈ l
  · have q := h s.heap (.refl _ _) (by rw [if_pos hk]; exact ⟨⟨D, e, F, r, fl⟩, nd⟩)
    rw [decide_eq_false (not_not_intro hk)] at q
    obtain ⟨es, ep, t⟩ := D
    have sz : es.size = l.length := F.sz
    obtain ⟨x, hx, hi⟩ := (F.mem k).mp hk
    have found : ∃ j, es.toList.findIdx? (fun e => (strKind P w).is k e.2) = some j := by
      cases z : es.toList.findIdx? (fun e => (strKind P w).is k e.2) with
      | some j => exact ⟨j, rfl⟩
      | none =>
        have n := List.findIdx?_eq_none_iff.mp z x hx
        rw [hi] at n; cases n
    obtain ⟨j, hj⟩ := found
    have dd : (sObj "set" (es, ep, t)).data = .set es ep t := rfl
    have line : es.size < scanBound := by omega
    unfold setAddHashed setAddHashedIn; refine wpAny_holding (wpAny_bind (wpAny_setState_of e dd F.fit ?_)); dsimp only
    rw [byScan_of rfl line F.el]; simp only [↓reduceIte]; unfold setAddByScan
    refine wpAny_bind (wpAny_bind (wpAny_rule (wpAny_bind (wpAny_setScan_of (knd := strKind P w) (k := k) (is_str k u) e dd F.fit F.el ?_))))
    rw [hj]; exact wpAny_pure (wpAny_pure q)
  · have q := addTx_ris (x := hashStr w k) (v := .str k u) r
    refine add_x e F hk hb ?_
    have z := h (s.heap.update a fun _ => sObj "set" (addTx (hashStr w k) (.str k u) D)) (.update _ _ _) (by
      rw [if_neg hk]
      exact ⟨⟨_, get_upd _ e rfl, add_ok u F, q.1, fl.imp id fun y => q.2.trans y⟩, List.nodup_cons.mpr ⟨hk, nd⟩⟩)
    rw [decide_eq_true hk] at z
    exact z
/-- what is in a list of texts, each once -/
def ins (l : List Str) (k : Str) : List Str := if k ∈ l then l else k :: l
def gath (l : List Str) : List Str := l.foldl ins []
theorem gath_mem : ∀ (xs l : List Str) (y : Str), y ∈ xs.foldl ins l ↔ y ∈ l ∨ y ∈ xs
  | [], l, y => by simp
  | x :: xs, l, y => by
    rw [List.foldl_cons, gath_mem xs (ins l x) y]
    unfold ins
    by_cases h : x ∈ l
    · rw [if_pos h, List.mem_cons]
      constructor
      · rintro (q | q)
        · exact .inl q
        · exact .inr (.inr q)
      · rintro (q | q | q)
        · exact .inl q
        · rw [q]; exact .inl h
        · exact .inr q
    · rw [if_neg h, List.mem_cons, List.mem_cons]
      constructor
      · rintro ((q | q) | q)
        · exact .inr (.inl q)
        · exact .inl q
        · exact .inr (.inr q)
      · rintro (q | q | q)
        · exact .inl (.inr q)
        · exact .inl (.inl q)
        · exact .inr q
theorem gath_len : ∀ (xs l : List Str), (xs.foldl ins l).length ≤ l.length + xs.length
  | [], l => by simp
  | x :: xs, l => by
    rw [List.foldl_cons]
    have := gath_len xs (ins l x)
    have h2 : (ins l x).length ≤ l.length + 1 := by
      unfold ins
      split
      · omega
      · simp
    rw [List.length_cons]
    omega
end
section
variable {P : Program} {w : World} {A : Around} {R : Result → Shared → Prop} {I : Addr} {fp wr : List Addr} {G : Array GenState → Array GenState → Prop} {n : Nat} {Pv : Nat → Value → Prop} {St : Nat → Shared → Prop}
/-- texts of an iterator go in, one by one -/
theorem fill (W : WalksS P w A.in1 I fp wr G n Pv St) (S : Addr) (hS : S ∉ fp) (xs : List Str) (hn : n = xs.length) (hv : ∀ i v, Pv i v → ∃ x t, xs[i]? = some x ∧ v = .str x t) (few : n < 1000) :
    ∀ (k i : Nat) (s : Shared), n = i + k → St i s → SetS P w s.heap S (gath (xs.take i)) →
      (∀ s', Moved (S :: wr) G s s' → SetS P w s'.heap S (gath xs) → R (.ok (.ret .none)) s') → codeAny (model P w) A (.builtin "set.update.loop" ⟨[.ref S, .ref I], []⟩) R s := by
  have nw : S ∉ wr := fun z => hS (W.sub _ z)
  have up : ∀ b, b ∈ wr → b ∈ S :: wr := fun b hb => List.mem_cons_of_mem _ hb
  intro k
  induction k with
  | zero =>
    intro i s hk st hs go
    have hi : i = n := hk.symm
    subst hi
    refine codeAny_builtin F.entry_set_update_loop ?_; rw [Around.under_plainId F.plain_set_update_loop _]
    refine wpAny_bind (W.done s _ _ st fun s' mv => wpAny_pure (go s' (mv.mono up) ?_))
    rw [hn, List.take_length] at hs
    exact hs.keep fun o e => mv.heap S o nw e
  | succ k ih =>
    intro i s hk st hs go
    refine codeAny_builtin F.entry_set_update_loop ?_; rw [Around.under_plainId F.plain_set_update_loop _]
    refine wpAny_bind (W.item i s _ _ (by omega) st fun v s' pv st' mv => ?_)
    obtain ⟨x, t, hx, rfl⟩ := hv i v pv
    have hs' : SetS P w s'.heap S (gath (xs.take i)) := hs.keep fun o e => mv.heap S o nw e
    have line : (gath (xs.take i)).length + 1 < scanBound := by
      have := gath_len (xs.take i) []
      rw [List.length_take] at this
      have e0 : ([] : List Str).length = 0 := rfl
      have e1 : (gath (xs.take i)).length = ((xs.take i).foldl ins []).length := rfl
      unfold scanBound
      omega
    show wpAny _ A.in1 (holding [Value.str x t] (setAdd S (.str x t)) >>= _) _ _ s'
    refine wpAny_bind (wpAny_holding ?_); unfold setAdd
    refine wpAny_holding (wpAny_bind ((strKind P w).pyHash (k := x) (is_str x t) (SetS.add (s := { s' with toks := s'.toks + 1 }) hs' line fun h' sb ok => ?_)))
    have ok2 : SetS P w h' S (gath (xs.take (i + 1))) := by
      have e : gath (xs.take (i + 1)) = ins (gath (xs.take i)) x := by
        unfold gath
        rw [List.take_add_one, hx, List.foldl_append]
        rfl
      rw [e]
      exact ok
    have far : ∀ b, b ∈ fp → b ≠ S := fun b hb z => hS (by rw [← z]; exact hb)
    refine wpAny_pure ⟨plainId_quiet F.plain_set_update_loop _, ih (i + 1) _ (by omega) (W.frame _ s' _ _ st' (Nat.le_succ _) fun b hb o e => (sb.2 b (far b hb)).trans e) ok2 fun s2 mv2 ok3 => go s2 (Moved.trans W.gtrans ((mv.mono up).then_heap (Nat.le_succ _) fun b o hb e => ?_) mv2) ok3⟩
    exact (sb.2 b fun z => hb (by rw [z]; exact List.mem_cons_self)).trans e
end
end PlS
/-! text PlS4 -/
set_option Elab.async false
set_option linter.all false
set_option maxRecDepth 100000
/-! A set of texts as a tracked thing; {x for a in b for x in c} of texts. -/
namespace PlS
open PySem PySem.Spec PyProof.Rows L2 PySem.Froz
def SetT (P : Program) (w : World) (a : Addr) (l : List Str) : HO := .ext fun h => SetS P w h a l
section
variable {X : Cx}
theorem setT_new {P : Program} {w : World} {H : Hp} {h : Heap} {a : Addr} {l : List Str} (R : SetS P w h a l) : ObjOk P w H h a (SetT P w a l) := by
  obtain ⟨D, e, _⟩ := R.ex
  exact ⟨R, ⟨_, e⟩, fun _ _ p k => p.keep k⟩
theorem setT_get {pins : List (Addr × Obj)} {σ : L2.St} {H : Hp} {s : Shared} {a : Addr} {l : List Str} (I : Inv X pins σ H s) (e : H a = some (SetT X.prog X.w a l)) : SetS X.prog X.w s.heap a l := (I.hok a _ e).1
/-- a text is put into a tracked set -/
theorem put_ok {pins : List (Addr × Obj)} {σ : L2.St} {H : Hp} {s : Shared} {E : Value → Shared → Prop} {D : Addr} {l : List Str} {x : Str} {v : Value} {Q : Value → Shared → Prop} (I : Inv X pins σ H s) (hD : H D = some (SetT X.prog X.w D l)) (few : l.length < 1000) (r : RelV (.str x) v)
    (k : ∀ s', Inv X pins σ (upd H D (SetT X.prog X.w D (ins l x))) s' → Q .none s') : wpAny (model X.prog X.w) X.A (call (.builtin "set.add") [.ref D, v]) Q E s := by
  obtain ⟨t, rfl⟩ := r
  have R := setT_get I hD
  have ty : s.TypeIs (.ref D) "set" := by
    obtain ⟨Z, e, _⟩ := R.ex
    exact ⟨_, e, rfl⟩
  refine wpAny_call_entry F.slot_set_add ty F.entry_set_add ?_ (F.args_set_add_2 _ _)
  unfold Builtin.«set.add» Builtin.Frozenset.oneOther; simp only [List.isEmpty_nil, bind_assoc]
  unfold Builtin.Frozenset.addrOf setAdd
  refine wpAny_bind (wpAny_pure ?_); try dsimp only
  refine wpAny_bind (wpAny_pure ?_); try dsimp only
  refine wpAny_bind (wpAny_holding (wpAny_bind ((strKind X.prog X.w).pyHash (is_str x t) ?_)))
  refine SetS.add (s := { s with toks := s.toks + 1 }) R (by unfold scanBound; omega) fun h' sb ok => ?_
  have there : ∃ u, h'.get? D = some u := by
    obtain ⟨Z, e, _⟩ := ok.ex
    exact ⟨_, e⟩
  exact wpAny_pure ⟨_, rfl, k _ (I.write (e := D) (t' := s.toks + 1) (by rw [hD]; trivial) (.inl rfl) (fun b u hb hu => (sb.2 b hb).trans hu) there (setT_new ok))⟩
end
section
variable {prog : Program} {w : World} {A : Around} {R : Result → Shared → Prop} {s : Shared} {elt t0 i0 t1 i1 : Expr} {ifs0 ifs1 : List Expr} {scope : Scope} {pos : Pos} {it acc : Value} {env : Env}
/-- what the tests of a clause are worth -/
abbrev tests (ifs : List Expr) (env : Env) : Sem Bool := forIn ifs true fun c r => if r = true then do let ok ← isTrue c env (eval c env); pure (ForInStep.yield ok) else pure (ForInStep.yield r)
abbrev two (elt t0 i0 t1 i1 : Expr) (ifs0 ifs1 : List Expr) (scope : Scope) (pos : Pos) : Expr := .SetComp elt [⟨t0, i0, ifs0, 0⟩, ⟨t1, i1, ifs1, 0⟩] scope pos
theorem turn_out : compTurn (two elt t0 i0 t1 i1 ifs0 ifs1 scope pos) 0 it acc env = (do
      standAt i0.pos
      match ← pyNext it with
      | none => pure (.done .next)
      | some v => letOwnedTupleGo t0 it v
                  assign t0 env v
                  let mut ok := true
                  for c in ifs0 do
                    if ok then ok ← isTrue c env (eval c env)
                  if ok then
                    let x ← eval i1 env
                    standAt i1.pos
                    let x ← foldedSetIterable i1 env x
                    let _ ← runOwn (.compStart (two elt t0 i0 t1 i1 ifs0 ifs1 scope pos) 1 (← holding [x] (pyIter x)) acc env) env
                  again (.compLoop (two elt t0 i0 t1 i1 ifs0 ifs1 scope pos) 0 it acc env)) := by rfl
theorem turn_in : compTurn (two elt t0 i0 t1 i1 ifs0 ifs1 scope pos) 1 it acc env = (do
      standAt i1.pos
      match ← pyNext it with
      | none => pure (.done .next)
      | some v => letOwnedTupleGo t1 it v
                  assign t1 env v
                  let mut ok := true
                  for c in ifs1 do
                    if ok then ok ← isTrue c env (eval c env)
                  if ok then
                    (do let v ← eval elt env; standAt elt.pos; let _ ← call (.builtin "set.add") [acc, v])
                  again (.compLoop (two elt t0 i0 t1 i1 ifs0 ifs1 scope pos) 1 it acc env)) := by rfl
abbrev ntd (prog : Program) (w : World) (A : Around) (env : Env) (R : Result → Shared → Prop) : Value → Shared → Prop := notedBy (model prog w) A env fun e s' => R (.error e) s'
/-- the loop of the first clause -/
theorem loop_out (hs : ∀ x, foldedSetIterable i1 env x = pure x) (I : Nat → Shared → Prop)
    (turn : ∀ n s, I n s → wpAny (model prog w) A (pyNext it) (fun r s₁ => match r with
      | none => R (.ok .next) s₁
      | some v => wpAny (model prog w) A (letOwnedTupleGo t0 it v) (fun _ a1 => wpAny (model prog w) A (assign t0 env v) (fun _ a2 => wpAny (model prog w) A (tests ifs0 env) (fun ok a3 =>
            if ok = true then wpAny (model prog w) A (eval i1 env) (fun x a4 => wpAny (model prog w) A (pyIter x) (fun it1 a5 =>
              codeAny (model prog w) A (.compStart (two elt t0 i0 t1 i1 ifs0 ifs1 scope pos) 1 it1 acc env) (fun r s' => match r with
                | .ok _ => ∃ m, m < n ∧ I m s'
                | .error _ => False) a5) (ntd prog w A env R) a4) (ntd prog w A env R) a3
            else ∃ m, m < n ∧ I m a3) (ntd prog w A env R) a2) (ntd prog w A env R) a1) (ntd prog w A env R) s₁) (ntd prog w A env R) s)
    (n : Nat) (h : I n s) : codeAny (model prog w) A (.compLoop (two elt t0 i0 t1 i1 ifs0 ifs1 scope pos) 0 it acc env) R s := by
  refine codeAny_loop rfl I (fun n s hI => ?_) n h
  show wpAny _ A ((compTurn (two elt t0 i0 t1 i1 ifs0 ifs1 scope pos) 0 it acc env).onRaise (fun x => do noteFrame x env; theTreesLotGoes x)) _ _ s
  refine wpAny_noted ?_; rw [turn_out]
  refine wpAny_bind (wpAny_standAt (wpAny_bind (wpAny_mono (turn n s hI) (fun r b1 q1 => ?_) fun _ _ z => z)))
  cases r with
  | none => exact wpAny_pure q1
  | some v =>
    refine wpAny_bind (wpAny_mono q1 (fun _ b2 q2 => wpAny_bind (wpAny_mono q2 (fun _ b3 q3 => wpAny_bind (wpAny_mono q3 (fun ok b4 q4 => ?_) fun _ _ z => z)) fun _ _ z => z)) fun _ _ z => z)
    cases ok with
    | false => exact wpAny_pure ⟨rfl, q4⟩
    | true =>
      refine wpAny_bind (wpAny_mono q4 (fun x b5 q5 => wpAny_bind (wpAny_standAt (wpAny_bind (wpAny_of_eq (hs x) (wpAny_bind (wpAny_holding (wpAny_mono q5 (fun it1 b6 q6 => wpAny_bind (wpAny_runOwn ?_)) fun _ _ z => z))))))) fun _ _ z => z)
      rw [Around.mark_none]
      refine codeAny_mono q6 fun r s' hr => ?_
      cases r with
      | ok f => first | exact wpAny_pure ⟨rfl, hr⟩ | exact wpAny_bind (wpAny_pure (wpAny_pure ⟨rfl, hr⟩))
      | error e => exact hr.elim
/-- the loop of the second -/
theorem loop_in (I : Nat → Shared → Prop)
    (turn : ∀ n s, I n s → wpAny (model prog w) A (pyNext it) (fun r s₁ => match r with
      | none => R (.ok .next) s₁
      | some v => wpAny (model prog w) A (letOwnedTupleGo t1 it v) (fun _ a1 => wpAny (model prog w) A (assign t1 env v) (fun _ a2 => wpAny (model prog w) A (tests ifs1 env) (fun ok a3 =>
            if ok = true then wpAny (model prog w) A (eval elt env) (fun x a4 => wpAny (model prog w) A (call (.builtin "set.add") [acc, x]) (fun _ a5 => ∃ m, m < n ∧ I m a5) (ntd prog w A env R) a4) (ntd prog w A env R) a3
            else ∃ m, m < n ∧ I m a3) (ntd prog w A env R) a2) (ntd prog w A env R) a1) (ntd prog w A env R) s₁) (ntd prog w A env R) s)
    (n : Nat) (h : I n s) : codeAny (model prog w) A (.compLoop (two elt t0 i0 t1 i1 ifs0 ifs1 scope pos) 1 it acc env) R s := by
  refine codeAny_loop rfl I (fun n s hI => ?_) n h
  show wpAny _ A ((compTurn (two elt t0 i0 t1 i1 ifs0 ifs1 scope pos) 1 it acc env).onRaise (fun x => do noteFrame x env; theTreesLotGoes x)) _ _ s
  refine wpAny_noted ?_; rw [turn_in]
  refine wpAny_bind (wpAny_standAt (wpAny_bind (wpAny_mono (turn n s hI) (fun r b1 q1 => ?_) fun _ _ z => z)))
  cases r with
  | none => exact wpAny_pure q1
  | some v =>
    refine wpAny_bind (wpAny_mono q1 (fun _ b2 q2 => wpAny_bind (wpAny_mono q2 (fun _ b3 q3 => wpAny_bind (wpAny_mono q3 (fun ok b4 q4 => ?_) fun _ _ z => z)) fun _ _ z => z)) fun _ _ z => z)
    cases ok with
    | false => exact wpAny_pure ⟨rfl, q4⟩
    | true => exact wpAny_bind (wpAny_bind (wpAny_mono q4 (fun x b5 q5 => wpAny_bind (wpAny_standAt (wpAny_bind (wpAny_mono q5 (fun _ b6 q6 => wpAny_pure (wpAny_pure ⟨rfl, q6⟩)) fun _ _ z => z)))) fun _ _ z => z))
/-- the second clause's start -/
theorem start_in (h0 : codeAny (model prog w) A (.compLoop (two elt t0 i0 t1 i1 ifs0 ifs1 scope pos) 1 it acc env) R s)
    (h : wpAny (model prog w) A (pyIter it) (fun it' s' => codeAny (model prog w) A (.compLoop (two elt t0 i0 t1 i1 ifs0 ifs1 scope pos) 1 it' acc env) R s') (ntd prog w A env R) s) :
    codeAny (model prog w) A (.compStart (two elt t0 i0 t1 i1 ifs0 ifs1 scope pos) 1 it acc env) R s := by
  refine codeAny_of_tree ?_
  show wpAny _ _ ((compStart (two elt t0 i0 t1 i1 ifs0 ifs1 scope pos) 1 it acc env).onRaise (fun x => do noteFrame x env; standAt theWindowsPlace)) _ _ s
  refine wpAny_notedAt ?_; unfold compStart; show wpAny _ _ (ask >>= _) _ _ s
  refine wpAny_bind (wpAny_askSetting (wpAny_ite ?_))
  split
  · first | exact wpAny_bind (wpAny_pure (wpAny_pure (And.intro rfl h0))) | exact wpAny_pure (And.intro rfl h0)
  · first
      | exact wpAny_bind (wpAny_rule (wpAny_bind (wpAny_standAt (wpAny_bind (wpAny_mono h (fun _ _ q => wpAny_pure (And.intro rfl q)) fun _ _ z => z)))))
      | (refine wpAny_bind (wpAny_rule ?_); show wpAny _ _ (standAt i1.pos >>= _) _ _ s; exact wpAny_bind (wpAny_standAt (wpAny_bind (wpAny_mono h (fun _ _ q => wpAny_pure (And.intro rfl q)) fun _ _ z => z))))
end
end PlS
/-! text PlS5 -/
set_option Elab.async false
set_option linter.all false
set_option maxRecDepth 100000
namespace PlS
open PySem PySem.Spec PyProof.Rows L2 PySem.Froz PpSet
section
variable {X : Cx}
/-- {elt for tg in iter if .. for tg1 in iter1 if ..} of texts: D the new set, l what it holds -/
def tSc2 (P : Program) (w : World) (wi : TI) (g : TG) (tt : TT) (wi1 : TI) (g1 : TG) (tt1 : TT) (te : TE) (vs vs1 : List Nat) : TE := fun σ H Q => wi σ H fun J H1 => ∀ D, H1 D = none → ∃ W : Nat → Nat → Hp → Prop, (∃ m, W 0 m (upd H1 D (SetT P w D []))) ∧ ∀ i m H, W i m H →
  (J.stop i H ∧ Q (.ref D) H) ∨ (J.go i H ∧ ∃ Nx : Hp → Prop, (∀ H', Nx H' → ∃ m', m' < m ∧ W (i + 1) m' H') ∧ ∀ x H', J.yld i H x H' → g x (wipe σ vs) H' fun σ2 H2 => wipe σ2 vs = wipe σ vs ∧ tt σ2 H2 fun b H3 =>
    if b = true then wi1 σ2 H3 fun J1 H4 => ∃ W1 : Nat → Nat → Hp → Prop, (∃ m, W1 0 m H4) ∧ ∀ j k H, W1 j k H →
      (J1.stop j H ∧ Nx H) ∨ (J1.go j H ∧ ∃ Nx1 : Hp → Prop, (∀ H', Nx1 H' → ∃ k', k' < k ∧ W1 (j + 1) k' H') ∧ ∀ x H', J1.yld j H x H' → g1 x (wipe σ2 vs1) H' fun σ3 H5 => wipe σ3 vs1 = wipe σ2 vs1 ∧ tt1 σ3 H5 fun b H6 =>
        if b = true then te σ3 H6 fun y H7 => ∃ z l, y = .str z ∧ H7 D = some (SetT P w D l) ∧ l.length < 1000 ∧ Nx1 (upd H7 D (SetT P w D (ins l z))) else Nx1 H6)
    else Nx H3)
theorem newSet_b {P : Program} {w : World} {A : Around} {E : Value → Shared → Prop} {s : Shared} {Q : Value → Shared → Prop} (h : Q (.ref s.heap.objs.size) { s with heap := s.heap.push (blank w) }) : wpAny (model P w) A (newSet (.type "set")) Q E s := newSet_ok h
theorem sc2_core {pins : List (Addr × Obj)} {s : Shared} {σ : L2.St} {H : Hp} {Q : VK} {elt tg iter tg1 iter1 : Expr} {ifs ifs1 : List Expr} {scope : Scope} {own : List (PySem.Str × Nat)} {vs1 : List Nat} {pos pos' : Pos} {wi wi1 : TI} {g g1 : TG} {tt tt1 : TT} {te : TE} {use : Option (Value → Sem Unit)} {Qf : Value → Shared → Prop}
    (hc : X.calm = true) (hN : X.N.Nodup) (I : Inv X pins σ H s) (hi : PI X tg iter wi) (ok : BlkOk X.N X.env.scope scope own) (hv : ∀ i ∈ vs1, i ∈ own.map (·.2))
    (in_ : ∀ (s : Shared) (H : Hp) (C : Addr) (cl : List (PySem.Str × Addr)) (fp : List Addr), PG (X.blk s H scope (compEnvC scope cl C X.env) fp) tg g ∧ PTs (X.blk s H scope (compEnvC scope cl C X.env) fp) ifs tt ∧ PE (X.blk s H scope (compEnvC scope cl C X.env) fp) elt te ∧
      PI (X.blk s H scope (compEnvC scope cl C X.env) fp) tg1 iter1 wi1 ∧ PG (X.blk s H scope (compEnvC scope cl C X.env) fp) tg1 g1 ∧ PTs (X.blk s H scope (compEnvC scope cl C X.env) fp) ifs1 tt1)
    (hs : ∀ x, foldedSetIterable iter X.env x = pure x) (hs1 : ∀ env x, foldedSetIterable iter1 env x = pure x) (h : tSc2 X.prog X.w wi g tt wi1 g1 tt1 te (own.map (·.2)) vs1 σ H Q)
    (hRR : ∀ D C s' m H', Inv X pins σ H' s' → Q (.ref D) H' → s'.heap.Ns C m → FpOk X pins H' C → compPost (model X.prog X.w) X.A X.xe use Qf (.ref D) C (.ok .next) s') :
    wpAny (model X.prog X.w) X.A (comprehension (two elt tg iter tg1 iter1 ifs ifs1 scope pos) scope X.env pos' (newSet (.type "set")) false (eval iter X.env) use) Qf X.xe s := by
  have hfree : ∀ y ∈ scope.names, y.2 = .free → ∃ c, X.env.cells.lookup y.1 = some c := fun y hy e => (ok.free y hy e).elim (fun k => I.ok.has _ (.inl k)) fun k => I.ok.has _ (.inr k)
  refine wpAny_comprehension_free (use := use) rfl hs (closure_ok hfree) ok.kind (fun y hy e => by rw [ok.uniq y hy, e]) (thn (hi.run pins s σ H _ I h) fun xv s1 hx => thn hx fun itv s2 h2 => ?_)
  obtain ⟨it, fp, tn, J, H2, e, I2, T, st2, f2, q⟩ := h2
  subst e
  refine newSet_b (newEnv_comp ?_)
  generalize hD : s2.heap.objs.size = D
  have hDn : H2 D = none := I2.hok.fresh (Nat.le_of_eq hD)
  obtain ⟨W, ⟨m0, w0⟩, turn⟩ := q D hDn
  generalize hs3 : ({ s2 with heap := s2.heap.push (blank X.w) } : Shared) = s3
  have h3 : s3.heap = s2.heap.push (blank X.w) := by rw [← hs3]
  have I3 : Inv X pins σ (upd H2 D (SetT X.prog X.w D [])) s3 := by
    rw [← hs3]
    refine I2.laid (t' := s2.toks) (fun b o e => Heap.get?_push_of_some _ e) (Nat.le_of_eq hD) (setT_new (SetS.fresh ?_))
    rw [← hD]; exact Heap.get?_push_size _ rfl
  have below : ∀ b ∈ fp, b < s2.heap.objs.size := fun b hb => by
    obtain ⟨o, e, _⟩ := T.obj _ _ st2 b hb
    exact Heap.lt_size e
  have f3 : ∀ b ∈ fp, FpOk X pins (upd H2 D (SetT X.prog X.w D [])) b ∧ b < s3.heap.objs.size := fun b hb => by
    refine ⟨⟨?_, (f2 b hb).2⟩, by rw [h3, Heap.size_push]; exact Nat.lt_succ_of_lt (below b hb)⟩
    rw [upd_ne (by rw [← hD]; exact Nat.ne_of_lt (below b hb))]; exact (f2 b hb).1
  have st3 : tn 0 s3.heap := T.keep _ _ _ st2 fun b _ o e => by rw [h3]; exact Heap.get?_push_of_some _ e
  have I4 := block_start I3 ok hN f3
  obtain ⟨pg, pt, pe, pi1, pg1, pt1⟩ := in_ s3 (upd H2 D (SetT X.prog X.w D [])) s3.heap.objs.size (cellsFrom (s3.heap.objs.size + 1) scope.names (cloFrom X.env.cells scope.names [])) fp
  show codeAny _ _ (.compStart (two elt tg iter tg1 iter1 ifs ifs1 scope pos) 0 (.ref it) (.ref D) (compEnvC scope (cellsFrom (s3.heap.objs.size + 1) scope.names (cloFrom X.env.cells scope.names [])) s3.heap.objs.size X.env)) (compPost (model X.prog X.w) X.A X.xe use Qf (.ref D) s3.heap.objs.size) { s3 with heap := pushCells (s3.heap.push { cls := .type "dict", data := .dict #[] }) scope.names }
  have nfp : ∀ b ∈ fp, (upd H2 D (SetT X.prog X.w D [])) b = none := fun b hb => (f3 b hb).1.1
  generalize hce : compEnvC scope (cellsFrom (s3.heap.objs.size + 1) scope.names (cloFrom X.env.cells scope.names [])) s3.heap.objs.size X.env = ce at I4 pg pt pe pi1 pg1 pt1 ⊢
  have cL : ce.locals = s3.heap.objs.size := by subst hce; rfl
  generalize hH3 : upd H2 D (SetT X.prog X.w D []) = H3 at I3 I4 pg pt pe pi1 pg1 pt1 w0 nfp f3
  generalize hs4 : ({ s3 with heap := pushCells (s3.heap.push { cls := .type "dict", data := .dict #[] }) scope.names } : Shared) = s4 at I4 ⊢
  have st4 : tn 0 s4.heap := T.keep _ _ _ st3 fun b _ o e => by rw [← hs4]; exact pushCells_keeps _ _ _ _ (Heap.get?_push_of_some _ e)
  generalize hXb : X.blk s3 H3 scope ce fp = Xb at I4 pg pt pe pi1 pg1 pt1
  have e1 : Xb.prog = X.prog := by rw [← hXb]
  have e2 : Xb.w = X.w := by rw [← hXb]
  have e3 : Xb.K = X.K := by rw [← hXb]
  have e4 : Xb.A = X.A := by rw [← hXb]
  have e5 : Xb.env = ce := by rw [← hXb]
  have e6 : Xb.calm = true := by rw [← hXb]; exact hc
  have e7 : Xb.ex = fp := by rw [← hXb]
  have e8 : Xb.pn = [] := by rw [← hXb]
  have e9 : Xb.xe = fun _ _ => False := by rw [← hXb]
  subst hXb
  have stat : ∀ {σ' : L2.St} {H' : Hp} {s' : Shared}, Inv (X.blk s3 H3 scope ce fp) [] σ' H' s' → (∀ b ∈ fp, H' b = none) → ∀ b ∈ fp, FpOk (X.blk s3 H3 scope ce fp) [] H' b := fun {σ' H' s'} I' hn b hb =>
    ⟨hn b hb, (I'.ok.exf b hb).1, I'.ok.exfs b hb, .inl hb, fun x c e => (I'.ok.exf b hb).2 x c e, fun p hp => by simp at hp⟩
  have loop : codeAny (model X.prog X.w) X.A (.compLoop (two elt tg iter tg1 iter1 ifs ifs1 scope pos) 0 (.ref it) (.ref D) ce) (compPost (model X.prog X.w) X.A X.xe use Qf (.ref D) s3.heap.objs.size) s4 := by
    refine loop_out (hs1 ce) (fun n s' => ∃ i H', Inv (X.blk s3 H3 scope ce fp) [] (wipe σ (own.map (·.2))) H' s' ∧ tn i s'.heap ∧ (∀ b ∈ fp, H' b = none) ∧ W i n H') ?_ m0 ⟨0, H3, I4, st4, nfp, w0⟩
    rintro n s5 ⟨i, H5, I5, st5, n5, w5⟩
    rcases turn i n H5 w5 with ⟨stop, qq⟩ | ⟨go, Nx, hNx, step⟩
    · refine thnF (T.done (X.blk s3 H3 scope ce fp) rfl rfl rfl hc i [] s5 _ H5 (fun _ _ => False) I5 (stat I5 n5) st5 stop) fun r s6 ⟨hr, I6⟩ => ?_
      subst hr
      have I7 : Inv X pins σ H5 s6 := I3.call' (ch := fp) I6.os I6.base I6.hok I6.bare fun b hb => let z := (f3 b hb).1.2; ⟨z.2.2.1, z.1, z.2.2.2.1, z.2.2.2.2⟩
      have nC : H5 s3.heap.objs.size = none := by
        have z : H5 ce.locals = none := I6.free
        rw [cL] at z; exact z
      obtain ⟨m, hn, _⟩ := I6.loc
      have hn : s6.heap.Ns ce.locals m := hn
      rw [cL] at hn
      exact hRR D s3.heap.objs.size s6 m H5 I7 qq hn (I3.fpOk (Nat.le_refl _) nC)
    · refine thnF (T.item (X.blk s3 H3 scope ce fp) rfl rfl rfl hc i [] s5 _ H5 (fun _ _ => False) I5 (stat I5 n5) st5 go) fun r s6 ⟨u, hr, h6⟩ => ?_
      subst hr
      refine thnF h6 fun _ s7 ⟨x, H7, I7, r7, y7, st7, n7⟩ => ?_
      have I7' := I7.pinned (stat I7 n7) (T.obj _ _ st7)
      refine thnF (pg.run _ s7 _ H7 x u _ I7' r7 (step x H7 y7)) fun _ s8 ⟨σ8, H8, I8, hw8, q8⟩ => thnF (pt.run _ s8 σ8 H8 _ I8 q8) fun b s9 ⟨H9, I9, q9⟩ => ?_
      have fin : ∀ {σ9 : L2.St} {s' : Shared} {H' : Hp}, Inv (X.blk s3 H3 scope ce fp) ([] ++ pinsAt fp s7.heap) σ9 H' s' → (wipe σ (own.map (·.2))).length = σ9.length → (∀ (j : Nat) v, (wipe σ (own.map (·.2)))[j]? = some (some v) → σ9[j]? = some (some v)) → Nx H' →
          ∃ m, m < n ∧ ∃ i H', Inv (X.blk s3 H3 scope ce fp) [] (wipe σ (own.map (·.2))) H' s' ∧ tn i s'.heap ∧ (∀ b ∈ fp, H' b = none) ∧ W i m H' := fun {σ9 s' H'} I' hl hk nx => by
        obtain ⟨m', hm, w'⟩ := hNx H' nx
        have pin' : ∀ b ∈ fp, ∀ o, s7.heap.get? b = some o → s'.heap.get? b = some o ∧ H' b = none := fun b hb o e => (I'.pin (b, o) (List.mem_append_right _ (List.mem_append_right _ (mem_pinsAt hb e)))).imp id And.left
        refine ⟨m', hm, i + 1, H', (I'.unpinned (pins := [])).weak hl hk, T.keep _ _ _ st7 fun b hb o e => (pin' b hb o e).1, fun b hb => ?_, w'⟩
        obtain ⟨o, e, _⟩ := T.obj _ _ st7 b hb
        exact (pin' b hb o e).2
      have hl8 : (wipe σ (own.map (·.2))).length = σ8.length := by rw [← hw8, wipe_length]
      have hk8 : ∀ (j : Nat) v, (wipe σ (own.map (·.2)))[j]? = some (some v) → σ8[j]? = some (some v) := fun j v e => by
        rw [← hw8] at e; exact (wipe_some e).1
      have hk9 : ∀ (j : Nat) v, (wipe σ (own.map (·.2)))[j]? = some (some v) → (wipe σ8 vs1)[j]? = some (some v) := fun j v e => by
        rw [← hw8] at e
        obtain ⟨z1, z2⟩ := wipe_some e
        rw [wipe_out fun z => z2 (hv j z)]; exact z1
      cases b with
      | false =>
        simp only [Bool.false_eq_true, if_false] at q9 ⊢
        exact fin I9 hl8 hk8 q9
      | true =>
        simp only [if_true] at q9 ⊢
        refine thnF (pi1.run _ s9 σ8 H9 _ I9 q9) fun xv s10 hx => thnF hx fun itv s11 h11 => ?_
        obtain ⟨it1, fp1, tn1, J1, H11, e1, I11, T1, st11, f11, W1, ⟨m1, w1⟩, turn1⟩ := h11
        subst e1
        have stat1 : ∀ {H' : Hp}, (∀ b ∈ fp1, H' b = none) → ∀ b ∈ fp1, FpOk (X.blk s3 H3 scope ce fp) ([] ++ pinsAt fp s7.heap) H' b := fun hn b hb => ⟨hn b hb, (f11 b hb).2⟩
        have loop1 : codeAny (model X.prog X.w) X.A (.compLoop (two elt tg iter tg1 iter1 ifs ifs1 scope pos) 1 (.ref it1) (.ref D) ce)
            (fun r s' => match r with
              | .ok _ => ∃ m, m < n ∧ ∃ i H', Inv (X.blk s3 H3 scope ce fp) [] (wipe σ (own.map (·.2))) H' s' ∧ tn i s'.heap ∧ (∀ b ∈ fp, H' b = none) ∧ W i m H'
              | .error _ => False) s11 := by
          refine loop_in (fun k s' => ∃ j H', Inv (X.blk s3 H3 scope ce fp) ([] ++ pinsAt fp s7.heap) (wipe σ8 vs1) H' s' ∧ tn1 j s'.heap ∧ (∀ b ∈ fp1, H' b = none) ∧ W1 j k H') ?_ m1 ⟨0, H11, I11.weak (wipe_length _ _) (fun j v e => (wipe_some e).1), st11, fun b hb => (f11 b hb).1, w1⟩
          rintro k s12 ⟨j, H12, I12, st12, n12, w12⟩
          rcases turn1 j k H12 w12 with ⟨stop1, nx1⟩ | ⟨go1, Nx1, hNx1, step1⟩
          · refine thnF (T1.done (X.blk s3 H3 scope ce fp) rfl rfl rfl hc j _ s12 (wipe σ8 vs1) H12 (fun _ _ => False) I12 (stat1 n12) st12 stop1) fun r s13 ⟨hr, I13⟩ => ?_
            subst hr
            exact fin I13 (hl8.trans (wipe_length σ8 vs1).symm) hk9 nx1
          · refine thnF (T1.item (X.blk s3 H3 scope ce fp) rfl rfl rfl hc j _ s12 (wipe σ8 vs1) H12 (fun _ _ => False) I12 (stat1 n12) st12 go1) fun r s13 ⟨u1, hr, h13⟩ => ?_
            subst hr
            refine thnF h13 fun _ s14 ⟨x1, H14, I14, r14, y14, st14, n14⟩ => ?_
            have I14' := I14.pinned (stat1 n14) (T1.obj _ _ st14)
            refine thnF (pg1.run _ s14 (wipe σ8 vs1) H14 x1 u1 _ I14' r14 (step1 x1 H14 y14)) fun _ s15 ⟨σ15, H15, I15, hw15, q15⟩ => thnF (pt1.run _ s15 σ15 H15 _ I15 q15) fun b1 s16 ⟨H16, I16, q16⟩ => ?_
            have fin1 : ∀ {s' : Shared} {H' : Hp}, Inv (X.blk s3 H3 scope ce fp) (([] ++ pinsAt fp s7.heap) ++ pinsAt fp1 s14.heap) σ15 H' s' → Nx1 H' → ∃ m, m < k ∧ ∃ j H', Inv (X.blk s3 H3 scope ce fp) ([] ++ pinsAt fp s7.heap) (wipe σ8 vs1) H' s' ∧ tn1 j s'.heap ∧ (∀ b ∈ fp1, H' b = none) ∧ W1 j m H' := fun {s' H'} I' nx => by
              obtain ⟨m', hm, w'⟩ := hNx1 H' nx
              have pin' : ∀ b ∈ fp1, ∀ o, s14.heap.get? b = some o → s'.heap.get? b = some o ∧ H' b = none := fun b hb o e => (I'.pin (b, o) (List.mem_append_right _ (List.mem_append_right _ (mem_pinsAt hb e)))).imp id And.left
              refine ⟨m', hm, j + 1, H', I'.unpinned.weak (by rw [← hw15, wipe_length]) (fun j v e => by rw [← hw15] at e; exact (wipe_some e).1), T1.keep _ _ _ st14 fun b hb o e => (pin' b hb o e).1, fun b hb => ?_, w'⟩
              obtain ⟨o, e, _⟩ := T1.obj _ _ st14 b hb
              exact (pin' b hb o e).2
            cases b1 with
            | false =>
              simp only [Bool.false_eq_true, if_false] at q16 ⊢
              exact fin1 I16 q16
            | true =>
              simp only [if_true] at q16 ⊢
              refine thnF (pe.run _ s16 σ15 H16 _ I16 q16) fun z s17 ⟨yv, H17, I17, r17, zz, l, ez, hD17, few, nx⟩ => ?_
              rw [ez] at r17
              exact put_ok (X := X.blk s3 H3 scope ce fp) I17 hD17 few r17 fun s18 I18 => fin1 I18 nx
        exact start_in loop1 (T1.self X.A 0 _ _ _ st11 loop1)
  exact codeAny_compStart_set loop (T.self X.A 0 _ _ _ st4 loop)
/-- as a value -/
theorem pe_sc2 {elt tg iter tg1 iter1 : Expr} {ifs ifs1 : List Expr} {scope : Scope} {own : List (PySem.Str × Nat)} {vs1 : List Nat} {pos : Pos} {wi wi1 : TI} {g g1 : TG} {tt tt1 : TT} {te : TE} (hc : X.calm = true) (hN : X.N.Nodup) (hi : PI X tg iter wi) (ok : BlkOk X.N X.env.scope scope own) (hv : ∀ i ∈ vs1, i ∈ own.map (·.2))
    (hg : ∀ (s : Shared) (H : Hp) (C : Addr) (cl : List (PySem.Str × Addr)) (fp : List Addr), PG (X.blk s H scope (compEnvC scope cl C X.env) fp) tg g) (ht : ∀ (s : Shared) (H : Hp) (C : Addr) (cl : List (PySem.Str × Addr)) (fp : List Addr), PTs (X.blk s H scope (compEnvC scope cl C X.env) fp) ifs tt)
    (hi1 : ∀ (s : Shared) (H : Hp) (C : Addr) (cl : List (PySem.Str × Addr)) (fp : List Addr), PI (X.blk s H scope (compEnvC scope cl C X.env) fp) tg1 iter1 wi1)
    (hg1 : ∀ (s : Shared) (H : Hp) (C : Addr) (cl : List (PySem.Str × Addr)) (fp : List Addr), PG (X.blk s H scope (compEnvC scope cl C X.env) fp) tg1 g1) (ht1 : ∀ (s : Shared) (H : Hp) (C : Addr) (cl : List (PySem.Str × Addr)) (fp : List Addr), PTs (X.blk s H scope (compEnvC scope cl C X.env) fp) ifs1 tt1)
    (he : ∀ (s : Shared) (H : Hp) (C : Addr) (cl : List (PySem.Str × Addr)) (fp : List Addr), PE (X.blk s H scope (compEnvC scope cl C X.env) fp) elt te) (hs : ∀ x, foldedSetIterable iter X.env x = pure x := by intro _; rfl) (hs1 : ∀ env x, foldedSetIterable iter1 env x = pure x := by intro _ _; rfl) :
    PE X (.SetComp elt [⟨tg, iter, ifs, 0⟩, ⟨tg1, iter1, ifs1, 0⟩] scope pos) (tSc2 X.prog X.w wi g tt wi1 g1 tt1 te (own.map (·.2)) vs1) := by
  refine ⟨fun pins s σ H Q I h => ?_⟩
  rw [eval_SetComp]
  refine sc2_core hc hN I hi ok hv (fun s H C cl fp => ⟨hg s H C cl fp, ht s H C cl fp, he s H C cl fp, hi1 s H C cl fp, hg1 s H C cl fp, ht1 s H C cl fp⟩) hs hs1 h fun D C s' m H' I' q hn f => ⟨m, hn, fun h2 sb => ?_⟩
  obtain ⟨f0, f1, f2, f3, f4, f5⟩ := f
  exact ⟨.ref D, H', I'.turned (t' := s'.toks) (fun b o hb e => (sb.2 b hb).trans e) f0 f1 f3 f4 f5, rfl, q⟩
end
end PlS
/-! text PlS2 -/
set_option Elab.async false
set_option linter.all false
set_option maxRecDepth 100000
namespace PlS
open PySem PySem.Spec PyProof.Rows L2 PySem.Froz
section
variable {P : Program} {w : World} {A : Around} {E : Value → Shared → Prop} {s : Shared}
theorem strs_get : ∀ {us : List Value} {xs : List Str} {i : Nat} {v : Value}, StrsAre us xs → us[i]? = some v → ∃ x t, xs[i]? = some x ∧ v = .str x t
  | _, _, _, _, .nil, h => by simp at h
  | _, _, 0, _, .cons x t _, h => by
    simp at h
    exact ⟨x, t, rfl, h.symm⟩
  | _, _, i + 1, v, .cons x t r, h => by
    obtain ⟨y, u, e1, e2⟩ := strs_get (i := i) (v := v) r (by simpa using h)
    exact ⟨y, u, by simpa using e1, e2⟩
set_option maxHeartbeats 4000000 in
/-- set(a list of texts) -/
theorem make {l : Addr} {items : Array Value} {xs : List Str} {Q : Value → Shared → Prop} (hh : A.handled = none) (hl : s.heap.IsList l items) (hi : StrsAre items.toList xs) (few : items.size < 1000)
    (k : ∀ (h' : Heap) (tk : Nat), SetS P w h' s.heap.objs.size (gath xs) → (∀ b o, s.heap.get? b = some o → h'.get? b = some o) → Q (.ref s.heap.objs.size) { s with heap := h', toks := tk }) :
    wpAny (model P w) A (call (.type "set") [.ref l]) Q E s := by
  have C := F.called_set
  obtain ⟨c, tl, hmro⟩ := C.mro; have hmade := C.made; have hsub := C.sub
  refine wpAny_call (codeAny_of_tree ?_); show wpAny _ _ (callAny (.type "set") _) _ _ _
  refine wpAny_pure ⟨Code.quiet_builtin _ (by decide +kernel), codeAny_builtin F.entry_type_call ?_⟩; rw [Around.under_plain (weight_type_call_type "set" [.ref l] []) rfl]
  have h1 := C.notType; have h2 := C.canCreate; have hct := F.typeCall_set_1 (.ref l)
  repeat (any_goals (first | assumption | wp_step))
  refine codeAny_mono (code_set_led1 (.ref l) (E := E) (Q₁ := fun o s₁ => o = .ref s.heap.objs.size ∧ s₁ = { s with heap := s.heap.push (blank w) }) ⟨rfl, rfl⟩) fun r s₁ hr => ?_
  rcases r with e | fl
  · exact hr
  cases fl with
  | ret obj =>
    obtain ⟨rfl, rfl⟩ := hr
    have at0 : (s.heap.push (blank w)).get? s.heap.objs.size = some (blank w) := Heap.get?_push_size _ rfl
    have hT : Shared.TypeIs { s with heap := s.heap.push (blank w) } (.ref s.heap.objs.size) "set" := ⟨_, at0, rfl⟩
    have hli := C.init.lookup; have hbi := C.init.bind (.ref s.heap.objs.size)
    repeat (any_goals (first | assumption | wp_step))
    refine codeAny_mono (codeAny_call_builtin (R := wants (fun r s₂ => r = .none ∧ ∃ h' tk, s₂ = { s with heap := h', toks := tk } ∧ SetS P w h' s.heap.objs.size (gath xs) ∧ (∀ b o, s.heap.get? b = some o → h'.get? b = some o)) E) C.init.plain F.entry_set_init (check_set_init_1 hT ?_)) fun r₂ s₂ hr₂ => ?_
    · obtain ⟨⟨oc, od, odt, osl⟩, hol, hcl, nl, hdl⟩ := hl
      cases hcl; cases hdl
      have hol' := Heap.get?_push_of_some (blank w) hol
      have hsls := F.sub_list_set; have hslf := F.sub_list_frozenset
      have hne : (Value.type "list" == Value.type "dict") = false := by decide
      have isl : (s.heap.push (blank w)).IsList l items := ⟨_, hol', rfl, nl, rfl⟩
      unfold Builtin.«set.__init__» noKeywords Builtin.Frozenset.updateFrom
      generalize hPI : pyIter = PI
      wp_walk
      subst hPI
      refine wpAny_pyIter_list isl (wpAny_bind (wpAny_runValue ?_))
      have lt : l < s.heap.objs.size := Heap.lt_size hol
      have h3 : A.in1.in1.in1.handled = none := by simp [hh]
      have sz : (s.heap.push (blank w)).objs.size = s.heap.objs.size + 1 := Heap.size_push ..
      have ap : l ≠ (s.heap.push (blank w)).objs.size := by rw [sz]; exact Nat.ne_of_lt (Nat.lt_succ_of_lt lt)
      have out : s.heap.objs.size ∉ [(s.heap.push (blank w)).objs.size, l] := by
        rw [sz]; intro z
        rcases List.mem_cons.mp z with z | z
        · exact Nat.succ_ne_self _ z.symm
        · exact Nat.ne_of_gt lt (List.mem_singleton.mp z)
      have len : items.size = xs.length := by rw [← hi.len_eq, Array.length_toList]
      refine fill ((Walks.list h3 _ l ap items).toS) s.heap.objs.size out xs len (fun i v hv => strs_get hi (by rw [Array.getElem?_toList]; exact hv)) few items.size 0 _ (Nat.zero_add _).symm ⟨⟨_, Heap.get?_push_size _ rfl, rfl, rfl⟩, isl.push _⟩ (SetS.fresh (Heap.get?_push_of_some _ at0)) fun s' mv ok => ?_
      obtain ⟨h', g', d', tk', os'⟩ := s'
      cases (show g' = s.gens from mv.gens); cases (show d' = s.drawn from mv.drawn); cases (show os' = s.os from mv.os)
      refine wpAny_pure (wpAny_pure ⟨rfl, h', tk', rfl, ok, fun b o e => mv.heap b o (fun z => ?_) (Heap.get?_push_of_some _ (Heap.get?_push_of_some _ e))⟩)
      have below := Heap.lt_size e
      rcases List.mem_cons.mp z with z | z
      · exact Nat.ne_of_lt below z
      · exact Nat.ne_of_lt (Nat.lt_succ_of_lt below) ((List.mem_singleton.mp z).trans sz)
    · rcases r₂ with e | fl₂
      · exact hr₂
      cases fl₂ with
      | ret r =>
        obtain ⟨rfl, h', tk, rfl, ok, kp⟩ := hr₂
        repeat (any_goals (first | assumption | wp_step))
        exact k _ _ ok kp
      | _ => exact hr₂.elim
  | _ => exact hr.elim
end
end PlS
/-! text PlS3 -/
set_option Elab.async false
set_option linter.all false
set_option maxRecDepth 100000
namespace PlS
open PySem PySem.Spec PyProof.Rows L2 PySem.Froz
section
variable {P : Program} {w : World} {A : Around} {E : Value → Shared → Prop} {s : Shared}
theorem strsAre_of : ∀ (vs : List Value), (∀ v ∈ vs, ∃ x t, v = .str x t) → StrsAre vs (vs.map strOf)
  | [], _ => .nil
  | v :: vs, h => by
    obtain ⟨x, t, rfl⟩ := h v List.mem_cons_self
    exact .cons x t (strsAre_of vs fun u hu => h u (List.mem_cons_of_mem _ hu))
theorem perm_sub {α : Type} : ∀ (l m : List α), l.Nodup → (∀ x, x ∈ l → x ∈ m) → m.length ≤ l.length → m.Perm l
  | [], m, _, _, h => by
    have e : m = [] := List.length_eq_zero_iff.mp (Nat.le_zero.mp h)
    rw [e]
  | x :: l, m, nd, sub, h => by
    obtain ⟨a, b, rfl⟩ := List.append_of_mem (sub x List.mem_cons_self)
    have nx := (List.nodup_cons.mp nd).1
    have ih := perm_sub l (a ++ b) (List.nodup_cons.mp nd).2 (fun y hy => by
      have q := sub y (List.mem_cons_of_mem _ hy)
      simp only [List.mem_append, List.mem_cons] at q ⊢
      rcases q with q | q | q
      · exact .inl q
      · exact absurd (by rw [← q]; exact hy) nx
      · exact .inr q) (by
      simp only [List.length_append, List.length_cons] at h ⊢
      omega)
    exact List.perm_middle.trans (ih.cons x)
/-- the texts of a set's rows -/
theorem rows_perm {D : SD} {l : List Str} (F : TxOk P w D l) (nd : l.Nodup) : (∀ v ∈ D.1.toList.map (·.2), ∃ x t, v = Value.str x t) ∧ ((D.1.toList.map (·.2)).map strOf).Perm l := by
  have sh : ∀ e ∈ D.1.toList, ∃ x t, e.2 = Value.str x t ∧ x ∈ l := fun e he => by
    obtain ⟨⟨k, hk, _⟩, _⟩ := F.el e he
    obtain ⟨t, ht⟩ := Value.isStrOf_shape (x := k) (v := e.2) hk
    exact ⟨k, t, ht, (F.mem k).mpr ⟨e, he, hk⟩⟩
  refine ⟨fun v hv => ?_, ?_⟩
  · obtain ⟨e, he, rfl⟩ := List.mem_map.mp hv
    obtain ⟨x, t, h, _⟩ := sh e he
    exact ⟨x, t, h⟩
  · have sub : ∀ k, k ∈ l → k ∈ (D.1.toList.map (·.2)).map strOf := fun k hk => by
      obtain ⟨e, he, hi⟩ := (F.mem k).mp hk
      obtain ⟨t, ht⟩ := Value.isStrOf_shape (x := k) (v := e.2) hi
      exact List.mem_map.mpr ⟨e.2, List.mem_map.mpr ⟨e, he, rfl⟩, by rw [ht]; rfl⟩
    have len : ((D.1.toList.map (·.2)).map strOf).length = l.length := by
      rw [List.length_map, List.length_map, Array.length_toList]
      exact F.sz
    exact perm_sub l _ nd sub (Nat.le_of_eq len)
set_option maxHeartbeats 4000000 in
/-- sorted(a set of texts) -/
theorem sort {a : Addr} {l : List Str} {Q : Value → Shared → Prop} (R : SetS P w s.heap a l) (hh : A.handled = none) (few : l.length < 64)
    (k : ∀ s' p (out : Array Value) (c : Nat) (ys : List Str), (∀ b o, s.heap.get? b = some o → s'.heap.get? b = some o) → s'.gens = s.gens → s'.os = s.os → s.heap.objs.size ≤ p →
      s'.heap.get? p = some (seqObj "list" out c) → StrsAre out.toList ys → ys.Perm l → sortedS ys = true → Q (.ref p) s') : wpAny (model P w) A (call (.builtin "sorted") [.ref a]) Q E s := by
  obtain ⟨⟨D, e, F, r, fl⟩, nd⟩ := R
  have rp := rows_perm F nd
  have line : D.1.size < scanBound := by
    have := F.sz
    unfold scanBound
    omega
  refine Calls.call_function_entry kind_sorted plain_sorted entry_sorted (args_sorted1 _) ?_; unfold Builtin.«sorted»
  refine wpAny_bind (m := checkCount "sorted" 1 1 _) (wpAny_pure (wpAny_bind (collect_set (A := A.in1) hh ⟨_, e, rfl, rfl⟩ F.fit line r fl fun s1 vs k1 z1 g1 o1 pm => ?_)))
  have sv : StrsAre vs (vs.map strOf) := strsAre_of vs fun v hv => rp.1 v (pm.mem_iff.mp hv)
  have pl : (vs.map strOf).Perm l := (pm.map strOf).trans rp.2
  have vl : vs.length < 64 := by
    have := pl.length_eq
    rw [List.length_map] at this
    omega
  have k0 := sv.keysOf
  have kk : ∀ v₁ v₂ rest, vs = v₁ :: v₂ :: rest → keyKind' (v₁ :: v₂ :: rest).toArray = pure oneType' := fun v₁ v₂ rest q => keyKind_strs (by rw [← q]; exact sv)
  refine wpAny_bind (wpAny_newList ?_ (Nat.le_trans (Nat.le_of_lt vl) (by decide)))
  have at0 : (s1.heap.push (seqObj "list" vs.toArray 0)).get? s1.heap.objs.size = some (seqObj "list" vs.toArray 0) := Heap.get?_push_size _ rfl
  refine wpAny_bind (wpAny_holding (wpAny_call_entry slot_list_sort ⟨_, at0, rfl⟩ entry_list_sort (list_sort_treeK strKind_oneLt at0 k0 kk vl fun st hp hs => ⟨_, rfl, ?_⟩) (args_list_sort _)))
  obtain ⟨ys, h1, h2, h3⟩ := sorted_out_str sv hp hs
  obtain ⟨c, hc⟩ := sortedHeap_at (vs := vs) (out := (arrOf st).map (·.2)) at0
  refine wpAny_pure ⟨_, rfl, k _ s1.heap.objs.size _ c ys (fun b u q => ?_) g1 o1 z1 hc h1 (h2.trans pl) h3⟩
  have q1 := k1 b u q
  have lt := Heap.lt_size q1
  refine (sortedHeap_old (Nat.ne_of_lt lt) ?_).trans (Heap.get?_push_of_some _ q1)
  rw [Heap.size_push]
  exact Nat.lt_succ_of_lt lt
end
end PlS
/-! text PlU -/
set_option Elab.async false
set_option linter.all false
set_option maxRecDepth 100000
/-! usort: the different texts of a list in ascending order; sorted(set(..)), sorted({..}) of texts. -/
namespace PlS
open PySem PySem.Spec PyProof.Rows L2 PySem.Froz
def SLt (a b : Str) : Prop := a.cps.toList < b.cps.toList
instance (a b : Str) : Decidable (SLt a b) := inferInstanceAs (Decidable (a.cps.toList < b.cps.toList))
theorem slt_irrefl (a : Str) : ¬ SLt a a := List.lt_irrefl _
theorem slt_trans {a b c : Str} (h : SLt a b) (k : SLt b c) : SLt a c := List.lt_trans h k
theorem slt_asymm {a b : Str} (h : SLt a b) : ¬ SLt b a := List.lt_asymm h
theorem slt_tri {a b : Str} (h : ¬ SLt a b) (k : ¬ SLt b a) : a = b := Str.ext' (Array.toList_inj.mp (List.le_antisymm (List.not_lt.mp k) (List.not_lt.mp h)))
def insS (x : Str) : List Str → List Str
  | [] => [x]
  | y :: l => if x = y then y :: l else if SLt x y then x :: y :: l else y :: insS x l
def usort (ys : List Str) : List Str := ys.foldr insS []
abbrev Asc (l : List Str) : Prop := l.Pairwise SLt
theorem insS_mem (x z : Str) : ∀ l : List Str, z ∈ insS x l ↔ z = x ∨ z ∈ l
  | [] => by simp [insS]
  | y :: l => by
    unfold insS
    by_cases h : x = y
    · rw [if_pos h, List.mem_cons, h]
      constructor
      · rintro (q | q)
        · exact .inl q
        · exact .inr (.inr q)
      · rintro (q | q | q)
        · exact .inl q
        · exact .inl q
        · exact .inr q
    · rw [if_neg h]
      by_cases k : SLt x y
      · rw [if_pos k, List.mem_cons]
      · rw [if_neg k, List.mem_cons, insS_mem x z l, List.mem_cons]
        constructor
        · rintro (q | q | q)
          · exact .inr (.inl q)
          · exact .inl q
          · exact .inr (.inr q)
        · rintro (q | q | q)
          · exact .inr (.inl q)
          · exact .inl q
          · exact .inr (.inr q)
theorem insS_asc (x : Str) : ∀ l : List Str, Asc l → Asc (insS x l)
  | [], _ => List.pairwise_singleton _ _
  | y :: l, h => by
    obtain ⟨h1, h2⟩ := List.pairwise_cons.mp h
    unfold insS
    by_cases e : x = y
    · rw [if_pos e]; exact h
    · rw [if_neg e]
      by_cases k : SLt x y
      · rw [if_pos k]
        refine List.pairwise_cons.mpr ⟨fun z hz => ?_, h⟩
        rcases List.mem_cons.mp hz with q | q
        · rw [q]; exact k
        · exact slt_trans k (h1 z q)
      · rw [if_neg k]
        refine List.pairwise_cons.mpr ⟨fun z hz => ?_, insS_asc x l h2⟩
        rcases (insS_mem x z l).mp hz with q | q
        · rw [q]
          by_cases k2 : SLt y x
          · exact k2
          · exact absurd (slt_tri k k2) e
        · exact h1 z q
theorem usort_mem (z : Str) : ∀ ys : List Str, z ∈ usort ys ↔ z ∈ ys
  | [] => by simp [usort]
  | y :: ys => by
    show z ∈ insS y (usort ys) ↔ _
    rw [insS_mem, usort_mem z ys, List.mem_cons]
theorem usort_asc : ∀ ys : List Str, Asc (usort ys)
  | [] => List.Pairwise.nil
  | y :: ys => insS_asc y _ (usort_asc ys)
theorem asc_uniq : ∀ {l m : List Str}, Asc l → Asc m → (∀ z, z ∈ l ↔ z ∈ m) → l = m
  | [], [], _, _, _ => rfl
  | [], y :: m, _, _, h => by have := (h y).mpr List.mem_cons_self; simp at this
  | x :: l, [], _, _, h => by have := (h x).mp List.mem_cons_self; simp at this
  | x :: l, y :: m, hl, hm, h => by
    obtain ⟨l1, l2⟩ := List.pairwise_cons.mp hl
    obtain ⟨m1, m2⟩ := List.pairwise_cons.mp hm
    have e : x = y := by
      rcases List.mem_cons.mp ((h x).mp List.mem_cons_self) with q | q
      · exact q
      · rcases List.mem_cons.mp ((h y).mpr List.mem_cons_self) with r | r
        · exact r.symm
        · exact absurd (m1 x q) (slt_asymm (l1 y r))
    subst e
    have t : l = m := asc_uniq l2 m2 fun z => by
      constructor
      · intro q
        rcases List.mem_cons.mp ((h z).mp (List.mem_cons_of_mem _ q)) with r | r
        · exact absurd (l1 z q) (by rw [r]; exact slt_irrefl x)
        · exact r
      · intro q
        rcases List.mem_cons.mp ((h z).mpr (List.mem_cons_of_mem _ q)) with r | r
        · exact absurd (m1 z q) (by rw [r]; exact slt_irrefl x)
        · exact r
    rw [t]
theorem rising_asc : ∀ (p : Str) (l : List Str), risingS p l = true → (p :: l).Nodup → Asc (p :: l)
  | p, [], _, _ => List.pairwise_singleton _ _
  | p, x :: r, h, nd => by
    have h' : (!ltCps x.cps.toList p.cps.toList && risingS x r) = true := h
    rw [Bool.and_eq_true, Bool.not_eq_true', ltCps_eq] at h'
    obtain ⟨n1, n2⟩ := List.nodup_cons.mp nd
    have ih := rising_asc x r h'.2 n2
    have px : SLt p x := by
      by_cases k : SLt p x
      · exact k
      · exact absurd (slt_tri k (of_decide_eq_false h'.1)) fun z => n1 (by rw [z]; exact List.mem_cons_self)
    refine List.pairwise_cons.mpr ⟨fun z hz => ?_, ih⟩
    rcases List.mem_cons.mp hz with q | q
    · rw [q]; exact px
    · exact slt_trans px ((List.pairwise_cons.mp ih).1 z q)
theorem sorted_usort {ys zs l : List Str} (hp : zs.Perm l) (hs : sortedS zs = true) (nd : l.Nodup) (hm : ∀ z, z ∈ l ↔ z ∈ ys) : zs = usort ys := by
  have nz : zs.Nodup := hp.nodup_iff.mpr nd
  refine asc_uniq ?_ (usort_asc ys) fun z => by rw [hp.mem_iff, hm, usort_mem]
  cases zs with
  | nil => exact List.Pairwise.nil
  | cons x r => exact rising_asc x r hs nz
theorem gath_nodup : ∀ (xs l : List Str), l.Nodup → (xs.foldl ins l).Nodup
  | [], l, h => h
  | x :: xs, l, h => gath_nodup xs (ins l x) (by
    unfold ins
    split
    · exact h
    · exact List.nodup_cons.mpr ⟨by assumption, h⟩)
theorem gath_iff (xs : List Str) (z : Str) : z ∈ gath xs ↔ z ∈ xs := by
  rw [show z ∈ gath xs ↔ _ from gath_mem xs [] z]
  simp
section
variable {X : Cx}
/-- set(a list of texts), sorted(a set of texts) -/
def rMake (P : Program) (w : World) (K : PySem.W.Frag) : List V → Hp → VK → Prop := fun xs H Q => ∃ a, ∃ ys : List Str, xs = [.ref a] ∧ SqL K H a (ys.map V.str) ∧ ys.length < 1000 ∧ ∀ p, H p = none → Q (.ref p) (upd H p (SetT P w p (gath ys)))
def rSortT (P : Program) (w : World) : List V → Hp → VK → Prop := fun xs H Q => ∃ a l, xs = [.ref a] ∧ H a = some (SetT P w a l) ∧ l.length < 64 ∧ ∀ ys p, ys.Perm l → l.Nodup → sortedS ys = true → H p = none → Q (.ref p) (upd H p (.lst (ys.map V.str)))
theorem call_make (hc : X.calm = true) (K : PySem.W.Frag) (hK : X.K = K := by rfl) : CallR X (.type "set") (rMake X.prog X.w K) := by
  subst hK
  intro pins s σ H xs us Q I r h
  obtain ⟨a, ys, rfl, hs, few, q⟩ := h
  obtain ⟨its, rv, hl, _⟩ := I.list hs
  rw [Vals.ref1 r]
  have ln := rv.length
  rw [List.length_map] at ln
  refine make (I.ok.hd hc) hl.isList rv.strs (by rw [List.size_toArray, ← ln]; exact few) fun h' tk ok kp => ?_
  exact ⟨.ref _, upd H s.heap.objs.size (SetT X.prog X.w s.heap.objs.size (gath ys)), I.laid (t' := tk) kp (Nat.le_refl _) (setT_new ok), rfl, q _ (I.hok.fresh (Nat.le_refl _))⟩
theorem call_sortT (hc : X.calm = true) : CallR X (.builtin "sorted") (rSortT X.prog X.w) := by
  intro pins s σ H xs us Q I r h
  obtain ⟨a, l, rfl, hs, few, q⟩ := h
  rw [Vals.ref1 r]
  have R := setT_get I hs
  refine sort R (I.ok.hd hc) few fun s' p out c ys kp eg eo hz ho h1 h2 h3 => ?_
  have len : (ys.map V.str).length ≤ sizeLine := by rw [List.length_map, h2.length_eq]; exact small64 few
  have fr := I.hok.fresh hz
  refine ⟨.ref p, upd H p (.lst (ys.map V.str)), ?_, rfl, q ys p h2 R.nd h3 fr⟩
  have es : s' = { s with heap := s'.heap, gens := s'.gens, drawn := s'.drawn, toks := s'.toks } := by
    cases s'; cases eo; rfl
  rw [es]
  exact I.step (h' := s'.heap) (g' := s'.gens) (d' := s'.drawn) (t' := s'.toks) (ch := []) (fun _ z => nomatch z) (fun b o _ _ _ e n => kp b o e) (fun b o _ _ _ e n => ⟨o.slots, kp b o e⟩) (fun b o _ e n => by rw [upd_ne (fun z => absurd (Heap.lt_size e) (by rw [z]; exact Nat.not_lt_of_le hz))]; exact n) (fun b o _ e => ⟨o, kp b o e⟩) (fun b xs e => by rw [upd_ne (ne_of_none e fr)]; exact e) (fun b o u e => by rw [upd_ne (ne_of_none e fr)]; exact e) (fun b ps e => ⟨#[], by rw [upd_ne (ne_of_none e fr), e]; simp⟩)
    (fun m hm => by
      obtain ⟨o, es, ep, e, r⟩ := hm
      exact ⟨o, es, ep, kp _ _ e, r⟩) (I.hok.laid kp hz ⟨len, out.toList, c, vals_of_strs h1, ho⟩) (by rw [eg]; exact I.bare)
end
end PlS
/-! text PlV -/
set_option Elab.async false
set_option linter.all false
set_option maxRecDepth 100000
namespace Pl
open PySem PySem.Spec PyProof.Rows L2 PlS
section
variable {K : PySem.W.Frag} {s c : Addr} {ρ ρ1 ρ2 : List Sl} {n n1 n2 n3 n' : Nat} {te ta tb tl : TE} {P : D → Prop} {tt tu : TT}
theorem dStrs_len (ys : List Str) : (dStrs ys).length = ys.length := List.length_map _
theorem rep_dStrs {M : List Addr} {H : Hp} : ∀ ys : List Str, RepL K M H (dStrs ys) (ys.map V.str)
  | [] => trivial
  | y :: ys => ⟨rfl, rep_dStrs ys⟩
/-- sorted(set(xs)) of texts -/
theorem ev_sortset {Pg : Program} {w : World} {ys : List Str} (h : EvE K s c te ρ n n1 (fun d => d = .lst (dStrs ys))) (few : ys.length < 64) : EvE K s c (tCB (rSortT Pg w) (tCons (tCB (rMake Pg w K) (tCons te tNil)) tNil)) ρ n n1 (fun d => d = .lst (dStrs (usort ys))) := fun M0 H0 O σ H Q I k =>
  h M0 H0 O σ H _ I fun v H1 d g1 s1 r1 p1 => by
    subst p1
    obtain ⟨a, xs, rfl, m, e, rl⟩ := r1
    rw [dStrs_rep rl] at e
    have J := I.next g1 s1
    refine ⟨a, ys, rfl, SqL.of e, by omega, fun p hp => ⟨p, gath ys, rfl, upd_same, ?_, fun zs q hz nd hs hq => ?_⟩⟩
    · have := gath_len ys []
      have e0 : ([] : List Str).length = 0 := rfl
      show (ys.foldl ins []).length < 64
      omega
    · have ez := sorted_usort (ys := ys) hz hs nd fun z => gath_iff ys z
      subst ez
      have hp0 := J.new_out hp
      have hq1 : H1 q = none := by
        cases z : H1 q with
        | none => rfl
        | some u =>
          have ne := ne_of_none z hp
          rw [upd_ne ne, z] at hq
          cases hq
      have g2 : Gr [s, c] H1 (upd (upd H1 p (SetT Pg w p (gath ys))) q (.lst ((usort ys).map V.str))) := (Gr.new hp).put hq1
      have s2 : Src s c n1 (upd (upd H1 p (SetT Pg w p (gath ys))) q (.lst ((usort ys).map V.str))) := (s1.new hp).new hq
      exact k (.ref q) _ (.lst (dStrs (usort ys))) (g1.trans g2) s2 ⟨q, _, rfl, J.new_out hq1, upd_same, rep_dStrs _⟩ rfl
theorem tYes_if {σ : L2.St} {H : Hp} {A B : Hp → Prop} (h : A H) : tYes σ H fun b H3 => if b = true then A H3 else B H3 := by
  show ite (true = true) (A H) (B H)
  rw [if_pos rfl]
  exact h
/-- sorted({x for a in b for x in c}) of texts -/
theorem ev_sortsc2 {Pg : Program} {w : World} {wi wi1 : TI} {g g1 : TG} {vs vs1 : List Nat} {ds : List D} (F : D → List Str) (h : EvI K s c wi ρ n n1 (fun l => l = ds)) (hv : noOws ρ vs = true)
    (hs : ∀ d, d ∈ ds → ∃ ρ2 js es, EvG K s c g d (wipeS ρ vs) ρ2 js ∧ (∀ j ∈ js, j ∈ vs) ∧ noOws ρ2 vs1 = true ∧ EvI K s c wi1 ρ2 n1 n1 (fun l => l = es) ∧ es.length = (F d).length ∧
      ∀ (j : Nat) e, es[j]? = some e → ∃ ρ3 ks z, EvG K s c g1 e (wipeS ρ2 vs1) ρ3 ks ∧ (∀ k ∈ ks, k ∈ vs1) ∧ EvE K s c te ρ3 n1 n1 (fun x => x = .str z) ∧ (F d)[j]? = some z) (few : (ds.flatMap F).length < 64) :
    EvE K s c (tCB (rSortT Pg w) (tCons (tSc2 Pg w wi g tYes wi1 g1 tYes te vs vs1) tNil)) ρ n n1 (fun x => x = .lst (dStrs (usort (ds.flatMap F)))) := fun M0 H0 O σ H Q I k =>
  h M0 H0 O σ H _ I fun J H1 l gr1 s1 w1 p => by
    intro D hD
    subst p
    have I1 := I.next gr1 s1
    have hDout := I1.new_out hD
    have hDs : D ∉ [s, c] := fun z => hDout (I1.sub D z)
    have hDO : D ∉ O := fun z => hDout (List.mem_append_left _ z)
    have hDs1 : D ≠ s := fun z => hDs (by rw [z]; exact List.mem_cons_self)
    have hDs2 : D ≠ c := fun z => hDs (by rw [z]; exact List.mem_cons_of_mem _ List.mem_cons_self)
    -- what stands while the set grows
    let St : Hp → List Str → Prop := fun H2 ys => Gr [s, c] (minus H1 O) H2 ∧ (∀ o ∈ O, ∀ zs, H1 o = some (.lst zs) → H2 o = some (.lst zs)) ∧ H2 D = some (SetT Pg w D (gath ys)) ∧ Src s c n1 H2
    have stay : ∀ {H2 H3 : Hp} {ys : List Str}, St H2 ys → Gr [s, c] H2 H3 → Src s c n1 H3 → St H3 ys := fun {H2 H3 ys} t g sr =>
      ⟨t.1.trans g, fun o ho zs e => g o _ (t.2.1 o ho zs e) (.inl (not_two (I.fr o ho).2.1 (I.fr o ho).2.2)), g D _ t.2.2.1 (.inl hDs), sr⟩
    have grow : ∀ {H2 : Hp} {ys : List Str} {z : Str}, St H2 ys → St (upd H2 D (SetT Pg w D (ins (gath ys) z))) (ys ++ [z]) := fun {H2 ys z} t => by
      have e : gath (ys ++ [z]) = ins (gath ys) z := by
        unfold gath
        rw [List.foldl_append]
        rfl
      refine ⟨fun a o ea mm => ?_, fun o ho zs eo => ?_, by rw [e]; exact upd_same, t.2.2.2.put hDs1 hDs2⟩
      · have ne : a ≠ D := fun y => by
          have := (minus_some ea).2
          rw [y, hD] at this; cases this
        rw [upd_ne ne]
        exact t.1 a o ea mm
      · rw [upd_ne (fun y => hDO (by rw [← y]; exact ho))]
        exact t.2.1 o ho zs eo
    have okIn : ∀ {H2 : Hp} {ys : List Str}, St H2 ys → Ok K s c (D :: M0) (minus H2 O) O (wipeS ρ vs) n1 (L2.wipe σ vs) H2 := fun {H2 ys} t => by
      obtain ⟨gr2, ow2, eD, s2⟩ := t
      have gH : Gr (O ++ M0) H1 H2 := fun a o e mm => by
        by_cases z : a ∈ O
        · obtain ⟨zs, hz⟩ := I1.lst a z
          rw [hz] at e; cases e
          exact ow2 a z zs hz
        · exact gr2 a o (by rw [minus_out z]; exact e) (mm.imp (fun mm q => mm (I1.sub a q)) id)
      have sl2 : SlR K (D :: (O ++ M0)) H2 ρ σ O := I1.sl.imp (fun _ _ r => (r.apart hD).gr (gH.mono fun a ha => List.mem_cons_of_mem _ ha)) (fun _ _ r => (r.apart hD).gr (gH.mono fun a ha => List.mem_cons_of_mem _ ha)) ow2
      refine ⟨⟨List.mem_cons_of_mem _ I.ms.1, List.mem_cons_of_mem _ I.ms.2⟩, fun a ha => ?_, s2, fun a o e _ => (minus_some e).2, fun o ho => ⟨minus_in ho, (I.fr o ho).2⟩, I.nd, ?_⟩
      · rcases List.mem_cons.mp ha with z | z
        · exact .inr (.inr ⟨_, by rw [z, minus_out hDO]; exact eD⟩)
        · obtain ⟨o, e⟩ := I1.there a z
          by_cases z1 : a = s
          · exact .inl z1
          · by_cases z2 : a = c
            · exact .inr (.inl z2)
            · have z3 : a ∉ O := fun q => by
                rcases I.tr a z with y | y | ⟨u, y⟩
                · exact z1 y
                · exact z2 y
                · rw [(I.fr a q).1] at y; cases y
              exact .inr (.inr ⟨o, by rw [minus_out z3]; exact gr2 a o (by rw [minus_out z3]; exact e) (.inl (not_two z1 z2))⟩)
      · refine (sl2.wipe hv).imp (fun _ _ r => r.mono ?_) (fun _ _ r => r.mono ?_) fun _ _ _ e => e
        all_goals
          intro a ha
          simp only [List.mem_append, List.mem_cons] at ha ⊢
          rcases ha with z | z | z
          · exact .inr (.inl z)
          · exact .inl z
          · exact .inr (.inr z)
    have glen : ∀ ys : List Str, (gath ys).length ≤ ys.length := fun ys => by
      have := gath_len ys []
      have e0 : ([] : List Str).length = 0 := rfl
      show (ys.foldl ins []).length ≤ _
      omega
    have tlen : ∀ i, ((l.take i).flatMap F).length < 64 := fun i => by
      have e : l.flatMap F = (l.take i).flatMap F ++ (l.drop i).flatMap F := by rw [← List.flatMap_append, List.take_append_drop]
      rw [e, List.length_append] at few
      omega
    refine ⟨fun i m H2 => St H2 ((l.take i).flatMap F) ∧ i ≤ l.length ∧ m = l.length - i, ⟨l.length, ⟨fun a o e mm => ?_, fun o ho zs e => ?_, by rw [List.take_zero]; exact upd_same, s1.new hD⟩, Nat.zero_le _, rfl⟩, ?_⟩
    · obtain ⟨z1, z2⟩ := minus_some e
      rw [upd_ne (ne_of_none z2 hD)]
      exact z2
    · rw [upd_ne (fun z => hDO (by rw [← z]; exact ho))]
      exact e
    rintro i m H2 ⟨t, hi, rfl⟩
    obtain ⟨w2, w3⟩ := w1 (D :: O) H2 (t.1.mono (two_sub I.ms)) fun a ha => by
      rcases List.mem_cons.mp ha with z | z
      · rw [z, minus_out hDO]; exact hD
      · exact minus_in z
    by_cases hlt : i < l.length
    · obtain ⟨w4, w5⟩ := w3 i l[i] (List.getElem?_eq_getElem hlt)
      obtain ⟨ρ2, js, es, eg, hj, hv1, ei, elen, hin⟩ := hs l[i] (List.getElem_mem hlt)
      have tk : (l.take (i + 1)).flatMap F = (l.take i).flatMap F ++ F l[i] := by
        rw [List.take_add_one, List.getElem?_eq_getElem hlt, List.flatMap_append]
        simp
      refine .inr ⟨w4, fun H3 => St H3 ((l.take (i + 1)).flatMap F), fun H3 t3 => ⟨l.length - (i + 1), by omega, t3, hlt, rfl⟩, fun x H3 hy => ?_⟩
      obtain ⟨g3, s3, r3⟩ := w5 x H3 hy
      have t3 := stay t g3 (s3 _ t.2.2.2)
      have rx : Rep K (O ++ (D :: M0)) H3 l[i] x := r3.mono fun a ha => by
        simp only [List.mem_append, List.mem_cons] at ha ⊢
        rcases ha with z | z | z
        · exact .inl (.inr z)
        · exact .inl (.inl z)
        · exact .inr z
      refine eg (D :: M0) _ O n1 (L2.wipe σ vs) H3 x _ ((okIn t).next g3 (s3 _ t.2.2.2)) rx fun σ2 st4 wq => ⟨by rw [wq vs hj, wipe_wipe σ vs vs fun _ z => z], ?_⟩
      refine tYes_if ?_
      refine ei (D :: M0) _ O σ2 H3 _ st4 fun J1 H4 l4 g4 s4 w6 p4 => ?_
      subst p4
      have t4 := stay t3 g4 s4
      have st5 := st4.next g4 s4
      -- the inner loop: what stands beside the set
      have below : ∀ {H5 : Hp} {ys : List Str}, St H5 ys → Gr (D :: M0) (minus H4 O) H5 → Ok K s c (D :: M0) (minus H5 O) O (wipeS ρ2 vs1) n1 (L2.wipe σ2 vs1) H5 := fun {H5 ys} t5 gg => by
        obtain ⟨q1, q2, q3, q4⟩ := t5
        have ow : ∀ o ∈ O, ∀ zs, H4 o = some (.lst zs) → H5 o = some (.lst zs) := fun o ho zs e => by
          obtain ⟨us, hu⟩ := I1.lst o ho
          have e4 := t4.2.1 o ho us hu
          rw [e] at e4; cases e4
          exact q2 o ho zs hu
        have gH : Gr (O ++ (D :: M0)) H4 H5 := fun a o e mm => by
          by_cases z : a ∈ O
          · obtain ⟨zs, hz⟩ := st5.lst a z
            rw [hz] at e; cases e
            exact ow a z zs hz
          · exact gg a o (by rw [minus_out z]; exact e) (mm.imp (fun mm q => mm (List.mem_append_right _ q)) id)
        refine ⟨st5.ms, fun a ha => ?_, q4, fun a o e _ => (minus_some e).2, fun o ho => ⟨minus_in ho, (I.fr o ho).2⟩, I.nd, ?_⟩
        · rcases List.mem_cons.mp ha with z | z
          · exact .inr (.inr ⟨_, by rw [z, minus_out hDO]; exact q3⟩)
          · have := (okIn ⟨q1, q2, q3, q4⟩).tr a (List.mem_cons_of_mem _ z)
            exact this
        · exact (st5.sl.imp (fun _ _ r => r.gr gH) (fun _ _ r => r.gr gH) ow).wipe hv1
      refine ⟨fun j m H5 => St H5 ((l.take i).flatMap F ++ (F l[i]).take j) ∧ Gr (D :: M0) (minus H4 O) H5 ∧ j ≤ l4.length ∧ m = l4.length - j, ⟨l4.length, by rw [List.take_zero, List.append_nil]; exact t4, fun a o e mm => (minus_some e).2, Nat.zero_le _, rfl⟩, ?_⟩
      rintro j m H5 ⟨t5, gg, hj5, rfl⟩
      obtain ⟨w7, w8⟩ := w6 O H5 gg fun a ha => minus_in ha
      by_cases hlt5 : j < l4.length
      · obtain ⟨w9, wa⟩ := w8 j l4[j] (List.getElem?_eq_getElem hlt5)
        obtain ⟨ρ3, ks, z, eg1, hk, ee, hz⟩ := hin j l4[j] (List.getElem?_eq_getElem hlt5)
        have tk2 : (F l[i]).take (j + 1) = (F l[i]).take j ++ [z] := by rw [List.take_add_one, hz]; rfl
        refine .inr ⟨w9, fun H6 => St H6 ((l.take i).flatMap F ++ (F l[i]).take (j + 1)) ∧ Gr (D :: M0) (minus H4 O) H6, fun H6 t6 => ⟨l4.length - (j + 1), by omega, t6.1, t6.2, hlt5, rfl⟩, fun x6 H6 hy6 => ?_⟩
        obtain ⟨g6, s6, r6⟩ := wa x6 H6 hy6
        have t6 := stay t5 g6 (s6 _ t5.2.2.2)
        have gg6 : Gr (D :: M0) (minus H4 O) H6 := gg.trans (g6.mono fun a ha => List.mem_cons_of_mem _ (two_sub I.ms a ha))
        refine eg1 (D :: M0) _ O n1 (L2.wipe σ2 vs1) H6 x6 _ ((below t5 gg).next g6 (s6 _ t5.2.2.2)) r6 fun σ3 st7 wq1 => ⟨by rw [wq1 vs1 hk, wipe_wipe σ2 vs1 vs1 fun _ z => z], ?_⟩
        refine tYes_if ?_
        refine ee (D :: M0) _ O σ3 H6 _ st7 fun y H7 e7 g7 s7 r7 p7 => ?_
        subst p7
        have t7 := stay t6 g7 s7
        refine ⟨z, gath ((l.take i).flatMap F ++ (F l[i]).take j), r7, t7.2.2.1, ?_, ?_, fun a o e mm => ?_⟩
        · have a1 := glen ((l.take i).flatMap F ++ (F l[i]).take j)
          have a2 := tlen (i + 1)
          rw [tk, List.length_append] at a2
          rw [List.length_append, List.length_take] at a1
          omega
        · rw [tk2, ← List.append_assoc]
          exact grow t7
        · have ne : a ≠ D := fun y => by
            subst y
            rcases mm with mm | mm
            · exact mm List.mem_cons_self
            · have := (minus_some e).2
              rw [t4.2.2.1] at this
              cases this
              cases mm
          rw [upd_ne ne]
          exact g7 a o (gg6 a o e mm) (mm.imp (fun mm q => mm (List.mem_cons_of_mem _ (two_sub I.ms a q))) id)
      · have e : j = l4.length := by omega
        subst e
        refine .inl ⟨w7, ?_⟩
        rw [elen, List.take_length] at t5
        rw [tk]
        exact t5
    · have e : i = l.length := by omega
      subst e
      rw [List.take_length] at t
      obtain ⟨q1, q2, q3, q4⟩ := t
      refine .inl ⟨w2, D, _, rfl, q3, Nat.lt_of_le_of_lt (glen _) few, fun zs q hz nd hs2 hq => ?_⟩
      have ez := sorted_usort (ys := l.flatMap F) hz hs2 nd fun z => gath_iff _ z
      subst ez
      have gH : Gr [s, c] H H2 := fun a o ea mm => by
        have e1 := gr1 a o ea mm
        by_cases z : a ∈ O
        · obtain ⟨zs, hz⟩ := I1.lst a z
          rw [hz] at e1; cases e1
          exact q2 a z zs hz
        · exact q1 a o (by rw [minus_out z]; exact e1) mm
      exact k (.ref q) _ (.lst (dStrs (usort (l.flatMap F)))) (gH.trans (Gr.new hq)) (q4.new hq) ⟨q, _, rfl, (I.next gH q4).new_out hq, upd_same, rep_dStrs _⟩ rfl
end
end Pl
/-! text K02a -/
set_option Elab.async false
set_option linter.all false
set_option maxRecDepth 100000
set_option maxHeartbeats 4000000
set_option exponentiation.threshold 5000
namespace K02
open PySem PySem.Spec PyProof.Rows L2 Pl PlS
def topS (i : Nat) : Stmt := PySem.Challenge.pw_marktables_k02_queries.main.body.getD i (.Pass ⟨0, 0, 0, 0⟩)
abbrev s_is_name : Stmt := topS 7
theorem sc_is_name : FnScope ["value"] ["value"] (defScope s_is_name) := ⟨rfl, rfl, rfl, by decide +kernel, rfl, by decide +kernel, by decide +kernel⟩
abbrev s_is_tuple_of_names : Stmt := topS 8
theorem sc_is_tuple_of_names : FnScope ["value", "least", "most", "entry"] ["value", "least", "most"] (defScope s_is_tuple_of_names) := ⟨rfl, rfl, rfl, by decide +kernel, rfl, by decide +kernel, by decide +kernel⟩
abbrev s__query_error : Stmt := topS 17
theorem sc__query_error : FnScope ["head", "atoms", "k", "atom", "places", "table", "names", "variables", "variable"] ["head", "atoms"] (defScope s__query_error) := ⟨rfl, rfl, rfl, by decide +kernel, rfl, by decide +kernel, by decide +kernel⟩
abbrev s__is_atom : Stmt := topS 18
theorem sc__is_atom : FnScope ["value", "table", "variables"] ["value"] (defScope s__is_atom) := ⟨rfl, rfl, rfl, by decide +kernel, rfl, by decide +kernel, by decide +kernel⟩
abbrev s__different_variables : Stmt := topS 19
theorem sc__different_variables : FnScope ["atoms", "atom", "variable"] ["atoms"] (defScope s__different_variables) := ⟨rfl, rfl, rfl, by decide +kernel, rfl, by decide +kernel, by decide +kernel⟩
abbrev s_moved_head : Stmt := topS 15
theorem sc_moved_head : FnScope ["query", "values", "new"] ["query", "values"] (defScope s_moved_head) := ⟨rfl, rfl, rfl, by decide +kernel, rfl, by decide +kernel, by decide +kernel⟩
abbrev s_moved_atoms : Stmt := topS 16
theorem sc_moved_atoms : FnScope ["query", "values", "new", "table", "variables"] ["query", "values"] (defScope s_moved_atoms) := ⟨rfl, rfl, rfl, by decide +kernel, rfl, by decide +kernel, by decide +kernel⟩
abbrev s__renamed : Stmt := topS 20
theorem sc__renamed : FnScope ["query", "names"] ["query", "names"] (defScope s__renamed) := ⟨rfl, rfl, rfl, by decide +kernel, rfl, by decide +kernel, by decide +kernel⟩
abbrev s__replaced : Stmt := topS 21
theorem sc__replaced : FnScope ["variables", "new", "variable"] ["variables", "new"] (defScope s__replaced) := ⟨rfl, rfl, rfl, by decide +kernel, rfl, by decide +kernel, by decide +kernel⟩
abbrev s__law_source : Stmt := topS 24
theorem sc__law_source : FnScope ["script", "cells", "k"] ["script"] (defScope s__law_source) := ⟨rfl, rfl, rfl, by decide +kernel, rfl, by decide +kernel, by decide +kernel⟩
abbrev s__law_draw : Stmt := topS 25
theorem sc__law_draw : FnScope ["source", "limit", "cells", "turn", "place", "cell", "number", "other"] ["source", "limit"] (defScope s__law_draw) := ⟨rfl, rfl, rfl, by decide +kernel, rfl, by decide +kernel, by decide +kernel⟩
abbrev s__law_pick : Stmt := topS 26
theorem sc__law_pick : FnScope ["source", "values"] ["source", "values"] (defScope s__law_pick) := ⟨rfl, rfl, rfl, by decide +kernel, rfl, by decide +kernel, by decide +kernel⟩
abbrev s__law_shuffle : Stmt := topS 27
theorem sc__law_shuffle : FnScope ["source", "values", "result", "value"] ["source", "values"] (defScope s__law_shuffle) := ⟨rfl, rfl, rfl, by decide +kernel, rfl, by decide +kernel, by decide +kernel⟩
abbrev s__law_word : Stmt := topS 28
theorem sc__law_word : FnScope ["source", "size", "k"] ["source", "size"] (defScope s__law_word) := ⟨rfl, rfl, rfl, by decide +kernel, rfl, by decide +kernel, by decide +kernel⟩
abbrev s__law_shapes : Stmt := topS 29
theorem sc__law_shapes : FnScope ["source", "shapes"] ["source"] (defScope s__law_shapes) := ⟨rfl, rfl, rfl, by decide +kernel, rfl, by decide +kernel, by decide +kernel⟩
abbrev s__law_atoms : Stmt := topS 30
theorem sc__law_atoms : FnScope ["source", "shapes", "variables", "most", "found", "k", "table", "size", "j"] ["source", "shapes", "variables", "most"] (defScope s__law_atoms) := ⟨rfl, rfl, rfl, by decide +kernel, rfl, by decide +kernel, by decide +kernel⟩
abbrev s__law_variables : Stmt := topS 31
theorem sc__law_variables : FnScope ["source", "most", "names"] ["source", "most"] (defScope s__law_variables) := ⟨rfl, rfl, rfl, by decide +kernel, rfl, by decide +kernel, by decide +kernel⟩
abbrev s__law_parts : Stmt := topS 32
theorem sc__law_parts : FnScope ["source", "shapes", "most", "width", "variables", "atoms", "met", "table", "names", "k"] ["source", "shapes", "most", "width"] (defScope s__law_parts) := ⟨rfl, rfl, rfl, by decide +kernel, rfl, by decide +kernel, by decide +kernel⟩
abbrev s__law_raised : Stmt := topS 33
theorem sc__law_raised : FnScope ["query", "value", "caught", "e"] ["query", "value"] (defScope s__law_raised) := ⟨rfl, rfl, rfl, by decide +kernel, rfl, by decide +kernel, by decide +kernel⟩
abbrev s__law_named : Stmt := topS 34
theorem sc__law_named : FnScope ["names", "leads", "some", "name"] ["names", "leads", "some"] (defScope s__law_named) := ⟨rfl, rfl, rfl, by decide +kernel, rfl, by decide +kernel, by decide +kernel⟩
abbrev s__law_image_holds : Stmt := topS 35
theorem sc__law_image_holds : FnScope ["source", "query", "first", "parts", "met", "pool", "leads", "name", "due", "table", "names", "found", "bad", "value"] ["source", "query", "first", "parts", "met"] (defScope s__law_image_holds) := ⟨rfl, rfl, rfl, by decide +kernel, rfl, by decide +kernel, by decide +kernel⟩
abbrev s_law : Stmt := topS 36
theorem sc_law : FnScope ["script", "source", "repeat", "shapes", "first", "parts", "raw", "query", "met", "table", "names", "pairs", "other"] ["script"] (defScope s_law) := ⟨rfl, rfl, rfl, by decide +kernel, rfl, by decide +kernel, by decide +kernel⟩
structure Adr where
  f_is_name : Addr
  fd_is_name : FuncData
  f_is_tuple_of_names : Addr
  fd_is_tuple_of_names : FuncData
  f__query_error : Addr
  fd__query_error : FuncData
  f__is_atom : Addr
  fd__is_atom : FuncData
  f__different_variables : Addr
  fd__different_variables : FuncData
  f_moved_head : Addr
  fd_moved_head : FuncData
  f_moved_atoms : Addr
  fd_moved_atoms : FuncData
  f__renamed : Addr
  fd__renamed : FuncData
  f__replaced : Addr
  fd__replaced : FuncData
  f__law_source : Addr
  fd__law_source : FuncData
  f__law_draw : Addr
  fd__law_draw : FuncData
  f__law_pick : Addr
  fd__law_pick : FuncData
  f__law_shuffle : Addr
  fd__law_shuffle : FuncData
  f__law_word : Addr
  fd__law_word : FuncData
  f__law_shapes : Addr
  fd__law_shapes : FuncData
  f__law_atoms : Addr
  fd__law_atoms : FuncData
  f__law_variables : Addr
  fd__law_variables : FuncData
  f__law_parts : Addr
  fd__law_parts : FuncData
  f__law_raised : Addr
  fd__law_raised : FuncData
  f__law_named : Addr
  fd__law_named : FuncData
  f__law_image_holds : Addr
  fd__law_image_holds : FuncData
  f_law : Addr
  fd_law : FuncData
structure Txt (A : Adr) (K : PySem.W.Frag) (mg : Str → Option Value) : Prop where
  F_is_name : Fun K "is_name" "is_name" s_is_name A.f_is_name A.fd_is_name
  m_is_name : mg "is_name" = some (.ref A.f_is_name)
  b_is_name : Binds K A.fd_is_name ["value"] []
  F_is_tuple_of_names : Fun K "is_tuple_of_names" "is_tuple_of_names" s_is_tuple_of_names A.f_is_tuple_of_names A.fd_is_tuple_of_names
  m_is_tuple_of_names : mg "is_tuple_of_names" = some (.ref A.f_is_tuple_of_names)
  b_is_tuple_of_names : Binds K A.fd_is_tuple_of_names ["value", "least", "most"] []
  F__query_error : Fun K "_query_error" "_query_error" s__query_error A.f__query_error A.fd__query_error
  m__query_error : mg "_query_error" = some (.ref A.f__query_error)
  b__query_error : Binds K A.fd__query_error ["head", "atoms"] []
  F__is_atom : Fun K "_is_atom" "_is_atom" s__is_atom A.f__is_atom A.fd__is_atom
  m__is_atom : mg "_is_atom" = some (.ref A.f__is_atom)
  b__is_atom : Binds K A.fd__is_atom ["value"] []
  F__different_variables : Fun K "_different_variables" "_different_variables" s__different_variables A.f__different_variables A.fd__different_variables
  m__different_variables : mg "_different_variables" = some (.ref A.f__different_variables)
  b__different_variables : Binds K A.fd__different_variables ["atoms"] []
  F_moved_head : Fun K "moved_head" "moved_head" s_moved_head A.f_moved_head A.fd_moved_head
  m_moved_head : mg "moved_head" = some (.ref A.f_moved_head)
  b_moved_head : Binds K A.fd_moved_head ["query", "values"] []
  F_moved_atoms : Fun K "moved_atoms" "moved_atoms" s_moved_atoms A.f_moved_atoms A.fd_moved_atoms
  m_moved_atoms : mg "moved_atoms" = some (.ref A.f_moved_atoms)
  b_moved_atoms : Binds K A.fd_moved_atoms ["query", "values"] []
  F__renamed : Fun K "_renamed" "_renamed" s__renamed A.f__renamed A.fd__renamed
  m__renamed : mg "_renamed" = some (.ref A.f__renamed)
  b__renamed : Binds K A.fd__renamed ["query", "names"] []
  F__replaced : Fun K "_replaced" "_replaced" s__replaced A.f__replaced A.fd__replaced
  m__replaced : mg "_replaced" = some (.ref A.f__replaced)
  b__replaced : Binds K A.fd__replaced ["variables", "new"] []
  F__law_source : Fun K "_law_source" "_law_source" s__law_source A.f__law_source A.fd__law_source
  m__law_source : mg "_law_source" = some (.ref A.f__law_source)
  b__law_source : Binds K A.fd__law_source ["script"] []
  F__law_draw : Fun K "_law_draw" "_law_draw" s__law_draw A.f__law_draw A.fd__law_draw
  m__law_draw : mg "_law_draw" = some (.ref A.f__law_draw)
  b__law_draw : Binds K A.fd__law_draw ["source", "limit"] []
  F__law_pick : Fun K "_law_pick" "_law_pick" s__law_pick A.f__law_pick A.fd__law_pick
  m__law_pick : mg "_law_pick" = some (.ref A.f__law_pick)
  b__law_pick : Binds K A.fd__law_pick ["source", "values"] []
  F__law_shuffle : Fun K "_law_shuffle" "_law_shuffle" s__law_shuffle A.f__law_shuffle A.fd__law_shuffle
  m__law_shuffle : mg "_law_shuffle" = some (.ref A.f__law_shuffle)
  b__law_shuffle : Binds K A.fd__law_shuffle ["source", "values"] []
  F__law_word : Fun K "_law_word" "_law_word" s__law_word A.f__law_word A.fd__law_word
  m__law_word : mg "_law_word" = some (.ref A.f__law_word)
  b__law_word : Binds K A.fd__law_word ["source", "size"] []
  F__law_shapes : Fun K "_law_shapes" "_law_shapes" s__law_shapes A.f__law_shapes A.fd__law_shapes
  m__law_shapes : mg "_law_shapes" = some (.ref A.f__law_shapes)
  b__law_shapes : Binds K A.fd__law_shapes ["source"] []
  F__law_atoms : Fun K "_law_atoms" "_law_atoms" s__law_atoms A.f__law_atoms A.fd__law_atoms
  m__law_atoms : mg "_law_atoms" = some (.ref A.f__law_atoms)
  b__law_atoms : Binds K A.fd__law_atoms ["source", "shapes", "variables", "most"] []
  F__law_variables : Fun K "_law_variables" "_law_variables" s__law_variables A.f__law_variables A.fd__law_variables
  m__law_variables : mg "_law_variables" = some (.ref A.f__law_variables)
  b__law_variables : Binds K A.fd__law_variables ["source", "most"] []
  F__law_parts : Fun K "_law_parts" "_law_parts" s__law_parts A.f__law_parts A.fd__law_parts
  m__law_parts : mg "_law_parts" = some (.ref A.f__law_parts)
  b__law_parts : Binds K A.fd__law_parts ["source", "shapes", "most", "width"] []
  F__law_raised : Fun K "_law_raised" "_law_raised" s__law_raised A.f__law_raised A.fd__law_raised
  m__law_raised : mg "_law_raised" = some (.ref A.f__law_raised)
  b__law_raised : Binds K A.fd__law_raised ["query", "value"] []
  F__law_named : Fun K "_law_named" "_law_named" s__law_named A.f__law_named A.fd__law_named
  m__law_named : mg "_law_named" = some (.ref A.f__law_named)
  b__law_named : Binds K A.fd__law_named ["names", "leads", "some"] []
  F__law_image_holds : Fun K "_law_image_holds" "_law_image_holds" s__law_image_holds A.f__law_image_holds A.fd__law_image_holds
  m__law_image_holds : mg "_law_image_holds" = some (.ref A.f__law_image_holds)
  b__law_image_holds : Binds K A.fd__law_image_holds ["source", "query", "first", "parts", "met"] []
  F_law : Fun K "law" "law" s_law A.f_law A.fd_law
  m_law : mg "law" = some (.ref A.f_law)
  b_law : Binds K A.fd_law ["script"] []
  m_int : mg "int" = none
  m_len : mg "len" = none
  m_range : mg "range" = none
  m_tuple : mg "tuple" = none
  m_list : mg "list" = none
  m_set : mg "set" = none
  m_sorted : mg "sorted" = none
  m_isinstance : mg "isinstance" = none
  m_str : mg "str" = none
  m_abs : mg "abs" = none
  m_enumerate : mg "enumerate" = none
  m_all : mg "all" = none
  m_ValueError : mg "ValueError" = none
  m_dict : mg "dict" = none
  m_zip : mg "zip" = none
  m_LONGEST_NAME : ∃ t, mg "LONGEST_NAME" = some (.int 8 t)
  m_MOST_IN_HEAD : ∃ t, mg "MOST_IN_HEAD" = some (.int 3 t)
  m_MOST_ATOMS : ∃ t, mg "MOST_ATOMS" = some (.int 6 t)
  m_MOST_PLACES : ∃ t, mg "MOST_PLACES" = some (.int 3 t)
  m_MOST_VARIABLES : ∃ t, mg "MOST_VARIABLES" = some (.int 5 t)
end K02
/-! text K02b -/
set_option Elab.async false
set_option linter.all false
set_option maxRecDepth 100000
set_option maxHeartbeats 4000000
set_option exponentiation.threshold 5000
namespace K02
open PySem PySem.Spec PyProof.Rows L2 Pl PlS
section
variable {X : Cx}
def CPowW (i j : Int) : Prop := 0 ≤ j ∧ (Builtin.Int.intBits i : Int) * j ≤ 2 ^ 27
theorem op_powW : OpR X (binaryOp .Pow) (rI CPowW fun i j => .int (i ^ j.toNat)) := opI fun _ _ _ _ _ _ _ hc q => pow_int hc.1 hc.2 q
end
theorem ne_two {s c : Addr} (h : s ≠ c) : c ≠ s := h.symm
theorem wd_of {x : Int} {k : Nat} (h : x.natAbs < 2 ^ k) (hk : k ≤ 4000) : Wd x := Nat.lt_of_lt_of_le h (Nat.pow_le_pow_right (by decide) hk)
theorem wd_div {x L : Int} (h : Wd x) (h0 : 0 ≤ x) (hL : 0 < L) : Wd (x / L) := by
  have h1 : x / L ≤ x := Int.ediv_le_self _ h0
  have h2 : 0 ≤ x / L := Int.ediv_nonneg h0 (by omega)
  unfold Wd at *
  omega
/-- what the mixing reckons is a rest -/
theorem small_mod {x : Int} {m : Int} (hm : 0 < m) (hm2 : m ≤ 2 ^ 31) : (x % m).natAbs < 2 ^ 31 := by
  have h1 := Int.emod_nonneg x (by omega : m ≠ 0)
  have h2 := Int.emod_lt_of_pos x hm
  omega
theorem m31 {i j : Int} (hi : i.natAbs < 2 ^ 31) (hj : j.natAbs < 2 ^ 31) : CMulW i j := wide_mul hi hj (by decide) (by decide) (by decide)
theorem one_more {x : Int} (h : x.natAbs < 2 ^ (31 + 31 + 31)) : (x + 1).natAbs < 2 ^ 94 := by
  have : (2 : Nat) ^ (31 + 31 + 31) = 9903520314283042199192993792 := by decide
  have : (2 : Nat) ^ 94 = 19807040628566084398385987584 := by decide
  omega
def preDraw (s c : Addr) (ds : List D) : Prop := ∃ L : Int, ds = [.obj s, .int L] ∧ 0 < L ∧ L.natAbs < 2 ^ 4000
def postDraw (s c : Addr) (ds : List D) (d : D) : Prop := ∃ L k : Int, ds = [.obj s, .int L] ∧ d = .int k ∧ 0 ≤ k ∧ k < L
section
variable {P : Program} {w : World} {K : PySem.W.Frag} {mg : Str → Option Value} {base : Heap} {A : Adr}
theorem ok__law_draw (T : Txt A K mg) : FnOk P w K mg base CX0 1 A.f__law_draw A.fd__law_draw ["source", "limit"] (Pr K preDraw 1 postDraw) := by
  refine T.F__law_draw.ok sc__law_draw (fun vs H Q E h => ?_) (fun cdv A' outer st H vs Q E hr h => ⟨_, (pss_cons (ps_asg (pv 0) (k_pgunl K rfl (pgs_cons (pg_name (i := 2) sc__law_draw.nd rfl (by first | exact Or.inl rfl | exact Or.inr rfl)) (pgs_cons (pg_name (i := 3) sc__law_draw.nd rfl (by first | exact Or.inl rfl | exact Or.inr rfl)) pgs_nil))))
      (pss_cons (ps_set (i := 4) sc__law_draw.nd rfl (by first | exact Or.inl rfl | exact Or.inr rfl) (pe_op op_mod (pe_callTy call_int1 (by rfl) T.m_int (by decide +kernel) (pa_cons (pv 3) pa_nil)) (pe_callB (k_len K) (by rfl) T.m_len (by decide +kernel) (pa_cons (pv 2) pa_nil))))
      (pss_cons (ps_set (i := 5) sc__law_draw.nd rfl (by first | exact Or.inl rfl | exact Or.inr rfl) (pe_ix (k_ix K) (pv 2) (pv 4) (fun _ _ => rfl)))
      (pss_cons (ps_asg (pe_op (k_add K) (pv 3) pe_int) (pg_sub (pv 0) pe_int set_list))
      (pss_cons (ps_if (pt_cmpR op_ge (pv 5) (pe_op op_powW pe_int pe_int) (nomark _)) (pss_cons (ps_asg (pe_op op_fdivW (pv 5) (pv 1)) (pg_sub (pv 2) (pv 4) set_list))
      (pss_one (ps_ret (pe_op op_mod (pe_callTy call_int1 (by rfl) T.m_int (by decide +kernel) (pa_cons (pv 5) pa_nil)) (pv 1))))) pss_nil)
      (pss_cons (ps_set (i := 6) sc__law_draw.nd rfl (by first | exact Or.inl rfl | exact Or.inr rfl) (pe_op op_mod (pe_callTy call_int1 (by rfl) T.m_int (by decide +kernel) (pa_cons (pe_op (k_add K) (pe_op (k_add K) (pe_op (k_mul K) (pe_op op_mod (pe_callTy call_int1 (by rfl) T.m_int (by decide +kernel) (pa_cons (pv 5) pa_nil)) pe_int) pe_int) (pe_op (k_mul K) (pe_op (k_mul K) (pv 3) (pv 3)) pe_int)) pe_int) pa_nil)) pe_int))
      (pss_cons (ps_set (i := 6) sc__law_draw.nd rfl (by first | exact Or.inl rfl | exact Or.inr rfl) (pe_op op_mod (pe_callTy call_int1 (by rfl) T.m_int (by decide +kernel) (pa_cons (pe_op (k_mul K) (pv 6) (pv 6)) pa_nil)) pe_int))
      (pss_cons (ps_set (i := 6) sc__law_draw.nd rfl (by first | exact Or.inl rfl | exact Or.inr rfl) (pe_op op_mod (pe_callTy call_int1 (by rfl) T.m_int (by decide +kernel) (pa_cons (pe_op (k_mul K) (pv 6) (pv 6)) pa_nil)) pe_int))
      (pss_cons (ps_if (pt_cmpR op_gt (pv 1) (pe_op op_powW pe_int pe_int) (nomark _)) (pss_cons (ps_set (i := 7) sc__law_draw.nd rfl (by first | exact Or.inl rfl | exact Or.inr rfl) (pe_op op_mod (pe_callTy call_int1 (by rfl) T.m_int (by decide +kernel) (pa_cons (pe_op (k_add K) (pe_op (k_add K) (pe_op (k_mul K) (pv 6) pe_int) (pe_op (k_mul K) (pv 3) pe_int)) pe_int) pa_nil)) pe_int))
      (pss_one (ps_set (i := 6) sc__law_draw.nd rfl (by first | exact Or.inl rfl | exact Or.inr rfl) (pe_op (k_mul K) (pv 6) (pe_op (k_add K) (pe_op (k_mul K) (pe_op (k_mul K) (pv 7) (pv 7)) (pv 7)) pe_int))))) pss_nil)
      (pss_one (ps_ret (pe_op op_mod (pe_callTy call_int1 (by rfl) T.m_int (by decide +kernel) (pa_cons (pv 6) pa_nil)) (pv 1))))))))))))), ?_⟩)
  · obtain ⟨s, c, M, n, ds, _, _, _, _, _, r, ⟨L, rfl, _⟩, _⟩ := h
    exact r.length.symm
  · obtain ⟨s, c, M, n, ds, ms, mc, tr, hs, hn, r, ⟨L, rfl, hL, hLw⟩, q⟩ := h
    obtain ⟨v, u, rfl, rv, ru⟩ := r.inv2
    have rv : v = .ref s := rv
    have ru : u = .int L := ru
    subst rv; subst ru
    obtain ⟨t, ns, es, ec, ne, nl, nw, t0, t1⟩ := hs.ex
    have sc : c ≠ s := hs.ne.symm
    have lp : 0 < (ns.map V.int).length := by
      rw [List.length_map]
      exact List.length_pos_iff.mpr ne
    have lp' : (0 : Int) < ((ns.map V.int).length : Nat) := by omega
    -- cells, turn = source
    refine ⟨.ref s, rfl, s, _, rfl, SqL.of es, rfl, _, _, rfl, _, _, rfl, rfl, ?_⟩
    -- place = int(turn) % len(cells)
    refine ⟨.int t, rfl, .inl ⟨t, rfl, .ref c, rfl, .inl ⟨c, _, rfl, .inl (SqL.of ec), t, _, rfl, rfl, lp', ?_⟩⟩⟩
    -- cell = cells[place]
    obtain ⟨j, hpj⟩ : ∃ j : Nat, t % ((ns.map V.int).length : Int) = (j : Int) := ⟨(t % ((ns.map V.int).length : Int)).toNat, by have := Int.emod_nonneg t (by omega : ((ns.map V.int).length : Int) ≠ 0); omega⟩
    have hj : j < ns.length := by
      have := Int.emod_lt_of_pos t lp'
      rw [hpj, List.length_map] at this
      omega
    have hx : (ns.map V.int)[j]? = some (.int ns[j]) := by rw [List.getElem?_map, List.getElem?_eq_getElem hj]; rfl
    generalize hxe : ns[j] = x at hx
    have xw : Wd x := by rw [← hxe]; exact nw _ (List.getElem_mem hj)
    refine ⟨.ref c, rfl, .int (t % ((ns.map V.int).length : Int)), rfl, .inl ⟨c, _, t % ((ns.map V.int).length : Int), .int x, rfl, rfl, SqL.of ec, by rw [hpj]; exact atI_nat hx, ?_⟩⟩
    -- source[1] = turn + 1
    refine ⟨.int t, rfl, .inl ⟨t, 1, rfl, rfl, .ref s, rfl, s, _, 1, 1, rfl, rfl, es, rfl, ?_⟩⟩
    generalize hH1 : upd H s (.lst ([V.ref c, V.int t].set 1 (.int (t + 1)))) = H1
    have es1 : H1 s = some (.lst [V.ref c, V.int (t + 1)]) := by rw [← hH1]; exact upd_same
    have ec1 : H1 c = some (.lst (ns.map V.int)) := by rw [← hH1, upd_ne sc]; exact ec
    have g1 : Gr [s, c] H H1 := fun a o e m => by
      have na : a ≠ s := fun z => by
        subst z
        rcases m with m | m
        · exact m List.mem_cons_self
        · rw [es] at e; cases e; cases m
      rw [← hH1, upd_ne na]
      exact e
    have s1 : Src s c (n + 1) H1 := ⟨hs.ne, t + 1, ns, es1, ec1, ne, nl, nw, by omega, by omega⟩
    -- if cell >= 10 ** 18
    refine ⟨.int x, rfl, 10, 18, rfl, rfl, ⟨by decide, by decide⟩, x, _, rfl, rfl, _, rfl, ite2 (fun h => ?_) (fun h => ?_)⟩
    · have hx0 : (10 : Int) ^ (18 : Int).toNat ≤ x := of_decide_eq_true h
      have hx0' : 0 ≤ x := Int.le_trans (by decide) hx0
      refine ⟨.int x, rfl, .int L, rfl, x, L, rfl, rfl, wide_div hL hLw (by decide) (by decide), .ref c, rfl, .int (t % ((ns.map V.int).length : Int)), rfl, c, _, t % ((ns.map V.int).length : Int), j, rfl, rfl, ec1, ?_, ?_⟩
      · rw [hpj]
        rw [List.length_map] at *
        unfold ixN
        rw [if_pos (by omega), if_pos (by omega)]
        rfl
      · refine ⟨.int x, rfl, .inl ⟨x, rfl, .int L, rfl, x, L, rfl, rfl, hL, ?_⟩⟩
        have e2 : (ns.map V.int).set j (.int (x / L)) = (ns.set j (x / L)).map V.int := by rw [List.map_set]
        rw [e2]
        refine q _ _ (.int (x % L)) (fun a o e m => ?_) ⟨hs.ne, t + 1, ns.set j (x / L), ?_, upd_same, ?_, by rw [List.length_set]; exact nl, fun y hy => ?_, by omega, by omega⟩ rfl ⟨L, _, rfl, rfl, Int.emod_nonneg _ (by omega), Int.emod_lt_of_pos _ hL⟩
        · have na : a ≠ c := fun z => by
            subst z
            rcases m with m | m
            · exact m (List.mem_cons_of_mem _ List.mem_cons_self)
            · rw [ec] at e; cases e; cases m
          rw [upd_ne na]
          exact g1 a o e m
        · rw [upd_ne sc.symm]
          exact es1
        · intro z
          have := congrArg List.length z
          rw [List.length_set] at this
          exact ne (List.length_eq_zero_iff.mp this)
        · rcases List.mem_or_eq_of_mem_set hy with z | z
          · exact nw y z
          · rw [z]
            exact wd_div xw hx0' hL
    · -- the mixing
      have tw : t.natAbs < 2 ^ 41 := by omega
      refine ⟨.int x, rfl, .inl ⟨x, rfl, x, _, rfl, rfl, (by show (0 : Int) < _; decide), .inl ⟨_, _, rfl, rfl, m31 (small_mod (by decide) (by decide)) (by decide), .int t, rfl, .int t, rfl, .inl ⟨t, t, rfl, rfl, wide_mul tw tw (by decide) (by decide) (by decide), .inl ⟨_, _, rfl, rfl, wide_mul (a := 82) (wide_lt tw tw) (b := 31) (by decide) (by decide) (by decide) (by decide), .inl ⟨_, _, rfl, rfl, .inl ⟨_, _, rfl, rfl, .inl ⟨_, rfl, _, _, rfl, rfl, (by show (0 : Int) < _; decide), ?_⟩⟩⟩⟩⟩⟩⟩⟩
      refine ⟨_, rfl, _, rfl, .inl ⟨_, _, rfl, rfl, m31 (small_mod (by decide) (by decide)) (small_mod (by decide) (by decide)), .inl ⟨_, rfl, _, _, rfl, rfl, (by show (0 : Int) < _; decide), ?_⟩⟩⟩
      refine ⟨_, rfl, _, rfl, .inl ⟨_, _, rfl, rfl, m31 (small_mod (by decide) (by decide)) (small_mod (by decide) (by decide)), .inl ⟨_, rfl, _, _, rfl, rfl, (by show (0 : Int) < _; decide), ?_⟩⟩⟩
      -- if limit > 10 ** 9
      refine ⟨.int L, rfl, 10, 9, rfl, rfl, ⟨by decide, by decide⟩, L, _, rfl, rfl, _, rfl, ite2 (fun h => ?_) (fun h => ?_)⟩
      · refine ⟨_, rfl, .inl ⟨_, _, rfl, rfl, m31 (small_mod (by decide) (by decide)) (by decide), .int t, rfl, .inl ⟨_, _, rfl, rfl, wide_mul tw (b := 31) (by decide) (by decide) (by decide) (by decide), .inl ⟨_, _, rfl, rfl, .inl ⟨_, _, rfl, rfl, .inl ⟨_, rfl, _, _, rfl, rfl, (by show (0 : Int) < _; decide), ?_⟩⟩⟩⟩⟩⟩
        refine ⟨_, rfl, _, rfl, _, rfl, .inl ⟨_, _, rfl, rfl, m31 (small_mod (by decide) (by decide)) (small_mod (by decide) (by decide)), _, rfl, .inl ⟨_, _, rfl, rfl, wide_mul (wide_lt (small_mod (by decide) (by decide)) (small_mod (by decide) (by decide))) (small_mod (by decide) (by decide)) (by decide) (by decide) (by decide), .inl ⟨_, _, rfl, rfl, .inl ⟨_, _, rfl, rfl, wide_mul (a := 31) (b := 94) (small_mod (by decide) (by decide)) (one_more (wide_lt (wide_lt (small_mod (by decide) (by decide)) (small_mod (by decide) (by decide))) (small_mod (by decide) (by decide)))) (by decide) (by decide) (by decide), ?_⟩⟩⟩⟩⟩
        refine ⟨_, rfl, .inl ⟨_, rfl, .int L, rfl, _, L, rfl, rfl, hL, ?_⟩⟩
        exact q _ _ (.int _) g1 s1 rfl ⟨L, _, rfl, rfl, Int.emod_nonneg _ (by omega), Int.emod_lt_of_pos _ hL⟩
      · refine ⟨_, rfl, .inl ⟨_, rfl, .int L, rfl, _, L, rfl, rfl, hL, ?_⟩⟩
        exact q _ _ (.int _) g1 s1 rfl ⟨L, _, rfl, rfl, Int.emod_nonneg _ (by omega), Int.emod_lt_of_pos _ hL⟩
end

end K02
/-! text K02c -/
set_option Elab.async false
set_option linter.all false
set_option maxRecDepth 100000
set_option maxHeartbeats 4000000
set_option exponentiation.threshold 5000
namespace K02
open PySem PySem.Spec PyProof.Rows L2 Pl PlS
def prePick (s c : Addr) (ds : List D) : Prop := ∃ d l, ds = [.obj s, d] ∧ seqD d = some l ∧ l ≠ [] ∧ l.length ≤ 1000
def postPick (s c : Addr) (ds : List D) (z : D) : Prop := ∃ d l, ds = [.obj s, d] ∧ seqD d = some l ∧ z ∈ l
theorem lt_4000 {k : Int} (h0 : 0 ≤ k) (h : k ≤ 2 ^ 64) : k.natAbs < 2 ^ 4000 := Nat.lt_of_lt_of_le (m := 2 ^ 65) (by omega) (Nat.pow_le_pow_right (by decide) (by decide))
/-- draw from a known limit -/
theorem draw_of {s c : Addr} {L : Int} {d : D} (h : ∃ l, l = [D.obj s, .int L] ∧ postDraw s c l d) : ∃ k : Int, d = .int k ∧ 0 ≤ k ∧ k < L := by
  obtain ⟨l, e1, L', k, e2, e3, k0, k1⟩ := h
  rw [e1] at e2
  cases e2
  exact ⟨k, e3, k0, k1⟩
theorem ev_draw {K : PySem.W.Frag} {s c : Addr} {ρ : List Sl} {n n1 n2 : Nat} {ta tb : TE} {L : Int} (ha : EvE K s c ta ρ n n1 (fun d => d = .obj s)) (hb : EvE K s c tb ρ n1 n2 (fun d => d = .int L)) (hn : n2 + 1 ≤ 2 ^ 40) (h0 : 0 < L) (h1 : L ≤ 2 ^ 64) :
    EvE K s c (tCall (Pr K preDraw 1 postDraw) [] E0 (tCons ta (tCons tb tNil))) ρ n (n2 + 1) (fun d => ∃ k : Int, d = .int k ∧ 0 ≤ k ∧ k < L) :=
  (ev_def (ea_c ha (ea_c hb ea_nil)) hn fun x e => ⟨L, e, h0, lt_4000 (by omega) h1⟩).imp fun d h => draw_of h
theorem ev_pick {K : PySem.W.Frag} {s c : Addr} {ρ : List Sl} {n n1 n2 : Nat} {ta tb : TE} {d : D} {l : List D} (ha : EvE K s c ta ρ n n1 (fun d => d = .obj s)) (hb : EvE K s c tb ρ n1 n2 (fun x => x = d)) (hn : n2 + 1 ≤ 2 ^ 40) (hl : seqD d = some l) (h0 : l ≠ []) (h1 : l.length ≤ 1000) :
    EvE K s c (tCall (Pr K prePick 1 postPick) [] E0 (tCons ta (tCons tb tNil))) ρ n (n2 + 1) (fun x => x ∈ l) :=
  (ev_def (ea_c ha (ea_c hb ea_nil)) hn fun x e => ⟨d, l, e, hl, h0, h1⟩).imp fun z h => by
    obtain ⟨x, e, d', l', e2, e3, e4⟩ := h
    rw [e] at e2
    cases e2
    rw [hl] at e3
    cases e3
    exact e4
def preShuf (s c : Addr) (ds : List D) : Prop := ∃ l, ds = [.obj s, .lst l] ∧ l.length ≤ 60
def postShuf (s c : Addr) (ds : List D) (z : D) : Prop := ∃ l l', ds = [.obj s, .lst l] ∧ z = .lst l' ∧ l'.Perm l
def preWord (s c : Addr) (ds : List D) : Prop := ∃ k : Nat, ds = [.obj s, .int k] ∧ k ≤ 60
def postWord (s c : Addr) (ds : List D) (d : D) : Prop := ∃ (k : Nat) (z : Str), ds = [.obj s, .int k] ∧ d = .str z ∧ z.length = k ∧ Low z
theorem alpha_at {k : Int} (h0 : 0 ≤ k) (h1 : k < 26) : ∃ q, atI (Str.ofString "abcdefghijklmnopqrstuvwxyz").cps.toList k = some q ∧ low q := by
  have h : ∀ k : Fin 26, ∃ q, atI (Str.ofString "abcdefghijklmnopqrstuvwxyz").cps.toList ((k.val : Nat) : Int) = some q ∧ 97 ≤ q ∧ q ≤ 122 := by
    intro k
    refine ⟨97 + k.val, ?_, by omega, by omega⟩
    revert k
    decide +kernel
  have := h ⟨k.toNat, by omega⟩
  have e : ((k.toNat : Nat) : Int) = k := by omega
  simp only [e] at this
  exact this

def isName (z : Str) : Prop := 1 ≤ z.length ∧ z.length ≤ 8 ∧ Low z
theorem low_nil : ∀ q ∈ ([] : List Nat), low q := fun q h => by simp at h
def dShape (p : Str × Nat) : D := .tup [.str p.1, .int p.2]
def dAtom (a : Str × List Str) : D := .tup [.str a.1, .tup (dStrs a.2)]
theorem perm_map {α β : Type} (f : α → β) {l' m : List β} (h : l'.Perm m) : ∀ l : List α, m = l.map f → ∃ k : List α, k.Perm l ∧ l' = k.map f := by
  induction h with
  | nil =>
    intro l e
    exact ⟨l, .refl _, e⟩
  | cons x h ih =>
    intro l e
    cases l with
    | nil => cases e
    | cons y l =>
      rw [List.map_cons] at e
      cases e
      obtain ⟨k, h1, h2⟩ := ih l rfl
      exact ⟨y :: k, h1.cons y, by rw [h2]; rfl⟩
  | swap x y l0 =>
    intro l e
    cases l with
    | nil => cases e
    | cons a l =>
      cases l with
      | nil => cases e
      | cons b l =>
        cases e
        exact ⟨b :: a :: l, .swap a b l, rfl⟩
  | trans _ _ ih1 ih2 =>
    intro l e
    obtain ⟨k, h1, h2⟩ := ih2 l e
    obtain ⟨j, h3, h4⟩ := ih1 k h2
    exact ⟨j, h3.trans h1, h4⟩
/-- the first few of a list -/
theorem cut_to {l : List D} {k : Int} (h : 0 ≤ k) : Pl.cutD l none (some k) = l.take k.toNat := by
  obtain ⟨j, rfl⟩ : ∃ j : Nat, k = (j : Int) := ⟨k.toNat, by omega⟩
  unfold Pl.cutD
  rw [HT.sIx_none, HT.sIx_nat, List.drop_zero, Nat.sub_zero, Int.toNat_natCast]
  by_cases q : j ≤ l.length
  · rw [Nat.min_eq_left q]
  · rw [Nat.min_eq_right (by omega), List.take_length, List.take_of_length_le (by omega)]
theorem name_of (x : Str) (h : (decide (1 ≤ x.length) && decide (x.length ≤ 8) && x.cps.toList.all fun q => decide (97 ≤ q) && decide (q ≤ 122)) = true) : isName x := by
  simp only [Bool.and_eq_true, decide_eq_true_eq, List.all_eq_true] at h
  exact ⟨h.1.1, h.1.2, fun q hq => h.2 q hq⟩
def shapesOk (ps : List (Str × Nat)) : Prop := (∀ p ∈ ps, isName p.1 ∧ 1 ≤ p.2 ∧ p.2 ≤ 3) ∧ (ps.map (·.1)).Nodup
def preShapes (s c : Addr) (ds : List D) : Prop := ds = [.obj s]
def postShapes (s c : Addr) (ds : List D) (z : D) : Prop := ∃ ps, z = .lst (ps.map dShape) ∧ shapesOk ps ∧ ps ≠ [] ∧ ps.length ≤ 3
def preVars (s c : Addr) (ds : List D) : Prop := ds = [.obj s, .int 5]
def postVars (s c : Addr) (ds : List D) (z : D) : Prop := ∃ vs, z = .lst (dStrs vs) ∧ (∀ v ∈ vs, isName v) ∧ vs ≠ [] ∧ vs.length ≤ 5
def preAtoms (s c : Addr) (ds : List D) : Prop := ∃ ps vs, ∃ most : Nat, ds = [.obj s, .lst (ps.map dShape), .lst (dStrs vs), .int most] ∧ shapesOk ps ∧ ps ≠ [] ∧ ps.length ≤ 3 ∧ vs ≠ [] ∧ vs.length ≤ 5 ∧ 1 ≤ most ∧ most ≤ 6
def atomsOf (ps : List (Str × Nat)) (vs : List Str) (as : List (Str × List Str)) : Prop := ∀ a ∈ as, (a.1, a.2.length) ∈ ps ∧ ∀ v ∈ a.2, v ∈ vs
def postAtoms (s c : Addr) (ds : List D) (z : D) : Prop := ∃ ps vs, ∃ most : Nat, ds = [.obj s, .lst (ps.map dShape), .lst (dStrs vs), .int most] ∧ ∃ as, z = .lst (as.map dAtom) ∧ atomsOf ps vs as ∧ as ≠ [] ∧ as.length ≤ most
def preParts (s c : Addr) (ds : List D) : Prop := ∃ ps, ∃ most width : Nat, ds = [.obj s, .lst (ps.map dShape), .int most, .int width] ∧ shapesOk ps ∧ ps ≠ [] ∧ ps.length ≤ 3 ∧ 1 ≤ most ∧ most ≤ 6 ∧ width ≤ 3
def postParts (s c : Addr) (ds : List D) (z : D) : Prop := ∃ ps, ∃ most width : Nat, ds = [.obj s, .lst (ps.map dShape), .int most, .int width] ∧ ∃ as hd vs, z = .tup [.tup (dStrs hd), .lst (as.map dAtom)] ∧ atomsOf ps vs as ∧ as ≠ [] ∧ as.length ≤ most ∧ (∀ v ∈ vs, isName v) ∧ vs.length ≤ 5 ∧ hd.length = width ∧ ∀ h ∈ hd, ∃ a ∈ as, h ∈ a.2
section
variable {P : Program} {w : World} {K : PySem.W.Frag} {mg : Str → Option Value} {base : Heap} {A : Adr}
theorem ok__law_pick (T : Txt A K mg) : FnOk P w K mg base CX0 2 A.f__law_pick A.fd__law_pick ["source", "values"] (Pr K prePick 1 postPick) := by
  have G__law_draw := ok__law_draw (P := P) (w := w) (base := base) T
  refine T.F__law_pick.ok sc__law_pick (fun vs H Q E h => pr_len h fun s c ds hp => ?_) (fun cdv A' outer st H vs Q E hr h => have hw : _ := hr.units; ⟨_, (pss_one (ps_ret (pe_ix (k_ix K) (pv 1) (pe_call G__law_draw (hr.mono (by decide)) (by rfl) T.m__law_draw T.F__law_draw.kp T.b__law_draw .nil pass0 (pa_cons (pv 0) (pa_cons (pe_callB (k_len K) (by rfl) T.m_len (by decide +kernel) (pa_cons (pv 1) pa_nil)) pa_nil))) (fun _ _ => rfl)))), body_ok h fun s c n ds hn hp => ?_⟩)
  · obtain ⟨d, l, rfl, _⟩ := hp
    rfl
  · obtain ⟨d, l, rfl, hl, hne, h1⟩ := hp
    have h2 : 0 < l.length := List.length_pos_iff.mpr hne
    refine s_ret (P := fun z => z ∈ l) (ev_opP (ev_var rfl) (ev_def (ea_c (ev_var rfl) (ea_c (ev_callK (ea_one (ev_var rfl)) (ck_len hl)) ea_nil)) hn fun x e => ⟨_, e, by omega, lt_4000 (by omega) (by omega)⟩) fun x y e1 e2 => ?_) fun z hz => ⟨Nat.le_refl _, d, l, rfl, hl, hz⟩
    obtain ⟨x', e3, L, k, e4, rfl, k0, k1⟩ := e2
    rw [e3] at e4
    cases e4
    obtain ⟨z, h3, h4⟩ := at_some k0 k1
    exact ⟨z, by rw [e1]; exact rk_ixD hl h3, h4⟩
theorem ok__law_shuffle (T : Txt A K mg) : FnOk P w K mg base CX0 2 A.f__law_shuffle A.fd__law_shuffle ["source", "values"] (Pr K preShuf 60 postShuf) := by
  have G__law_draw := ok__law_draw (P := P) (w := w) (base := base) T
  refine T.F__law_shuffle.ok sc__law_shuffle (fun vs H Q E h => pr_len h fun s c ds hp => ?_) (fun cdv A' outer st H vs Q E hr h => have hw : _ := hr.units; ⟨_, (pss_cons (ps_set (i := 2) sc__law_shuffle.nd rfl (by first | exact Or.inl rfl | exact Or.inr rfl) (pe_lst pa_nil))
      (pss_cons (ps_for PassesOwn.never rfl (k_pilist K (pv 1)) (pg_name (i := 3) sc__law_shuffle.nd rfl (by first | exact Or.inl rfl | exact Or.inr rfl)) (pss_one (ps_expr (k_bm K PySem.F.plainAttrs_list PySem.F.slot_list_insert PySem.F.type_list_insert mt_insert (pv 2) (pa_cons (pe_call G__law_draw (hr.mono (by decide)) (by rfl) T.m__law_draw T.F__law_draw.kp T.b__law_draw .nil pass0 (pa_cons (pv 0) (pa_cons (pe_op (k_add K) (pe_callB (k_len K) (by rfl) T.m_len (by decide +kernel) (pa_cons (pv 2) pa_nil)) pe_int) pa_nil))) (pa_cons (pv 3) pa_nil))))))
      (pss_one (ps_ret (pv 2))))), body_ok h fun s c n ds hn hp => ?_⟩)
  · obtain ⟨l, rfl, _⟩ := hp
    rfl
  · obtain ⟨l, rfl, hl⟩ := hp
    have fin : ∀ (acc : List D) m, acc.Perm l → m ≤ n + 60 → (⟨fun _ m => m ≤ n + 60 ∧ postShuf s c [.obj s, .lst l] .non, fun d m => m ≤ n + 60 ∧ postShuf s c [.obj s, .lst l] d, fun _ _ => False, fun _ _ => False⟩ : Pn).rt (.lst acc) m := fun acc m h1 h2 => ⟨h2, l, acc, rfl, rfl, h1⟩
    refine s_seq (N := fun ρ' m => n = m ∧ ρ' = [.va (.obj s), .va (.lst l), .ow [], .no]) (s_own (en_lst ea_nil fun x e => by rw [e]; exact Nat.zero_le _) rfl (by exact (by decide : (2 : Nat) < 4)) fun x e => ⟨rfl, by rw [e]; rfl⟩) fun ρ1 n1 h1 => ?_
    obtain ⟨rfl, rfl⟩ := h1
    refine s_seq (N := fun ρ' m => m ≤ n + 60 ∧ ∃ acc y, ρ' = [.va (.obj s), .va (.lst l), .ow acc, y] ∧ acc.Perm l) ?_ fun ρ1 n1 h1 => ?_
    · refine s_for (ei_list (PL := fun ds => ds = l) (ev_var rfl) fun d e => ⟨l, e, rfl⟩) (fun ds i ρ' m => m ≤ n + i ∧ ∃ acc y, ρ' = [.va (.obj s), .va (.lst l), .ow acc, y] ∧ isOw (some y) = false ∧ acc.Perm (l.take i)) (fun ds e => ⟨Nat.le_refl _, [], .no, rfl, rfl, by rw [List.take_zero]⟩) (fun ds e i d ρ' m hi inv => ?_) (fun ds e ρ' m inv => ?_)
      · obtain ⟨hm, acc, y, rfl, hy, pm⟩ := inv
        rw [e] at hi
        have hil := (List.getElem?_eq_some_iff.mp hi).1
        have al : acc.length ≤ 60 := by rw [pm.length_eq, List.length_take]; omega
        refine ⟨_, _, eg_name (j := 3) hy, ?_⟩
        refine s_insert (l := acc) rfl (ev_draw (ev_var rfl) (ev_thaw (i := 2) rfl (ev_opK (ev_callK (ea_one (ev_var rfl)) (ck_len rfl)) ev_int rk_add) fun d e => by rw [e]; rfl) (by omega) (by omega) (by omega)) (fun d h => ?_) (ev_var rfl) (by omega) fun k d' h e => ?_
        · obtain ⟨k, rfl, k0, k1⟩ := h
          exact ⟨k, rfl, k0, by omega⟩
        · obtain ⟨k', e2, k0, k1⟩ := h
          cases e2
          refine ⟨by omega, _, _, rfl, rfl, ?_⟩
          rw [List.take_add_one, hi, e]
          refine List.Perm.trans ?_ (pm.append_right [d])
          have h1 : (acc.take k.toNat ++ [d] ++ acc.drop k.toNat).Perm (acc.take k.toNat ++ acc.drop k.toNat ++ [d]) := by
            rw [List.append_assoc, List.append_assoc]
            exact (List.Perm.refl _).append List.perm_append_comm
          rw [List.take_append_drop] at h1
          exact h1
      · obtain ⟨hm, acc, y, rfl, hy, pm⟩ := inv
        rw [e, List.take_length] at pm
        exact ⟨by rw [e] at hm; omega, acc, y, rfl, pm⟩
    · obtain ⟨hm, acc, y, rfl, pm⟩ := h1
      exact s_freeze (i := 2) rfl (s_ret (ev_var rfl) fun d e => by rw [e]; exact fin acc _ pm hm)
theorem ok__law_word (T : Txt A K mg) : FnOk P w K mg base CX0 2 A.f__law_word A.fd__law_word ["source", "size"] (Pr K preWord 60 postWord) := by
  have G__law_draw := ok__law_draw (P := P) (w := w) (base := base) T
  refine T.F__law_word.ok sc__law_word (fun vs H Q E h => pr_len h fun s c ds hp => ?_) (fun cdv A' outer st H vs Q E hr h => have hw : _ := hr.units; ⟨_, (pss_one (ps_ret (k_bm K PySem.F.plainAttrs_str PySem.F.slot_str_join PySem.F.type_str_join (k_join K) pe_str (pa_cons (pe_lc (own := [("k", 2)]) rfl sc__law_word.nd (pi_range1 rfl T.m_range (pa_cons (pv 1) pa_nil)) (blkOk_by (N := ["source", "size", "k"]) (sc := defScope s__law_word) (by decide +kernel)) (fun _ _ _ _ _ => (pg_name (i := 2) sc__law_word.nd rfl (by first | exact Or.inl rfl | exact Or.inr rfl))) (fun _ _ _ _ _ => pts_nil) (fun _ _ _ _ _ => (pe_ix (k_ix K) pe_str (pe_call G__law_draw (hr.mono (by decide)) (by rfl) T.m__law_draw T.F__law_draw.kp T.b__law_draw .nil pass0 (pa_cons (pv 0) (pa_cons pe_int pa_nil))) (fun _ _ => rfl)))) pa_nil)))), body_ok h fun s c n ds hn hp => ?_⟩)
  · obtain ⟨k, rfl, _⟩ := hp
    rfl
  · obtain ⟨k, rfl, hk⟩ := hp
    refine s_ret (n1 := n + 60) (P := fun d => ∃ z : Str, d = .str z ∧ z.length = k ∧ Low z) (ev_methP (A := fun d => d = .str (Str.ofString "")) (B := fun l => ∃ qs : List Nat, l = [.lst (dStrs (qs.map fun q => (⟨#[q]⟩ : Str)))] ∧ qs.length = k ∧ ∀ q ∈ qs, low q) ev_str ?_ ?_ (fun x e => by rw [e]; exact ty_str)) fun d h => ?_
    · refine EvA.imp (ea_cons (n1 := n + 60) (EvE.le (EvN.ev (en_lc (n2 := n + k) (ei_rng1 (PL := fun ds => ds = dInts 0 k) (ea_one (ev_var rfl)) fun l e => ⟨k, e, by omega, by omega, by rw [Int.toNat_natCast]⟩) rfl
        (fun ds i acc m => acc.length = i ∧ m = n + i ∧ ∃ qs : List Nat, acc = dStrs (qs.map fun q => (⟨#[q]⟩ : Str)) ∧ ∀ q ∈ qs, low q) (fun ds e => ⟨by rw [e, ints_len]; omega, rfl, rfl, [], rfl, fun q hq => by simp at hq⟩) (fun ds e i d acc m hi ha inv => ?_) fun ds e acc m inv => by rw [e, ints_len] at inv; omega)) (by omega)) ea_nil) fun l h => ?_
      · obtain ⟨rfl, rfl, qs, rfl, hq⟩ := inv
        rw [e] at hi
        obtain ⟨hi, _⟩ := ints_at' hi
        refine ⟨_, _, _, _, eg_name (j := 2) rfl, fun j hj => hj, et_yes, fun _ => ⟨_, _, ev_opP (P := fun y => ∃ q, y = .str ⟨#[q]⟩ ∧ low q) ev_str (ev_draw (ev_var rfl) ev_int (by omega) (by decide) (by decide)) fun x y e1 e2 => ?_, fun y h => ?_⟩, fun z => by cases z⟩
        · obtain ⟨j, rfl, j0, j1⟩ := e2
          obtain ⟨q, h1, h2⟩ := alpha_at j0 j1
          exact ⟨_, by rw [e1]; exact rk_ixS (by decide) h1, q, rfl, h2⟩
        · obtain ⟨q, rfl, lq⟩ := h
          refine ⟨by rw [List.length_append]; rfl, by omega, qs ++ [q], ?_, fun r hr => ?_⟩
          · unfold dStrs
            rw [List.map_append, List.map_append]
            rfl
          · rcases List.mem_append.mp hr with h | h
            · exact hq r h
            · rw [List.mem_singleton.mp h]; exact lq
      · obtain ⟨d, r, rfl, ⟨l', rfl, ds, e, m, inv⟩, rfl⟩ := h
        obtain ⟨h1, h2, qs, h3, h4⟩ := inv
        rw [e, ints_len] at h1
        refine ⟨qs, by rw [h3], ?_, h4⟩
        rw [h3] at h1
        unfold dStrs at h1
        rw [List.length_map, List.length_map] at h1
        exact h1
    · intro x l e h
      obtain ⟨qs, rfl, h1, h2⟩ := h
      have hz : ((qs.map fun q => (⟨#[q]⟩ : Str)).map (·.length)).sum + (qs.map fun q => (⟨#[q]⟩ : Str)).length * (Str.ofString "").length ≤ 16777216 := by
        rw [List.map_map, List.length_map]
        have e1 : ((fun z : Str => z.length) ∘ fun q => (⟨#[q]⟩ : Str)) = fun _ : Nat => 1 := rfl
        have e0 : (Str.ofString "").length = 0 := rfl
        rw [e1, e0, Nat.mul_zero]
        have e2 : ∀ l : List Nat, (l.map fun _ => 1).sum = l.length := fun l => by
          induction l with
          | nil => rfl
          | cons q qs ih => rw [List.map_cons, List.sum_cons, ih, List.length_cons, Nat.add_comm]
        rw [e2]
        omega
      exact ⟨.str (Txt.join (Str.ofString "") (qs.map fun q => (⟨#[q]⟩ : Str))), by rw [e]; exact mk_join rfl hz, ⟨qs.toArray⟩, by rw [Pl.join_ones], h1, h2⟩
    · obtain ⟨z, rfl, h1, h2⟩ := h
      exact ⟨Nat.le_refl _, k, z, rfl, rfl, h1, h2⟩
end

end K02
/-! text Pl8 -/
set_option Elab.async false
set_option linter.all false
set_option maxRecDepth 100000
set_option maxHeartbeats 4000000
set_option exponentiation.threshold 5000
namespace Pl
open PySem PySem.Spec PyProof.Rows L2
section
variable {K : PySem.W.Frag} {s c : Addr} {ρ ρ1 ρ2 : List Sl} {n n1 n2 n3 n' : Nat} {te ta tb tl to : TE} {P : D → Prop} {tt tu : TT}
/-! ### slices with bounds that are drawn -/
def EvOP (K : PySem.W.Frag) (s c : Addr) (to : TO) (ρ : List Sl) (n n' : Nat) (R : Option Int → Prop) : Prop := ∀ M0 H0 O σ H (Q : Option Int → Hp → Prop), Ok K s c M0 H0 O ρ n σ H → (∀ o H', Gr [s, c] H H' → Src s c n' H' → R o → Q o H') → to σ H Q
theorem eo_noneP : EvOP K s c tNoPart ρ n n (fun o => o = none) := fun M0 H0 O σ H Q I k => k none H (Gr.refl _ _) I.src rfl
theorem eo_someP {R : Option Int → Prop} (h : EvE K s c te ρ n n1 P) (hp : ∀ d, P d → ∃ i, d = .int i ∧ R (some i)) : EvOP K s c (tPart te) ρ n n1 R := fun M0 H0 O σ H Q I k => h M0 H0 O σ H _ I fun v H' d g hs r p => by
  obtain ⟨i, rfl, q⟩ := hp d p
  exact ⟨i, r, k (some i) H' g hs q⟩
theorem ev_slLP {to tu : TO} {R S : Option Int → Prop} (h : EvE K s c te ρ n n1 P) (hP : ∀ d, P d → ∃ l, d = .lst l) (hl : EvOP K s c to ρ n1 n2 R) (hh : EvOP K s c tu ρ n2 n3 S) : EvE K s c (tSl (rSlAny K) te to tu) ρ n n3 (fun d => ∃ l lo hi, P (.lst l) ∧ R lo ∧ S hi ∧ d = .lst (cutD l lo hi)) := fun M0 H0 O σ H Q I k =>
  h M0 H0 O σ H _ I fun v H1 d g1 s1 r1 p1 => hl M0 H0 O σ H1 _ (I.next g1 s1) fun lo H2 g2 s2 q2 => hh M0 H0 O σ H2 _ ((I.next g1 s1).next g2 s2) fun hi H3 g3 s3 q3 => by
    obtain ⟨l, rfl⟩ := hP d p1
    have g4 := g2.trans g3
    obtain ⟨a, xs, rfl, ma, ea, ra⟩ := Rep.gr (g4.mono I.sub) r1
    have J := ((I.next g1 s1).next g2 s2).next g3 s3
    exact .inl ⟨a, xs, rfl, SqL.of ea, fun p hp => k (.ref p) _ (.lst (cutD l lo hi)) ((g1.trans g4).trans (Gr.new hp)) (s3.new hp) ⟨p, _, rfl, J.new_out hp, upd_same, (ra.cut lo hi).gr (Gr.new hp)⟩ ⟨l, lo, hi, p1, q2, q3, rfl⟩⟩
end
end Pl
/-! text K02d -/
set_option Elab.async false
set_option linter.all false
set_option maxRecDepth 100000
set_option maxHeartbeats 4000000
set_option exponentiation.threshold 5000
namespace K02
open PySem PySem.Spec PyProof.Rows L2 Pl PlS

def shL (z : Str) : List (Str × Nat) := [(Str.ofString "e", 2), (Str.ofString "f", 1), (Str.ofString "g", 3), (z, 2), (Str.ofString "edgeofit", 2), (Str.ofString "x", 2)]
theorem nm {x : Str} (h : (decide (1 ≤ x.length) && decide (x.length ≤ 8) && x.cps.toList.all fun q => decide (97 ≤ q) && decide (q ≤ 122)) = true) : isName x := name_of x h
theorem len_ne {a b : Str} (h : a.length ≠ b.length) : a ≠ b := fun e => h (by rw [e])
theorem shL_ok {z : Str} (h : z.length = 4) (l : Low z) : shapesOk (shL z) := by
  refine ⟨fun p hp => ?_, ?_⟩
  · simp only [shL, List.mem_cons, List.not_mem_nil, or_false] at hp
    rcases hp with rfl | rfl | rfl | rfl | rfl | rfl
    · exact ⟨nm (by decide +kernel), by decide, by decide⟩
    · exact ⟨nm (by decide +kernel), by decide, by decide⟩
    · exact ⟨nm (by decide +kernel), by decide, by decide⟩
    · exact ⟨⟨by show 1 ≤ z.length; omega, by show z.length ≤ 8; omega, l⟩, by exact (by decide : (1 : Nat) ≤ 2), by exact (by decide : (2 : Nat) ≤ 3)⟩
    · exact ⟨nm (by decide +kernel), by decide, by decide⟩
    · exact ⟨nm (by decide +kernel), by decide, by decide⟩
  · have a1 : z ≠ Str.ofString "e" := len_ne (by rw [h]; decide +kernel)
    have a2 : z ≠ Str.ofString "f" := len_ne (by rw [h]; decide +kernel)
    have a3 : z ≠ Str.ofString "g" := len_ne (by rw [h]; decide +kernel)
    have a4 : z ≠ Str.ofString "edgeofit" := len_ne (by rw [h]; decide +kernel)
    have a5 : z ≠ Str.ofString "x" := len_ne (by rw [h]; decide +kernel)
    have b : ([Str.ofString "e", Str.ofString "f", Str.ofString "g", Str.ofString "edgeofit", Str.ofString "x"] : List Str).Nodup := by decide +kernel
    have p : ([Str.ofString "e", Str.ofString "f", Str.ofString "g", z, Str.ofString "edgeofit", Str.ofString "x"] : List Str).Perm (z :: [Str.ofString "e", Str.ofString "f", Str.ofString "g", Str.ofString "edgeofit", Str.ofString "x"]) :=
      List.perm_middle (l₁ := [Str.ofString "e", Str.ofString "f", Str.ofString "g"]) (a := z) (l₂ := [Str.ofString "edgeofit", Str.ofString "x"])
    refine p.nodup_iff.mpr (List.nodup_cons.mpr ⟨fun hm => ?_, b⟩)
    simp only [List.mem_cons, List.not_mem_nil, or_false] at hm
    rcases hm with e | e | e | e | e
    · exact a1 e
    · exact a2 e
    · exact a3 e
    · exact a4 e
    · exact a5 e
theorem shapes_sub {ps qs : List (Str × Nat)} (h : shapesOk ps) (p : qs.Perm ps) (k : Nat) : shapesOk (qs.take k) := by
  refine ⟨fun x hx => h.1 x (p.mem_iff.mp (List.mem_of_mem_take hx)), ?_⟩
  rw [List.map_take]
  exact (((p.map (·.1)).nodup_iff.mpr h.2)).sublist (List.take_sublist _ _)
/-- a word, a shuffled list -/
theorem ev_word {K : PySem.W.Frag} {s c : Addr} {ρ : List Sl} {n n1 n2 : Nat} {ta tb : TE} (k : Nat) (ha : EvE K s c ta ρ n n1 (fun d => d = .obj s)) (hb : EvE K s c tb ρ n1 n2 (fun d => d = .int k)) (hn : n2 + 60 ≤ 2 ^ 40) (hk : k ≤ 60) :
    EvE K s c (tCall (Pr K preWord 60 postWord) [] E0 (tCons ta (tCons tb tNil))) ρ n (n2 + 60) (fun d => ∃ z : Str, d = .str z ∧ z.length = k ∧ Low z) :=
  (ev_def (ea_c ha (ea_c hb ea_nil)) hn fun x e => ⟨k, e, hk⟩).imp fun d h => by
    obtain ⟨x, e, k', z, e2, e3, e4, e5⟩ := h
    rw [e] at e2
    cases e2
    exact ⟨z, e3, e4, e5⟩
theorem ev_shuf {K : PySem.W.Frag} {s c : Addr} {ρ : List Sl} {n n1 n2 : Nat} {ta tb : TE} {l : List D} (ha : EvE K s c ta ρ n n1 (fun d => d = .obj s)) (hb : EvE K s c tb ρ n1 n2 (fun d => d = .lst l)) (hn : n2 + 60 ≤ 2 ^ 40) (hl : l.length ≤ 60) :
    EvE K s c (tCall (Pr K preShuf 60 postShuf) [] E0 (tCons ta (tCons tb tNil))) ρ n (n2 + 60) (fun d => ∃ l', d = .lst l' ∧ l'.Perm l) :=
  (ev_def (ea_c ha (ea_c hb ea_nil)) hn fun x e => ⟨l, e, hl⟩).imp fun d h => by
    obtain ⟨x, e, l1, l', e2, e3, e4⟩ := h
    rw [e] at e2
    cases e2
    exact ⟨l', e3, e4⟩
theorem ev_some {K : PySem.W.Frag} {s c : Addr} {ρ : List Sl} {n n1 n2 : Nat} {te : TE} {P : D → Prop} (h : EvE K s c te ρ n n1 P) (l : n1 ≤ n2) : EvE K s c te ρ n n2 P := h.le l
section
variable {P : Program} {w : World} {K : PySem.W.Frag} {mg : Str → Option Value} {base : Heap} {A : Adr}
theorem ok__law_shapes (T : Txt A K mg) : FnOk P w K mg base CX0 3 A.f__law_shapes A.fd__law_shapes ["source"] (Pr K preShapes 121 postShapes) := by
  have G__law_draw := ok__law_draw (P := P) (w := w) (base := base) T
  have G__law_shuffle := ok__law_shuffle (P := P) (w := w) (base := base) T
  have G__law_word := ok__law_word (P := P) (w := w) (base := base) T
  refine T.F__law_shapes.ok sc__law_shapes (fun vs H Q E h => pr_len h fun s c ds hp => ?_) (fun cdv A' outer st H vs Q E hr h => have hw : _ := hr.units; ⟨_, (pss_cons (ps_set (i := 1) sc__law_shapes.nd rfl (by first | exact Or.inl rfl | exact Or.inr rfl) (pe_lst (pa_cons (pe_tup (pa_cons pe_str (pa_cons pe_int pa_nil))) (pa_cons (pe_tup (pa_cons pe_str (pa_cons pe_int pa_nil))) (pa_cons (pe_tup (pa_cons pe_str (pa_cons pe_int pa_nil))) (pa_cons (pe_tup (pa_cons (pe_call G__law_word (hr.mono (by decide)) (by rfl) T.m__law_word T.F__law_word.kp T.b__law_word .nil pass0 (pa_cons (pv 0) (pa_cons pe_int pa_nil))) (pa_cons pe_int pa_nil))) (pa_cons (pe_tup (pa_cons pe_str (pa_cons pe_int pa_nil))) (pa_cons (pe_tup (pa_cons pe_str (pa_cons pe_int pa_nil))) pa_nil))))))))
      (pss_one (ps_ret (pe_slice (k_sl K) (pe_call G__law_shuffle (hr.mono (by decide)) (by rfl) T.m__law_shuffle T.F__law_shuffle.kp T.b__law_shuffle .nil pass0 (pa_cons (pv 0) (pa_cons (pv 1) pa_nil))) po_none (po_some (pe_op (k_add K) pe_int (pe_call G__law_draw (hr.mono (by decide)) (by rfl) T.m__law_draw T.F__law_draw.kp T.b__law_draw .nil pass0 (pa_cons (pv 0) (pa_cons pe_int pa_nil))))))))), body_ok h fun s c n ds hn hp => ?_⟩)
  · rw [hp]; rfl
  · have hp : ds = [.obj s] := hp
    subst hp
    refine s_seq (N := fun ρ' m => m = n + 60 ∧ ∃ z : Str, ρ' = [.va (.obj s), .va (.lst ((shL z).map dShape))] ∧ z.length = 4 ∧ Low z) (s_set (P := fun d => ∃ z : Str, d = .lst ((shL z).map dShape) ∧ z.length = 4 ∧ Low z) (EvE.imp (EvN.ev (en_lst (PL := fun l => ∃ z : Str, l = (shL z).map dShape ∧ z.length = 4 ∧ Low z) (EvA.imp (ea_cons (ev_tupE (ea_c ev_str (ea_c ev_int ea_nil)) (by decide)) (ea_cons (ev_tupE (ea_c ev_str (ea_c ev_int ea_nil)) (by decide)) (ea_cons (ev_tupE (ea_c ev_str (ea_c ev_int ea_nil)) (by decide)) (ea_cons (ev_tup (ea_cons (ev_word 4 (ev_var rfl) ev_int (by omega) (by decide)) (ea_one ev_int)) fun l h => ?_) (ea_c (ev_tupE (ea_c ev_str (ea_c ev_int ea_nil)) (by decide)) (ea_c (ev_tupE (ea_c ev_str (ea_c ev_int ea_nil)) (by decide)) ea_nil)))))) fun l h => ?_) fun l h => ?_)) fun d h => ?_) rfl fun d h => ?_) fun ρ1 n1 h1 => ?_
    · obtain ⟨d, r, rfl, _, rfl⟩ := h
      exact (by decide : (2 : Nat) ≤ 1000)
    · obtain ⟨d1, r1, rfl, rfl, d2, r2, rfl, rfl, d3, r3, rfl, rfl, d4, r4, rfl, ⟨l4, rfl, x, y, rfl, ⟨z, rfl, h1, h2⟩, rfl⟩, rfl⟩ := h
      exact ⟨z, rfl, h1, h2⟩
    · obtain ⟨z, rfl, _⟩ := h
      exact (by decide : (6 : Nat) ≤ 1000)
    · obtain ⟨l, rfl, z, rfl, h1, h2⟩ := h
      exact ⟨z, rfl, h1, h2⟩
    · obtain ⟨z, rfl, h1, h2⟩ := h
      exact ⟨rfl, z, rfl, h1, h2⟩
    · obtain ⟨rfl, z, rfl, hz, lz⟩ := h1
      refine s_ret (P := fun d => ∃ l lo hi, (∃ l', D.lst l = .lst l' ∧ l'.Perm ((shL z).map dShape)) ∧ lo = none ∧ (∃ k : Int, hi = some (1 + k) ∧ 0 ≤ k ∧ k < 3) ∧ d = .lst (cutD l lo hi)) (ev_slLP (ev_shuf (ev_var rfl) (ev_var rfl) (by omega) (by exact (by decide : (6 : Nat) ≤ 60))) (fun d h => ⟨_, h.choose_spec.1⟩) eo_noneP (eo_someP (ev_opP (P := fun d => ∃ k : Int, d = .int (1 + k) ∧ 0 ≤ k ∧ k < 3) ev_int (ev_draw (ev_var rfl) ev_int (by omega) (by decide) (by decide)) fun x y e1 e2 => ?_) fun d h => ?_)) fun d h => ?_
      · obtain ⟨k, rfl, k0, k1⟩ := e2
        exact ⟨_, by rw [e1]; exact rk_add, k, rfl, k0, k1⟩
      · obtain ⟨k, rfl, k0, k1⟩ := h
        exact ⟨_, rfl, k, rfl, k0, k1⟩
      · obtain ⟨l, lo, hi, ⟨l', e1, pm⟩, rfl, ⟨k, rfl, k0, k1⟩, rfl⟩ := h
        cases e1
        obtain ⟨qs, h1, rfl⟩ := perm_map dShape pm _ rfl
        have ln : qs.length = 6 := h1.length_eq
        refine ⟨by omega, qs.take (1 + k).toNat, ?_, shapes_sub (shL_ok hz lz) h1 _, fun e => ?_, by rw [List.length_take]; omega⟩
        · rw [cut_to (by omega), List.map_take]
        · have := congrArg List.length e
          rw [List.length_take, List.length_nil] at this
          omega
end

end K02
/-! text K02e -/
set_option Elab.async false
set_option linter.all false
set_option maxRecDepth 100000
set_option maxHeartbeats 4000000
set_option exponentiation.threshold 5000
namespace K02
open PySem PySem.Spec PyProof.Rows L2 Pl PlS

def vaL (z w : Str) : List Str := [Str.ofString "x", Str.ofString "xy", Str.ofString "y", Str.ofString "z", Str.ofString "eightvar", Str.ofString "eightvas", Str.ofString "a", Str.ofString "b", z, w]
theorem vaL_ok {z w : Str} (h : z.length = 5) (l : Low z) (h2 : w.length = 7) (l2 : Low w) : ∀ v ∈ vaL z w, isName v := fun p hp => by
  simp only [vaL, List.mem_cons, List.not_mem_nil, or_false] at hp
  rcases hp with rfl | rfl | rfl | rfl | rfl | rfl | rfl | rfl | rfl | rfl
  · exact nm (by decide +kernel)
  · exact nm (by decide +kernel)
  · exact nm (by decide +kernel)
  · exact nm (by decide +kernel)
  · exact nm (by decide +kernel)
  · exact nm (by decide +kernel)
  · exact nm (by decide +kernel)
  · exact nm (by decide +kernel)
  · exact ⟨by omega, by omega, l⟩
  · exact ⟨by omega, by omega, l2⟩
theorem flat_shape (p : Str × Nat) : flat (dShape p) = true := rfl
theorem flat_strs : ∀ l : List Str, flatL (dStrs l) = true
  | [] => rfl
  | x :: l => flat_strs l
theorem flat_atom (a : Str × List Str) : flat (dAtom a) = true := by
  show (flat (.str a.1) && (flat (.tup (dStrs a.2)) && true)) = true
  have : flat (.tup (dStrs a.2)) = true := flat_strs a.2
  rw [this]
  rfl
theorem strs_mem {d : D} {l : List Str} (h : d ∈ dStrs l) : ∃ z, d = .str z ∧ z ∈ l := by
  obtain ⟨z, hz, rfl⟩ := List.mem_map.mp h
  exact ⟨z, rfl, hz⟩
theorem strs_len (l : List Str) : (dStrs l).length = l.length := List.length_map ..
theorem strs_app (l m : List Str) : dStrs l ++ dStrs m = dStrs (l ++ m) := (List.map_append ..).symm
section
variable {P : Program} {w : World} {K : PySem.W.Frag} {mg : Str → Option Value} {base : Heap} {A : Adr}
theorem ok__law_variables (T : Txt A K mg) : FnOk P w K mg base CX0 3 A.f__law_variables A.fd__law_variables ["source", "most"] (Pr K preVars 181 postVars) := by
  have G__law_draw := ok__law_draw (P := P) (w := w) (base := base) T
  have G__law_shuffle := ok__law_shuffle (P := P) (w := w) (base := base) T
  have G__law_word := ok__law_word (P := P) (w := w) (base := base) T
  refine T.F__law_variables.ok sc__law_variables (fun vs H Q E h => pr_len h fun s c ds hp => ?_) (fun cdv A' outer st H vs Q E hr h => have hw : _ := hr.units; ⟨_, (pss_cons (ps_set (i := 2) sc__law_variables.nd rfl (by first | exact Or.inl rfl | exact Or.inr rfl) (pe_lst (pa_cons pe_str (pa_cons pe_str (pa_cons pe_str (pa_cons pe_str (pa_cons pe_str (pa_cons pe_str (pa_cons pe_str (pa_cons pe_str (pa_cons (pe_call G__law_word (hr.mono (by decide)) (by rfl) T.m__law_word T.F__law_word.kp T.b__law_word .nil pass0 (pa_cons (pv 0) (pa_cons pe_int pa_nil))) (pa_cons (pe_call G__law_word (hr.mono (by decide)) (by rfl) T.m__law_word T.F__law_word.kp T.b__law_word .nil pass0 (pa_cons (pv 0) (pa_cons pe_int pa_nil))) pa_nil))))))))))))
      (pss_one (ps_ret (pe_slice (k_sl K) (pe_call G__law_shuffle (hr.mono (by decide)) (by rfl) T.m__law_shuffle T.F__law_shuffle.kp T.b__law_shuffle .nil pass0 (pa_cons (pv 0) (pa_cons (pv 2) pa_nil))) po_none (po_some (pe_op (k_add K) pe_int (pe_call G__law_draw (hr.mono (by decide)) (by rfl) T.m__law_draw T.F__law_draw.kp T.b__law_draw .nil pass0 (pa_cons (pv 0) (pa_cons (pv 1) pa_nil))))))))), body_ok h fun s c n ds hn hp => ?_⟩)
  · rw [hp]; rfl
  · have hp : ds = [.obj s, .int 5] := hp
    subst hp
    refine s_seq (N := fun ρ' m => m = n + 120 ∧ ∃ z w : Str, ρ' = [.va (.obj s), .va (.int 5), .va (.lst (dStrs (vaL z w)))] ∧ (z.length = 5 ∧ Low z) ∧ w.length = 7 ∧ Low w) (s_set (P := fun d => ∃ z w : Str, d = .lst (dStrs (vaL z w)) ∧ (z.length = 5 ∧ Low z) ∧ w.length = 7 ∧ Low w) (EvE.imp (EvN.ev (en_lst (PL := fun l => ∃ z w : Str, l = dStrs (vaL z w) ∧ (z.length = 5 ∧ Low z) ∧ w.length = 7 ∧ Low w) (EvA.imp (ea_cons ev_str (ea_cons ev_str (ea_cons ev_str (ea_cons ev_str (ea_cons ev_str (ea_cons ev_str (ea_cons ev_str (ea_cons ev_str (ea_cons (ev_word 5 (ev_var rfl) ev_int (by omega) (by decide)) (ea_cons (ev_word 7 (ev_var rfl) ev_int (by omega) (by decide)) ea_nil)))))))))) fun l h => ?_) fun l h => ?_)) fun d h => ?_) rfl fun d h => ?_) fun ρ1 n1 h1 => ?_
    · obtain ⟨_, _, rfl, rfl, _, _, rfl, rfl, _, _, rfl, rfl, _, _, rfl, rfl, _, _, rfl, rfl, _, _, rfl, rfl, _, _, rfl, rfl, _, _, rfl, rfl, _, _, rfl, ⟨z, rfl, hz⟩, _, _, rfl, ⟨w, rfl, hw⟩, rfl⟩ := h
      exact ⟨z, w, rfl, hz, hw⟩
    · obtain ⟨z, w, rfl, _⟩ := h
      exact (by decide : (10 : Nat) ≤ 1000)
    · obtain ⟨l, rfl, z, w, rfl, h1, h2⟩ := h
      exact ⟨z, w, rfl, h1, h2⟩
    · obtain ⟨z, w, rfl, h1, h2⟩ := h
      exact ⟨rfl, z, w, rfl, h1, h2⟩
    · obtain ⟨rfl, z, w, rfl, hz, hw⟩ := h1
      refine s_ret (P := fun d => ∃ l lo hi, (∃ l', D.lst l = .lst l' ∧ l'.Perm (dStrs (vaL z w))) ∧ lo = none ∧ (∃ k : Int, hi = some (1 + k) ∧ 0 ≤ k ∧ k < 5) ∧ d = .lst (Pl.cutD l lo hi)) (ev_slLP (ev_shuf (ev_var rfl) (ev_var rfl) (by omega) (by exact (by decide : (10 : Nat) ≤ 60))) (fun d h => ⟨_, h.choose_spec.1⟩) eo_noneP (eo_someP (ev_opP (P := fun d => ∃ k : Int, d = .int (1 + k) ∧ 0 ≤ k ∧ k < 5) ev_int (ev_draw (ev_var rfl) (ev_var rfl) (by omega) (by decide) (by decide)) fun x y e1 e2 => ?_) fun d h => ?_)) fun d h => ?_
      · obtain ⟨k, rfl, k0, k1⟩ := e2
        exact ⟨_, by rw [e1]; exact rk_add, k, rfl, k0, k1⟩
      · obtain ⟨k, rfl, k0, k1⟩ := h
        exact ⟨_, rfl, k, rfl, k0, k1⟩
      · obtain ⟨l, lo, hi, ⟨l', e1, pm⟩, rfl, ⟨k, rfl, k0, k1⟩, rfl⟩ := h
        cases e1
        obtain ⟨qs, h1, rfl⟩ := perm_map D.str pm _ rfl
        have ln : qs.length = 10 := h1.length_eq
        refine ⟨by omega, qs.take (1 + k).toNat, ?_, fun v hv => vaL_ok hz.1 hz.2 hw.1 hw.2 v (h1.mem_iff.mp (List.mem_of_mem_take hv)), fun e => ?_, by rw [List.length_take]; omega⟩
        · rw [cut_to (by omega)]
          unfold dStrs
          rw [List.map_take]
        · have := congrArg List.length e
          rw [List.length_take, List.length_nil] at this
          omega
end

end K02
/-! text PlE -/
set_option Elab.async false
set_option linter.all false
set_option maxRecDepth 100000
set_option maxHeartbeats 4000000
set_option exponentiation.threshold 5000
/-! PlE: == and != on pure data. -/
namespace Pl
open PySem PySem.Spec PyProof.Rows L2
mutual
def py : D → PyData
  | .non => .none
  | .bl b => .bool b
  | .int i => .int i
  | .str x => .str x
  | .obj _ => .none
  | .tup l => .tuple (pyL l)
  | .lst l => .list (pyL l)
  | .ins _ _ _ => .none
  | .dct _ _ => .none
def pyL : List D → List PyData
  | [] => []
  | d :: l => py d :: pyL l
end
mutual
def plain : D → Bool
  | .obj _ => false
  | .ins _ _ _ => false
  | .dct _ _ => false
  | .tup l => plainL l
  | .lst l => plainL l
  | .non => true | .bl _ => true | .int _ => true | .str _ => true
def plainL : List D → Bool
  | [] => true
  | d :: l => plain d && plainL l
end
section
variable {K : PySem.W.Frag} {M : List Addr} {H : Hp}
mutual
theorem rep_dp : ∀ {d : D} {v : V}, Rep K M H d v → plain d = true → Dp K H v (py d)
  | .non, v, r, _ => by
    have r : v = .non := r
    subst r
    exact .non
  | .bl b, v, r, _ => by
    have r : v = .bl b := r
    subst r
    exact .bl b
  | .int i, v, r, _ => by
    have r : v = .int i := r
    subst r
    exact .int i
  | .str x, v, r, _ => by
    have r : v = .str x := r
    subst r
    exact .str x
  | .obj _, _, _, h => nomatch (show false = true from h)
  | .ins _ _ _, _, _, h => nomatch (show false = true from h)
  | .dct _ _, _, _, h => nomatch (show false = true from h)
  | .tup l, _, r, h => by
    obtain ⟨a, xs, rfl, e, rl⟩ := r
    exact .tup e (rep_dpL rl h)
  | .lst l, _, r, h => by
    obtain ⟨a, xs, rfl, m, e, rl⟩ := r
    exact .lst (SqL.of e) (rep_dpL rl h)
theorem rep_dpL : ∀ {l : List D} {vs : List V}, RepL K M H l vs → plainL l = true → DpAll K H vs (pyL l)
  | [], [], _, _ => .nil
  | d :: l, v :: vs, r, h => by
    have h' : (plain d && plainL l) = true := h
    rw [Bool.and_eq_true] at h'
    exact .cons (rep_dp r.1 h'.1) (rep_dpL r.2 h'.2)
  | [], _ :: _, r, _ => r.elim
  | _ :: _, [], r, _ => r.elim
end
end
def rEqA (K : PySem.W.Frag) : R2 := fun x y H Q => rEqD K x y H Q ∨ rEq x y H Q
def rNeA (K : PySem.W.Frag) : R2 := fun x y H Q => rNeD K x y H Q ∨ rNe x y H Q
section
variable {X : Cx} {K : PySem.W.Frag}
theorem k_eqA (hu : X.A.units + 64 < cLine) (h : X.K = K := by rfl) : OpR X (compareOp .Eq) (rEqA K) := by subst h; exact (op_eqD hu).or op_eq
theorem k_neA (hu : X.A.units + 64 < cLine) (h : X.K = K := by rfl) : OpR X (compareOp .NotEq) (rNeA K) := by subst h; exact (op_neD hu).or op_ne
end
section
variable {K : PySem.W.Frag} {s c : Addr}
theorem rk_eqD {x y : D} (hx : plain x = true) (hy : plain y = true) (sx : SeqAt.shaped (py x) = true) (sy : SeqAt.shaped (py y) = true) : RK K s c (rEqA K) x y (.bl (PyData.eqv (py x) (py y))) := fun M n v w H Q hm ht hs rx ry k =>
  .inl ⟨py x, py y, rep_dp rx hx, rep_dp ry hy, sx, sy, k _ H (Gr.refl _ _) hs rfl⟩
theorem rk_neD {x y : D} (hx : plain x = true) (hy : plain y = true) (sx : SeqAt.shaped (py x) = true) (sy : SeqAt.shaped (py y) = true) : RK K s c (rNeA K) x y (.bl (!PyData.eqv (py x) (py y))) := fun M n v w H Q hm ht hs rx ry k =>
  .inl ⟨py x, py y, rep_dp rx hx, rep_dp ry hy, sx, sy, k _ H (Gr.refl _ _) hs rfl⟩
theorem rk_eqI {i j : Int} : RK K s c (rEqA K) (.int i) (.int j) (.bl (decide (i = j))) := fun M n v w H Q hm ht hs rx ry k => by
  have rx : v = .int i := rx
  have ry : w = .int j := ry
  subst rx; subst ry
  exact .inr ⟨rfl, k _ H (Gr.refl _ _) hs (show V.bl _ = V.bl _ by simp)⟩
theorem rk_neI {i j : Int} : RK K s c (rNeA K) (.int i) (.int j) (.bl (!decide (i = j))) := fun M n v w H Q hm ht hs rx ry k => by
  have rx : v = .int i := rx
  have ry : w = .int j := ry
  subst rx; subst ry
  exact .inr ⟨rfl, k _ H (Gr.refl _ _) hs (show V.bl _ = V.bl _ by simp)⟩
theorem rk_eqS {i j : Str} : RK K s c (rEqA K) (.str i) (.str j) (.bl (decide (i = j))) := fun M n v w H Q hm ht hs rx ry k => by
  have rx : v = .str i := rx
  have ry : w = .str j := ry
  subst rx; subst ry
  exact .inr ⟨rfl, k _ H (Gr.refl _ _) hs (show V.bl _ = V.bl _ by simp)⟩
theorem rk_neS {i j : Str} : RK K s c (rNeA K) (.str i) (.str j) (.bl (!decide (i = j))) := fun M n v w H Q hm ht hs rx ry k => by
  have rx : v = .str i := rx
  have ry : w = .str j := ry
  subst rx; subst ry
  exact .inr ⟨rfl, k _ H (Gr.refl _ _) hs (show V.bl _ = V.bl _ by simp)⟩
end
end Pl
/-! text K02f -/
set_option Elab.async false
set_option linter.all false
set_option maxRecDepth 100000
set_option maxHeartbeats 4000000
set_option exponentiation.threshold 5000
namespace K02
open PySem PySem.Spec PyProof.Rows L2 Pl PlS

theorem ow_no {ρ : List Sl} {i : Nat} {x : Sl} (h : ρ[i]? = some x) (hx : isOw (some x) = false) : isOw ρ[i]? = false := by rw [h]; exact hx
section
variable {P : Program} {w : World} {K : PySem.W.Frag} {mg : Str → Option Value} {base : Heap} {A : Adr}
theorem ok__law_atoms (T : Txt A K mg) : FnOk P w K mg base CX0 3 A.f__law_atoms A.fd__law_atoms ["source", "shapes", "variables", "most"] (Pr K preAtoms 40 postAtoms) := by
  have G__law_draw := ok__law_draw (P := P) (w := w) (base := base) T
  have G__law_pick := ok__law_pick (P := P) (w := w) (base := base) T
  refine T.F__law_atoms.ok sc__law_atoms (fun vs H Q E h => pr_len h fun s c ds hp => ?_) (fun cdv A' outer st H vs Q E hr h => have hw : _ := hr.units; ⟨_, (pss_cons (ps_set (i := 4) sc__law_atoms.nd rfl (by first | exact Or.inl rfl | exact Or.inr rfl) (pe_lst pa_nil))
      (pss_cons (ps_for PassesOwn.never rfl (pi_range1 rfl T.m_range (pa_cons (pe_op (k_add K) pe_int (pe_call G__law_draw (hr.mono (by decide)) (by rfl) T.m__law_draw T.F__law_draw.kp T.b__law_draw .nil pass0 (pa_cons (pv 0) (pa_cons (pv 3) pa_nil)))) pa_nil)) (pg_name (i := 5) sc__law_atoms.nd rfl (by first | exact Or.inl rfl | exact Or.inr rfl)) (pss_cons (ps_asg (pe_call G__law_pick (hr.mono (by decide)) (by rfl) T.m__law_pick T.F__law_pick.kp T.b__law_pick .nil pass0 (pa_cons (pv 0) (pa_cons (pv 1) pa_nil))) (k_pgtup K rfl (pgs_cons (pg_name (i := 6) sc__law_atoms.nd rfl (by first | exact Or.inl rfl | exact Or.inr rfl)) (pgs_cons (pg_name (i := 7) sc__law_atoms.nd rfl (by first | exact Or.inl rfl | exact Or.inr rfl)) pgs_nil))))
      (pss_one (ps_expr (k_bm K PySem.F.plainAttrs_list PySem.F.slot_list_append PySem.F.type_list_append mt_append (pv 4) (pa_cons (pe_tup (pa_cons (pv 6) (pa_cons (pe_callTy (k_tuple K) (by rfl) T.m_tuple (by decide +kernel) (pa_cons (pe_lc (own := [("j", 8)]) rfl sc__law_atoms.nd (pi_range1 rfl T.m_range (pa_cons (pv 7) pa_nil)) (blkOk_by (N := ["source", "shapes", "variables", "most", "found", "k", "table", "size", "j"]) (sc := defScope s__law_atoms) (by decide +kernel)) (fun _ _ _ _ _ => (pg_name (i := 8) sc__law_atoms.nd rfl (by first | exact Or.inl rfl | exact Or.inr rfl))) (fun _ _ _ _ _ => pts_nil) (fun _ _ _ _ _ => (pe_call G__law_pick (hr.mono (by decide)) (by rfl) T.m__law_pick T.F__law_pick.kp T.b__law_pick .nil pass0 (pa_cons (pv 0) (pa_cons (pv 2) pa_nil))))) pa_nil)) pa_nil))) pa_nil))))))
      (pss_cons (ps_if (PW.pt (pw_and (pt_cmpR (k_eqA hw) (pe_call G__law_draw (hr.mono (by decide)) (by rfl) T.m__law_draw T.F__law_draw.kp T.b__law_draw .nil pass0 (pa_cons (pv 0) (pa_cons pe_int pa_nil))) pe_int (nomark _)) (pw_and1 (pt_cmpR op_lt (pe_callB (k_len K) (by rfl) T.m_len (by decide +kernel) (pa_cons (pv 4) pa_nil)) (pv 3) (nomark _))))) (pss_one (ps_expr (k_bm K PySem.F.plainAttrs_list PySem.F.slot_list_append PySem.F.type_list_append mt_append (pv 4) (pa_cons (pe_call G__law_pick (hr.mono (by decide)) (by rfl) T.m__law_pick T.F__law_pick.kp T.b__law_pick .nil pass0 (pa_cons (pv 0) (pa_cons (pv 4) pa_nil))) pa_nil)))) pss_nil)
      (pss_one (ps_ret (pv 4)))))), body_ok h fun s c n ds hn hp => ?_⟩)
  · obtain ⟨ps, vs, most, rfl, _⟩ := hp
    rfl
  · obtain ⟨ps, vs, most, rfl, ok, pne, p3, vne, v5, m1, m6⟩ := hp
    have fin : ∀ (as : List (Str × List Str)) m, atomsOf ps vs as → as ≠ [] → as.length ≤ most → m ≤ n + 40 → (⟨fun _ m => m ≤ n + 40 ∧ postAtoms s c [.obj s, .lst (ps.map dShape), .lst (dStrs vs), .int most] .non, fun d m => m ≤ n + 40 ∧ postAtoms s c [.obj s, .lst (ps.map dShape), .lst (dStrs vs), .int most] d, fun _ _ => False, fun _ _ => False⟩ : Pn).rt (.lst (as.map dAtom)) m :=
      fun as m h1 h2 h3 h4 => ⟨h4, ps, vs, most, rfl, as, rfl, h1, h2, h3⟩
    refine s_seq (N := fun ρ' m => n = m ∧ ρ' = [.va (.obj s), .va (.lst (ps.map dShape)), .va (.lst (dStrs vs)), .va (.int most), .ow [], .no, .no, .no, .no]) (s_own (en_lst ea_nil fun x e => by rw [e]; exact Nat.zero_le _) rfl (by exact (by decide : (4 : Nat) < 9)) fun x e => ⟨rfl, by rw [e]; rfl⟩) fun ρ1 n1 h1 => ?_
    obtain ⟨rfl, rfl⟩ := h1
    refine s_seq (N := fun ρ' m => m ≤ n + 25 ∧ ∃ as y1 y2 y3 y4, ρ' = [.va (.obj s), .va (.lst (ps.map dShape)), .va (.lst (dStrs vs)), .va (.int most), .ow (as.map dAtom), y1, y2, y3, y4] ∧ atomsOf ps vs as ∧ as ≠ [] ∧ as.length ≤ most) ?_ fun ρ1 n1 h1 => ?_
    · refine s_for (n1 := n + 1) (ei_rng1 (PL := fun ds => ∃ j : Nat, ds = dInts 0 j ∧ 1 ≤ j ∧ j ≤ most) (EvA.imp (ea_cons (ev_opP (P := fun d => ∃ k : Int, d = .int (1 + k) ∧ 0 ≤ k ∧ k < most) ev_int (ev_draw (ev_var rfl) (ev_var rfl) (by omega) (by omega) (by omega)) fun x y e1 e2 => ?_) ea_nil) fun l h => h) fun l h => ?_)
        (fun ds i ρ' m => m ≤ n + 1 + 4 * i ∧ ∃ as y1 y2 y3 y4, ρ' = [.va (.obj s), .va (.lst (ps.map dShape)), .va (.lst (dStrs vs)), .va (.int most), .ow (as.map dAtom), y1, y2, y3, y4] ∧ isOw (some y1) = false ∧ isOw (some y2) = false ∧ isOw (some y3) = false ∧ isOw (some y4) = false ∧ atomsOf ps vs as ∧ as.length = i)
        (fun ds e => ⟨Nat.le_refl _, [], .no, .no, .no, .no, rfl, rfl, rfl, rfl, rfl, fun a ha => by simp at ha, rfl⟩) (fun ds e i d ρ' m hi inv => ?_) (fun ds e ρ' m inv => ?_)
      · obtain ⟨k, rfl, k0, k1⟩ := e2
        exact ⟨_, by rw [e1]; exact rk_add, k, rfl, k0, k1⟩
      · obtain ⟨_, _, rfl, ⟨k, rfl, k0, k1⟩, rfl⟩ := h
        exact ⟨1 + k, rfl, by omega, by omega, (1 + k).toNat, rfl, by omega, by omega⟩
      · obtain ⟨hm, as, y1, y2, y3, y4, rfl, o1, o2, o3, o4, ha, hl⟩ := inv
        obtain ⟨j, rfl, j1, j2⟩ := e
        have hi6 : i < 6 := by
          have := (ints_at' hi).1
          omega
        refine ⟨_, _, eg_name (j := 5) o1, ?_⟩
        refine s_seq (N := fun ρ' m' => m' = m + 1 ∧ ∃ p ∈ ps, ρ' = [.va (.obj s), .va (.lst (ps.map dShape)), .va (.lst (dStrs vs)), .va (.int most), .ow (as.map dAtom), .va d, .va (.str p.1), .va (.int p.2), y4])
          (s_asg (P := fun x => x ∈ ps.map dShape) (ev_pick (d := .lst (ps.map dShape)) (ev_var rfl) (ev_var rfl) (by omega) rfl (by intro e; exact pne (List.map_eq_nil_iff.mp e)) (by rw [List.length_map]; omega)) fun x hx => ?_) fun ρ2 m2 h2 => ?_
        · obtain ⟨p, hp, rfl⟩ := List.mem_map.mp hx
          exact ⟨_, _, eg_tup (egs_cons (eg_name (j := 6) o2) (egs_cons (eg_name (j := 7) o3) egs_nil)) rfl, rfl, p, hp, rfl⟩
        · obtain ⟨rfl, p, hp, rfl⟩ := h2
          have p2 := (ok.1 p hp).2
          refine s_append (i := 4) (l := as.map dAtom) (n1 := m + 1 + 3) (P := fun x => ∃ ws : List Str, x = dAtom (p.1, ws) ∧ ws.length = p.2 ∧ ∀ v ∈ ws, v ∈ vs) rfl (EvE.imp (ev_tup (PL := fun l => ∃ ws : List Str, l = [.str p.1, .tup (dStrs ws)] ∧ ws.length = p.2 ∧ ∀ v ∈ ws, v ∈ vs) (EvA.imp (ea_cons (ev_var rfl) (ea_cons (ev_callP (P := fun x => ∃ ws : List Str, x = .tup (dStrs ws) ∧ ws.length = p.2 ∧ ∀ v ∈ ws, v ∈ vs)
            (ea_cons (EvN.ev (en_lc (n2 := m + 1 + 3) (ei_rng1 (PL := fun ds => ds = dInts 0 p.2) (ea_one (ev_var rfl)) fun l e => ⟨p.2, e, by omega, by omega, by rw [Int.toNat_natCast]⟩) (by show (!isOw (some y4) && true) = true; rw [o4]; rfl)
              (fun ds i acc m' => acc.length = i ∧ m' = m + 1 + i ∧ ∃ ws : List Str, acc = dStrs ws ∧ ∀ v ∈ ws, v ∈ vs) (fun ds e => ⟨by rw [e, ints_len]; omega, rfl, rfl, [], rfl, fun v hv => by simp at hv⟩) (fun ds e i d acc m' hi ha inv => ?_) fun ds e acc m' inv => by rw [e, ints_len] at inv; omega)) ea_nil) fun l h => ?_) ea_nil)) fun l h => ?_) fun l h => ?_) fun x h => ?_) (by rw [List.length_map]; omega) fun x h => ?_
          · obtain ⟨rfl, rfl, ws, rfl, hw⟩ := inv
            rw [e] at hi
            obtain ⟨hi, _⟩ := ints_at' hi
            refine ⟨_, _, _, _, eg_name (j := 8) rfl, fun j hj => hj, et_yes, fun _ => ⟨_, _, ev_pick (d := .lst (dStrs vs)) (ev_var rfl) (ev_var rfl) (by omega) rfl (by intro e; exact vne (List.map_eq_nil_iff.mp e)) (by rw [strs_len]; omega), fun y h => ?_⟩, fun z => by cases z⟩
            obtain ⟨v, rfl, hv⟩ := strs_mem h
            refine ⟨by rw [List.length_append]; rfl, by omega, ws ++ [v], by rw [← strs_app]; rfl, fun u hu => ?_⟩
            rcases List.mem_append.mp hu with h | h
            · exact hw u h
            · rw [List.mem_singleton.mp h]; exact hv
          · obtain ⟨_, _, rfl, ⟨l', rfl, ds, rfl, m', h1, h2, ws, rfl, hw⟩, rfl⟩ := h
            rw [ints_len, strs_len] at h1
            exact ⟨_, ck_tuple rfl, ws, rfl, h1, hw⟩
          · obtain ⟨_, _, rfl, rfl, _, _, rfl, ⟨ws, rfl, h1, h2⟩, rfl⟩ := h
            exact ⟨ws, rfl, h1, h2⟩
          · obtain ⟨ws, rfl, _⟩ := h
            exact (by decide : (2 : Nat) ≤ 1000)
          · obtain ⟨l, rfl, ws, rfl, h1, h2⟩ := h
            exact ⟨ws, rfl, h1, h2⟩
          · obtain ⟨ws, rfl, h1, h2⟩ := h
            refine ⟨by omega, as ++ [(p.1, ws)], .va d, .va (.str p.1), .va (.int p.2), y4, ?_, rfl, rfl, rfl, o4, fun a ha' => ?_, by rw [List.length_append, hl]; rfl⟩
            · rw [List.map_append]; rfl
            · rcases List.mem_append.mp ha' with h | h
              · exact ha a h
              · rw [List.mem_singleton.mp h]
                exact ⟨by rw [h1]; exact hp, h2⟩
      · obtain ⟨hm, as, y1, y2, y3, y4, rfl, o1, o2, o3, o4, ha, hl⟩ := inv
        obtain ⟨j, rfl, j1, j2⟩ := e
        rw [ints_len] at hm hl
        exact ⟨by omega, as, y1, y2, y3, y4, rfl, ha, fun e => by rw [e] at hl; simp at hl; omega, by omega⟩
    · obtain ⟨hm, as, y1, y2, y3, y4, rfl, ha, ane, al⟩ := h1
      refine s_seq (N := fun ρ' m => m ≤ n + 40 ∧ ∃ as y1 y2 y3 y4, ρ' = [.va (.obj s), .va (.lst (ps.map dShape)), .va (.lst (dStrs vs)), .va (.int most), .ow (as.map dAtom), y1, y2, y3, y4] ∧ atomsOf ps vs as ∧ as ≠ [] ∧ as.length ≤ most) (s_if (n1 := n1 + 1) (T := fun b => b = true → as.length < most) (EvT.imp (et_and (T := fun _ => True) (U := fun b => b = true → as.length < most) (n2 := n1 + 1) (EvT.imp (et_B (ev_opP (P := fun d => ∃ b, d = .bl b) (ev_draw (ev_var rfl) ev_int (by omega) (by decide) (by decide)) ev_int fun x y e1 e2 => ?_) fun d h => h) fun _ _ => trivial)
        (fun _ => EvT.imp (et_B (ev_opK (ev_thaw (i := 4) rfl (ev_callK (ea_one (ev_var rfl)) (ck_len rfl)) fun d e => by rw [e]; rfl) (ev_var rfl) rk_lt) fun d e => ⟨_, e⟩) fun b h => ?_) (Nat.le_refl _)) fun b h => ?_) (fun hlt => ?_) fun _ => ?_) fun ρ2 m2 h2 => ?_
      · obtain ⟨k, rfl, _⟩ := e1
        exact ⟨_, by rw [e2]; exact rk_eqI, _, rfl⟩
      · intro hb
        subst hb
        have h := D.bl.inj h
        rw [List.length_map] at h
        have := of_decide_eq_true h.symm
        omega
      · rcases h with ⟨_, rfl⟩ | ⟨_, h⟩
        · intro z; cases z
        · exact h
      · refine s_append (i := 4) (l := as.map dAtom) (P := fun x => x ∈ as.map dAtom) rfl (ev_thaw (i := 4) rfl (ev_pick (d := .lst (as.map dAtom)) (ev_var rfl) (ev_var rfl) (by omega) rfl (by intro e; exact ane (List.map_eq_nil_iff.mp e)) (by rw [List.length_map]; omega)) fun d hd => ?_) (by rw [List.length_map]; omega) fun x h => ?_
        · obtain ⟨a, _, rfl⟩ := List.mem_map.mp hd
          exact flat_atom a
        · obtain ⟨a, hma, rfl⟩ := List.mem_map.mp h
          refine ⟨by omega, as ++ [a], y1, y2, y3, y4, by rw [List.map_append]; rfl, fun x hx => ?_, by simp, by rw [List.length_append]; have := hlt rfl; simp; omega⟩
          rcases List.mem_append.mp hx with h | h
          · exact ha x h
          · rw [List.mem_singleton.mp h]; exact ha a hma
      · exact s_next ⟨by omega, as, y1, y2, y3, y4, rfl, ha, ane, al⟩
      · obtain ⟨hm2, as, y1, y2, y3, y4, rfl, ha, ane, al⟩ := h2
        exact s_freeze (i := 4) rfl (s_ret (ev_var rfl) fun d e => by rw [e]; exact fin as _ ha ane al hm2)
end

end K02
/-! text K02g -/
set_option Elab.async false
set_option linter.all false
set_option maxRecDepth 100000
set_option maxHeartbeats 4000000
set_option exponentiation.threshold 5000
namespace K02
open PySem PySem.Spec PyProof.Rows L2 Pl PlS

theorem str_inj : ∀ {a b : List Str}, dStrs a = dStrs b → a = b
  | [], [], _ => rfl
  | x :: a, y :: b, h => by
    have h : D.str x :: dStrs a = D.str y :: dStrs b := h
    injection h with h1 h2
    injection h1 with h1
    rw [h1, str_inj h2]
  | [], _ :: _, h => nomatch h
  | _ :: _, [], h => nomatch h
theorem shape_inj : ∀ {a b : List (Str × Nat)}, a.map dShape = b.map dShape → a = b
  | [], [], _ => rfl
  | x :: a, y :: b, h => by
    have h : dShape x :: a.map dShape = dShape y :: b.map dShape := h
    injection h with h1 h2
    have h1 : D.tup [.str x.1, .int x.2] = D.tup [.str y.1, .int y.2] := h1
    injection h1 with h1
    injection h1 with e1 h1
    injection h1 with e2 _
    injection e1 with e1
    injection e2 with e2
    have e3 : x = y := Prod.ext e1 (by omega)
    rw [e3, shape_inj h2]
  | [], _ :: _, h => nomatch h
  | _ :: _, [], h => nomatch h

theorem insS_len (z : Str) : ∀ l : List Str, (insS z l).length ≤ l.length + 1
  | [] => Nat.le_refl _
  | y :: l => by
    unfold insS
    have := insS_len z l
    split
    · simp
    · split
      · simp
      · simp; omega
theorem usort_len : ∀ l : List Str, (usort l).length ≤ l.length
  | [] => Nat.le_refl _
  | y :: l => by
    have h1 := insS_len y (usort l)
    have h2 := usort_len l
    show (insS y (usort l)).length ≤ l.length + 1
    omega
theorem atom_size {ps : List (Str × Nat)} {vs : List Str} {as : List (Str × List Str)} (ok : shapesOk ps) (h : atomsOf ps vs as) {a : Str × List Str} (ha : a ∈ as) : isName a.1 ∧ 1 ≤ a.2.length ∧ a.2.length ≤ 3 := ok.1 _ (h a ha).1
section
variable {P : Program} {w : World} {K : PySem.W.Frag} {mg : Str → Option Value} {base : Heap} {A : Adr}
theorem ok__law_parts (T : Txt A K mg) : FnOk P w K mg base CX0 4 A.f__law_parts A.fd__law_parts ["source", "shapes", "most", "width"] (Pr K preParts 224 postParts) := by
  have G__law_pick := ok__law_pick (P := P) (w := w) (base := base) T
  have G__law_atoms := ok__law_atoms (P := P) (w := w) (base := base) T
  have G__law_variables := ok__law_variables (P := P) (w := w) (base := base) T
  refine T.F__law_parts.ok sc__law_parts (fun vs H Q E h => pr_len h fun s c ds hp => ?_) (fun cdv A' outer st H vs Q E hr h => have hw : _ := hr.units; ⟨_, (pss_cons (ps_set (i := 4) sc__law_parts.nd rfl (by first | exact Or.inl rfl | exact Or.inr rfl) (pe_call G__law_variables (hr.mono (by decide)) (by rfl) T.m__law_variables T.F__law_variables.kp T.b__law_variables .nil pass0 (pa_cons (pv 0) (pa_cons pe_int pa_nil))))
      (pss_cons (ps_set (i := 5) sc__law_parts.nd rfl (by first | exact Or.inl rfl | exact Or.inr rfl) (pe_call G__law_atoms (hr.mono (by decide)) (by rfl) T.m__law_atoms T.F__law_atoms.kp T.b__law_atoms .nil pass0 (pa_cons (pv 0) (pa_cons (pv 1) (pa_cons (pv 4) (pa_cons (pv 2) pa_nil))))))
      (pss_cons (ps_set (i := 6) sc__law_parts.nd rfl (by first | exact Or.inl rfl | exact Or.inr rfl) (pe_lst pa_nil))
      (pss_cons (ps_for PassesOwn.never rfl (k_pilist K (pv 5)) (k_pgtup K rfl (pgs_cons (pg_name (i := 7) sc__law_parts.nd rfl (by first | exact Or.inl rfl | exact Or.inr rfl)) (pgs_cons (pg_name (i := 8) sc__law_parts.nd rfl (by first | exact Or.inl rfl | exact Or.inr rfl)) pgs_nil))) (pss_one (ps_set (i := 6) sc__law_parts.nd rfl (by first | exact Or.inl rfl | exact Or.inr rfl) (pe_callB (call_sortT rfl) (by rfl) T.m_sorted (by decide +kernel) (pa_cons (pe_callTy (call_make rfl K) (by rfl) T.m_set (by decide +kernel) (pa_cons (pe_op (k_add K) (pv 6) (pe_callTy (k_list K) (by rfl) T.m_list (by decide +kernel) (pa_cons (pv 8) pa_nil))) pa_nil)) pa_nil)))))
      (pss_one (ps_ret (pe_tup (pa_cons (pe_callTy (k_tuple K) (by rfl) T.m_tuple (by decide +kernel) (pa_cons (pe_lc (own := [("k", 9)]) rfl sc__law_parts.nd (pi_range1 rfl T.m_range (pa_cons (pv 3) pa_nil)) (blkOk_by (N := ["source", "shapes", "most", "width", "variables", "atoms", "met", "table", "names", "k"]) (sc := defScope s__law_parts) (by decide +kernel)) (fun _ _ _ _ _ => (pg_name (i := 9) sc__law_parts.nd rfl (by first | exact Or.inl rfl | exact Or.inr rfl))) (fun _ _ _ _ _ => pts_nil) (fun _ _ _ _ _ => (pe_call G__law_pick (hr.mono (by decide)) (by rfl) T.m__law_pick T.F__law_pick.kp T.b__law_pick .nil pass0 (pa_cons (pv 0) (pa_cons (pv 6) pa_nil))))) pa_nil)) (pa_cons (pv 5) pa_nil))))))))), body_ok h fun s c n ds hn hp => ?_⟩)
  · obtain ⟨ps, most, width, rfl, _⟩ := hp
    rfl
  · obtain ⟨ps, most, width, rfl, ok, pne, p3, m1, m6, w3⟩ := hp
    refine s_seq (N := fun ρ' m => m = n + 181 ∧ ∃ vs, ρ' = [.va (.obj s), .va (.lst (ps.map dShape)), .va (.int most), .va (.int width), .va (.lst (dStrs vs)), .no, .no, .no, .no, .no] ∧ (∀ v ∈ vs, isName v) ∧ vs ≠ [] ∧ vs.length ≤ 5)
      (s_set (P := fun d => ∃ l, l = [.obj s, .int 5] ∧ postVars s c l d) (ev_def (ea_c (ev_var rfl) (ea_c ev_int ea_nil)) (by omega) fun x e => e) rfl fun d h => ?_) fun ρ1 n1 h1 => ?_
    · obtain ⟨_, _, vs, rfl, h⟩ := h
      exact ⟨rfl, vs, rfl, h⟩
    obtain ⟨rfl, vs, rfl, hv, vne, v5⟩ := h1
    refine s_seq (N := fun ρ' m => m = n + 221 ∧ ∃ as, ρ' = [.va (.obj s), .va (.lst (ps.map dShape)), .va (.int most), .va (.int width), .va (.lst (dStrs vs)), .va (.lst (as.map dAtom)), .no, .no, .no, .no] ∧ atomsOf ps vs as ∧ as ≠ [] ∧ as.length ≤ most)
      (s_set (P := fun d => ∃ as, d = .lst (as.map dAtom) ∧ atomsOf ps vs as ∧ as ≠ [] ∧ as.length ≤ most) (EvE.imp (ev_def (A := fun l => l = [.obj s, .lst (ps.map dShape), .lst (dStrs vs), .int most]) (ea_c (ev_var rfl) (ea_c (ev_var rfl) (ea_c (ev_var rfl) (ea_c (ev_var rfl) ea_nil)))) (by omega) fun x e => ⟨ps, vs, most, e, ok, pne, p3, vne, v5, m1, m6⟩) fun d h => ?_) rfl fun d h => ?_) fun ρ1 n1 h1 => ?_
    · obtain ⟨_, e, ps', vs', most', e2, as, rfl, h1, h2, h3⟩ := h
      rw [e] at e2
      injection e2 with _ e2
      injection e2 with q1 e2
      injection e2 with q2 e2
      injection e2 with q3 _
      injection q1 with q1
      injection q2 with q2
      injection q3 with q3
      have q3 : most = most' := by omega
      have q2 := str_inj q2
      have q1 := shape_inj q1
      subst q1; subst q2; subst q3
      exact ⟨as, rfl, h1, h2, h3⟩
    · obtain ⟨as, rfl, h⟩ := h
      exact ⟨rfl, as, rfl, h⟩
    obtain ⟨rfl, as, rfl, ha, ane, al⟩ := h1
    refine s_seq (N := fun ρ' m => m = n + 221 ∧ ρ' = [.va (.obj s), .va (.lst (ps.map dShape)), .va (.int most), .va (.int width), .va (.lst (dStrs vs)), .va (.lst (as.map dAtom)), .va (.lst (dStrs [])), .no, .no, .no])
      (s_set (ev_lstE ea_nil (Nat.zero_le _)) rfl fun d e => ⟨rfl, by rw [e]; rfl⟩) fun ρ1 n1 h1 => ?_
    obtain ⟨rfl, rfl⟩ := h1
    refine s_seq (N := fun ρ' m => m = n + 221 ∧ ∃ ms y7 y8, ρ' = [.va (.obj s), .va (.lst (ps.map dShape)), .va (.int most), .va (.int width), .va (.lst (dStrs vs)), .va (.lst (as.map dAtom)), .va (.lst (dStrs ms)), y7, y8, .no] ∧ (∀ z ∈ ms, ∃ a ∈ as, z ∈ a.2) ∧ ms ≠ [] ∧ ms.length ≤ 18)
      (s_for (ei_list (PL := fun ds => ds = as.map dAtom) (ev_var rfl) fun d e => ⟨_, e, rfl⟩)
        (fun ds i ρ' m => m = n + 221 ∧ ∃ ms y7 y8, ρ' = [.va (.obj s), .va (.lst (ps.map dShape)), .va (.int most), .va (.int width), .va (.lst (dStrs vs)), .va (.lst (as.map dAtom)), .va (.lst (dStrs ms)), y7, y8, .no] ∧ isOw (some y7) = false ∧ isOw (some y8) = false ∧ (∀ z ∈ ms, ∃ a ∈ as, z ∈ a.2) ∧ (0 < i → ms ≠ []) ∧ ms.length ≤ 3 * i)
        (fun ds e => ⟨rfl, [], .no, .no, rfl, rfl, rfl, fun z hz => by simp at hz, fun z => absurd z (Nat.lt_irrefl 0), Nat.zero_le _⟩) (fun ds e i d ρ' m hi inv => ?_) fun ds e ρ' m inv => ?_) fun ρ1 n1 h1 => ?_
    · obtain ⟨rfl, ms, y7, y8, rfl, o7, o8, hm, hne, hl⟩ := inv
      rw [e] at hi
      have il := (List.getElem?_eq_some_iff.mp hi).1
      rw [List.length_map] at il
      obtain ⟨a, hma, rfl⟩ := List.mem_map.mp (List.mem_of_getElem? hi)
      obtain ⟨_, a1, a3⟩ := atom_size ok ha hma
      refine ⟨_, _, eg_tup (egs_cons (eg_name (j := 7) o7) (egs_cons (eg_name (j := 8) o8) egs_nil)) rfl, ?_⟩
      refine s_set (P := fun d => d = .lst (dStrs (usort (ms ++ a.2)))) (ev_sortset (ys := ms ++ a.2) (ev_is (ev_opK (ev_var rfl) (ev_callK (ea_one (ev_var rfl)) (ck_list rfl)) (rk_addL (by rw [strs_len, strs_len]; omega))) (by rw [strs_app])) (by rw [List.length_append]; omega)) rfl fun d e => ?_
      have ul := usort_len (ms ++ a.2)
      rw [List.length_append] at ul
      refine ⟨rfl, usort (ms ++ a.2), .va (.str a.1), .va (.tup (dStrs a.2)), by rw [e]; rfl, rfl, rfl, fun z hz => ?_, fun _ z => ?_, by omega⟩
      · rcases List.mem_append.mp ((usort_mem z _).mp hz) with h | h
        · exact hm z h
        · exact ⟨a, hma, h⟩
      · obtain ⟨b, hb⟩ : ∃ b, b ∈ a.2 := List.exists_mem_of_length_pos (by omega)
        have : b ∈ usort (ms ++ a.2) := (usort_mem b _).mpr (List.mem_append_right _ hb)
        rw [z] at this
        simp at this
    · obtain ⟨rfl, ms, y7, y8, rfl, o7, o8, hm, hne, hl⟩ := inv
      rw [e, List.length_map] at hne hl
      exact ⟨rfl, ms, y7, y8, rfl, hm, hne (List.length_pos_iff.mpr ane), by omega⟩
    obtain ⟨rfl, ms, y7, y8, rfl, hm, mne, ml⟩ := h1
    refine s_ret (n1 := n + 224) (P := fun d => ∃ hd : List Str, d = .tup [.tup (dStrs hd), .lst (as.map dAtom)] ∧ hd.length = width ∧ ∀ h ∈ hd, h ∈ ms) (EvE.imp (ev_tup (PL := fun l => ∃ hd : List Str, l = [.tup (dStrs hd), .lst (as.map dAtom)] ∧ hd.length = width ∧ ∀ h ∈ hd, h ∈ ms) (EvA.imp (ea_cons (n1 := n + 224) (ev_callP (P := fun x => ∃ hd : List Str, x = .tup (dStrs hd) ∧ hd.length = width ∧ ∀ h ∈ hd, h ∈ ms)
        (ea_cons (EvN.ev (en_lc (n2 := n + 224) (ei_rng1 (PL := fun ds => ds = dInts 0 width) (ea_one (ev_var rfl)) fun l e => ⟨width, e, by omega, by omega, by rw [Int.toNat_natCast]⟩) rfl
          (fun ds i acc m' => acc.length = i ∧ m' = n + 221 + i ∧ ∃ ws : List Str, acc = dStrs ws ∧ ∀ v ∈ ws, v ∈ ms) (fun ds e => ⟨by rw [e, ints_len]; omega, rfl, rfl, [], rfl, fun v hv => by simp at hv⟩) (fun ds e i d acc m' hi ha inv => ?_) fun ds e acc m' inv => by rw [e, ints_len] at inv; omega)) ea_nil) fun l h => ?_) (ea_one (ev_var rfl))) fun l h => ?_) fun l h => ?_) fun x h => ?_) fun d h => ?_
    · obtain ⟨rfl, rfl, ws, rfl, hw⟩ := inv
      rw [e] at hi
      obtain ⟨hi, _⟩ := ints_at' hi
      refine ⟨_, _, _, _, eg_name (j := 9) rfl, fun j hj => hj, et_yes, fun _ => ⟨_, _, ev_pick (d := .lst (dStrs ms)) (ev_var rfl) (ev_var rfl) (by omega) rfl (by intro e; exact mne (List.map_eq_nil_iff.mp e)) (by rw [strs_len]; omega), fun y h => ?_⟩, fun z => by cases z⟩
      obtain ⟨v, rfl, hv⟩ := strs_mem h
      refine ⟨by rw [List.length_append]; rfl, by omega, ws ++ [v], by rw [← strs_app]; rfl, fun u hu => ?_⟩
      rcases List.mem_append.mp hu with h | h
      · exact hw u h
      · rw [List.mem_singleton.mp h]; exact hv
    · obtain ⟨_, _, rfl, ⟨l', rfl, ds, rfl, m', h1, h2, ws, rfl, hw⟩, rfl⟩ := h
      rw [ints_len, strs_len] at h1
      exact ⟨_, ck_tuple rfl, ws, rfl, h1, hw⟩
    · obtain ⟨_, _, rfl, ⟨ws, rfl, h1, h2⟩, rfl⟩ := h
      exact ⟨ws, rfl, h1, h2⟩
    · obtain ⟨ws, rfl, _⟩ := h
      exact (by decide : (2 : Nat) ≤ 1000)
    · obtain ⟨l, rfl, ws, rfl, h1, h2⟩ := h
      exact ⟨ws, rfl, h1, h2⟩
    · obtain ⟨ws, rfl, h1, h2⟩ := h
      exact ⟨Nat.le_refl _, ps, most, width, rfl, as, ws, vs, rfl, ha, ane, al, hv, v5, h1, fun h hh => hm h (h2 h hh)⟩
end

end K02
/-! text PlN -/
set_option Elab.async false
set_option linter.all false
set_option maxRecDepth 100000
set_option maxHeartbeats 4000000
set_option exponentiation.threshold 5000
/-! PlN: enumerate over a tuple; loops over a list or a tuple, numbered or not. -/
namespace Pl
open PySem PySem.Spec PyProof.Rows L2
/-- a numbered walk over what `B` tells of -/
theorem meets_enum1 {v : Value} {ob : Obj} {Hd : Heap → Prop} (B : Begins v ob Hd) :
    Meets (Builtin.«enumerate.__new__» ⟨[.type "enumerate", v], []⟩) (fun _ R st => Hd st.heap ∧
      R (.ok (.ret (.ref (st.heap.push ob).objs.size))) { st with heap := (st.heap.push ob).push ⟨.type "enumerate", none, .fields #[.none, .bool false, .ref st.heap.objs.size, rawInt 0, .none, .none], #[]⟩ }) :=
  .of_wp fun prog w Ar R st hyp => by
    obtain ⟨hp, gl, di, tk, os⟩ := st
    obtain ⟨g1, g2⟩ := hyp
    have subE := sub_enumerate
    have begin1 : ∀ {Ar' : Around} {Ex : Value → Shared → Prop} {Qv : Value → Shared → Prop}, Qv (.ref hp.objs.size) ⟨hp.push ob, gl, di, tk, os⟩ → wpAny (model prog w) Ar' (pyIter v) Qv Ex ⟨hp, gl, di, tk, os⟩ := fun q => B.iter prog w _ _ ⟨hp, gl, di, tk, os⟩ _ g1 q
    wp_walk using begin1
    refine wpAny_stack_any fun _ => wpAny_pure ?_
    split
    · rename_i cl _ _ _ _ _
      cases (cl == Value.type "enumerate") with
      | false =>
        wp_walk using begin1
        exact ⟨_, rfl, g2⟩
      | true =>
        wp_walk using begin1
        exact ⟨_, rfl, g2⟩
    · wp_walk using begin1
      exact ⟨_, rfl, g2⟩
section
variable {prog : Program} {w : World} {Ar : Around} {Ex : Value → Shared → Prop} {st : Shared}
theorem enum1_begins {v : Value} {ob : Obj} {Hd : Heap → Prop} {Qv : Value → Shared → Prop} (B : Begins v ob Hd) (g1 : Hd st.heap)
    (fin : ∀ h1, IsEnum h1 (st.heap.objs.size + 1) st.heap.objs.size 0 .none → h1.get? st.heap.objs.size = some ob → h1.objs.size = st.heap.objs.size + 2 →
      (∀ b o, st.heap.get? b = some o → h1.get? b = some o) → Qv (.ref (st.heap.objs.size + 1)) { st with heap := h1 }) :
    wpAny (model prog w) Ar (call (.type "enumerate") [v]) Qv Ex st := by
  refine callType_new F.called_enumerate (by decide) (F.typeCall_enumerate_1 _) (F.newCall_enumerate_1 _) (fun x => F.args_object_init_2 x _) F.entry_enumerate_new (meets_enum1 B) ⟨g1, ?_⟩
  have sz : (st.heap.push ob).objs.size = st.heap.objs.size + 1 := Heap.size_push ..
  show _ ∧ _
  rw [sz]
  have ie : IsEnum ((st.heap.push ob).push ⟨.type "enumerate", none, .fields #[.none, .bool false, .ref st.heap.objs.size, rawInt 0, .none, .none], #[]⟩) (st.heap.objs.size + 1) st.heap.objs.size 0 .none := by
    have z := Heap.get?_push_size (st.heap.push ob) (o := ⟨.type "enumerate", none, .fields #[.none, .bool false, .ref st.heap.objs.size, rawInt 0, .none, .none], #[]⟩) rfl
    rw [sz] at z
    exact z
  exact ⟨⟨_, ie, rfl⟩, fin _ ie (Heap.get?_push_of_some _ (Heap.get?_push_size _ B.free)) (by rw [Heap.size_push, sz]) fun b o z => Heap.get?_push_of_some _ (Heap.get?_push_of_some _ z)⟩
end
/-- the tuple at a, each item in a new pair -/
def IteT (K : PySem.W.Frag) (a : Addr) : It :=
  ⟨fun i H => ∃ (xs : List V) (x : V), SqT K H a xs ∧ xs[i]? = some x, fun i H v H' => ∃ T x, v = .ref T ∧ H T = none ∧ H' = upd H T (.tup [.int (i : Nat), x]) ∧ ∀ xs, SqT K H a xs → xs[i]? = some x, fun i H => ∃ xs : List V, SqT K H a xs ∧ xs.length = i⟩
theorem turn_enumT {P : Program} {w : World} {K : PySem.W.Frag} {elts : List Expr} {kk : Nat} {tpos : Pos} (a e it : Addr) (n1 : a ≠ it) (n2 : e ≠ a) (n3 : e ≠ it) :
    Turn P w K (.Tuple elts kk tpos) (IteT K a) [e, it] e (fun i h => (∃ old, IsEnum h e it ((i : Nat) : Int) old) ∧ h.IsTupleIter it a i) where
  mem := List.mem_cons_self
  obj := fun i h st b hb => by
    obtain ⟨⟨old, g⟩, o, ho, hc, hd⟩ := st
    rcases List.mem_cons.mp hb with rfl | hb
    · exact ⟨_, g, fun v q => nomatch q⟩
    · rw [List.mem_singleton.mp hb]
      exact ⟨o, ho, fun v q => by rw [hd] at q; cases q⟩
  keep := fun i h h' st k => by
    obtain ⟨⟨old, g⟩, hi⟩ := st
    exact ⟨⟨old, k e List.mem_cons_self _ g⟩, hi.at fun o q => k it (List.mem_cons_of_mem _ List.mem_cons_self) o q⟩
  item := by
    intro X hP hw hK hc i pins s σ H E I hf st hg
    subst hP hw hK
    obtain ⟨⟨old, ge⟩, gi⟩ := st
    obtain ⟨xs, x, hq, hx⟩ := hg
    obtain ⟨its, rv, p, _⟩ := I.tuple hq
    have p : s.heap.IsTuple a its.toArray := p
    obtain ⟨u, hu, ru⟩ := rv.get hx
    have il : i < its.toArray.size := by
      rw [List.size_toArray]
      exact (List.getElem?_eq_some_iff.mp hu).1
    have szE : e < s.heap.objs.size := Heap.lt_size ge
    have szI : it < s.heap.objs.size := by obtain ⟨_, q, _⟩ := gi; exact Heap.lt_size q
    have hh : X.A.in1.handled = none := I.ok.hd hc
    have ne : e ∉ [it, a] := fun z => by
      rcases List.mem_cons.mp z with z | z
      · exact n3 z
      · exact n2 (List.mem_singleton.mp z)
    refine wpAny_pyNext_enum_itemD (Draws.tuple hh it a n1 its.toArray) ge ⟨gi, p⟩ il n3 ne fun y h1 tk py ho st1 hT sz hk => ?_
    have py : its.toArray[i]? = some y := py
    have ey : y = u := by
      rw [List.getElem?_toArray, hu] at py
      cases py
      rfl
    subst ey
    refine ⟨_, rfl, wpAny_letOwnedTupleGo_enum (s := { s with heap := h1, toks := tk + 1 }) ho fun h2 ge2 sb => ?_⟩
    have hT2 : h2.get? s.heap.objs.size = some { cls := .type "tuple", data := .seq #[.int i tk, y] } := (sb.2 _ (Nat.ne_of_gt szE)).trans hT
    have fresh : ObjOk X.prog X.w (upd H s.heap.objs.size (.tup [.int (i : Nat), x])) h2 s.heap.objs.size (.tup [.int (i : Nat), x]) :=
      ⟨by show 2 ≤ sizeLine; decide, [.int i tk, y], .cons ⟨_, rfl⟩ (.cons ru .nil), _, hT2, rfl, _, rfl⟩
    have J : Inv X pins σ (upd H s.heap.objs.size (.tup [.int (i : Nat), x])) { s with heap := h2, toks := tk + 1 } :=
      I.turnedNew (ch := [e, it]) (fun b ob hb q => (sb.2 b (fun z => hb (by rw [z]; exact List.mem_cons_self))).trans (hk b ob (fun z => hb (by rw [z]; exact List.mem_cons_self)) (fun z => hb (by rw [z]; exact List.mem_cons_of_mem _ List.mem_cons_self)) q)) hf (Nat.le_refl _) fresh
    refine ⟨.ref s.heap.objs.size, _, J, rfl, ⟨_, x, rfl, I.hok.fresh (Nat.le_refl _), rfl, fun ys hy => by rw [I.tuple_inj hy hq]; exact hx⟩, ⟨⟨y, ?_⟩, st1.1.at fun o q => (sb.2 it (Ne.symm n3)).trans q⟩, fun b hb => ?_⟩
    · rw [show ((i + 1 : Nat) : Int) = (i : Int) + 1 from by omega]
      exact ge2
    · have bl : b < s.heap.objs.size := by
        rcases List.mem_cons.mp hb with z | z
        · rw [z]; exact szE
        · rw [List.mem_singleton.mp z]; exact szI
      rw [upd_ne (Nat.ne_of_lt bl)]
      exact (hf b hb).1
  done := by
    intro X hP hw hK hc i pins s σ H E I hf st hg
    subst hP hw hK
    obtain ⟨⟨old, ge⟩, gi⟩ := st
    obtain ⟨xs, hq, hx⟩ := hg
    obtain ⟨its, rv, p, _⟩ := I.tuple hq
    have p : s.heap.IsTuple a its.toArray := p
    obtain ⟨f0, f1, f2, f3, f4, f5⟩ := hf it (List.mem_cons_of_mem _ List.mem_cons_self)
    have hh : X.A.in1.handled = none := I.ok.hd hc
    have sz : its.toArray.size = i := by rw [List.size_toArray, ← rv.length, hx]
    obtain rfl := sz
    exact wpAny_pyNext_enum_endD (Draws.tuple hh it a n1 its.toArray) ge ⟨gi, p⟩ fun h1 eb => ⟨rfl, I.turned (t' := s.toks) (fun b o hb q => eb b o hb q) f0 f1 f3 f4 f5⟩
  self := fun A i s Q E st h => wpAny_pyIter_enum st.1.choose_spec h
def iEnumT (K : PySem.W.Frag) (ta : TA) : TI := fun σ H R => ta σ H fun vs H1 => ∃ a xs, vs = [.ref a] ∧ SqT K H1 a xs ∧ R (IteT K a) H1
section
variable {X : Cx}
theorem pi_enumT {e : Expr} {ta : TA} {p pos tpos : Pos} {elts : List Expr} {kk : Nat} (hg : Gl X "enumerate") (hm : X.mg "enumerate" = none) (ha : PA X [e] ta) (hs : starEach [e] X.env = [(false, eval e X.env)] := by rfl) :
    PI X (.Tuple elts kk tpos) (.Call (.Name "enumerate" p) [e] [] pos) (iEnumT X.K ta) := by
  refine ⟨fun pins s σ H R I h => Call_ (ld_blt I hg hm boot_enumerate (PyProof.Rows.callWith_type1 (thn (ha.run pos pins s σ H _ I h) fun us s1 z => ?_) hs rfl))⟩
  obtain ⟨vs, H1, I1, r1, a, xs, rfl, hq, q⟩ := z
  obtain ⟨u, rfl, ru⟩ := vals1 r1
  cases ru
  obtain ⟨its, rv, p', _⟩ := I1.tuple hq
  have p' : s1.heap.IsTuple a its.toArray := p'
  have al : a < s1.heap.objs.size := by obtain ⟨o, z, _⟩ := p'; exact Heap.lt_size z
  refine enum1_begins (begins_tuple a its.toArray) p' fun h1 ie io hz hk => wpAny_pyIter_enum ie ?_
  have I2 : Inv X pins σ H1 { s1 with heap := h1 } := I1.kept (t' := s1.toks) hk
  refine ⟨s1.heap.objs.size + 1, [s1.heap.objs.size + 1, s1.heap.objs.size], _, _, H1, rfl, I2, turn_enumT a (s1.heap.objs.size + 1) s1.heap.objs.size (Nat.ne_of_lt al) (Nat.ne_of_gt (Nat.lt_succ_of_lt al)) (Nat.succ_ne_self _), ⟨⟨.none, ie⟩, ⟨_, io, rfl, rfl⟩⟩, fun b hb => ?_, q⟩
  have bl : s1.heap.objs.size ≤ b := by
    rcases List.mem_cons.mp hb with z | z
    · rw [z]; exact Nat.le_succ _
    · rw [List.mem_singleton.mp z]; exact Nat.le_refl _
  exact I1.fpOk bl (I1.hok.fresh bl)
/-- either of two walks -/
def iOr (a b : TI) : TI := fun σ H R => a σ H R ∨ b σ H R
theorem pi_or {tg l : Expr} {a b : TI} (ha : PI X tg l a) (hb : PI X tg l b) : PI X tg l (iOr a b) := ⟨fun pins s σ H R I h => h.elim (ha.run pins s σ H R I) (hb.run pins s σ H R I)⟩
end
section
variable {X : Cx} {K : PySem.W.Frag}
theorem k_piseq {tg l : Expr} {tl : TE} (hl : PE X l tl) (h : X.K = K := by rfl) : PI X tg l (iOr (iList K tl) (iTup K tl)) := by subst h; exact pi_or (pi_list hl) (pi_tup hl)
theorem k_pienum {e : Expr} {ta : TA} {p pos tpos : Pos} {elts : List Expr} {kk : Nat} (hg : Gl X "enumerate") (hm : X.mg "enumerate" = none) (ha : PA X [e] ta) (hs : starEach [e] X.env = [(false, eval e X.env)] := by rfl) (h : X.K = K := by rfl) :
    PI X (.Tuple elts kk tpos) (.Call (.Name "enumerate" p) [e] [] pos) (iOr (iEnum K ta) (iEnumT K ta)) := by subst h; exact pi_or (pi_enum hg hm ha hs) (pi_enumT hg hm ha hs)
end
/-! ### on pure data -/
section
variable {K : PySem.W.Frag} {s c : Addr} {ρ : List Sl} {n n1 : Nat} {tl : TE} {P : D → Prop}
theorem ei_or1 {a b : TI} {PL : List D → Prop} (h : EvI K s c a ρ n n1 PL) : EvI K s c (iOr a b) ρ n n1 PL := fun M0 H0 O σ H R I k => .inl (h M0 H0 O σ H R I k)
theorem ei_or2 {a b : TI} {PL : List D → Prop} (h : EvI K s c b ρ n n1 PL) : EvI K s c (iOr a b) ρ n n1 PL := fun M0 H0 O σ H R I k => .inr (h M0 H0 O σ H R I k)
def dEn : Nat → List D → List D
  | _, [] => []
  | k, d :: l => .tup [.int (k : Nat), d] :: dEn (k + 1) l
theorem en_len : ∀ (k : Nat) (l : List D), (dEn k l).length = l.length
  | _, [] => rfl
  | k, _ :: l => by show (dEn (k + 1) l).length + 1 = l.length + 1; rw [en_len]
theorem en_at : ∀ (k : Nat) (l : List D) (i : Nat), (dEn k l)[i]? = (l[i]?).map fun d => .tup [.int ((k + i : Nat) : Int), d]
  | _, [], _ => rfl
  | k, d :: l, 0 => rfl
  | k, d :: l, i + 1 => by
    show (dEn (k + 1) l)[i]? = (l[i]?).map _
    rw [en_at (k + 1) l i, show k + 1 + i = k + (i + 1) from by omega]
theorem en_at' {l : List D} {i : Nat} {e : D} (h : (dEn 0 l)[i]? = some e) : ∃ d, l[i]? = some d ∧ e = .tup [.int (i : Nat), d] := by
  rw [en_at] at h
  cases q : l[i]? with
  | none => rw [q] at h; cases h
  | some d =>
    rw [q] at h
    cases h
    exact ⟨d, rfl, by rw [Nat.zero_add]⟩
theorem ei_enumL {t : TA} {PL : List D → Prop} {PA : List D → Prop} (h : EvA K s c t ρ n n1 PA) (hp : ∀ l, PA l → ∃ ds, l = [.lst ds] ∧ PL (dEn 0 ds)) : EvI K s c (iEnum K t) ρ n n1 PL := fun M0 H0 O σ H R I k =>
  h M0 H0 O σ H _ I fun vs H1 l g hs r p => by
    obtain ⟨ds, rfl, q⟩ := hp l p
    obtain ⟨v, rfl, a, xs, rfl, m, rd, rl⟩ := r.inv1
    have J := I.next g hs
    refine ⟨a, xs, rfl, SqL.of rd, k _ H1 (dEn 0 ds) g hs (fun A H2 g2 hA => ?_) q⟩
    have rd2 : H2 a = some (.lst xs) := g2 a _ (by rw [minus_out fun z => m (List.mem_append_left _ z)]; exact rd) (.inl fun z => m (List.mem_append_right _ z))
    have rl2 : RepL K (A ++ M0) H2 ds xs := ((rl.minus J.lst).parts hA).gr (g2.mono fun b hb => List.mem_append_right _ hb)
    refine ⟨⟨xs, SqL.of rd2, by rw [en_len]; exact Nat.le_of_eq rl.length.symm⟩, fun i e hi => ?_⟩
    obtain ⟨d, hd, rfl⟩ := en_at' hi
    obtain ⟨x, hx, rx⟩ := rl2.at hd
    refine ⟨⟨xs, x, SqL.of rd2, hx⟩, fun y H3 hy => ?_⟩
    obtain ⟨T, x', rfl, hT, rfl, hy⟩ := hy
    have := hy xs (SqL.of rd2)
    rw [hx] at this; cases this
    exact ⟨Gr.new hT, fun _ z => z.new hT, T, _, rfl, .inl (.inl upd_same), rfl, rx.gr (Gr.new hT), trivial⟩
theorem ei_enumT {t : TA} {PL : List D → Prop} {PA : List D → Prop} (h : EvA K s c t ρ n n1 PA) (hp : ∀ l, PA l → ∃ ds, l = [.tup ds] ∧ PL (dEn 0 ds)) : EvI K s c (iEnumT K t) ρ n n1 PL := fun M0 H0 O σ H R I k =>
  h M0 H0 O σ H _ I fun vs H1 l g hs r p => by
    obtain ⟨ds, rfl, q⟩ := hp l p
    obtain ⟨v, rfl, a, xs, rfl, st, rl⟩ := r.inv1
    have J := I.next g hs
    refine ⟨a, xs, rfl, st, k _ H1 (dEn 0 ds) g hs (fun A H2 g2 hA => ?_) q⟩
    have rd2 : SqT K H2 a xs := gr_t g2 (t_minus J.lst st)
    have rl2 : RepL K (A ++ M0) H2 ds xs := ((rl.minus J.lst).parts hA).gr (g2.mono fun b hb => List.mem_append_right _ hb)
    refine ⟨⟨xs, rd2, by rw [en_len]; exact rl.length.symm⟩, fun i e hi => ?_⟩
    obtain ⟨d, hd, rfl⟩ := en_at' hi
    obtain ⟨x, hx, rx⟩ := rl2.at hd
    refine ⟨⟨xs, x, rd2, hx⟩, fun y H3 hy => ?_⟩
    obtain ⟨T, x', rfl, hT, rfl, hy⟩ := hy
    have := hy xs rd2
    rw [hx] at this; cases this
    exact ⟨Gr.new hT, fun _ z => z.new hT, T, _, rfl, .inl (.inl upd_same), rfl, rx.gr (Gr.new hT), trivial⟩
/-- over a list or a tuple -/
theorem ei_seq {l : List D} {d : D} (h : EvE K s c tl ρ n n1 (fun x => x = d)) (e : seqD d = some l) : EvI K s c (iOr (iList K tl) (iTup K tl)) ρ n n1 (fun ds => ds = l) := by
  cases d with
  | lst l' => cases e; exact ei_or1 (ei_list h fun d e => ⟨_, e, rfl⟩)
  | tup l' => cases e; exact ei_or2 (ei_tup h fun d e => ⟨_, e, rfl⟩)
  | _ => cases e
theorem ei_enum {l : List D} {d : D} {t : TA} (h : EvA K s c t ρ n n1 (fun x => x = [d])) (e : seqD d = some l) : EvI K s c (iOr (iEnum K t) (iEnumT K t)) ρ n n1 (fun ds => ds = dEn 0 l) := by
  cases d with
  | lst l' => cases e; exact ei_or1 (ei_enumL h fun d e => ⟨_, e, rfl⟩)
  | tup l' => cases e; exact ei_or2 (ei_enumT h fun d e => ⟨_, e, rfl⟩)
  | _ => cases e
end
end Pl
/-! text PlT -/
set_option Elab.async false
set_option linter.all false
set_option maxRecDepth 100000
set_option maxHeartbeats 4000000
set_option exponentiation.threshold 5000
/-! PlT: tests on pure data: isinstance, and / or as values, chains, tests of texts. -/
namespace Pl
open PySem PySem.Spec PyProof.Rows L2
def rIsiA (K : PySem.W.Frag) : List V → Hp → VK → Prop := fun xs H Q => rIsi K xs H Q ∨ rIsiT K xs H Q
section
variable {X : Cx} {K : PySem.W.Frag}
theorem k_isi (h : X.K = K := by rfl) : CallR X (.builtin "isinstance") (rIsiA K) := by subst h; exact call_isi.or call_isiT
theorem k_bm0 {T id : String} {name : Str} {r : V → List V → Hp → VK → Prop} {o : Expr} {to : TE} {apos cpos : Pos} (pa : PlainAttrs T) (slot : Slot T name id) (hty : typeOf (.builtin id) = pure (.type "method_descriptor")) (hm : MtR X id r) (ho : PE X o to)
    (hbase : attributeBase o name X.env (eval o X.env) = eval o X.env := by rfl) (hline : (apos.endLine == cpos.line) = true := by rfl) (h : X.K = K := by rfl) : PE X (.Call (.Attribute o name apos) [] [] cpos) (tBM0 K T r to) := by
  subst h
  exact pe_bm0 pa slot hty hm ho hbase hline
end
/-- the name of a value's own type -/
def tyD : D → String
  | .non => "NoneType"
  | .bl _ => "bool"
  | .int _ => "int"
  | .str _ => "str"
  | .tup _ => "tuple"
  | .lst _ => "list"
  | .obj _ => ""
  | .ins _ _ _ => ""
  | .dct _ _ => ""
section
variable {K : PySem.W.Frag} {M : List Addr} {H : Hp}
theorem sqT_ty {a : Addr} {xs : List V} (h : SqT K H a xs) : TyX K H (.ref a) (.type "tuple") := by
  rcases h with (h | ⟨o, h⟩) | ⟨o, its, n, h, c, _⟩
  · exact .base (.tup h)
  · exact .fTuple h
  · exact .kTuple h c
/-- plain at the top -/
def topD : D → Bool
  | .obj _ => false
  | .ins _ _ _ => false
  | .dct _ _ => false
  | _ => true
theorem ty_of : ∀ {d : D} {v : V}, Rep K M H d v → topD d = true → TyX K H v (.type (tyD d))
  | .non, v, r, _ => by
    have r : v = .non := r
    subst r
    exact .base .non
  | .bl b, v, r, _ => by
    have r : v = .bl b := r
    subst r
    exact .base (.bl b)
  | .int i, v, r, _ => by
    have r : v = .int i := r
    subst r
    exact .base (.int i)
  | .str x, v, r, _ => by
    have r : v = .str x := r
    subst r
    exact .base (.str x)
  | .obj _, _, _, h => nomatch (show false = true from h)
  | .ins _ _ _, _, _, h => nomatch (show false = true from h)
  | .dct _ _, _, _, h => nomatch (show false = true from h)
  | .tup l, _, r, h => by
    obtain ⟨a, xs, rfl, e, rl⟩ := r
    exact sqT_ty e
  | .lst l, _, r, h => by
    obtain ⟨a, xs, rfl, m, e, rl⟩ := r
    exact .base (.lst e)
end
def isStr : D → Bool | .str _ => true | _ => false
def isTup : D → Bool | .tup _ => true | _ => false
def isLst : D → Bool | .lst _ => true | _ => false
section
variable {K : PySem.W.Frag}
theorem one_str (d : D) (h : topD d = true) : PySem.W.kitOne K (.type (tyD d)) (.type "str") = some (isStr d) := by
  cases d <;> first | rfl | exact nomatch (show false = true from h)
theorem one_tup (d : D) (h : topD d = true) : PySem.W.kitOne K (.type (tyD d)) (.type "tuple") = some (isTup d) := by
  cases d <;> first | rfl | exact nomatch (show false = true from h)
theorem one_lst (d : D) (h : topD d = true) : PySem.W.kitOne K (.type (tyD d)) (.type "list") = some (isLst d) := by
  cases d <;> first | rfl | exact nomatch (show false = true from h)
end
section
variable {K : PySem.W.Frag} {s c : Addr} {ρ : List Sl} {n n1 n2 n3 : Nat} {te ta tb tc to : TE} {tt tu : TT} {P : D → Prop}
theorem ev_isi {d : D} {T : String} {b : Bool} (h : EvE K s c ta ρ n n1 (fun x => x = d)) (hd : topD d = true) (e : PySem.W.kitOne K (.type (tyD d)) (.type T) = some b) :
    EvE K s c (tCB (rIsiA K) (tCons ta (tCons (tC (.ty T)) tNil))) ρ n n1 (fun x => x = .bl b) := fun M0 H0 O σ H Q I k =>
  h M0 H0 O σ H _ I fun v H1 x g s1 r p => by
    subst p
    exact .inl ⟨v, .ty T, _, _, b, rfl, .ty T, ty_of r hd, e, k _ H1 (.bl b) g s1 rfl rfl⟩
theorem ev_isiT {d : D} {T U : String} {b : Bool} (h : EvE K s c ta ρ n n1 (fun x => x = d)) (hd : topD d = true) (e : PySem.W.kitAny K (.type (tyD d)) [.type T, .type U] = some b) :
    EvE K s c (tCB (rIsiA K) (tCons ta (tCons (tTup (tCons (tC (.ty T)) (tCons (tC (.ty U)) tNil))) tNil))) ρ n n1 (fun x => x = .bl b) := fun M0 H0 O σ H Q I k =>
  h M0 H0 O σ H _ I fun v H1 x g s1 r p => by
    subst p
    refine ⟨by show 2 ≤ sizeLine; decide, fun q hq => ?_⟩
    exact .inr ⟨v, q, [.ty T, .ty U], _, _, b, rfl, upd_same, .cons (.ty T) (.cons (.ty U) .nil), ty_of (r.gr (Gr.new hq)) hd, e, k _ _ (.bl b) (g.trans (Gr.new hq)) (s1.new hq) rfl rfl⟩
theorem any_lt (d : D) (h : topD d = true) : PySem.W.kitAny K (.type (tyD d)) [.type "list", .type "tuple"] = some (isLst d || isTup d) := by
  unfold PySem.W.kitAny
  rw [one_lst d h]
  cases d <;> first | rfl | exact nomatch (show false = true from h)
/-- and, or, not of truths -/
theorem ev_andK {a b : Bool} (h : EvE K s c ta ρ n n1 (fun x => x = .bl a)) (hb : a = true → EvE K s c tb ρ n1 n1 (fun x => x = .bl b)) : EvE K s c (tAndV ta tb) ρ n n1 (fun x => x = .bl (a && b)) := fun M0 H0 O σ H Q I k =>
  h M0 H0 O σ H _ I fun v H1 x g s1 r p => by
    subst p
    have r : v = .bl a := r
    subst r
    refine ⟨a, rfl, ?_⟩
    cases a with
    | true => exact iteT (hb rfl M0 H0 O σ H1 Q (I.next g s1) fun u H2 y g2 s2 r2 p2 => k u H2 y (g.trans g2) s2 r2 p2)
    | false => exact iteF (k _ H1 (.bl false) g s1 rfl rfl)
theorem et_K {b : Bool} (h : EvE K s c te ρ n n1 (fun x => x = .bl b)) : EvT K s c (tTest te) ρ n n1 (fun x => x = b) := (et_test h fun d e => ⟨b, e⟩).imp fun x e => D.bl.inj e
theorem et_BK {b : Bool} (h : EvE K s c te ρ n n1 (fun x => x = .bl b)) : EvT K s c (tB te) ρ n n1 (fun x => x = b) := (et_B h fun d e => ⟨b, e⟩).imp fun x e => D.bl.inj e
theorem et_notK {b : Bool} (h : EvT K s c tt ρ n n1 (fun x => x = b)) : EvT K s c (tNot tt) ρ n n1 (fun x => x = !b) := (et_not h).imp fun x e => by rw [← e, Bool.not_not]
theorem et_orK {a b : Bool} (h : EvT K s c tt ρ n n1 (fun x => x = a)) (hu : a = false → EvT K s c tu ρ n1 n1 (fun x => x = b)) : EvT K s c (tOr tt tu) ρ n n1 (fun x => x = (a || b)) := (et_or h (fun e => hu e.symm) (Nat.le_refl _)).imp fun x e => by
  rcases e with ⟨e, rfl⟩ | ⟨e, rfl⟩
  · rw [← e]; rfl
  · rw [← e]; rfl
theorem et_andK {a b : Bool} (h : EvT K s c tt ρ n n1 (fun x => x = a)) (hu : a = true → EvT K s c tu ρ n1 n1 (fun x => x = b)) : EvT K s c (tAnd tt tu) ρ n n1 (fun x => x = (a && b)) := (et_and h (fun e => hu e.symm) (Nat.le_refl _)).imp fun x e => by
  rcases e with ⟨e, rfl⟩ | ⟨e, rfl⟩
  · rw [← e]; rfl
  · rw [← e]; rfl
/-- a if of a known test -/
theorem s_ifK {t u : TS} {DD : Pn} {b : Bool} (h : EvT K s c tt ρ n n1 (fun x => x = b)) (h1 : b = true → EvS K s c t ρ n1 DD) (h2 : b = false → EvS K s c u ρ n1 DD) : EvS K s c (tIfS tt t u) ρ n DD := s_if h (fun e => h1 e.symm) fun e => h2 e.symm
/-- a op b op c -/
theorem ev_chainK {r r' : R2} {x y z : D} {a b : Bool} (ha : EvE K s c ta ρ n n1 (fun d => d = x)) (hb : EvE K s c tb ρ n1 n1 (fun d => d = y)) (hc : EvE K s c tc ρ n1 n1 (fun d => d = z)) (hy : flat y = true) (h1 : RK K s c r x y (.bl a)) (h2 : RK K s c r' y z (.bl b)) :
    EvE K s c (tChain r r' ta tb tc) ρ n n1 (fun d => d = .bl (a && b)) := fun M0 H0 O σ H Q I k =>
  ha M0 H0 O σ H _ I fun v H1 d g1 s1 r1 p1 => hb M0 H0 O σ H1 _ (I.next g1 s1) fun w H2 e g2 s2 r2 p2 => by
    subst p1; subst p2
    have J := (I.next g1 s1).next g2 s2
    refine h1 (O ++ M0) n1 v w H2 _ ⟨List.mem_append_right _ I.ms.1, List.mem_append_right _ I.ms.2⟩ J.thereA s2 (r1.gr (g2.mono I.sub)) r2 fun u H3 g3 s3 r3 => ?_
    have r3 : u = .bl a := r3
    refine ⟨a, r3, ?_⟩
    have J3 := J.next g3 s3
    cases a with
    | true =>
      exact iteT (hc M0 H0 O σ H3 _ J3 fun w' H4 e4 g4 s4 r4 p4 => by
        subst p4
        exact h2 (O ++ M0) n1 w w' H4 _ ⟨List.mem_append_right _ I.ms.1, List.mem_append_right _ I.ms.2⟩ (J3.next g4 s4).thereA s4 (r2.gr ((g3.trans g4).mono I.sub)) r4 fun u' H5 g5 s5 r5 => k u' H5 (.bl b) ((((g1.trans g2).trans g3).trans g4).trans g5) s5 r5 rfl)
    | false => exact iteF (k _ H3 (.bl false) ((g1.trans g2).trans g3) s3 rfl rfl)
/-- a text's own tests -/
def rTxt (f : Str → Bool) : V → List V → Hp → VK → Prop := fun x xs H Q => ∃ a, x = .str a ∧ xs = [] ∧ True ∧ Q (.bl (f a)) H
theorem ev_txt {z : Str} {f : Str → Bool} (h : EvE K s c to ρ n n1 (fun d => d = .str z)) : EvE K s c (tBM0 K "str" (rTxt f) to) ρ n n1 (fun d => d = .bl (f z)) := fun M0 H0 O σ H Q I k =>
  h M0 H0 O σ H _ I fun v H1 d g s1 r p => by
    subst p
    exact ⟨ty_str _ H1 v r, z, r, rfl, trivial, k _ H1 (.bl (f z)) g s1 rfl rfl⟩
end
/-- a to z, by the tests of a text -/
def lowB (q : Nat) : Bool := decide (97 ≤ q) && decide (q ≤ 122)
theorem lows : ∀ q, q < 128 → (Unicode.isAlpha q && (Unicode.isLower q || !(Unicode.isUpper q || Unicode.isTitle q)) && !(Unicode.isUpper q || Unicode.isTitle q)) = lowB q ∧ (lowB q = true → Unicode.isLower q = true) := by decide +kernel
theorem txt_low {z : Str} (h : z.length ≠ 0) : (Txt.isascii z && (Txt.isalpha z && Txt.islower z)) = z.cps.toList.all lowB := by
  rw [Bool.eq_iff_iff]
  unfold Txt.isascii Txt.isalpha Txt.islower
  simp only [Bool.and_eq_true, ← Array.all_toList, ← Array.any_toList, List.all_eq_true, List.any_eq_true, decide_eq_true_eq, Bool.not_eq_true', List.any_eq_false]
  constructor
  · rintro ⟨h1, ⟨_, h2⟩, _, h4⟩ q hq
    have := (lows q (h1 q hq)).1
    rw [← this, h2 q hq]
    have h5 := h4 q hq
    have h6 : (Unicode.isUpper q || Unicode.isTitle q) = false := by simpa using h5
    rw [h6]
    simp
  · intro hl
    have f : ∀ q ∈ z.cps.toList, q < 128 := fun q hq => by
      have := hl q hq
      unfold lowB at this
      simp only [Bool.and_eq_true, decide_eq_true_eq] at this
      omega
    have g : ∀ q ∈ z.cps.toList, Unicode.isAlpha q = true ∧ (Unicode.isUpper q || Unicode.isTitle q) = false := fun q hq => by
      have := (lows q (f q hq)).1
      rw [hl q hq] at this
      simp only [Bool.and_eq_true, Bool.not_eq_true'] at this
      exact ⟨this.1.1, this.2⟩
    refine ⟨f, ⟨Nat.pos_of_ne_zero h, fun q hq => (g q hq).1⟩, ?_, fun q hq => by rw [(g q hq).2]; simp⟩
    obtain ⟨q, hq⟩ : ∃ q, q ∈ z.cps.toList := List.exists_mem_of_length_pos (by rw [Array.length_toList]; exact Nat.pos_of_ne_zero h)
    exact ⟨q, hq, (lows q (f q hq)).2 (hl q hq)⟩
end Pl
/-! text PlW -/
set_option Elab.async false
set_option linter.all false
set_option maxRecDepth 100000
set_option maxHeartbeats 4000000
set_option exponentiation.threshold 5000
/-! PlW: comprehensions and loops whose every turn is known. -/
namespace Pl
open PySem PySem.Spec PyProof.Rows L2
section
variable {X : Cx}
theorem mt_ascii : MtR X "str.isascii" (rTxt Txt.isascii) := mt_isascii
theorem mt_alpha : MtR X "str.isalpha" (rTxt Txt.isalpha) := mt_isalpha
theorem mt_lower : MtR X "str.islower" (rTxt Txt.islower) := mt_islower
end
section
variable {K : PySem.W.Frag} {s c : Addr} {ρ : List Sl} {n n1 n2 n3 : Nat} {te ta tb tc to : TE} {tt tu : TT} {P : D → Prop}
theorem ck_all {bs : List Bool} : CK K s c (rAll K) [.lst (bs.map .bl)] (.bl (bs.all id)) := fun M n vs H Q hm ht hs r k => by
  obtain ⟨v, rfl, a, xs, rfl, m, e, rl⟩ := r.inv1
  have bls : ∀ (bs : List Bool) (xs : List V), RepL K M H (bs.map .bl) xs → xs = bs.map V.bl := fun bs => by
    induction bs with
    | nil => intro xs h; cases xs with | nil => rfl | cons _ _ => exact h.elim
    | cons b bs ih =>
      intro xs h
      cases xs with
      | nil => exact h.elim
      | cons x xs =>
        have h1 : x = .bl b := h.1
        rw [h1, ih xs h.2]
        rfl
  rw [bls bs xs rl] at e
  exact ⟨a, bs, rfl, SqL.of e, k _ H (Gr.refl _ _) hs rfl⟩
/-- a comprehension whose items, test and element are known -/
theorem en_lcK {wi : TI} {g : TG} {vs : List Nat} {L : List D} (f : D → D) (p : D → Bool) (h : EvI K s c wi ρ n n1 (fun l => l = L)) (hv : noOws ρ vs = true) (hl : L.length ≤ 1000)
    (hs : ∀ (i : Nat) d, L[i]? = some d → ∃ ρ2 js, EvG K s c g d (wipeS ρ vs) ρ2 js ∧ (∀ j ∈ js, j ∈ vs) ∧ EvT K s c tt ρ2 n1 n1 (fun b => b = p d) ∧ (p d = true → EvE K s c te ρ2 n1 n1 (fun x => x = f d))) :
    EvN K s c (tLc wi g tt te vs) ρ n n1 (fun l => l = (L.filter p).map f) := fun M0 H0 O σ H Q I k =>
  en_lc (n2 := n1) h hv (fun ds i acc m => m = n1 ∧ acc = ((L.take i).filter p).map f) (fun ds e => ⟨by rw [e]; exact hl, rfl, by rw [List.take_zero]; rfl⟩) (fun ds e i d acc m hi ha inv => by
      obtain ⟨rfl, rfl⟩ := inv
      rw [e] at hi
      obtain ⟨ρ2, js, h1, h2, h3, h4⟩ := hs i d hi
      refine ⟨ρ2, js, m, _, h1, h2, h3, fun hp => ⟨m, _, h4 hp.symm, fun y hy => ⟨rfl, ?_⟩⟩, fun hp => ⟨rfl, ?_⟩⟩
      · rw [List.take_add_one, hi, List.filter_append, List.map_append, hy]
        show _ = _ ++ (List.filter p [d]).map f
        rw [List.filter_cons_of_pos hp.symm]
        rfl
      · rw [List.take_add_one, hi, List.filter_append, List.map_append]
        show _ = _ ++ (List.filter p [d]).map f
        rw [List.filter_cons_of_neg (by rw [← hp]; exact Bool.false_ne_true)]
        simp) (fun ds e acc m inv => Nat.le_of_eq inv.1) M0 H0 O σ H Q I fun p' H' ds xs g1 s1 h0 h1 r z => k p' H' ds xs g1 s1 h0 h1 r (by
      obtain ⟨l, rfl, m, rfl, e⟩ := z
      rw [e, List.take_length])
theorem en_mapK {wi : TI} {g : TG} {vs : List Nat} {L : List D} (f : D → D) (h : EvI K s c wi ρ n n1 (fun l => l = L)) (hv : noOws ρ vs = true) (hl : L.length ≤ 1000)
    (hs : ∀ (i : Nat) d, L[i]? = some d → ∃ ρ2 js, EvG K s c g d (wipeS ρ vs) ρ2 js ∧ (∀ j ∈ js, j ∈ vs) ∧ EvE K s c te ρ2 n1 n1 (fun x => x = f d)) :
    EvN K s c (tLc wi g tYes te vs) ρ n n1 (fun l => l = L.map f) := fun M0 H0 O σ H Q I k =>
  en_lcK f (fun _ => true) h hv hl (fun i d hi => by
    obtain ⟨ρ2, js, h1, h2, h3⟩ := hs i d hi
    exact ⟨ρ2, js, h1, h2, et_yes, fun _ => h3⟩) M0 H0 O σ H Q I fun p' H' ds xs g1 s1 h0 h1 r z => k p' H' ds xs g1 s1 h0 h1 r (by rw [z, List.filter_eq_self.mpr fun _ _ => rfl])
/-- a new list, known, as data -/
theorem EvN.evK {L : List D} (h : EvN K s c te ρ n n1 (fun l => l = L)) : EvE K s c te ρ n n1 (fun d => d = .lst L) := h.ev.imp fun d e => by
  obtain ⟨l, rfl, rfl⟩ := e
  rfl
/-- a call of a def that draws nothing and answers known data -/
theorem ev_defK {pre : Addr → Addr → List D → Prop} {post : Addr → Addr → List D → D → Prop} {t : TA} {L : List D} {z : D} (ha : EvA K s c t ρ n n1 (fun l => l = L)) (hn : n1 ≤ 2 ^ 40) (hp : pre s c L) (hz : ∀ d, post s c L d → d = z) :
    EvE K s c (tCall (Pr K pre 0 post) [] E0 t) ρ n n1 (fun d => d = z) := (ev_def (k := 0) ha hn fun l e => by rw [e]; exact hp).imp fun d h => by
  obtain ⟨l, rfl, h⟩ := h
  exact hz d h
end
end Pl
/-! text K02h -/
set_option Elab.async false
set_option linter.all false
set_option maxRecDepth 100000
set_option maxHeartbeats 4000000
set_option exponentiation.threshold 5000
namespace K02
open PySem PySem.Spec PyProof.Rows L2 Pl PlS

/-- data of moderate size -/
def len1000 (l : List D) : Bool := decide (l.length ≤ 1000)
mutual
def tame : D → Bool
  | .obj _ => false
  | .ins _ _ _ => false
  | .dct _ _ => false
  | .str z => decide (z.length ≤ 5000) && PyData.strOk z
  | .tup l => len1000 l && tameL l
  | .lst l => len1000 l && tameL l
  | .non => true | .bl _ => true | .int _ => true
def tameL : List D → Bool
  | [] => true
  | d :: l => tame d && tameL l
end
theorem tame_mem : ∀ {l : List D}, tameL l = true → ∀ d ∈ l, tame d = true
  | [], _, _, hd => by simp at hd
  | x :: l, h, d, hd => by
    have h' : (tame x && tameL l) = true := h
    rw [Bool.and_eq_true] at h'
    rcases List.mem_cons.mp hd with rfl | hd
    · exact h'.1
    · exact tame_mem h'.2 d hd
theorem tame_top {d : D} (h : tame d = true) : topD d = true := by
  cases d <;> first | rfl | exact nomatch (show false = true from h)
theorem tame_tup {l : List D} (h : tame (.tup l) = true) : l.length ≤ 1000 ∧ tameL l = true := by
  have h' : (len1000 l && tameL l) = true := h
  rw [Bool.and_eq_true] at h'
  exact ⟨of_decide_eq_true h'.1, h'.2⟩
theorem tame_str {z : Str} (h : tame (.str z) = true) : z.length ≤ 5000 ∧ PyData.strOk z = true := by
  have h' : (decide (z.length ≤ 5000) && PyData.strOk z) = true := h
  rw [Bool.and_eq_true] at h'
  exact ⟨of_decide_eq_true h'.1, h'.2⟩
theorem tame_lst {l : List D} (h : tame (.lst l) = true) : l.length ≤ 1000 ∧ tameL l = true := tame_tup h
theorem small_str {z : Str} (h : z.length ≤ 5000) : z.length ≤ sizeLine := Nat.le_trans h (by decide)
def nameB (d : D) : Bool := match d with
  | .str z => decide ((1 : Int) ≤ (z.length : Int)) && decide ((z.length : Int) ≤ 8) && z.cps.toList.all lowB
  | _ => false
def namesB (lo hi : Int) (d : D) : Bool := match d with
  | .tup l => decide (lo ≤ (l.length : Int)) && decide ((l.length : Int) ≤ hi) && l.all nameB
  | _ => false
def atomB (d : D) : Bool := match d with
  | .tup [t, v] => nameB t && namesB 1 3 v
  | _ => false
def preName (s c : Addr) (ds : List D) : Prop := ∃ x, ds = [x] ∧ tame x = true
def postName (s c : Addr) (ds : List D) (z : D) : Prop := ∃ x, ds = [x] ∧ z = .bl (nameB x)
def preNames (s c : Addr) (ds : List D) : Prop := ∃ x, ∃ lo hi : Int, ds = [x, .int lo, .int hi] ∧ tame x = true
def postNames (s c : Addr) (ds : List D) (z : D) : Prop := ∃ x, ∃ lo hi : Int, ds = [x, .int lo, .int hi] ∧ z = .bl (namesB lo hi x)
def preIsAtom (s c : Addr) (ds : List D) : Prop := ∃ x, ds = [x] ∧ tame x = true
def postIsAtom (s c : Addr) (ds : List D) (z : D) : Prop := ∃ x, ds = [x] ∧ z = .bl (atomB x)
section
variable {P : Program} {w : World} {K : PySem.W.Frag} {mg : Str → Option Value} {base : Heap} {A : Adr}
theorem ok_is_name (T : Txt A K mg) : FnOk P w K mg base CX0 1 A.f_is_name A.fd_is_name ["value"] (Pr K preName 0 postName) := by
  refine T.F_is_name.ok sc_is_name (fun vs H Q E h => pr_len h fun s c ds hp => ?_) (fun cdv A' outer st H vs Q E hr h => have hw : _ := hr.units; ⟨_, (pss_cons (ps_if (PW.pt (pw_or (pt_not (pt_val (pe_callB (k_isi (K := K)) (by rfl) T.m_isinstance (by decide +kernel) (pa_cons (pv 0) (pa_cons (pe_bltn (v := .ty "str") (u := .type "str") (by rfl) T.m_str (by decide +kernel) rfl) pa_nil))))) (pw_or1 (pt_not (pt_chain op_le op_le pe_int (pe_callB (k_len K) (by rfl) T.m_len (by decide +kernel) (pa_cons (pv 0) pa_nil)) (pe_glob (v := .int 8) rfl T.m_LONGEST_NAME.choose_spec ⟨_, rfl⟩)))))) (pss_one (ps_ret pe_bl)) pss_nil)
      (pss_one (ps_ret (pe_and (k_bm0 (K := K) PySem.F.plainAttrs_str PySem.F.slot_str_isascii PySem.F.type_str_isascii mt_ascii (pv 0)) (pe_and (k_bm0 (K := K) PySem.F.plainAttrs_str PySem.F.slot_str_isalpha PySem.F.type_str_isalpha mt_alpha (pv 0)) (pe_one (k_bm0 (K := K) PySem.F.plainAttrs_str PySem.F.slot_str_islower PySem.F.type_str_islower mt_lower (pv 0)))))))), body_ok h fun s c n ds hn hp => ?_⟩)
  · obtain ⟨x, rfl, _⟩ := hp
    rfl
  · obtain ⟨x, rfl, tx⟩ := hp
    have fin : ∀ b, b = nameB x → (⟨fun _ m => m ≤ n + 0 ∧ postName s c [x] .non, fun d m => m ≤ n + 0 ∧ postName s c [x] d, fun _ _ => False, fun _ _ => False⟩ : Pn).rt (.bl b) n := fun b e => ⟨Nat.le_refl _, x, rfl, by rw [e]⟩
    cases x with
    | str z =>
      have lz : z.length ≤ 5000 := (tame_str tx).1
      have nb : nameB (.str z) = (decide ((1 : Int) ≤ (z.length : Int)) && decide ((z.length : Int) ≤ 8) && z.cps.toList.all lowB) := rfl
      refine s_seq (N := fun ρ' m => n = m ∧ ρ' = [.va (.str z)] ∧ (1 : Int) ≤ z.length ∧ (z.length : Int) ≤ 8) (s_ifK (b := !true || !(decide ((1 : Int) ≤ (z.length : Int)) && decide ((z.length : Int) ≤ 8))) (et_orK (et_notK (et_BK (ev_isi (ev_var rfl) rfl (one_str _ rfl)))) fun _ => et_notK (et_K (ev_chainK ev_int (ev_callK (ea_one (ev_var rfl)) (ck_lenS (small_str lz))) ev_int rfl rk_le rk_le))) (fun e => ?_) fun e => ?_) fun ρ1 n1 h1 => ?_
      · refine s_ret ev_bl fun d hd => ?_
        rw [hd]
        refine fin _ ?_
        show false = _
        have e' : (!(decide ((1 : Int) ≤ (z.length : Int)) && decide ((z.length : Int) ≤ 8))) = true := e
        rw [Bool.not_eq_true'] at e'
        rw [nb, e']
        rfl
      · refine s_next ⟨rfl, rfl, ?_⟩
        have e' : (!(decide ((1 : Int) ≤ (z.length : Int)) && decide ((z.length : Int) ≤ 8))) = false := e
        rw [Bool.not_eq_false', Bool.and_eq_true, decide_eq_true_eq, decide_eq_true_eq] at e'
        exact e'
      · obtain ⟨rfl, rfl, h1, h2⟩ := h1
        refine s_ret (ev_andK (b := Txt.isalpha z && Txt.islower z) (ev_txt (ev_var rfl)) fun _ => ev_andK (ev_txt (ev_var rfl)) fun _ => ev_txt (ev_var rfl)) fun d hd => ?_
        rw [hd]
        refine fin _ ?_
        rw [txt_low (by omega)]
        rw [nb, decide_eq_true h1, decide_eq_true h2]
        rfl
    | _ =>
      refine s_seq (N := fun _ _ => False) (s_ifK (b := !false || false) (et_orK (et_notK (et_BK (ev_isi (ev_var rfl) (tame_top tx) (one_str _ (tame_top tx))))) fun e => by cases e) (fun e => s_ret ev_bl fun d hd => by rw [hd]; exact fin _ rfl) fun e => by cases e) fun ρ1 n1 h1 => h1.elim
theorem ok_is_tuple_of_names (T : Txt A K mg) : FnOk P w K mg base CX0 2 A.f_is_tuple_of_names A.fd_is_tuple_of_names ["value", "least", "most"] (Pr K preNames 0 postNames) := by
  have G_is_name := ok_is_name (P := P) (w := w) (base := base) T
  refine T.F_is_tuple_of_names.ok sc_is_tuple_of_names (fun vs H Q E h => pr_len h fun s c ds hp => ?_) (fun cdv A' outer st H vs Q E hr h => have hw : _ := hr.units; ⟨_, (pss_cons (ps_if (PW.pt (pw_or (pt_not (pt_val (pe_callB (k_isi (K := K)) (by rfl) T.m_isinstance (by decide +kernel) (pa_cons (pv 0) (pa_cons (pe_bltn (v := .ty "tuple") (u := .type "tuple") (by rfl) T.m_tuple (by decide +kernel) rfl) pa_nil))))) (pw_or1 (pt_not (pt_chain op_le op_le (pv 1) (pe_callB (k_len K) (by rfl) T.m_len (by decide +kernel) (pa_cons (pv 0) pa_nil)) (pv 2)))))) (pss_one (ps_ret pe_bl)) pss_nil)
      (pss_one (ps_ret (pe_callB (k_all K rfl) (by rfl) T.m_all (by decide +kernel) (pa_cons (pe_lc (own := [("entry", 3)]) rfl sc_is_tuple_of_names.nd (k_pitup K (pv 0)) (blkOk_by (N := ["value", "least", "most", "entry"]) (sc := defScope s_is_tuple_of_names) (by decide +kernel)) (fun _ _ _ _ _ => (pg_name (i := 3) sc_is_tuple_of_names.nd rfl (by first | exact Or.inl rfl | exact Or.inr rfl))) (fun _ _ _ _ _ => pts_nil) (fun _ _ _ _ _ => (pe_call G_is_name (hr.mono (by decide)) (by rfl) T.m_is_name T.F_is_name.kp T.b_is_name .nil pass0 (pa_cons (pv 3) pa_nil)))) pa_nil))))), body_ok h fun s c n ds hn hp => ?_⟩)
  · obtain ⟨x, lo, hi, rfl, _⟩ := hp
    rfl
  · obtain ⟨x, lo, hi, rfl, tx⟩ := hp
    have fin : ∀ b, b = namesB lo hi x → (⟨fun _ m => m ≤ n + 0 ∧ postNames s c [x, .int lo, .int hi] .non, fun d m => m ≤ n + 0 ∧ postNames s c [x, .int lo, .int hi] d, fun _ _ => False, fun _ _ => False⟩ : Pn).rt (.bl b) n := fun b e => ⟨Nat.le_refl _, x, lo, hi, rfl, by rw [e]⟩
    cases x with
    | tup l =>
      obtain ⟨ll, tl⟩ := tame_tup tx
      have nb : namesB lo hi (.tup l) = (decide (lo ≤ (l.length : Int)) && decide ((l.length : Int) ≤ hi) && l.all nameB) := rfl
      refine s_seq (N := fun ρ' m => n = m ∧ ρ' = [.va (.tup l), .va (.int lo), .va (.int hi), .no] ∧ lo ≤ (l.length : Int) ∧ (l.length : Int) ≤ hi) (s_ifK (b := !true || !(decide (lo ≤ (l.length : Int)) && decide ((l.length : Int) ≤ hi))) (et_orK (et_notK (et_BK (ev_isi (ev_var rfl) rfl (one_tup _ rfl)))) fun _ => et_notK (et_K (ev_chainK (ev_var rfl) (ev_callK (ea_one (ev_var rfl)) (ck_len rfl)) (ev_var rfl) rfl rk_le rk_le))) (fun e => ?_) fun e => ?_) fun ρ1 n1 h1 => ?_
      · refine s_ret ev_bl fun d hd => ?_
        rw [hd]
        refine fin _ ?_
        have e' : (!(decide (lo ≤ (l.length : Int)) && decide ((l.length : Int) ≤ hi))) = true := e
        rw [Bool.not_eq_true'] at e'
        rw [nb, e']
        rfl
      · refine s_next ⟨rfl, rfl, ?_⟩
        have e' : (!(decide (lo ≤ (l.length : Int)) && decide ((l.length : Int) ≤ hi))) = false := e
        rw [Bool.not_eq_false', Bool.and_eq_true, decide_eq_true_eq, decide_eq_true_eq] at e'
        exact e'
      · obtain ⟨rfl, rfl, h1, h2⟩ := h1
        refine s_ret (ev_callK (l := [.lst (l.map fun d => .bl (nameB d))]) (z := .bl (l.all nameB)) (ea_one (EvN.evK (en_mapK _ (ei_tup (ev_var rfl) fun d e => ⟨_, e, rfl⟩) rfl ll fun i d hi => ⟨_, _, eg_name (j := 3) rfl, fun j hj => hj, ev_defK (ea_one (ev_var rfl)) (by omega) ⟨d, rfl, tame_mem tl d (List.mem_of_getElem? hi)⟩ fun d' h => ?_⟩))) ?_) fun d hd => ?_
        · obtain ⟨x, e, rfl⟩ := h
          cases e
          rfl
        · have := ck_all (K := K) (s := s) (c := c) (bs := l.map nameB)
          rw [List.map_map, List.all_map] at this
          exact this
        · rw [hd]
          refine fin _ ?_
          rw [nb, decide_eq_true h1, decide_eq_true h2]
          rfl
    | _ =>
      refine s_seq (N := fun _ _ => False) (s_ifK (b := !false || false) (et_orK (et_notK (et_BK (ev_isi (ev_var rfl) (tame_top tx) (one_tup _ (tame_top tx))))) fun e => by cases e) (fun e => s_ret ev_bl fun d hd => by rw [hd]; exact fin _ rfl) fun e => by cases e) fun ρ1 n1 h1 => h1.elim
end

end K02
/-! text K02i -/
set_option Elab.async false
set_option linter.all false
set_option maxRecDepth 100000
set_option maxHeartbeats 4000000
set_option exponentiation.threshold 5000
namespace K02
open PySem PySem.Spec PyProof.Rows L2 Pl PlS

theorem canLay_of : ∀ {d : D}, tame d = true → (py d).canLay0 = true := by
  intro d
  exact (D.rec (motive_1 := fun d => tame d = true → (py d).canLay0 = true) (motive_2 := fun l => tameL l = true → PyData.canLayAll0 (pyL l) = true)
    (fun _ => rfl) (fun _ _ => rfl) (fun _ _ => rfl) (fun z h => (tame_str h).2) (fun _ h => nomatch (show false = true from h)) (fun l ih h => ih (tame_tup h).2) (fun l ih h => ih (tame_lst h).2) (fun _ _ _ _ h => nomatch (show false = true from h)) (fun _ _ _ h => nomatch (show false = true from h))
    (fun _ => rfl) (fun d l h1 h2 h => by
      have h' : (tame d && tameL l) = true := h
      rw [Bool.and_eq_true] at h'
      show ((py d).canLay0 && PyData.canLayAll0 (pyL l)) = true
      rw [h1 h'.1, h2 h'.2]
      rfl) d)
theorem plain_of : ∀ {d : D}, tame d = true → plain d = true := by
  intro d
  exact (D.rec (motive_1 := fun d => tame d = true → plain d = true) (motive_2 := fun l => tameL l = true → plainL l = true)
    (fun _ => rfl) (fun _ _ => rfl) (fun _ _ => rfl) (fun z h => rfl) (fun _ h => nomatch (show false = true from h)) (fun l ih h => ih (tame_tup h).2) (fun l ih h => ih (tame_lst h).2) (fun _ _ _ _ h => nomatch (show false = true from h)) (fun _ _ _ h => nomatch (show false = true from h))
    (fun _ => rfl) (fun d l h1 h2 h => by
      have h' : (tame d && tameL l) = true := h
      rw [Bool.and_eq_true] at h'
      show (plain d && plainL l) = true
      rw [h1 h'.1, h2 h'.2]
      rfl) d)
def dp (d : D) : Nat := (py d).depth
theorem depth_mem : ∀ {l : List D}, ∀ d ∈ l, dp d ≤ PyData.depthAll (pyL l)
  | [], d, h => by simp at h
  | x :: l, d, h => by
    show _ ≤ max (dp x) (PyData.depthAll (pyL l))
    rcases List.mem_cons.mp h with rfl | h
    · exact Nat.le_max_left _ _
    · exact Nat.le_trans (depth_mem d h) (Nat.le_max_right _ _)
theorem depth_all {k : Nat} : ∀ {l : List D}, (∀ d ∈ l, dp d ≤ k) → PyData.depthAll (pyL l) ≤ k
  | [], _ => Nat.zero_le _
  | x :: l, h => Nat.max_le.mpr ⟨h x List.mem_cons_self, depth_all fun d hd => h d (List.mem_cons_of_mem _ hd)⟩
theorem shaped_of {d : D} (h : tame d = true) (k : dp d ≤ 64) : SeqAt.shaped (py d) = true := by
  unfold SeqAt.shaped
  rw [canLay_of h, decide_eq_true (show (py d).depth ≤ 64 from k)]
  rfl
theorem tameL_of : ∀ {l : List D}, (∀ d ∈ l, tame d = true) → tameL l = true
  | [], _ => rfl
  | x :: l, h => by
    show (tame x && tameL l) = true
    rw [h x List.mem_cons_self, tameL_of fun d hd => h d (List.mem_cons_of_mem _ hd)]
    rfl
theorem tame_lstOf {l : List D} (h : ∀ d ∈ l, tame d = true) (k : l.length ≤ 1000) : tame (.lst l) = true := by
  show (len1000 l && tameL l) = true
  rw [tameL_of h, Bool.and_true]
  exact decide_eq_true k
theorem tame_tupOf {l : List D} (h : ∀ d ∈ l, tame d = true) (k : l.length ≤ 1000) : tame (.tup l) = true := tame_lstOf h k
theorem dp_seq {l : List D} {k : Nat} (h : ∀ d ∈ l, dp d ≤ k) : dp (.lst l) ≤ k + 1 ∧ dp (.tup l) ≤ k + 1 := ⟨Nat.succ_le_succ (depth_all h), Nat.succ_le_succ (depth_all h)⟩
theorem dp_mem {l : List D} {d : D} (h : d ∈ l) : dp d < dp (.lst l) ∧ dp d < dp (.tup l) := ⟨Nat.lt_succ_of_le (depth_mem d h), Nat.lt_succ_of_le (depth_mem d h)⟩
theorem eqv_nil (l : List D) : PyData.eqv (py (.lst l)) (py (.lst [])) = l.isEmpty := by
  cases l <;> rfl
/-- xs == [] -/
theorem rk_eqNil {K : PySem.W.Frag} {s c : Addr} {l : List D} (h : ∀ d ∈ l, tame d = true) (k : l.length ≤ 1000) (k2 : ∀ d ∈ l, dp d ≤ 60) : RK K s c (rEqA K) (.lst l) (.lst []) (.bl l.isEmpty) := by
  have z := rk_eqD (K := K) (s := s) (c := c) (plain_of (tame_lstOf h k)) (y := .lst []) rfl (shaped_of (tame_lstOf h k) (Nat.le_trans (dp_seq k2).1 (by decide))) rfl
  rw [eqv_nil] at z
  exact z
theorem rk_neNil {K : PySem.W.Frag} {s c : Addr} {l : List D} (h : ∀ d ∈ l, tame d = true) (k : l.length ≤ 1000) (k2 : ∀ d ∈ l, dp d ≤ 60) : RK K s c (rNeA K) (.lst l) (.lst []) (.bl (!l.isEmpty)) := by
  have z := rk_neD (K := K) (s := s) (c := c) (plain_of (tame_lstOf h k)) (y := .lst []) rfl (shaped_of (tame_lstOf h k) (Nat.le_trans (dp_seq k2).1 (by decide))) rfl
  rw [eqv_nil] at z
  exact z
theorem none_left (l : List D) (p : D → Bool) : ((l.filter fun d => !p d).map fun d => d).isEmpty = l.all p := by
  induction l with
  | nil => rfl
  | cons x l ih =>
    rw [List.all_cons, ← ih]
    cases h : p x with
    | true => rw [List.filter_cons_of_neg (by rw [h]; exact Bool.false_ne_true), Bool.true_and]
    | false => rw [List.filter_cons_of_pos (by rw [h]; rfl), Bool.false_and]; rfl
/-! ### the letters of a text -/
def dSigns (z : Str) : List D := z.cps.toList.map fun q => .str ⟨#[q]⟩
theorem ei_str {K : PySem.W.Frag} {s c : Addr} {ρ : List Sl} {n n1 : Nat} {tl : TE} {z : Str} (h : EvE K s c tl ρ n n1 (fun d => d = .str z)) : EvI K s c (iStr tl) ρ n n1 (fun ds => ds = dSigns z) := fun M0 H0 O σ H R I k =>
  h M0 H0 O σ H _ I fun v H1 d g hs r p => by
    subst p
    refine ⟨z, r, k _ H1 (dSigns z) g hs (fun A H2 g2 hA => ⟨?_, fun i e hi => ?_⟩) rfl⟩
    · show z.cps.size ≤ (dSigns z).length
      unfold dSigns
      rw [List.length_map, Array.length_toList]
      exact Nat.le_refl _
    · unfold dSigns at hi
      rw [List.getElem?_map] at hi
      cases q : z.cps.toList[i]? with
      | none => rw [q] at hi; cases hi
      | some u =>
        rw [q] at hi
        cases hi
        have q' : z.cps[i]? = some u := by rw [← q, Array.getElem?_toList]
        refine ⟨(Array.getElem?_eq_some_iff.mp q').1, fun y H3 hy => ?_⟩
        obtain ⟨rfl, u', hu, rfl⟩ := hy
        rw [q'] at hu
        cases hu
        exact ⟨Gr.refl _ _, fun _ z => z, rfl⟩
def rNotSg : R2 := fun x y H Q => ∃ (c : Nat) (z : Str), x = .str ⟨#[c]⟩ ∧ y = .str z ∧ Q (.bl (!decide (c ∈ z.cps.toList))) H
theorem op_notSg {X : Cx} : OpR X (compareOp .NotIn) rNotSg := op_notIn_sign
theorem rk_notSg {K : PySem.W.Frag} {s c : Addr} {q : Nat} {z : Str} : RK K s c rNotSg (.str ⟨#[q]⟩) (.str z) (.bl (!decide (q ∈ z.cps.toList))) := fun M n v w H Q hm ht hs rx ry k => ⟨q, z, rx, ry, k _ H (Gr.refl _ _) hs rfl⟩
theorem abc : (Str.ofString "abcdefghijklmnopqrstuvwxyz").cps.toList = (List.range 26).map (97 + ·) := by decide +kernel
theorem abc_low (q : Nat) : decide (q ∈ (Str.ofString "abcdefghijklmnopqrstuvwxyz").cps.toList) = lowB q := by
  rw [abc, Bool.eq_iff_iff, decide_eq_true_eq, List.mem_map]
  unfold lowB
  rw [Bool.and_eq_true, decide_eq_true_eq, decide_eq_true_eq]
  constructor
  · rintro ⟨a, ha, rfl⟩
    have := List.mem_range.mp ha
    omega
  · intro h
    exact ⟨q - 97, List.mem_range.mpr (by omega), by omega⟩
/-- the variables of an atom -/
def varsD (d : D) : List Str := match d with
  | .tup [_, .tup l] => l.map fun x => match x with | .str z => z | _ => ⟨#[]⟩
  | _ => []
theorem varsD_of (a : Str × List Str) : varsD (dAtom a) = a.2 := by
  show (dStrs a.2).map _ = _
  unfold dStrs
  rw [List.map_map]
  exact List.map_id _
theorem vars_all (as : List (Str × List Str)) : (as.map dAtom).flatMap varsD = as.flatMap (·.2) := by
  induction as with
  | nil => rfl
  | cons a as ih => rw [List.map_cons, List.flatMap_cons, List.flatMap_cons, ih, varsD_of]
def preDiff (s c : Addr) (ds : List D) : Prop := ∃ x, ∃ as : List (Str × List Str), ds = [x] ∧ seqD x = some (as.map dAtom) ∧ (as.flatMap (·.2)).length < 64
def postDiff (s c : Addr) (ds : List D) (z : D) : Prop := ∃ x, ∃ as : List (Str × List Str), ds = [x] ∧ seqD x = some (as.map dAtom) ∧ z = .lst (dStrs (usort (as.flatMap (·.2))))
def preWords (s c : Addr) (ds : List D) : Prop := ∃ x, ∃ lo hi : Int, ds = [x, .int lo, .int hi] ∧ tame x = true ∧ dp x ≤ 60
section
variable {P : Program} {w : World} {K : PySem.W.Frag} {mg : Str → Option Value} {base : Heap} {A : Adr}
theorem ok__is_atom (T : Txt A K mg) : FnOk P w K mg base CX0 3 A.f__is_atom A.fd__is_atom ["value"] (Pr K preIsAtom 0 postIsAtom) := by
  have G_is_tuple_of_names := ok_is_tuple_of_names (P := P) (w := w) (base := base) T
  have G_is_name := ok_is_name (P := P) (w := w) (base := base) T
  refine T.F__is_atom.ok sc__is_atom (fun vs H Q E h => pr_len h fun s c ds hp => ?_) (fun cdv A' outer st H vs Q E hr h => have hw : _ := hr.units; ⟨_, (pss_cons (ps_if (PW.pt (pw_or (pt_not (pt_val (pe_callB (k_isi (K := K)) (by rfl) T.m_isinstance (by decide +kernel) (pa_cons (pv 0) (pa_cons (pe_bltn (v := .ty "tuple") (u := .type "tuple") (by rfl) T.m_tuple (by decide +kernel) rfl) pa_nil))))) (pw_or1 (pt_cmpR (k_neA hw) (pe_callB (k_len K) (by rfl) T.m_len (by decide +kernel) (pa_cons (pv 0) pa_nil)) pe_int (nomark _))))) (pss_one (ps_ret pe_bl)) pss_nil)
      (pss_cons (ps_asg (pv 0) (k_pgtup K rfl (pgs_cons (pg_name (i := 1) sc__is_atom.nd rfl (by first | exact Or.inl rfl | exact Or.inr rfl)) (pgs_cons (pg_name (i := 2) sc__is_atom.nd rfl (by first | exact Or.inl rfl | exact Or.inr rfl)) pgs_nil))))
      (pss_one (ps_ret (pe_and (pe_call G_is_name (hr.mono (by decide)) (by rfl) T.m_is_name T.F_is_name.kp T.b_is_name .nil pass0 (pa_cons (pv 1) pa_nil)) (pe_one (pe_call G_is_tuple_of_names (hr.mono (by decide)) (by rfl) T.m_is_tuple_of_names T.F_is_tuple_of_names.kp T.b_is_tuple_of_names .nil pass0 (pa_cons (pv 2) (pa_cons pe_int (pa_cons (pe_glob (v := .int 3) rfl T.m_MOST_PLACES.choose_spec ⟨_, rfl⟩) pa_nil)))))))))), body_ok h fun s c n ds hn hp => ?_⟩)
  · obtain ⟨x, rfl, _⟩ := hp
    rfl
  · obtain ⟨x, rfl, tx⟩ := hp
    have fin : ∀ b, b = atomB x → (⟨fun _ m => m ≤ n + 0 ∧ postIsAtom s c [x] .non, fun d m => m ≤ n + 0 ∧ postIsAtom s c [x] d, fun _ _ => False, fun _ _ => False⟩ : Pn).rt (.bl b) n := fun b e => ⟨Nat.le_refl _, x, rfl, by rw [e]⟩
    cases x with
    | tup l =>
      obtain ⟨ll, tl⟩ := tame_tup tx
      refine s_seq (N := fun ρ' m => n = m ∧ ρ' = [.va (.tup l), .no, .no] ∧ l.length = 2) (s_ifK (b := !true || !decide ((l.length : Int) = 2)) (et_orK (et_notK (et_BK (ev_isi (ev_var rfl) rfl (one_tup _ rfl)))) fun _ => et_K (ev_opK (ev_callK (ea_one (ev_var rfl)) (ck_len rfl)) ev_int rk_neI)) (fun e => ?_) fun e => ?_) fun ρ1 n1 h1 => ?_
      · refine s_ret ev_bl fun d hd => ?_
        rw [hd]
        refine fin _ ?_
        have e' : (!decide ((l.length : Int) = 2)) = true := e
        rw [Bool.not_eq_true', decide_eq_false_iff_not] at e'
        cases l with
        | nil => rfl
        | cons a l =>
          cases l with
          | nil => rfl
          | cons b l =>
            cases l with
            | nil => exact absurd rfl e'
            | cons _ _ => rfl
      · refine s_next ⟨rfl, rfl, ?_⟩
        have e' : (!decide ((l.length : Int) = 2)) = false := e
        rw [Bool.not_eq_false', decide_eq_true_eq] at e'
        omega
      · obtain ⟨rfl, rfl, h2⟩ := h1
        obtain ⟨t, v, rfl⟩ : ∃ t v, l = [t, v] := by
          cases l with
          | nil => cases h2
          | cons a l =>
            cases l with
            | nil => cases h2
            | cons b l =>
              cases l with
              | nil => exact ⟨a, b, rfl⟩
              | cons _ _ => simp at h2
        have tt := tame_mem tl t List.mem_cons_self
        have tv := tame_mem tl v (List.mem_cons_of_mem _ List.mem_cons_self)
        refine s_seq (N := fun ρ' m => n = m ∧ ρ' = [.va (.tup [t, v]), .va t, .va v]) (s_asg (ev_var rfl) fun d e => ?_) fun ρ1 n1 h1 => ?_
        · rw [e]
          exact ⟨_, _, eg_tup (egs_cons (eg_name (j := 1) rfl) (egs_cons (eg_name (j := 2) rfl) egs_nil)) rfl, rfl, rfl⟩
        · obtain ⟨rfl, rfl⟩ := h1
          refine s_ret (ev_andK (a := nameB t) (b := namesB 1 3 v) (ev_defK (ea_one (ev_var rfl)) (by omega) ⟨t, rfl, tt⟩ fun d h => ?_) fun _ => ev_defK (ea_c (ev_var rfl) (ea_c ev_int (ea_c ev_int ea_nil))) (by omega) ⟨v, 1, 3, rfl, tv⟩ fun d h => ?_) fun d hd => by rw [hd]; exact fin _ rfl
          · obtain ⟨x, e, rfl⟩ := h
            cases e
            rfl
          · obtain ⟨x, lo, hi, e, rfl⟩ := h
            cases e
            rfl
    | _ =>
      refine s_seq (N := fun _ _ => False) (s_ifK (b := !false || false) (et_orK (et_notK (et_BK (ev_isi (ev_var rfl) (tame_top tx) (one_tup _ (tame_top tx))))) fun e => by cases e) (fun e => s_ret ev_bl fun d hd => by rw [hd]; exact fin _ rfl) fun e => by cases e) fun ρ1 n1 h1 => h1.elim
theorem ok__different_variables (T : Txt A K mg) : FnOk P w K mg base CX0 1 A.f__different_variables A.fd__different_variables ["atoms"] (Pr K preDiff 0 postDiff) := by
  refine T.F__different_variables.ok sc__different_variables (fun vs H Q E h => pr_len h fun s c ds hp => ?_) (fun cdv A' outer st H vs Q E hr h => have hw : _ := hr.units; ⟨_, (pss_one (ps_ret (pe_callB (call_sortT rfl) (by rfl) T.m_sorted (by decide +kernel) (pa_cons (pe_sc2 (own := [("atom", 1), ("variable", 2)]) (vs1 := [2]) rfl sc__different_variables.nd (k_piseq (K := K) (pv 0)) (blkOk_by (N := ["atoms", "atom", "variable"]) (sc := defScope s__different_variables) (by decide +kernel)) (by decide) (fun _ _ _ _ _ => (pg_name (i := 1) sc__different_variables.nd rfl (by first | exact Or.inl rfl | exact Or.inr rfl))) (fun _ _ _ _ _ => pts_nil) (fun _ _ _ _ _ => (k_pitup K (pe_ix (k_ix K) (pv 1) pe_int (fun _ _ => rfl)))) (fun _ _ _ _ _ => (pg_name (i := 2) sc__different_variables.nd rfl (by first | exact Or.inl rfl | exact Or.inr rfl))) (fun _ _ _ _ _ => pts_nil) (fun _ _ _ _ _ => (pv 2))) pa_nil)))), body_ok h fun s c n ds hn hp => ?_⟩)
  · obtain ⟨x, as, rfl, _⟩ := hp
    rfl
  · obtain ⟨x, as, rfl, hx, few⟩ := hp
    refine s_ret (ev_sortsc2 varsD (ei_seq (ev_var rfl) hx) rfl (fun d hd => ?_) (by rw [vars_all]; exact few)) fun d hd => ⟨Nat.le_refl _, x, as, rfl, hx, by rw [hd, vars_all]⟩
    obtain ⟨a, ha, rfl⟩ := List.mem_map.mp hd
    refine ⟨_, _, dStrs a.2, eg_name (j := 1) rfl, fun j hj => by rw [List.mem_singleton.mp hj]; exact List.mem_cons_self, rfl, ei_tup (PL := fun l => l = dStrs a.2) (ev_opK (z := .tup (dStrs a.2)) (ev_var rfl) ev_int (rk_ixT rfl)) fun d e => ⟨_, e, rfl⟩, by rw [varsD_of, strs_len], fun j e he => ?_⟩
    have : e ∈ dStrs a.2 := List.mem_of_getElem? he
    obtain ⟨z, rfl, hz⟩ := strs_mem this
    refine ⟨_, _, z, eg_name (j := 2) rfl, fun j hj => hj, ev_var rfl, ?_⟩
    rw [varsD_of]
    unfold dStrs at he
    rw [List.getElem?_map] at he
    cases q : a.2[j]? with
    | none => rw [q] at he; cases he
    | some u => rw [q] at he; cases he; rfl
end

end K02
/-! text PlX -/
set_option Elab.async false
set_option linter.all false
set_option maxRecDepth 100000
set_option maxHeartbeats 4000000
set_option exponentiation.threshold 5000
/-! PlX: membership of texts, slices of lists and tuples, loops that end at a first hit. -/
namespace Pl
open PySem PySem.Spec PyProof.Rows L2 PlS
section
variable {X : Cx} {K : PySem.W.Frag}
theorem k_nin (h : X.K = K := by rfl) : OpR X (compareOp .NotIn) (rIn K true) := by subst h; exact op_notIn_seq
theorem k_in (h : X.K = K := by rfl) : OpR X (compareOp .In) (rIn K false) := by subst h; exact op_in_seq
end
theorem inV_strs (z : Str) : ∀ ys : List Str, inV (.str z) (ys.map V.str) = decide (z ∈ ys)
  | [] => rfl
  | y :: ys => by
    show (eqV (.str y) (.str z) || inV (.str z) (ys.map V.str)) = _
    rw [inV_strs z ys, Bool.eq_iff_iff, Bool.or_eq_true, decide_eq_true_eq, decide_eq_true_eq, List.mem_cons]
    have e : eqV (.str y) (.str z) = true ↔ z = y := by
      show (y == z) = true ↔ _
      rw [beq_iff_eq]
      exact eq_comm
    rw [e]
theorem flat_strsV : ∀ ys : List Str, (ys.map V.str).all flatV = true
  | [] => rfl
  | y :: ys => by
    show (flatV (.str y) && (ys.map V.str).all flatV) = true
    rw [flat_strsV ys]
    rfl
section
variable {K : PySem.W.Frag} {s c : Addr} {ρ : List Sl} {n n1 n2 n3 : Nat} {te ta tb tc to : TE} {tt tu : TT} {P : D → Prop}
theorem rk_nin {z : Str} {d : D} {ys : List Str} (e : seqD d = some (dStrs ys)) : RK K s c (rIn K true) (.str z) d (.bl (!decide (z ∈ ys))) := fun M n v w H Q hm ht hs rx ry k => by
  obtain ⟨a, xs, rfl, sq, rl⟩ := rep_seq e ry
  rw [dStrs_rep rl] at sq
  have rx : v = .str z := rx
  subst rx
  refine ⟨a, _, rfl, sq, rfl, flat_strsV ys, k _ H (Gr.refl _ _) hs ?_⟩
  show V.bl _ = V.bl _
  rw [if_pos rfl, inV_strs]
theorem rk_in {z : Str} {d : D} {ys : List Str} (e : seqD d = some (dStrs ys)) : RK K s c (rIn K false) (.str z) d (.bl (decide (z ∈ ys))) := fun M n v w H Q hm ht hs rx ry k => by
  obtain ⟨a, xs, rfl, sq, rl⟩ := rep_seq e ry
  rw [dStrs_rep rl] at sq
  have rx : v = .str z := rx
  subst rx
  refine ⟨a, _, rfl, sq, rfl, flat_strsV ys, k _ H (Gr.refl _ _) hs ?_⟩
  show V.bl _ = V.bl _
  rw [if_neg Bool.false_ne_true, inV_strs]
theorem ev_slS {to tu : TO} {y : D} {l : List D} {lo hi : Option Int} (e : seqD y = some l) (h : EvE K s c te ρ n n1 (fun d => d = y)) (hl : EvO K s c to ρ n1 n2 lo) (hh : EvO K s c tu ρ n2 n3 hi) :
    ∃ y', seqD y' = some (Pl.cutD l lo hi) ∧ EvE K s c (tSl (rSlAny K) te to tu) ρ n n3 (fun d => d = y') := by
  cases y with
  | lst l' => cases e; exact ⟨_, rfl, ev_slL h hl hh⟩
  | tup l' => cases e; exact ⟨_, rfl, ev_slT h hl hh⟩
  | _ => cases e
theorem ck_intB {b : Bool} : CK K s c (fun xs H Q => (∃ i, xs = [.int i] ∧ Q (.int i) H) ∨ ∃ k, xs = [.bl k] ∧ Q (.int (if k then 1 else 0)) H) [.bl b] (.int (if b then 1 else 0)) := fun M n vs H Q hm ht hs r k => by
  obtain ⟨v, rfl, rv⟩ := r.inv1
  have rv : v = .bl b := rv
  subst rv
  exact .inr ⟨b, rfl, k _ H (Gr.refl _ _) hs rfl⟩
end
/-- the first index below m where p is true -/
def firstT (p : Nat → Bool) (m : Nat) : Option Nat := (List.range m).find? p
theorem firstT_hit {p : Nat → Bool} {m i : Nat} (h : i < m) (hp : p i = true) (hn : ∀ j, j < i → p j = false) : firstT p m = some i := by
  unfold firstT
  rw [List.find?_range_eq_some]
  exact ⟨hp, List.mem_range.mpr h, fun j hj => by rw [hn j hj]; rfl⟩
theorem firstT_none {p : Nat → Bool} {m : Nat} (hn : ∀ j, j < m → p j = false) : firstT p m = none := by
  unfold firstT
  rw [List.find?_eq_none]
  intro j hj
  rw [hn j (List.mem_range.mp hj)]
  exact Bool.false_ne_true
theorem usort_app (a b : List Str) : usort (usort a ++ b) = usort (a ++ b) := asc_uniq (usort_asc _) (usort_asc _) fun z => by
  rw [usort_mem, usort_mem, List.mem_append, List.mem_append, usort_mem]
theorem cut_pre {l : List D} {k : Nat} : Pl.cutD l none (some (k : Int)) = l.take k := by
  unfold Pl.cutD
  rw [HT.sIx_none, HT.sIx_nat, List.drop_zero, Nat.sub_zero]
  by_cases q : k ≤ l.length
  · rw [Nat.min_eq_left q]
  · rw [Nat.min_eq_right (by omega), List.take_length, List.take_of_length_le (by omega)]
theorem atI_at {α : Type} {l : List α} {i : Nat} {d : α} (h : l[i]? = some d) : atI l (i : Int) = some d := atI_nat h
end Pl
/-! text K02k -/
set_option Elab.async false
set_option linter.all false
set_option maxRecDepth 100000
set_option maxHeartbeats 4000000
set_option exponentiation.threshold 5000
namespace K02
open PySem PySem.Spec PyProof.Rows L2 Pl PlS

/-! ### the error of a query, on data -/
def E1 (z : Str) : D := .tup [.str z]
def E2 (z : Str) (k : Nat) : D := .tup [.str z, .int k]
def unD (d : D) : Str × List Str := match d with
  | .tup [.str t, v] => (t, varsD (.tup [.non, v]))
  | _ => (⟨#[]⟩, [])
theorem unD_of (a : Str × List Str) : unD (dAtom a) = a := by
  show (a.1, varsD (dAtom a)) = a
  rw [varsD_of]
def textsD (d : D) : List Str := varsD (.tup [.non, d])
theorem textsD_of (l : List Str) : textsD (.tup (dStrs l)) = l := varsD_of (⟨#[]⟩, l)
theorem un_all (as : List (Str × List Str)) : (as.map dAtom).map unD = as := by
  rw [List.map_map]
  exact (List.map_congr_left fun a _ => unD_of a).trans (List.map_id _)
def clash (as : List (Str × List Str)) (k : Nat) : Bool := match as[k]? with
  | some b => (as.take k).any fun a => decide (a.1 = b.1) && !decide ((a.2.length : Int) = (b.2.length : Int))
  | none => false
def notVar (hd vs : List Str) (k : Nat) : Bool := match hd[k]? with
  | some z => !decide (z ∈ vs)
  | none => false
def errA (hd : List Str) (as : List (Str × List Str)) : D := match firstT (clash as) as.length with
  | some k => E2 "places" k
  | none => match firstT (notVar hd (usort (as.flatMap (·.2)))) hd.length with
    | some k => E2 "variable" k
    | none => if 5 < ((usort (as.flatMap (·.2))).length : Int) then E1 "variables" else .non
def notAtom (l : List D) (k : Nat) : Bool := match l[k]? with
  | some d => !atomB d
  | none => false
def errL (hd : List Str) (l : List D) : D := match firstT (notAtom l) l.length with
  | some k => E2 "atom" k
  | none => errA hd (l.map unD)
def errD (x y : D) : D := if namesB 0 3 x = false then E1 "head" else match seqD y with
  | none => E1 "atoms"
  | some l => if (l.length : Int) < 1 ∨ (6 : Int) < l.length then E1 "atoms" else errL (textsD x) l
theorem name_is {d : D} (h : nameB d = true) : ∃ z, d = .str z ∧ isName z := by
  cases d with
  | str z =>
    have h' : (decide ((1 : Int) ≤ (z.length : Int)) && decide ((z.length : Int) ≤ 8) && z.cps.toList.all lowB) = true := h
    rw [Bool.and_eq_true, Bool.and_eq_true, decide_eq_true_eq, decide_eq_true_eq, List.all_eq_true] at h'
    refine ⟨z, rfl, by omega, by omega, fun q hq => ?_⟩
    have := h'.2 q hq
    unfold lowB at this
    rw [Bool.and_eq_true, decide_eq_true_eq, decide_eq_true_eq] at this
    exact this
  | _ => exact absurd (show false = true from h) Bool.false_ne_true
theorem names_strs : ∀ {l : List D}, l.all nameB = true → ∃ vs, l = dStrs vs ∧ ∀ v ∈ vs, isName v
  | [], _ => ⟨[], rfl, fun v hv => by simp at hv⟩
  | d :: l, h => by
    rw [List.all_cons, Bool.and_eq_true] at h
    obtain ⟨z, rfl, hz⟩ := name_is h.1
    obtain ⟨vs, rfl, hv⟩ := names_strs (l := l) h.2
    refine ⟨z :: vs, rfl, fun v hm => ?_⟩
    rcases List.mem_cons.mp hm with rfl | hm
    · exact hz
    · exact hv v hm
theorem names_is {lo hi : Int} {d : D} (h : namesB lo hi d = true) : ∃ vs : List Str, d = .tup (dStrs vs) ∧ lo ≤ (vs.length : Int) ∧ (vs.length : Int) ≤ hi ∧ ∀ v ∈ vs, isName v := by
  cases d with
  | tup l =>
    have h' : (decide (lo ≤ (l.length : Int)) && decide ((l.length : Int) ≤ hi) && l.all nameB) = true := h
    rw [Bool.and_eq_true, Bool.and_eq_true, decide_eq_true_eq, decide_eq_true_eq] at h'
    obtain ⟨vs, rfl, hv⟩ := names_strs h'.2
    rw [strs_len] at h'
    exact ⟨vs, rfl, h'.1.1, h'.1.2, hv⟩
  | _ => exact absurd (show false = true from h) Bool.false_ne_true
theorem atom_is {d : D} (h : atomB d = true) : ∃ a : Str × List Str, d = dAtom a ∧ isName a.1 ∧ 1 ≤ a.2.length ∧ a.2.length ≤ 3 ∧ ∀ v ∈ a.2, isName v := by
  cases d with
  | tup l =>
    match l, h with
    | [t, v], h =>
      have h' : (nameB t && namesB 1 3 v) = true := h
      rw [Bool.and_eq_true] at h'
      obtain ⟨z, rfl, hz⟩ := name_is h'.1
      obtain ⟨vs, rfl, h1, h2, h3⟩ := names_is h'.2
      exact ⟨(z, vs), rfl, hz, by show 1 ≤ vs.length; omega, by show vs.length ≤ 3; omega, h3⟩
    | [], h => exact absurd (show false = true from h) Bool.false_ne_true
    | [_], h => exact absurd (show false = true from h) Bool.false_ne_true
    | _ :: _ :: _ :: _, h => exact absurd (show false = true from h) Bool.false_ne_true
  | _ => exact absurd (show false = true from h) Bool.false_ne_true
theorem atoms_are : ∀ {l : List D}, (∀ d ∈ l, atomB d = true) → ∃ as : List (Str × List Str), l = as.map dAtom ∧ ∀ a ∈ as, isName a.1 ∧ 1 ≤ a.2.length ∧ a.2.length ≤ 3 ∧ ∀ v ∈ a.2, isName v
  | [], _ => ⟨[], rfl, fun a ha => by simp at ha⟩
  | d :: l, h => by
    obtain ⟨a, rfl, ha⟩ := atom_is (h d List.mem_cons_self)
    obtain ⟨as, rfl, hs⟩ := atoms_are (l := l) fun d hd => h d (List.mem_cons_of_mem _ hd)
    refine ⟨a :: as, rfl, fun b hb => ?_⟩
    rcases List.mem_cons.mp hb with rfl | hb
    · exact ha
    · exact hs b hb
theorem vars_len {as : List (Str × List Str)} (h : ∀ a ∈ as, a.2.length ≤ 3) : (as.flatMap (·.2)).length ≤ 3 * as.length := by
  induction as with
  | nil => exact Nat.zero_le _
  | cons a as ih =>
    rw [List.flatMap_cons, List.length_append, List.length_cons]
    have h1 := h a List.mem_cons_self
    have h2 := ih fun b hb => h b (List.mem_cons_of_mem _ hb)
    omega
theorem any_left (l : List D) (p : D → Bool) : (!((l.filter p).map fun d => d).isEmpty) = l.any p := by
  induction l with
  | nil => rfl
  | cons x l ih =>
    rw [List.any_cons, ← ih]
    cases h : p x with
    | true => rw [List.filter_cons_of_pos h]; rfl
    | false => rw [List.filter_cons_of_neg (by rw [h]; exact Bool.false_ne_true), Bool.false_or]
theorem name_tame {z : Str} (h : isName z) : tame (.str z) = true ∧ dp (.str z) ≤ 60 := by
  refine ⟨?_, Nat.zero_le _⟩
  show (decide (z.length ≤ 5000) && PyData.strOk z) = true
  have e : PyData.strOk z = true := by
    unfold PyData.strOk
    rw [← Array.all_toList, List.all_eq_true]
    intro q hq
    have := h.2.2 q hq
    unfold low at this
    exact decide_eq_true (by omega)
  have := h.2.1
  rw [e, decide_eq_true (by omega)]
  rfl
theorem atom_tame {a : Str × List Str} (h1 : isName a.1) (h2 : a.2.length ≤ 3) (h3 : ∀ v ∈ a.2, isName v) : tame (dAtom a) = true ∧ dp (dAtom a) ≤ 60 := by
  have hs : ∀ d ∈ dStrs a.2, tame d = true ∧ dp d = 0 := fun d hd => by
    obtain ⟨z, rfl, hz⟩ := strs_mem hd
    exact ⟨(name_tame (h3 z hz)).1, rfl⟩
  have t2 : tame (.tup (dStrs a.2)) = true := tame_tupOf (fun d hd => (hs d hd).1) (by rw [strs_len]; omega)
  have d2 : dp (.tup (dStrs a.2)) ≤ 1 := (dp_seq (k := 0) fun d hd => Nat.le_of_eq (hs d hd).2).2
  refine ⟨tame_tupOf (fun d hd => ?_) (by exact (by decide : (2 : Nat) ≤ 1000)), Nat.le_trans (dp_seq (k := 1) fun d hd => ?_).2 (by decide)⟩
  · rcases List.mem_cons.mp hd with rfl | hd
    · exact (name_tame h1).1
    · rw [List.mem_singleton.mp hd]; exact t2
  · rcases List.mem_cons.mp hd with rfl | hd
    · exact Nat.zero_le _
    · rw [List.mem_singleton.mp hd]; exact d2
def preErr (s c : Addr) (ds : List D) : Prop := ∃ x y, ds = [x, y] ∧ (tame x = true ∧ dp x ≤ 60) ∧ tame y = true ∧ dp y ≤ 60
def postErr (s c : Addr) (ds : List D) (z : D) : Prop := ∃ x y, ds = [x, y] ∧ z = errD x y
theorem seq_tame {y : D} {l : List D} (e : seqD y = some l) (h : tame y = true) (k : dp y ≤ 60) : l.length ≤ 1000 ∧ (∀ d ∈ l, tame d = true) ∧ ∀ d ∈ l, dp d ≤ 60 := by
  cases y with
  | lst l' =>
    cases e
    exact ⟨(tame_lst h).1, tame_mem (tame_lst h).2, fun d hd => by have := (dp_mem hd).1; omega⟩
  | tup l' =>
    cases e
    exact ⟨(tame_tup h).1, tame_mem (tame_tup h).2, fun d hd => by have := (dp_mem hd).2; omega⟩
  | _ => cases e
end K02
/-! text PlY -/
set_option Elab.async false
set_option linter.all false
set_option maxRecDepth 100000
set_option maxHeartbeats 4000000
set_option exponentiation.threshold 5000
/-! PlY: repeated tuples and lists; data of bounded depth. -/
namespace Pl
open PySem PySem.Spec PyProof.Rows L2 PlS
theorem times_same (lo : Addr) (its : Array Value) (sz : Nat) (di : Option Addr) (so : Array (Option Value)) (k : Int) (tk : Tok) (r0 : (decide (k < -(2 ^ 63)) || decide (k ≥ 2 ^ 63)) = false) (r1 : (its.isEmpty || k == 1) = true) :
    Meets (Builtin.«tuple.__mul__» ⟨[.ref lo, .int k tk], []⟩) (fun _ R st => st.heap.get? lo = some ⟨.type "tuple", di, .seq its sz, so⟩ ∧ R (.ok (.ret (Value.ref lo))) st) :=
  .of_wp fun prog w Ar R st hyp => by
    obtain ⟨hp, gl, dc, tks, os⟩ := st
    obtain ⟨g1, g2⟩ := hyp
    have ix := AutoSeq1.idx_int
    wp_walk using AutoSeq1.wpAny_loadPart' g1
    repeat (first
      | (refine wpAny_ite_false (decide_eq_false (by rw [r0]; exact Bool.false_ne_true)) ?_; wp_walk using AutoSeq1.wpAny_loadPart' g1)
      | (refine wpAny_ite_true (decide_eq_true (by rw [r1])) ?_; wp_walk using AutoSeq1.wpAny_loadPart' g1))
    exact ⟨_, rfl, g2⟩
def rRep1 (K : PySem.W.Frag) : R2 := fun x y H Q => ∃ l k xs, x = .ref l ∧ y = .int k ∧ SqT K H l xs ∧ (xs = [] ∨ k = 1) ∧ 0 ≤ k ∧ k ≤ 1000 ∧ Q (.ref l) H
section
variable {X : Cx} {K : PySem.W.Frag}
theorem op_rep1 : OpR X (binaryOp .Mult) (rRep1 X.K) := by
  intro pins s σ H x y v u Q I rx ry h
  obtain ⟨lo, k, xs, rfl, rfl, hT, how, g1, g2, q⟩ := h
  cases rx
  obtain ⟨t, rfl⟩ := ry
  obtain ⟨its, r, ⟨⟨cls, di, data, so⟩, ho, hc, sz, hd⟩, _⟩ := I.tuple hT
  simp only at hc hd
  subst hc hd
  have r0 : (decide (k < -(2 ^ 63)) || decide (k ≥ 2 ^ 63)) = false := by
    rw [decide_eq_false (by omega), decide_eq_false (by omega)] <;> rfl
  have r1 : (its.toArray.isEmpty || k == 1) = true := by
    rcases how with rfl | rfl
    · cases r
      rfl
    · rw [Bool.or_eq_true]
      exact .inr rfl
  exact wpAny_binaryOp_repeat_ref (T := "tuple") (U := "int") (by decide) ⟨_, ho, rfl⟩ (fun s' => typeIs_int s' k t) noFill_tuple_mul F.fills_int_mul F.slot_int_rmul repeat_tuple F.slot_int_index.lookup
    (call_meets F.slot_int_rmul (typeIs_int s k t) F.entry_int_rmul (F.args_int_rmul_2 _ _) (int_rmul_tuple k t lo its.toArray sz di so)
      ⟨ho, rfl, ⟨_, ho, rfl⟩, call_meets F.slot_tuple_mul ⟨_, ho, rfl⟩ F.entry_tuple_mul (F.args_tuple_mul_2 _ _) (times_same lo its.toArray sz di so k t r0 r1) ⟨ho, .ref lo, H, I, rfl, q⟩⟩)
def rMulB (K : PySem.W.Frag) : R2 := fun x y H Q => rMulA K x y H Q ∨ rRep1 K x y H Q
theorem k_mulB (h : X.K = K := by rfl) : OpR X (binaryOp .Mult) (rMulB K) := by subst h; exact op_mulA.or op_rep1
end
section
variable {K : PySem.W.Frag} {s c : Addr} {M : List Addr} {H : Hp}
theorem RepL.app : ∀ {l m : List D} {xs ys : List V}, RepL K M H l xs → RepL K M H m ys → RepL K M H (l ++ m) (xs ++ ys)
  | [], _, [], _, _, h => h
  | _ :: _, _, _ :: _, _, h, k => ⟨h.1, RepL.app h.2 k⟩
  | [], _, _ :: _, _, h, _ => h.elim
  | _ :: _, _, [], _, h, _ => h.elim
theorem RepL.times {l : List D} {xs : List V} (h : RepL K M H l xs) : ∀ k : Nat, RepL K M H (List.replicate k l).flatten (List.replicate k xs).flatten
  | 0 => trivial
  | k + 1 => by
    rw [List.replicate_succ, List.replicate_succ, List.flatten_cons, List.flatten_cons]
    exact RepL.app h (RepL.times h k)
theorem rk_timesT {l : List D} {k : Int} (g0 : 1 ≤ k) (g1 : k ≤ 1000) (gl : l.length ≤ 1000) : RK K s c (rMulB K) (.tup l) (.int k) (.tup (List.replicate k.toNat l).flatten) := fun M n v w H Q hm ht hs rx ry kk => by
  obtain ⟨a, xs, rfl, st, rl⟩ := rx
  have ry : w = .int k := ry
  subst ry
  by_cases hz : l = [] ∨ k = 1
  · refine .inr ⟨a, k, xs, rfl, rfl, st, ?_, by omega, g1, kk _ H (Gr.refl _ _) hs ⟨a, xs, rfl, st, ?_⟩⟩
    · rcases hz with e | e
      · exact .inl (rl.nil_iff.mpr e)
      · exact .inr e
    · rcases hz with rfl | rfl
      · have e : (List.replicate k.toNat ([] : List D)).flatten = [] := by
          induction k.toNat with
          | zero => rfl
          | succ m ih => rw [List.replicate_succ, List.flatten_cons, ih]; rfl
        rw [e]
        exact rl
      · show RepL K M H (l ++ []) xs
        rw [List.append_nil]
        exact rl
  · have h1 : l ≠ [] := fun e => hz (.inl e)
    have h2 : k ≠ 1 := fun e => hz (.inr e)
    refine .inl (.inr (.inr ⟨a, k, xs, rfl, rfl, st, fun e => h1 (rl.nil_iff.mp e), by omega, g1, by rw [← rl.length]; exact gl, fun p hp => kk (.ref p) _ (Gr.new hp) (hs.new hp) ⟨p, _, rfl, .inl (.inl upd_same), (RepL.times rl k.toNat).gr (Gr.new hp)⟩⟩))
theorem rk_timesL {l : List D} {k : Int} (g0 : 0 ≤ k) (g1 : k ≤ 1000) (gl : l.length ≤ 1000) : RK K s c (rMulB K) (.lst l) (.int k) (.lst (List.replicate k.toNat l).flatten) := fun M n v w H Q hm ht hs rx ry kk => by
  obtain ⟨a, xs, rfl, ma, ea, rl⟩ := rx
  have ry : w = .int k := ry
  subst ry
  refine .inl (.inr (.inl ⟨a, k, xs, rfl, rfl, ea, by omega, by omega, ?_, fun p hp => kk (.ref p) _ (Gr.new hp) (hs.new hp) ⟨p, _, rfl, fun z => ?_, upd_same, (RepL.times rl k.toNat).gr (Gr.new hp)⟩⟩))
  · rw [← rl.length, sizeLine_eq]
    have := Nat.mul_le_mul gl (show k.toNat ≤ 1000 by omega)
    omega
  · obtain ⟨o, e⟩ := ht p z
    rw [hp] at e
    cases e
theorem rk_mulI {i j : Int} (h : CMulW i j) : RK K s c (rMulB K) (.int i) (.int j) (.int (i * j)) := fun M n v w H Q a b d e f k => .inl (rk_mul h M n v w H Q a b d e f k)
end
end Pl
/-! text PlD -/
set_option Elab.async false
set_option linter.all false
set_option maxRecDepth 100000
set_option maxHeartbeats 4000000
set_option exponentiation.threshold 5000
/-! PlD: a def's own dict of flat values beside its data: d the dict's address, kvs what stands in it. -/
namespace Pl
open PySem PySem.Spec PyProof.Rows L2 PlS
section
variable {K : PySem.W.Frag} {M : List Addr} {H : Hp} {p : Addr} {kvs : List (Key × V)}
mutual
/-- the address of a dict may be set apart -/
theorem Rep.apartD (hp : H p = some (.dK kvs)) : ∀ {d : D} {v : V}, Rep K M H d v → Rep K (p :: M) H d v
  | .non, _, h => h
  | .bl _, _, h => h
  | .int _, _, h => h
  | .str _, _, h => h
  | .obj _, _, h => h
  | .tup _, _, h => by
    obtain ⟨a, xs, e, q, r⟩ := h
    exact ⟨a, xs, e, q, RepL.apartD hp r⟩
  | .lst _, _, h => by
    obtain ⟨a, xs, e, m, q, r⟩ := h
    refine ⟨a, xs, e, fun z => ?_, q, RepL.apartD hp r⟩
    rcases List.mem_cons.mp z with z | z
    · rw [z, hp] at q; cases q
    · exact m z
  | .ins _ _ _, _, h => by
    obtain ⟨a, dx, fs, e, m, q, k, r⟩ := h
    refine ⟨a, dx, fs, e, fun z => ?_, q, k, RepL.apartD hp r⟩
    rcases List.mem_cons.mp z with z | z
    · rw [z, hp] at q; cases q
    · exact m z
  | .dct _ _, _, h => by
    obtain ⟨a, o, fs, e, q, k, r⟩ := h
    exact ⟨a, o, fs, e, q, k, RepL.apartD hp r⟩
theorem RepL.apartD (hp : H p = some (.dK kvs)) : ∀ {ds : List D} {vs : List V}, RepL K M H ds vs → RepL K (p :: M) H ds vs
  | [], [], h => h
  | _ :: _, _ :: _, h => ⟨Rep.apartD hp h.1, RepL.apartD hp h.2⟩
  | [], _ :: _, h => h.elim
  | _ :: _, [], h => h.elim
end
theorem gr_dict {kv2 : List (Key × V)} (hp : H p = some (.dK kvs)) : Gr (p :: M) H (upd H p (.dK kv2)) := fun a o e m => by
  have ne : a ≠ p := fun z => by
    rw [z, hp] at e
    cases e
    rcases m with m | m
    · exact m (by rw [z]; exact List.mem_cons_self)
    · cases m
  rw [upd_ne ne]
  exact e
theorem Rep.dput {kv2 : List (Key × V)} (hp : H p = some (.dK kvs)) {d : D} {v : V} (r : Rep K M H d v) : Rep K M (upd H p (.dK kv2)) d v :=
  (Rep.gr (gr_dict hp) (r.apartD hp)).mono fun a ha => List.mem_cons_of_mem _ ha
theorem RepL.dput {kv2 : List (Key × V)} (hp : H p = some (.dK kvs)) {d : List D} {v : List V} (r : RepL K M H d v) : RepL K M (upd H p (.dK kv2)) d v :=
  (RepL.gr (gr_dict hp) (r.apartD hp)).mono fun a ha => List.mem_cons_of_mem _ ha
end
section
variable {K : PySem.W.Frag} {s c d : Addr} {M0 : List Addr} {H0 : Hp} {O : List Addr} {ρ : List Sl} {n n1 n2 : Nat} {σ : L2.St} {H : Hp} {kvs kv2 : List (Key × V)}
theorem Src.neD (h : Src s c n H) (hd : H d = some (.dK kvs)) : d ≠ s ∧ d ≠ c := by
  obtain ⟨t, ns, h1, h2, _⟩ := h.ex
  exact ⟨fun z => (by rw [z, h1] at hd; cases hd), fun z => (by rw [z, h2] at hd; cases hd)⟩
theorem Ok.notO (I : Ok K s c M0 H0 O ρ n σ H) (hd : H d = some (.dK kvs)) : d ∉ O := fun z => by
  obtain ⟨xs, e⟩ := I.lst d z
  rw [hd] at e
  cases e
theorem Ok.two (I : Ok K s c M0 H0 O ρ n σ H) (hd : H d = some (.dK kvs)) : d ∉ [s, c] := not_two (I.src.neD hd).1 (I.src.neD hd).2
/-- the dict grows -/
theorem Ok.dput (I : Ok K s c M0 H0 O ρ n σ H) (h0 : H0 d = none) (hd : H d = some (.dK kvs)) : Ok K s c M0 H0 O ρ n σ (upd H d (.dK kv2)) where
  ms := I.ms
  tr := I.tr
  src := I.src.put (I.src.neD hd).1 (I.src.neD hd).2
  gr := fun a o e m => by
    rw [upd_ne fun z => by rw [z, h0] at e; cases e]
    exact I.gr a o e m
  fr := I.fr
  nd := I.nd
  sl := SlR.imp (fun _ _ r => r.dput hd) (fun _ _ r => r.dput hd) (fun o ho xs e => by rw [upd_ne fun z => I.notO hd (by rw [← z]; exact ho)]; exact e) I.sl
theorem Gr.dict {H' : Hp} (g : Gr [s, c] H H') (I : Ok K s c M0 H0 O ρ n σ H) (hd : H d = some (.dK kvs)) : H' d = some (.dK kvs) := g d _ hd (.inl (I.two hd))
/-! ### judgements with the dict -/
def EvTX (K : PySem.W.Frag) (s c d : Addr) (tt : TT) (ρ : List Sl) (n : Nat) (kvs : List (Key × V)) (P : Bool → List (Key × V) → Prop) : Prop := ∀ M0 H0 O σ H (Q : Bool → Hp → Prop), Ok K s c M0 H0 O ρ n σ H → H0 d = none → H d = some (.dK kvs) →
  (∀ b H' kv2, Ok K s c M0 H0 O ρ n σ H' → H' d = some (.dK kv2) → P b kv2 → Q b H') → tt σ H Q
structure PnX where
  nx : List Sl → Nat → List (Key × V) → Prop
  rt : D → Nat → Prop
structure GoX (K : PySem.W.Frag) (s c d : Addr) (M0 : List Addr) (H0 : Hp) (B : PnX) (Dn : Ends) : Prop where
  nx : ∀ O' ρ' n' σ' H' kv, Ok K s c M0 H0 O' ρ' n' σ' H' → H' d = some (.dK kv) → B.nx ρ' n' kv → Dn.nx σ' H'
  rt : ∀ v H' x n', Gr [s, c] H0 H' → Src s c n' H' → Rep K M0 H' x v → B.rt x n' → Dn.rt v H'
def EvSX (K : PySem.W.Frag) (s c d : Addr) (ts : TS) (ρ : List Sl) (n : Nat) (kvs : List (Key × V)) (B : PnX) : Prop := ∀ M0 H0 O σ H (Dn : Ends), Ok K s c M0 H0 O ρ n σ H → H0 d = none → H d = some (.dK kvs) → GoX K s c d M0 H0 B Dn → ts Dn σ H
theorem sx_if {tt : TT} {t u : TS} {B : PnX} {P : Bool → List (Key × V) → Prop} (h : EvTX K s c d tt ρ n kvs P) (h1 : ∀ kv, P true kv → EvSX K s c d t ρ n kv B) (h2 : ∀ kv, P false kv → EvSX K s c d u ρ n kv B) : EvSX K s c d (tIfS tt t u) ρ n kvs B := fun M0 H0 O σ H Dn I h0 hd G =>
  h M0 H0 O σ H _ I h0 hd fun b H' kv J hd' p => by
    cases b with
    | true => exact iteT (h1 kv p M0 H0 O σ H' Dn J h0 hd' G)
    | false => exact iteF (h2 kv p M0 H0 O σ H' Dn J h0 hd' G)
theorem sx_next {B : PnX} (h : B.nx ρ n kvs) : EvSX K s c d tNext ρ n kvs B := fun M0 H0 O σ H Dn I h0 hd G => G.nx O ρ n σ H kvs I hd h
theorem sx_ret {te : TE} {B : PnX} {P : D → Prop} (h : EvE K s c te ρ n n1 P) (k : ∀ x, P x → B.rt x n1) : EvSX K s c d (tRet te) ρ n kvs B := fun M0 H0 O σ H Dn I h0 hd G =>
  h M0 H0 O σ H _ I fun v H' x gr hs r p => G.rt v H' x n1 (I.gr.trans gr) hs (r.mono fun a ha => List.mem_append_right _ ha) (k x p)
/-- d.setdefault(t, v) != u, ints in the dict -/
theorem tx_setd {i : Nat} {ty tx tz : TE} {t : Str} {v u : Int} (hp : ρ[i]? = some (.va (.obj d))) (hy : EvE K s c ty ρ n n (fun x => x = .str t)) (hx : EvE K s c tx ρ n n (fun x => x = .int v)) (hz : EvE K s c tz ρ n n (fun x => x = .int u)) (hl : kvs.length < 1000)
    (hk : ∀ w, valV kvs (.inr t) = some w → ∃ j : Int, w = .int j) :
    EvTX K s c d (tTest (tOp (rNeA K) (tDSetd (tVar i) ty tx) tz)) ρ n kvs (fun b kv => (∃ j : Int, valV kvs (.inr t) = some (.int j) ∧ kv = kvs ∧ b = !decide (j = u)) ∨ (valV kvs (.inr t) = none ∧ kv = putK kvs (.inr t) (.int v) ∧ b = !decide (v = u))) := fun M0 H0 O σ H Q I h0 hd k => by
  obtain ⟨w, hw, rw'⟩ := I.sl.get hp
  have rw' : w = .ref d := rw'
  subst rw'
  refine ⟨.ref d, hw, d, rfl, .inl ⟨kvs, .inl hd⟩, hy M0 H0 O σ H _ I fun y H1 e g1 s1 r1 p1 => hx M0 H0 O σ H1 _ (I.next g1 s1) fun x H2 e2 g2 s2 r2 p2 => ?_⟩
  subst p1; subst p2
  have r1 : y = .str t := r1
  have r2 : x = .int v := r2
  subst r1; subst r2
  have J := (I.next g1 s1).next g2 s2
  have hd2 : H2 d = some (.dK kvs) := g2.dict (I.next g1 s1) (g1.dict I hd)
  have ne : ∀ {j : Int} {kv : List (Key × V)} {H3 : Hp}, Ok K s c M0 H0 O ρ n σ H3 → H3 d = some (.dK kv) → ((∃ j' : Int, valV kvs (.inr t) = some (.int j') ∧ kv = kvs ∧ (!decide (j = u)) = !decide (j' = u)) ∨ (valV kvs (.inr t) = none ∧ kv = putK kvs (.inr t) (.int v) ∧ (!decide (j = u)) = !decide (v = u))) →
      tz σ H3 fun z H4 => rNeA K (.int j) z H4 fun x' H' => ∃ k', x' = .bl k' ∧ Q k' H' := fun {j kv H3} J3 hd3 pf =>
    hz M0 H0 O σ H3 _ J3 fun z H4 e4 g4 s4 r4 p4 => by
      subst p4
      exact rk_neI (O ++ M0) n (.int j) z H4 _ ⟨List.mem_append_right _ I.ms.1, List.mem_append_right _ I.ms.2⟩ (J3.next g4 s4).thereA s4 rfl r4 fun q H5 g5 s5 r5 => ⟨_, r5, k _ H5 kv ((J3.next g4 s4).next g5 s5) (g5.dict (J3.next g4 s4) (g4.dict J3 hd3)) pf⟩
  refine ⟨kvs, .inr t, hd2, rfl, Nat.lt_of_lt_of_le hl (by decide), fun w hw => ?_, fun hn => ?_⟩
  · obtain ⟨j, rfl⟩ := hk w hw
    exact ne J hd2 (.inl ⟨j, hw, rfl, rfl⟩)
  · exact ne (J.dput h0 hd2) upd_same (.inr ⟨hn, rfl, rfl⟩)
/-- a walk with the dict at hand -/
theorem sx_for {wi : TI} {g : TG} {tb : TS} {B : PnX} {L : List D} (h : EvI K s c wi ρ n n1 (fun l => l = L)) (Inv : Nat → List Sl → Nat → List (Key × V) → Prop) (i0 : Inv 0 ρ n1 kvs)
    (hs : ∀ (i : Nat) (e : D) (ρ' : List Sl) (m : Nat) (kv : List (Key × V)), L[i]? = some e → Inv i ρ' m kv → ∃ ρ2 js, EvG K s c g e ρ' ρ2 js ∧ EvSX K s c d tb ρ2 m kv ⟨fun ρ m kv => Inv (i + 1) ρ m kv, B.rt⟩)
    (hd' : ∀ ρ' m kv, Inv L.length ρ' m kv → B.nx ρ' m kv) : EvSX K s c d (tFor wi g tb) ρ n kvs B := fun M0 H0 O σ H Dn I h0 hd G => by
  -- the walk is asked for with the dict set apart
  have A : Ok K s c (d :: M0) (minus H O) O ρ n σ H := by
    refine ⟨⟨List.mem_cons_of_mem _ I.ms.1, List.mem_cons_of_mem _ I.ms.2⟩, fun a ha => ?_, I.src, I.focus.gr, I.focus.fr, I.nd, ?_⟩
    · rcases List.mem_cons.mp ha with rfl | ha
      · exact .inr (.inr ⟨_, by rw [minus_out (I.notO hd)]; exact hd⟩)
      · exact I.focus.tr a ha
    · have mv : ∀ a ∈ O ++ (d :: M0), a ∈ d :: (O ++ M0) := fun a ha => by
        rcases List.mem_append.mp ha with z | z
        · exact List.mem_cons_of_mem _ (List.mem_append_left _ z)
        · rcases List.mem_cons.mp z with z | z
          · rw [z]; exact List.mem_cons_self
          · exact List.mem_cons_of_mem _ (List.mem_append_right _ z)
      exact SlR.imp (fun _ _ r => (r.apartD hd).mono mv) (fun _ _ r => (r.apartD hd).mono mv) (fun _ _ _ e => e) I.sl
  refine h (d :: M0) (minus H O) O σ H _ A fun J H1 ds g1 s1 w p => ?_
  subst p
  have I1 := I.next g1 s1
  have hd1 : H1 d = some (.dK kvs) := g1.dict I hd
  -- what stands from here on: all of H1 but the own lists and the dict
  have F : Ok K s c M0 (minus H1 (d :: O)) O ρ n1 σ H1 := by
    refine ⟨I1.ms, fun a ha => ?_, I1.src, fun a o e m => (minus_some e).2, fun o ho => ⟨?_, (I1.fr o ho).2⟩, I1.nd, I1.sl⟩
    · rcases I1.focus.tr a ha with z | z | ⟨o, z⟩
      · exact .inl z
      · exact .inr (.inl z)
      · by_cases e : a = d
        · exact absurd hd1 (by
            rcases I1.tr a ha with y | y | ⟨o', y⟩
            · rw [← e, y]; intro q; have := (I1.src.neD q).1; exact this rfl
            · rw [← e, y]; intro q; have := (I1.src.neD q).2; exact this rfl
            · rw [e, h0] at y; cases y)
        · refine .inr (.inr ⟨o, ?_⟩)
          have z' := minus_some z
          rw [minus_out fun q => ?_]
          · exact z'.2
          · rcases List.mem_cons.mp q with q | q
            · exact e q
            · exact z'.1 q
    · exact minus_in (List.mem_cons_of_mem _ ho)
  have back : ∀ {H3 : Hp}, Gr [s, c] (minus H1 (d :: O)) H3 → Gr [s, c] H0 H3 := fun {H3} g a o e m => g a o (by
    rw [minus_out fun q => ?_]
    · exact I1.gr a o e m
    · rcases List.mem_cons.mp q with q | q
      · rw [q, h0] at e; cases e
      · rw [(I1.fr a q).1] at e; cases e) m
  refine ⟨fun i k σ' H' => ∃ O' ρ' m kv, Ok K s c M0 (minus H1 (d :: O)) O' ρ' m σ' H' ∧ H' d = some (.dK kv) ∧ Inv i ρ' m kv ∧ i ≤ ds.length ∧ k = ds.length - i, ⟨ds.length, O, ρ, n1, kvs, F, hd1, i0, Nat.zero_le _, rfl⟩, ?_⟩
  rintro i k σ' H' ⟨O', ρ', m, kv, J', hd2, inv, hi, rfl⟩
  have nd' : ∀ o ∈ O', o ≠ d := fun o ho z => J'.notO hd2 (by rw [← z]; exact ho)
  obtain ⟨w1, w2⟩ := w O' H' (fun a o e mm => by
    by_cases q : a = d
    · exfalso
      have e' := (minus_some e).2
      rw [q, hd1] at e'
      cases e'
      rcases mm with mm | mm
      · exact mm (by rw [q]; exact List.mem_cons_self)
      · cases mm
    · refine J'.gr a o ?_ (mm.imp (fun z y => z (List.mem_cons_of_mem _ (two_sub I.ms a y))) id)
      rw [minus_out fun y => ?_]
      · exact (minus_some e).2
      · rcases List.mem_cons.mp y with y | y
        · exact q y
        · exact (minus_some e).1 y) fun o ho => by
    have f := (J'.fr o ho).1
    by_cases q : o ∈ O
    · exact minus_in q
    · rw [minus_out q]
      rw [minus_out fun y => ?_] at f
      · exact f
      · rcases List.mem_cons.mp y with y | y
        · exact nd' o ho y
        · exact q y
  by_cases hlt : i < ds.length
  · obtain ⟨w3, w4⟩ := w2 i ds[i] (List.getElem?_eq_getElem hlt)
    refine .inr ⟨w3, fun σ2 H2 => ∃ O' ρ' m kv, Ok K s c M0 (minus H1 (d :: O)) O' ρ' m σ2 H2 ∧ H2 d = some (.dK kv) ∧ Inv (i + 1) ρ' m kv, fun σ2 H2 ⟨O2, ρ2, m2, kv2, J2, hd3, inv2⟩ => ⟨ds.length - (i + 1), by omega, O2, ρ2, m2, kv2, J2, hd3, inv2, hlt, rfl⟩, fun x H2 hy => ?_⟩
    obtain ⟨g2, s2, r2⟩ := w4 x H2 hy
    have J2 := J'.next g2 (s2 _ J'.src)
    have hd3 := g2.dict J' hd2
    obtain ⟨ρ2, js, eg, es⟩ := hs i _ ρ' m kv (List.getElem?_eq_getElem hlt) inv
    refine eg M0 _ O' m σ' H2 x _ J2 (r2.mono fun a ha => ?_) fun σ2 J3 _ => ?_
    · rcases List.mem_append.mp ha with z | z
      · exact List.mem_append_left _ z
      · exact List.mem_append_right _ (List.mem_cons_of_mem _ z)
    · exact es M0 _ O' σ2 H2 _ J3 (minus_in List.mem_cons_self) hd3 ⟨fun O3 ρ3 m3 σ3 H3 kv3 J4 hd4 q => ⟨O3, ρ3, m3, kv3, J4, hd4, q⟩, fun v H3 y n3 g3 s3 r3 q => G.rt v H3 y n3 (back g3) s3 r3 q⟩
  · have e : i = ds.length := by omega
    subst e
    refine .inl ⟨w1, G.nx O' ρ' m σ' H' kv ⟨I1.ms, I1.tr, J'.src, back J'.gr, fun o ho => ⟨?_, (J'.fr o ho).2⟩, J'.nd, J'.sl⟩ hd2 (hd' ρ' m kv inv)⟩
    cases q : H0 o with
    | none => rfl
    | some u =>
      have f := (J'.fr o ho)
      have e1 := I1.gr o u q (.inl (not_two f.2.1 f.2.2))
      rw [minus_out fun y => ?_] at f
      · rw [e1] at f; cases f.1
      · rcases List.mem_cons.mp y with y | y
        · exact nd' o ho y
        · rw [(I1.fr o y).1] at q; cases q
/-- x = {}, then what is done with it -/
theorem s_dict {i : Nat} {t : TS} {Nx : List Sl → Nat → Prop} {R : D → Nat → Prop} (ho : isOw ρ[i]? = false) (hu : ∀ d, EvSX K s c d t (ρ.set i (.va (.obj d))) n [] ⟨fun ρ' m _ => Nx ρ' m, R⟩) : EvS K s c (tSeq (tAsg tDNewK (gName i)) t) ρ n ⟨Nx, R, fun _ _ => False, fun _ _ => False⟩ := fun M0 H0 O σ H Dn I G => by
  intro p hp
  have J : Ok K s c M0 H0 O ρ n σ (upd H p (.dK [])) := I.next (Gr.new hp) (I.src.new hp)
  have p0 : H0 p = none := I.gr.none hp fun z => (I.new_out hp) (I.sub p z)
  refine eg_name ho M0 H0 O n σ (upd H p (.dK [])) (.ref p) _ J (d := .obj p) rfl fun σ2 J2 _ => ?_
  exact hu p M0 H0 O σ2 _ Dn J2 p0 upd_same ⟨fun O' ρ' n' σ' H' kv J3 _ q => G.nx O' ρ' n' σ' H' J3 q, fun v H' x n' g1 s1 r1 q => G.rt v H' x n' g1 s1 r1 q⟩
/-- .. with the dict, then without it -/
theorem sx_seq {t u : TS} {Nx : List Sl → Nat → Prop} {R : D → Nat → Prop} {N : List Sl → Nat → Prop} (h : EvSX K s c d t ρ n kvs ⟨fun ρ' m _ => N ρ' m, R⟩) (hu : ∀ ρ1 n1, N ρ1 n1 → EvS K s c u ρ1 n1 ⟨Nx, R, fun _ _ => False, fun _ _ => False⟩) : EvSX K s c d (tSeq t u) ρ n kvs ⟨fun ρ' m _ => Nx ρ' m, R⟩ := fun M0 H0 O σ H Dn I h0 hd G =>
  h M0 H0 O σ H { Dn with nx := u Dn } I h0 hd ⟨fun O1 ρ1 m σ1 H1 kv J hd1 p => hu ρ1 m p M0 (minus H1 O1) O1 σ1 H1 Dn J.focus
      ⟨fun O2 ρ2 m2 σ2 H2 J2 q => G.nx O2 ρ2 m2 σ2 H2 kv (J.unfocus J2) (J2.gr d _ (by rw [minus_out (J.notO hd1)]; exact hd1) (.inl (J.two hd1))) q, fun v H2 x m2 g2 s2 r2 q => G.rt v H2 x m2 (gr_unfocus (a := 0) J g2) s2 r2 q, fun _ _ _ _ _ _ q => q.elim, fun _ _ _ _ _ _ q => q.elim⟩, G.rt⟩
end
end Pl
/-! text K02n -/
set_option Elab.async false
set_option linter.all false
set_option maxRecDepth 100000
set_option maxHeartbeats 4000000
set_option exponentiation.threshold 5000
namespace K02
open PySem PySem.Spec PyProof.Rows L2 Pl PlS

/-- what stands in the dict of places after i atoms -/
def DictIs (as : List (Str × List Str)) (i : Nat) (kv : List (Key × V)) : Prop := (∀ a ∈ as.take i, valV kv (.inr a.1) = some (.int (a.2.length : Int))) ∧ ∀ t, (∀ a ∈ as.take i, a.1 ≠ t) → valV kv (.inr t) = none
theorem dict_some {as : List (Str × List Str)} {i : Nat} {kv : List (Key × V)} {b : Str × List Str} {j : Int} (h : DictIs as i kv) (hb : as[i]? = some b) (hv : valV kv (.inr b.1) = some (.int j)) : clash as i = !decide (j = (b.2.length : Int)) := by
  have cl : clash as i = (as.take i).any fun a => decide (a.1 = b.1) && !decide ((a.2.length : Int) = (b.2.length : Int)) := by unfold clash; rw [hb]
  have all : ∀ a ∈ as.take i, a.1 = b.1 → (a.2.length : Int) = j := fun a ha e => by
    have := h.1 a ha
    rw [e, hv] at this
    cases this
    rfl
  have one : ∃ a ∈ as.take i, a.1 = b.1 := by
    apply Classical.byContradiction
    intro no
    have := h.2 b.1 fun a ha e => no ⟨a, ha, e⟩
    rw [hv] at this
    cases this
  rw [cl, Bool.eq_iff_iff, List.any_eq_true]
  constructor
  · rintro ⟨a, ha, q⟩
    rw [Bool.and_eq_true, decide_eq_true_eq] at q
    rw [all a ha q.1] at q
    exact q.2
  · intro q
    obtain ⟨a, ha, e⟩ := one
    refine ⟨a, ha, ?_⟩
    rw [all a ha e, decide_eq_true e, q]
    rfl
theorem dict_none {as : List (Str × List Str)} {i : Nat} {kv : List (Key × V)} {b : Str × List Str} (h : DictIs as i kv) (hb : as[i]? = some b) (hv : valV kv (.inr b.1) = none) : clash as i = false := by
  have cl : clash as i = (as.take i).any fun a => decide (a.1 = b.1) && !decide ((a.2.length : Int) = (b.2.length : Int)) := by unfold clash; rw [hb]
  rw [cl, List.any_eq_false]
  intro a ha q
  rw [Bool.and_eq_true, decide_eq_true_eq] at q
  have := h.1 a ha
  rw [q.1, hv] at this
  cases this
theorem take_mem {as : List (Str × List Str)} {i : Nat} {b a : Str × List Str} (hb : as[i]? = some b) (ha : a ∈ as.take (i + 1)) : a ∈ as.take i ∨ a = b := by
  rw [List.take_add_one, hb] at ha
  rcases List.mem_append.mp ha with h | h
  · exact .inl h
  · exact .inr (by simpa using h)
theorem take_sub {as : List (Str × List Str)} {i : Nat} {a : Str × List Str} (ha : a ∈ as.take i) : a ∈ as.take (i + 1) := by
  rw [List.take_add_one]
  exact List.mem_append_left _ ha
theorem take_own {as : List (Str × List Str)} {i : Nat} {b : Str × List Str} (hb : as[i]? = some b) : b ∈ as.take (i + 1) := by
  rw [List.take_add_one, hb]
  exact List.mem_append_right _ (by simp)
theorem dict_keep {as : List (Str × List Str)} {i : Nat} {kv : List (Key × V)} {b : Str × List Str} (h : DictIs as i kv) (hb : as[i]? = some b) (hv : valV kv (.inr b.1) = some (.int (b.2.length : Int))) : DictIs as (i + 1) kv :=
  ⟨fun a ha => (take_mem hb ha).elim (h.1 a) fun e => by rw [e]; exact hv, fun t ht => h.2 t fun a ha => ht a (take_sub ha)⟩
theorem dict_put {as : List (Str × List Str)} {i : Nat} {kv : List (Key × V)} {b : Str × List Str} (h : DictIs as i kv) (hb : as[i]? = some b) (hv : valV kv (.inr b.1) = none) : DictIs as (i + 1) (putK kv (.inr b.1) (.int (b.2.length : Int))) := by
  refine ⟨fun a ha => ?_, fun t ht => ?_⟩
  · rw [valV_put]
    by_cases e : (Sum.inr a.1 : Key) = .inr b.1
    · rw [if_pos e]
      have e' : a.1 = b.1 := Sum.inr.inj e
      rcases take_mem hb ha with h1 | h1
      · have := h.1 a h1
        rw [e', hv] at this
        cases this
      · rw [h1]
    · rw [if_neg e]
      rcases take_mem hb ha with h1 | h1
      · exact h.1 a h1
      · exact absurd (by rw [h1]) e
  · rw [valV_put, if_neg fun e => ht b (take_own hb) (Sum.inr.inj e).symm]
    exact h.2 t fun a ha => ht a (take_sub ha)
theorem as_inj {as bs : List (Str × List Str)} (h : as.map dAtom = bs.map dAtom) : as = bs := by
  have := congrArg (List.map unD) h
  rwa [un_all, un_all] at this
section
variable {P : Program} {w : World} {K : PySem.W.Frag} {mg : Str → Option Value} {base : Heap} {A : Adr}
theorem ok__query_error (T : Txt A K mg) : FnOk P w K mg base CX0 4 A.f__query_error A.fd__query_error ["head", "atoms"] (Pr K preErr 0 postErr) := by
  have G__different_variables := ok__different_variables (P := P) (w := w) (base := base) T
  have G__is_atom := ok__is_atom (P := P) (w := w) (base := base) T
  have G_is_tuple_of_names := ok_is_tuple_of_names (P := P) (w := w) (base := base) T
  refine T.F__query_error.ok sc__query_error (fun vs H Q E h => pr_len h fun s c ds hp => ?_) (fun cdv A' outer st H vs Q E hr h => have hw : _ := hr.units; ⟨_, (pss_cons (ps_if (pt_not (pt_val (pe_call G_is_tuple_of_names (hr.mono (by decide)) (by rfl) T.m_is_tuple_of_names T.F_is_tuple_of_names.kp T.b_is_tuple_of_names .nil pass0 (pa_cons (pv 0) (pa_cons pe_int (pa_cons (pe_glob (v := .int 3) rfl T.m_MOST_IN_HEAD.choose_spec ⟨_, rfl⟩) pa_nil)))))) (pss_one (ps_ret (pe_tup (pa_cons pe_str pa_nil)))) pss_nil)
      (pss_cons (ps_if (PW.pt (pw_or (pt_not (pt_val (pe_callB (k_isi (K := K)) (by rfl) T.m_isinstance (by decide +kernel) (pa_cons (pv 1) (pa_cons (pe_tup (pa_cons (pe_bltn (v := .ty "list") (u := .type "list") (by rfl) T.m_list (by decide +kernel) rfl) (pa_cons (pe_bltn (v := .ty "tuple") (u := .type "tuple") (by rfl) T.m_tuple (by decide +kernel) rfl) pa_nil))) pa_nil))))) (pw_or1 (pt_not (pt_chain op_le op_le pe_int (pe_callB (k_len K) (by rfl) T.m_len (by decide +kernel) (pa_cons (pv 1) pa_nil)) (pe_glob (v := .int 6) rfl T.m_MOST_ATOMS.choose_spec ⟨_, rfl⟩)))))) (pss_one (ps_ret (pe_tup (pa_cons pe_str pa_nil)))) pss_nil)
      (pss_cons (ps_for PassesOwn.never rfl (k_pienum (K := K) (by rfl) T.m_enumerate (pa_cons (pv 1) pa_nil)) (k_pgtup K rfl (pgs_cons (pg_name (i := 2) sc__query_error.nd rfl (by first | exact Or.inl rfl | exact Or.inr rfl)) (pgs_cons (pg_name (i := 3) sc__query_error.nd rfl (by first | exact Or.inl rfl | exact Or.inr rfl)) pgs_nil))) (pss_one (ps_if (pt_not (pt_val (pe_call G__is_atom (hr.mono (by decide)) (by rfl) T.m__is_atom T.F__is_atom.kp T.b__is_atom .nil pass0 (pa_cons (pv 3) pa_nil)))) (pss_one (ps_ret (pe_tup (pa_cons pe_str (pa_cons (pv 2) pa_nil))))) pss_nil)))
      (pss_cons (ps_set (i := 4) sc__query_error.nd rfl (by first | exact Or.inl rfl | exact Or.inr rfl) pe_dnewK)
      (pss_cons (ps_for PassesOwn.never rfl (k_pienum (K := K) (by rfl) T.m_enumerate (pa_cons (pv 1) pa_nil)) (k_pgtup K rfl (pgs_cons (pg_name (i := 2) sc__query_error.nd rfl (by first | exact Or.inl rfl | exact Or.inr rfl)) (pgs_cons (k_pgtup K rfl (pgs_cons (pg_name (i := 5) sc__query_error.nd rfl (by first | exact Or.inl rfl | exact Or.inr rfl)) (pgs_cons (pg_name (i := 6) sc__query_error.nd rfl (by first | exact Or.inl rfl | exact Or.inr rfl)) pgs_nil))) pgs_nil))) (pss_one (ps_if (pt_cmpR (k_neA hw) (pe_dsetd (pv 4) (pv 5) (pe_callB (k_len K) (by rfl) T.m_len (by decide +kernel) (pa_cons (pv 6) pa_nil)) (by constructor <;> rfl)) (pe_callB (k_len K) (by rfl) T.m_len (by decide +kernel) (pa_cons (pv 6) pa_nil)) (nomark _)) (pss_one (ps_ret (pe_tup (pa_cons pe_str (pa_cons (pv 2) pa_nil))))) pss_nil)))
      (pss_cons (ps_set (i := 7) sc__query_error.nd rfl (by first | exact Or.inl rfl | exact Or.inr rfl) (pe_call G__different_variables (hr.mono (by decide)) (by rfl) T.m__different_variables T.F__different_variables.kp T.b__different_variables .nil pass0 (pa_cons (pv 1) pa_nil)))
      (pss_cons (ps_for PassesOwn.never rfl (k_pienum (K := K) (by rfl) T.m_enumerate (pa_cons (pv 0) pa_nil)) (k_pgtup K rfl (pgs_cons (pg_name (i := 2) sc__query_error.nd rfl (by first | exact Or.inl rfl | exact Or.inr rfl)) (pgs_cons (pg_name (i := 8) sc__query_error.nd rfl (by first | exact Or.inl rfl | exact Or.inr rfl)) pgs_nil))) (pss_one (ps_if (pt_cmpR (k_nin (K := K)) (pv 8) (pv 7) rfl) (pss_one (ps_ret (pe_tup (pa_cons pe_str (pa_cons (pv 2) pa_nil))))) pss_nil)))
      (pss_cons (ps_if (pt_cmpR op_gt (pe_callB (k_len K) (by rfl) T.m_len (by decide +kernel) (pa_cons (pv 7) pa_nil)) (pe_glob (v := .int 5) rfl T.m_MOST_VARIABLES.choose_spec ⟨_, rfl⟩) (nomark _)) (pss_one (ps_ret (pe_tup (pa_cons pe_str pa_nil)))) pss_nil)
      (pss_one (ps_ret pe_non)))))))))), body_ok h fun s c n ds hn hp => ?_⟩)
  · obtain ⟨x, y, rfl, _⟩ := hp
    rfl
  · obtain ⟨x, y, rfl, ⟨tx, dx⟩, ty, dy⟩ := hp
    have fin : ∀ z, z = errD x y → (⟨fun _ m => m ≤ n + 0 ∧ postErr s c [x, y] .non, fun d m => m ≤ n + 0 ∧ postErr s c [x, y] d, fun _ _ => False, fun _ _ => False⟩ : Pn).rt z n := fun z e => ⟨Nat.le_refl _, x, y, rfl, e⟩
    -- the head
    refine s_seq (N := fun ρ' m => n = m ∧ ρ' = [.va x, .va y, .no, .no, .no, .no, .no, .no, .no] ∧ namesB 0 3 x = true) (s_ifK (b := !namesB 0 3 x) (et_notK (et_BK (ev_defK (ea_c (ev_var rfl) (ea_c ev_int (ea_c ev_int ea_nil))) (by omega) ⟨x, 0, 3, rfl, tx⟩ fun d h => by
        obtain ⟨x', lo, hi, e, rfl⟩ := h
        cases e
        rfl))) (fun e => ?_) fun e => ?_) fun ρ1 n1 h1 => ?_
    · refine s_ret (ev_tupE (ea_one ev_str) (by exact (by decide : (1 : Nat) ≤ 1000))) fun d hd => ?_
      rw [hd]
      refine fin _ ?_
      rw [Bool.not_eq_true'] at e
      unfold errD
      rw [if_pos e]
      rfl
    · rw [Bool.not_eq_false'] at e
      exact s_next ⟨rfl, rfl, e⟩
    obtain ⟨rfl, rfl, hx⟩ := h1
    obtain ⟨hd, rfl, _, h3, hnm⟩ := names_is hx
    have errx : ∀ y, errD (.tup (dStrs hd)) y = match seqD y with | none => E1 "atoms" | some l => if (l.length : Int) < 1 ∨ (6 : Int) < l.length then E1 "atoms" else errL hd l := fun y => by
      unfold errD
      rw [if_neg (by rw [hx]; simp), textsD_of]
      all_goals rfl
    -- the list of atoms
    refine s_seq (N := fun ρ' m => n = m ∧ ρ' = [.va (.tup (dStrs hd)), .va y, .no, .no, .no, .no, .no, .no, .no] ∧ ∃ l, seqD y = some l ∧ (1 : Int) ≤ l.length ∧ (l.length : Int) ≤ 6) ?_ fun ρ1 n1 h1 => ?_
    · cases q : seqD y with
      | none =>
        have nl : (isLst y || isTup y) = false := by cases y <;> first | rfl | cases q
        refine s_ifK (b := !(isLst y || isTup y) || false) (et_orK (et_notK (et_BK (ev_isiT (ev_var rfl) (tame_top ty) (any_lt _ (tame_top ty))))) fun e => by rw [nl] at e; cases e) (fun e => ?_) fun e => by rw [nl] at e; cases e
        refine s_ret (ev_tupE (ea_one ev_str) (by exact (by decide : (1 : Nat) ≤ 1000))) fun d hd => ?_
        rw [hd]
        refine fin _ ?_
        rw [errx, q]
        rfl
      | some l =>
        have nl : (isLst y || isTup y) = true := by cases y <;> first | rfl | cases q
        refine s_ifK (b := !(isLst y || isTup y) || !(decide ((1 : Int) ≤ (l.length : Int)) && decide ((l.length : Int) ≤ 6))) (et_orK (et_notK (et_BK (ev_isiT (ev_var rfl) (tame_top ty) (any_lt _ (tame_top ty))))) fun _ => et_notK (et_K (ev_chainK ev_int (ev_callK (ea_one (ev_var rfl)) (ck_len q)) ev_int rfl rk_le rk_le))) (fun e => ?_) fun e => ?_
        · refine s_ret (ev_tupE (ea_one ev_str) (by exact (by decide : (1 : Nat) ≤ 1000))) fun d hd => ?_
          rw [hd]
          refine fin _ ?_
          rw [nl, Bool.not_true, Bool.false_or, Bool.not_eq_true', Bool.and_eq_false_iff, decide_eq_false_iff_not, decide_eq_false_iff_not] at e
          rw [errx, q]
          show _ = if _ then _ else _
          rw [if_pos (by omega)]
          rfl
        · rw [nl, Bool.not_true, Bool.false_or, Bool.not_eq_false', Bool.and_eq_true, decide_eq_true_eq, decide_eq_true_eq] at e
          exact s_next ⟨rfl, rfl, l, rfl, e⟩
    obtain ⟨rfl, rfl, l, q, l1, l6⟩ := h1
    obtain ⟨ll, tl, dl⟩ := seq_tame q ty dy
    have erry : errD (.tup (dStrs hd)) y = errL hd l := by
      rw [errx, q]
      show (if _ then _ else _) = _
      rw [if_neg (by omega)]
    -- each atom
    refine s_seq (N := fun ρ' m => n = m ∧ (∃ y2 y3, ρ' = [.va (.tup (dStrs hd)), .va y, y2, y3, .no, .no, .no, .no, .no] ∧ isOw (some y2) = false ∧ isOw (some y3) = false) ∧ ∀ j, j < l.length → notAtom l j = false) ?_ fun ρ1 n1 h1 => ?_
    · refine s_for (ei_enum (ea_one (ev_var rfl)) q)
        (fun ds i ρ' m => n = m ∧ (∃ y2 y3, ρ' = [.va (.tup (dStrs hd)), .va y, y2, y3, .no, .no, .no, .no, .no] ∧ isOw (some y2) = false ∧ isOw (some y3) = false) ∧ ∀ j, j < i → notAtom l j = false)
        (fun ds e => ⟨rfl, ⟨.no, .no, rfl, rfl, rfl⟩, fun j hj => absurd hj (Nat.not_lt_zero j)⟩) (fun ds e i d ρ' m hi inv => ?_) fun ds e ρ' m inv => ?_
      · obtain ⟨rfl, ⟨y2, y3, rfl, o2, o3⟩, hn'⟩ := inv
        rw [e] at hi
        obtain ⟨b, hb, rfl⟩ := en_at' hi
        have il := (List.getElem?_eq_some_iff.mp hb).1
        refine ⟨_, _, eg_tup (egs_cons (eg_name (j := 2) o2) (egs_cons (eg_name (j := 3) o3) egs_nil)) rfl, ?_⟩
        refine s_ifK (b := !atomB b) (et_notK (et_BK (ev_defK (ea_one (ev_var rfl)) (by omega) ⟨b, rfl, tl b (List.mem_of_getElem? hb)⟩ fun d h => by
          obtain ⟨x', e, rfl⟩ := h
          cases e
          rfl))) (fun e => ?_) fun e => ?_
        · refine s_ret (ev_tupE (ea_c ev_str (ea_one (ev_var rfl))) (by exact (by decide : (2 : Nat) ≤ 1000))) fun d hd' => ?_
          rw [hd']
          refine fin _ ?_
          rw [erry]
          unfold errL
          rw [firstT_hit il (by unfold notAtom; rw [hb]; exact e) hn']
          rfl
        · refine s_next ⟨rfl, ⟨_, _, rfl, rfl, rfl⟩, fun j hj => ?_⟩
          rcases Nat.lt_or_eq_of_le (Nat.le_of_lt_succ hj) with hj | rfl
          · exact hn' j hj
          · unfold notAtom
            rw [hb]
            exact e
      · rw [e, en_len] at inv
        exact inv
    obtain ⟨rfl, ⟨y2, y3, rfl, o2, o3⟩, hna⟩ := h1
    obtain ⟨as, rfl, has⟩ := atoms_are (l := l) fun d hd => by
      obtain ⟨i, hi⟩ := List.getElem?_of_mem hd
      have := hna i (List.getElem?_eq_some_iff.mp hi).1
      unfold notAtom at this
      rw [hi] at this
      rw [Bool.not_eq_false'] at this
      exact this
    rw [List.length_map] at l1 l6
    have errz : errD (.tup (dStrs hd)) y = errA hd as := by
      rw [erry]
      unfold errL
      rw [firstT_none hna, un_all]
    have vl := vars_len (as := as) fun a ha => (has a ha).2.2.1
    -- places
    refine s_dict (i := 4) rfl fun dd => ?_
    refine sx_seq (N := fun ρ' m => n = m ∧ (∃ y2 y5 y6, ρ' = [.va (.tup (dStrs hd)), .va y, y2, y3, .va (.obj dd), y5, y6, .no, .no] ∧ isOw (some y2) = false) ∧ ∀ j, j < as.length → clash as j = false) ?_ fun ρ1 n1 h1 => ?_
    · refine sx_for (L := dEn 0 (as.map dAtom)) (ei_enum (ea_one (ev_var rfl)) q)
        (fun i ρ' m kv => n = m ∧ (∃ y2 y5 y6, ρ' = [.va (.tup (dStrs hd)), .va y, y2, y3, .va (.obj dd), y5, y6, .no, .no] ∧ isOw (some y2) = false ∧ isOw (some y5) = false ∧ isOw (some y6) = false) ∧ (∀ j, j < i → clash as j = false) ∧ DictIs as i kv ∧ kv.length ≤ i)
        ⟨rfl, ⟨y2, .no, .no, rfl, o2, rfl, rfl⟩, fun j hj => absurd hj (Nat.not_lt_zero j), ⟨fun a ha => by simp at ha, fun t _ => rfl⟩, Nat.le_refl _⟩ (fun i e ρ' m kv hi inv => ?_) fun ρ' m kv inv => ?_
      · obtain ⟨rfl, ⟨y2, y5, y6, rfl, o2, o5, o6⟩, hn', hdi, hkl⟩ := inv
        obtain ⟨b0, hb0, rfl⟩ := en_at' hi
        rw [List.getElem?_map] at hb0
        obtain ⟨b, hb, rfl⟩ : ∃ b, as[i]? = some b ∧ dAtom b = b0 := by
          cases z : as[i]? with
          | none => rw [z] at hb0; cases hb0
          | some b => rw [z] at hb0; cases hb0; exact ⟨b, rfl, rfl⟩
        have il := (List.getElem?_eq_some_iff.mp hb).1
        refine ⟨_, _, eg_tup (egs_cons (eg_name (j := 2) o2) (egs_cons (eg_tup (egs_cons (eg_name (j := 5) o5) (egs_cons (eg_name (j := 6) o6) egs_nil)) rfl) egs_nil)) rfl, ?_⟩
        have lenE : EvE K s c (tCB (rLenA K) (tCons (tVar 6) tNil)) [.va (.tup (dStrs hd)), .va y, .va (.int (i : Nat)), y3, .va (.obj dd), .va (.str b.1), .va (.tup (dStrs b.2)), .no, .no] n n (fun x => x = .int (b.2.length : Int)) := ev_is (ev_callK (ea_one (ev_var rfl)) (ck_len rfl)) (by rw [strs_len])
        refine sx_if (tx_setd (i := 4) (t := b.1) rfl (ev_var rfl) lenE lenE (by omega) fun w hw => ?_) (fun kv2 hP => ?_) fun kv2 hP => ?_
        · apply Classical.byContradiction
          intro no
          have none' : ∀ a ∈ as.take i, a.1 ≠ b.1 := fun a ha e => by
            have := hdi.1 a ha
            rw [e, hw] at this
            exact no ⟨_, Option.some.inj this⟩
          have := hdi.2 b.1 none'
          rw [hw] at this
          cases this
        · rcases hP with ⟨j, hv, rfl, e⟩ | ⟨hv, rfl, e⟩
          · refine sx_ret (ev_tupE (ea_c ev_str (ea_one (ev_var rfl))) (by exact (by decide : (2 : Nat) ≤ 1000))) fun d hd' => ?_
            rw [hd']
            refine fin _ ?_
            rw [errz]
            unfold errA
            rw [firstT_hit il ((dict_some hdi hb hv).trans e.symm) hn']
            rfl
          · rw [decide_eq_true rfl] at e
            cases e
        · rcases hP with ⟨j, hv, rfl, e⟩ | ⟨hv, rfl, e⟩
          · have cl := (dict_some hdi hb hv).trans e.symm
            have ej : j = (b.2.length : Int) := by
              have := e.symm
              rw [Bool.not_eq_false', decide_eq_true_eq] at this
              exact this
            refine sx_next ⟨rfl, ⟨_, _, _, rfl, rfl, rfl, rfl⟩, fun j' hj => ?_, dict_keep hdi hb (by rw [hv, ej]), by omega⟩
            rcases Nat.lt_or_eq_of_le (Nat.le_of_lt_succ hj) with hj | rfl
            · exact hn' j' hj
            · exact cl
          · have cl := dict_none hdi hb hv
            refine sx_next ⟨rfl, ⟨_, _, _, rfl, rfl, rfl, rfl⟩, fun j' hj => ?_, dict_put hdi hb hv, ?_⟩
            · rcases Nat.lt_or_eq_of_le (Nat.le_of_lt_succ hj) with hj | rfl
              · exact hn' j' hj
              · exact cl
            · have := length_putK kv (.inr b.1) (V.int (b.2.length : Int))
              omega
      · obtain ⟨rfl, ⟨y2, y5, y6, rfl, o2, o5, o6⟩, hn', _⟩ := inv
        rw [en_len, List.length_map] at hn'
        exact ⟨rfl, ⟨y2, y5, y6, rfl, o2⟩, hn'⟩
    obtain ⟨rfl, ⟨y2, y5, y6, rfl, o2⟩, hnc⟩ := h1
    -- the variables
    refine s_seq (N := fun ρ' m => n = m ∧ ρ' = [.va (.tup (dStrs hd)), .va y, y2, y3, .va (.obj dd), y5, y6, .va (.lst (dStrs (usort (as.flatMap (·.2))))), .no]) (s_set (ev_defK (z := .lst (dStrs (usort (as.flatMap (·.2))))) (ea_one (ev_var rfl)) (by omega) ⟨y, as, rfl, q, by omega⟩ fun d h => ?_) rfl fun d e => ⟨rfl, by rw [e]; rfl⟩) fun ρ1 n1 h1 => ?_
    · obtain ⟨x', as', e, e2, rfl⟩ := h
      cases e
      rw [q] at e2
      rw [as_inj (Option.some.inj e2)]
    obtain ⟨rfl, rfl⟩ := h1
    -- the head's variables
    refine s_seq (N := fun ρ' m => n = m ∧ (∃ y2 y8, ρ' = [.va (.tup (dStrs hd)), .va y, y2, y3, .va (.obj dd), y5, y6, .va (.lst (dStrs (usort (as.flatMap (·.2))))), y8]) ∧ ∀ j, j < hd.length → notVar hd (usort (as.flatMap (·.2))) j = false) ?_ fun ρ1 n1 h1 => ?_
    · refine s_for (ei_enum (ea_one (ev_var rfl)) (l := dStrs hd) rfl)
        (fun ds i ρ' m => n = m ∧ (∃ y2 y8, ρ' = [.va (.tup (dStrs hd)), .va y, y2, y3, .va (.obj dd), y5, y6, .va (.lst (dStrs (usort (as.flatMap (·.2))))), y8] ∧ isOw (some y2) = false ∧ isOw (some y8) = false) ∧ ∀ j, j < i → notVar hd (usort (as.flatMap (·.2))) j = false)
        (fun ds e => ⟨rfl, ⟨y2, .no, rfl, o2, rfl⟩, fun j hj => absurd hj (Nat.not_lt_zero j)⟩) (fun ds e i d ρ' m hi inv => ?_) fun ds e ρ' m inv => ?_
      · obtain ⟨rfl, ⟨y2, y8, rfl, o2, o8⟩, hn'⟩ := inv
        rw [e] at hi
        obtain ⟨b0, hb0, rfl⟩ := en_at' hi
        unfold dStrs at hb0
        rw [List.getElem?_map] at hb0
        obtain ⟨b, hb, rfl⟩ : ∃ b, hd[i]? = some b ∧ D.str b = b0 := by
          cases z : hd[i]? with
          | none => rw [z] at hb0; cases hb0
          | some b => rw [z] at hb0; cases hb0; exact ⟨b, rfl, rfl⟩
        have il := (List.getElem?_eq_some_iff.mp hb).1
        have nv : notVar hd (usort (as.flatMap (·.2))) i = !decide (b ∈ usort (as.flatMap (·.2))) := by unfold notVar; rw [hb]
        refine ⟨_, _, eg_tup (egs_cons (eg_name (j := 2) o2) (egs_cons (eg_name (j := 8) o8) egs_nil)) rfl, ?_⟩
        refine s_ifK (b := !decide (b ∈ usort (as.flatMap (·.2)))) (et_K (ev_opK (ev_var rfl) (ev_var rfl) (rk_nin rfl))) (fun e => ?_) fun e => ?_
        · refine s_ret (ev_tupE (ea_c ev_str (ea_one (ev_var rfl))) (by exact (by decide : (2 : Nat) ≤ 1000))) fun d hd' => ?_
          rw [hd']
          refine fin _ ?_
          rw [errz]
          unfold errA
          rw [firstT_none hnc, firstT_hit il (nv.trans e) hn']
          rfl
        · refine s_next ⟨rfl, ⟨_, _, rfl, rfl, rfl⟩, fun j hj => ?_⟩
          rcases Nat.lt_or_eq_of_le (Nat.le_of_lt_succ hj) with hj | rfl
          · exact hn' j hj
          · exact nv.trans e
      · obtain ⟨rfl, ⟨y2, y8, rfl, _, _⟩, hn'⟩ := inv
        rw [e, en_len, strs_len] at hn'
        exact ⟨rfl, ⟨y2, y8, rfl⟩, hn'⟩
    obtain ⟨rfl, ⟨y2, y8, rfl⟩, hnv⟩ := h1
    have errw : errA hd as = if (5 : Int) < ((usort (as.flatMap (·.2))).length : Int) then E1 "variables" else .non := by
      unfold errA
      rw [firstT_none hnc, firstT_none hnv]
    refine s_seq (N := fun ρ' m => n = m ∧ ¬ (5 : Int) < ((usort (as.flatMap (·.2))).length : Int)) (s_ifK (b := decide ((5 : Int) < ((usort (as.flatMap (·.2))).length : Int))) (et_K (ev_opK (ev_is (ev_callK (ea_one (ev_var rfl)) (ck_len rfl)) (by rw [strs_len])) ev_int rk_gt)) (fun e => ?_) fun e => s_next ⟨rfl, of_decide_eq_false e⟩) fun ρ1 n1 h1 => ?_
    · refine s_ret (ev_tupE (ea_one ev_str) (by exact (by decide : (1 : Nat) ≤ 1000))) fun d hd' => ?_
      rw [hd']
      refine fin _ ?_
      rw [errz, errw, if_pos (of_decide_eq_true e)]
      rfl
    · obtain ⟨rfl, hw5⟩ := h1
      refine s_ret ev_non fun d hd' => ?_
      rw [hd']
      refine fin _ ?_
      rw [errz, errw, if_neg hw5]
end

end K02
/-! text PlR -/
set_option Elab.async false
set_option linter.all false
set_option maxRecDepth 100000
set_option maxHeartbeats 4000000
set_option exponentiation.threshold 5000
/-! PlR: repr of lists and tuples of data, where no repr is under way (the room's guards are empty). -/
namespace Pl
open PySem PySem.Spec PyProof.Rows L2
def rReprD (K : PySem.W.Frag) : List V → Hp → VK → Prop := fun xs H Q => ∃ (a : Addr) (d : PyData), xs = [.ref a] ∧ Dp K H (.ref a) d ∧ d.showable = true ∧ d.hasDict = false ∧ d.depth ≤ 64 ∧ d.shown.length ≤ sizeLine ∧ Q (.str d.shown) H
theorem call_reprD {X : Cx} (hg : X.A.guards = some []) (hu : X.A.units + 66 < cLine) : CallR X (.builtin "repr") (rReprD X.K) := by
  intro pins s σ H xs us Q I r h
  obtain ⟨a, d, rfl, hd, h1, h2, h3, h4, q⟩ := h
  obtain ⟨u, rfl, ru⟩ := vals1 r
  obtain ⟨as, rd⟩ := Dp.reads I d _ u hd ru
  obtain rfl : u = Value.ref a := ru
  exact repr_of_reads' rd h1 (fun z => by rw [h2] at z; cases z) hg (by omega) (fun _ _ e => e) (fun h' t tk k => ⟨.str d.shown, H, I.kept (t' := tk) k, ⟨t, rfl⟩, q⟩) h4
section
variable {K : PySem.W.Frag} {s c : Addr}
theorem ck_repr {x : D} (hp : plain x = true) (hs : isTup x = true ∨ isLst x = true) (h1 : (py x).showable = true) (h2 : (py x).hasDict = false) (h3 : (py x).depth ≤ 64) (h4 : (py x).shown.length ≤ sizeLine) : CK K s c (rReprD K) [x] (.str (py x).shown) := fun M n vs H Q hm ht hh r k => by
  obtain ⟨v, rfl, rv⟩ := r.inv1
  have hd := rep_dp rv hp
  have ref : ∃ a, v = .ref a := by
    cases x with
    | tup l => obtain ⟨a, xs, e, _⟩ := rv; exact ⟨a, e⟩
    | lst l => obtain ⟨a, xs, e, _⟩ := rv; exact ⟨a, e⟩
    | _ => rcases hs with h | h <;> cases h
  obtain ⟨a, rfl⟩ := ref
  exact ⟨a, py x, rfl, hd, h1, h2, h3, h4, k _ H (Gr.refl _ _) hh rfl⟩
end
end Pl
/-! text PlG -/
set_option Elab.async false
set_option linter.all false
set_option maxRecDepth 100000
set_option maxHeartbeats 4000000
set_option exponentiation.threshold 5000
/-! PlG: a def run in one known place (the law itself, whose caller prints nothing): as the library's promise of a def, but for this one place. -/
namespace Pl
open PySem PySem.Spec PyProof.Rows L2
/-- the def at f, called in the place A by no frame of ours -/
def RunsAt (P : Program) (w : World) (K : PySem.W.Frag) (mg : Str → Option Value) (base : Heap) (A : Around) (f : Addr) (fd : FuncData) (ps : List Str) (sp : Sp) : Prop :=
  ∀ (st : Shared) (H : Hp) (us : List Value) (vs : List V) (Q : VK), Env0 P w K mg base A [] st H → BindsTo st fd ⟨us, []⟩ (ps.zip us) → Vals vs us → sp vs H Q E0 →
    codeAny (model P w) A (.call (.ref f) ⟨us, []⟩) (CR CX0 [] P w H st Q E0) st
theorem runs_at {P : Program} {w : World} {K : PySem.W.Frag} {mg : Str → Option Value} {base : Heap} {A : Around} {x qual : Str} {dst : Stmt} {f : Addr} {fd : FuncData} {N ps : List Str} {k : Nat} {sp : Sp} (F : Fun K x qual dst f fd) (S : FnScope N ps (defScope dst)) (room : Room (k + 1) A)
    (len : ∀ vs H Q E, sp vs H Q E → vs.length = ps.length)
    (body : ∀ (cdv : Value) (st : Shared) (H : Hp) (vs : List V) (Q : VK), Room k (A.deeper (envOfC qual (defScope dst) st.heap.objs.size f cdv)) → sp vs H Q E0 →
      ∃ t, PSs (cxOf CX0 P w K mg base N qual (defScope dst) f cdv A [] st H E0).nox (defBody dst) t ∧ t { nx := fun _ H' => Q .non H', rt := Q } (L2.start N vs) H) : RunsAt P w K mg base A f fd ps sp := by
  obtain ⟨oc, od, kV, doc, pm, an, cdv, ct, so, rfl, look, code⟩ := F.ex
  intro st H us vs Q start0 bound rel wish
  have few := len _ _ _ _ wish
  have inK : K.In st.heap := start0.mod.kin.keeps fun b o z => (start0.bs b o z).1
  have free : st.heap.NoLimit := start0.mod.nolimit.keeps fun b o z => (start0.bs b o z).1
  have kinds : ∀ y ∈ ps.zip us, (defScope dst).names.lookup y.1 = some .local ∨ ((defScope dst).names.lookup y.1 = some .cell ∧ ((cellsFrom (st.heap.objs.size + 1) (defScope dst).names []).lookup y.1).isSome = true) := by
    rintro ⟨nm, v⟩ hy
    exact (S.par nm (List.of_mem_zip hy).1).imp id fun q => ⟨q, PySem.W.cellsFrom_some _ _ _ (.inl q)⟩
  refine codeAny_call_function room.depth (inK _ _ look) rfl S.co S.gen rfl (PySem.W.codeRec_of inK code) (bound _ _ _ _ ?_)
  refine wpAny_newFunctionEnv_cells S.kind kinds fun env henv s1 born => ?_
  subst henv
  refine ⟨free.keeps born.toInCall.keep, codeAny_func ?_⟩
  obtain ⟨t, ht, reading⟩ := body cdv st H vs Q (room.deeper _) wish
  refine wpAny_mono (ht.nox.run [] s1 _ H _ (inv_start S room.hd start0 few rel born) reading) (fun flow s2 hs => ?_) fun _ _ hs => hs
  cases flow with
  | ret u =>
    obtain ⟨v, σ2, H2, J, rv, q⟩ := hs
    exact ⟨v, H2, J.os, J.bare, J.base, J.hok, rv, q⟩
  | next =>
    obtain ⟨σ2, H2, J, q⟩ := hs
    exact ⟨.non, H2, J.os, J.bare, J.base, J.hok, rfl, q⟩
  | brk =>
    obtain ⟨_, _, _, no⟩ := hs
    exact no.elim
  | cont =>
    obtain ⟨_, _, _, no⟩ := hs
    exact no.elim
/-- the law's answer, from what its def does in the caller's place -/
theorem law_at {P : Program} {w : World} {K : PySem.W.Frag} {mg mb : Str → Option Value} {fa a : Addr} {fd : FuncData} {x : Str} {sp : Sp} {st : Shared} {vals : List Value} {ns : List Int}
    (inK : K.In st.heap) (glob : st.heap.Ns mainGlobals mg) (blt : st.heap.Ns builtinsNs mb) (bltE : ∀ x : Str, x ≠ "__name__" → mb x = bootBuiltins x) (free : st.heap.NoLimit) (noGens : st.gens = #[])
    (script : st.heap.get? a = some { cls := .type "list", data := .seq vals.toArray }) (ia : IntsAre vals ns) (short : ns.length ≤ sizeLine)
    (runs : ∀ base : Heap, K.In base → base.Ns mainGlobals mg → RunsAt P w K mg base callerA fa fd [x] sp) (binds : ∀ (s : Shared) (u : Value), BindsTo s fd ⟨[u], []⟩ [(x, u)])
    (wish : ∀ H : Hp, Only H → SqL K H a (ns.map V.int) → sp [.ref a] H (fun v _ => v = .bl true) E0) :
    codeAny (model P w) callerA (.call (.ref fa) ⟨[.ref a], []⟩) (fun r s' => r = .ok (.ret (.bool true)) ∧ OldK st.heap s'.heap ∧ s'.os = st.os ∧ AllBare s'.gens) st := by
  have rel := vals_ints ia
  have len := ia.length
  -- H tells of the script alone, or of nothing where the module itself holds it
  have main : ∀ H : Hp, Only H → SqL K H a (ns.map V.int) → HOk P w H st.heap → (∀ b, b ≠ a → H b = none) → (H a ≠ none → K.lookup a = none) →
      codeAny (model P w) callerA (.call (.ref fa) ⟨[.ref a], []⟩) (fun r s' => r = .ok (.ret (.bool true)) ∧ OldK st.heap s'.heap ∧ s'.os = st.os ∧ AllBare s'.gens) st := fun H only sq fits others mine => by
    have dicts : ∀ {b : Addr} {o : Obj} {es : Array DictEntry} {ep : Nat}, st.heap.get? b = some o → o.data = .dict es ep → H b = none := fun {b o es ep} g dd => by
      by_cases same : b = a
      · subst same
        rw [script] at g
        cases g
        exact nomatch (show Data.seq vals.toArray _ = Data.dict es ep from dd)
      · exact others b same
    have seen : ∀ {b : Addr} {m : Str → Option Value}, st.heap.Ns b m → (hidT st.heap H).Ns b m := fun {b m} q => by
      obtain ⟨o, es, ep, g, dd, r⟩ := q
      exact ⟨o, es, ep, hidT_get g (dicts g dd), dd, r⟩
    have kin : K.In (hidT st.heap H) := fun b o look => hidT_get (inK b o look) (by
      by_cases same : b = a
      · subst same
        cases q : H b with
        | none => rfl
        | some u => rw [mine (by rw [q]; exact fun z => nomatch z)] at look; cases look
      · exact others b same)
    have modl : Mod K mg (hidT st.heap H) := ⟨kin, seen glob, ⟨mb, seen blt, bltE⟩, by
      obtain ⟨mc, q1, q2⟩ := free
      exact ⟨mc, seen q1, q2⟩⟩
    have start0 : Env0 P w K mg (hidT st.heap H) callerA [] st H := ⟨rfl, modl, fun b o z => of_hidT z, Nat.le_of_eq (hidT_size _ _), trivial, fun b hb => by simp [frs] at hb, fits, .of_eq noGens⟩
    refine codeAny_mono (runs _ kin (seen glob) st H [.ref a] [.ref a] _ start0 (binds st (.ref a)) (.cons rfl .nil) (wish H only sq)) fun r s2 fin => ?_
    match r, fin with
    | .error _, fin => exact False.elim fin
    | .ok .next, fin => exact False.elim fin
    | .ok .brk, fin => exact False.elim fin
    | .ok .cont, fin => exact False.elim fin
    | .ok (.ret u), fin =>
      obtain ⟨v, H2, os, bare, un, fits2, ru, hv⟩ := fin
      have hv : v = .bl true := hv
      subst hv
      obtain rfl : u = Value.bool true := ru
      refine ⟨rfl, OldK.of_keep fun b o g => ?_, os, bare⟩
      rcases only b with q | ⟨ob, xs, q⟩
      · exact un.keep b o g q (by simp [frs]) (by simp)
      · have old := (fits b _ q).1
        have new := (fits2 b _ (un.frzs b ob _ q)).1
        rw [g] at old
        cases old
        exact new
  cases look : K.lookup a with
  | some o =>
    have g := inK a o look
    rw [script] at g
    cases g
    exact main (fun _ => none) (fun _ => .inl rfl) (.inr ⟨_, vals.toArray, _, look, rfl, rfl, rfl, by rw [List.size_toArray, len]; exact short, by simpa using rel⟩) (fun b u z => nomatch (show (none : Option HO) = some u from z)) (fun _ _ => rfl) fun z => (z rfl).elim
  | none =>
    let H : Hp := fun b => if b = a then some (.frz { cls := .type "list", data := .seq vals.toArray } (.lst (ns.map V.int))) else none
    have ha : H a = some (.frz { cls := .type "list", data := .seq vals.toArray } (.lst (ns.map V.int))) := if_pos rfl
    have hb : ∀ b, b ≠ a → H b = none := fun b ne => if_neg ne
    refine main H (fun b => ?_) (.inl (.inr ⟨_, ha⟩)) (fun b u z => ?_) hb fun _ => look
    · by_cases same : b = a
      · exact .inr ⟨_, _, by rw [same]; exact ha⟩
      · exact .inl (hb b same)
    · by_cases same : b = a
      · subst same
        rw [ha] at z
        cases z
        exact ⟨script, by rw [List.length_map]; exact short, vals, _, rel, script⟩
      · rw [hb b same] at z
        cases z
/-- the goal that the head leaves, from what the law's def does in the caller's place -/
theorem walk_at {l : PySem.W.OpenLaw} {n : Nat} {q : Program} {loose : List Str} {XP : (Str → Option Value) → Heap → Prop} {YP : World → Heap → Prop} {d : DefRec} {K : Params → PySem.W.Frag} {sp : World → Sp} {x : Str}
    (most : l.most = some n) (short : n ≤ sizeLine) (plain : d.params.defaults = []) (written : ∀ (w : World) (h : Heap), YP w h → (K w.params).In h)
    (runs : ∀ (w : World) (mg : Str → Option Value) (fa : Addr) (h : Heap), (K w.params).In h → h.Ns mainGlobals mg → mg d.name = some (.ref fa) →
      ∃ fd : FuncData, (∀ (s : Shared) (u : Value), BindsTo s fd ⟨[u], []⟩ [(x, u)]) ∧ ∀ base : Heap, (K w.params).In base → base.Ns mainGlobals mg → RunsAt l.prog w (K w.params) mg base callerA fa fd [x] (sp w))
    (wish : ∀ (w : World) (H : Hp) (a : Addr) (ns : List Int), ns.length ≤ n → Only H → SqL (K w.params) H a (ns.map V.int) → sp w [.ref a] H (fun v _ => v = .bl true) E0) :
    PySem.W.WalkO q loose XP YP l.row.toRowW d [] (fun f vs => PySem.call f vs) := by
  refine Att.attach_call most plain fun w _ st mg mb fa _ _ _ _ a vals ns G Y _ _ _ named script ia few noGens => ?_
  have inK := written w _ Y
  obtain ⟨fd, binds, r⟩ := runs w mg fa _ inK G.T.g named
  exact law_at inK G.T.g G.T.b G.T.builtins G.T.nolimit noGens script ia (Nat.le_trans few short) r binds fun H only sq => wish w H a ns few only sq
end Pl
/-! text PlH -/
set_option Elab.async false
set_option linter.all false
set_option maxRecDepth 100000
set_option maxHeartbeats 4000000
set_option exponentiation.threshold 5000
/-! PlH: a caught error that outlives its except suite: its object is told of in the heap from the suite's end on. -/
namespace Pl
open PySem PySem.Spec PyProof.Rows L2
/-- at a: an error of the class cls, its own dict at d -/
def Xv (cls : Value) (d : Option Addr) (a : Addr) : HO := .ext fun h => ∃ (oe : Obj) (vs : Array Value), h.get? a = some oe ∧ Zc cls d oe ∧ oe.data = .fields vs
theorem xv_ok {P : Program} {w : World} {H : Hp} {h : Heap} {a : Addr} {cls : Value} {d : Option Addr} {oe : Obj} {vs : Array Value} (he : h.get? a = some oe) (hz : Zc cls d oe) (hd : oe.data = .fields vs) : ObjOk P w H h a (Xv cls d a) :=
  ⟨⟨oe, vs, he, hz, hd⟩, ⟨oe, he⟩, fun h1 h2 p k => by
    obtain ⟨o, us, q1, q2, q3⟩ := p
    exact ⟨o, us, k o q1, q2, q3⟩⟩
section
variable {X : Cx} {pins : List (Addr × Obj)} {σ : L2.St} {H : Hp} {s : Shared}
theorem Inv.hold {a : Addr} {oe : Obj} {vs : Array Value} {cls : Value} {d : Option Addr} (I : Inv X pins σ H s) (he : s.heap.get? a = some oe) (hz : Zc cls d oe) (hd : oe.data = .fields vs) (na : H a = none) (nL : a ≠ X.env.locals) (np : ∀ p ∈ X.pn ++ pins, p.1 ≠ a) (fresh : X.s_0.heap.get? a = none) :
    Inv X pins σ (upd H a (Xv cls d a)) s where
  ok := I.ok
  os := I.os
  bare := I.bare
  base := by
    have out : ∀ {b : Addr} {o : HO}, H b = some o → upd H a (Xv cls d a) b = some o := fun {b o} e => by
      rw [upd_ne fun z => by rw [z, na] at e; cases e]
      exact e
    exact ⟨I.base.keep, I.base.slot, fun b o e n x => by
      rw [upd_ne fun z => by rw [z, fresh] at e; cases e]
      exact I.base.free b o e n x, I.base.there, fun b xs e => out (I.base.tups b xs e), fun b o u e => out (I.base.frzs b o u e), fun b ps e => by
      obtain ⟨more, q⟩ := I.base.tbls b ps e
      exact ⟨more, out q⟩⟩
  loc := I.loc
  cell := I.cell
  free := by
    rw [upd_ne (Ne.symm nL)]
    exact I.free
  freeC := fun x c e => by
    rw [upd_ne fun z => ?_]
    · exact I.freeC x c e
    · obtain ⟨v, o, q1, q2⟩ := I.cell x c e
      rw [z, he] at q1
      cases q1
      rw [hd] at q2
      cases q2
  pin := fun p hp => by
    obtain ⟨q1, q2, q3⟩ := I.pin p hp
    refine ⟨q1, ?_, q3⟩
    rw [upd_ne (np p hp)]
    exact q2
  hok := fun b u e => by
    by_cases z : b = a
    · subst z
      rw [upd_same] at e
      cases e
      exact xv_ok he hz hd
    · rw [upd_ne z] at e
      have out : ∀ {b : Addr} {o : HO}, H b = some o → upd H a (Xv cls d a) b = some o := fun {b o} e => by
        rw [upd_ne fun z => by rw [z, na] at e; cases e]
        exact e
      exact (I.hok b u e).stay (fun _ _ _ q => q) (fun _ q => out q) fun _ _ q => out q
  len := I.len
end
/-- what 'except x as n: suite' asks of every error of the body; behind the suite the error's object is told of -/
def wHold (K : PySem.W.Frag) (c : Value) (i : Nat) (ts : Addr → Value → Option Addr → TS) (Dn : Ends) : WX := fun cls d σ H => PySem.W.exmOne K cls c = some true ∧
  ∀ a, H a = none → ts a cls d { nx := fun σ' H' => Dn.nx (σ'.set i none) (upd H' a (Xv cls d a)), rt := fun _ _ => False } (σ.set i (some (.ref a))) H
section
variable {X : Cx} {x n : Str} {c : Value} {i : Nat} {body suite : List Stmt} {b₀ : Stmt} {np pos pos' : Pos} {tb : WX → TS} {ts : Addr → Value → Option Addr → TS}
theorem ps_try_hold (exE : X.ex = []) (stk : X.stack = X.env :: X.outer) (frm : X.env.frame = some X.env.locals) (nd : X.N.Nodup) (slot : X.N[i]? = some n) (loc : X.env.kindOf n = some .local) (named : Names X x c)
    (bodyP : ∀ (W : WX) (pn : List (Addr × Obj)) (xe : Value → Shared → Prop), Takes (X.tr pn xe) W → PassesOwn (model X.prog X.w) X.A X.env xe → PSs (X.tr pn xe) body (tb W))
    (suiteP : ∀ (a : Addr) (oe : Obj) (cls : Value) (d : Option Addr) (pn : List (Addr × Obj)), Zc cls d oe → (∃ vs, oe.data = .fields vs) → PSs (X.suite a ((a, oe) :: pn)) (b₀ :: suite) (ts a cls d)) :
    PS X (.Try body [.ExceptHandler (some (.Name x np)) (some n) (b₀ :: suite) pos'] [] [] pos) (fun Dn σ H => tb (wHold X.K c i ts Dn) Dn σ H) := by
  constructor
  intro pins s σ H Dn I h
  have ok := I.ok
  have frs0 : X.A.frames = some (X.env :: X.outer) := by rw [ok.frames, stk]
  have locn : Loc X.env.scope n := .inl loc
  refine wpAny_Try_except (wpAny_mono ((bodyP (wHold X.K c i ts Dn) (X.pn ++ pins) (fun e s1 => wpAny (model X.prog X.w) X.A (noteFrame e X.env) (fun _ s2 => wpAny (model X.prog X.w) X.A (setFlight e none) (fun _ s3 =>
    wpAny (model X.prog X.w) X.A (handleBy e X.env [.ExceptHandler (some (.Name x np)) (some n) (b₀ :: suite) pos']) (SP X pins Dn) X.xe s3) X.xe s2) X.xe s1) (fun u s2 air => ?_) PassesOwn.looking).run [] s σ H Dn (I.toTry _) h) (fun fl s1 out => ?_) fun _ _ z => z)
  · obtain ⟨a, B, sI, pins2, σ2, H2, cls, d, rfl, J0, nb, up, sky, na, os, ag, hm, wish⟩ := air
    have J : Inv X pins σ2 H2 sI := J0.ofTry ok
    rw [stk] at sky
    refine Sky.land Zc.steady frs0 frm sky fun h3 fl3 up3 => ?_
    have ground : B.get? a = none := fl3.2.1
    have off : ∀ {h : Heap} {o : Obj} {vs : Array Value}, h.FunFrames B (X.env :: X.outer) → h.get? a = some o → o.data = .fields vs → a ∉ frs (X.env :: X.outer) := fun {h o vs} ff e dd hin => by
      obtain ⟨_, o2, e2, no⟩ := ff.mem hin
      rw [e] at e2
      cases e2
      exact no _ dd
    obtain ⟨oe3, vs3, he3, hz3, hd3⟩ := fl3.there
    have offA := off fl3.2.2.1 he3 hd3
    have newI : sI.heap.get? a = none := by
      cases q : sI.heap.get? a with
      | none => rfl
      | some o =>
        have := nb a o q (by
          show a ∉ frs X.stack
          rw [stk]
          exact offA)
        rw [ground] at this
        cases this
    have new0 : X.s_0.heap.get? a = none := by
      cases q : X.s_0.heap.get? a with
      | none => rfl
      | some o =>
        have hex : a ∉ X.ex := by
          rw [exE]
          simp
        obtain ⟨o2, q2⟩ := J.base.there a o q hex
        rw [newI] at q2
        cases q2
    have J3 : Inv X pins σ2 H2 { s2 with heap := h3 } := J.landed nb fl3.1 (up.trans up3) os ag
    have notL : a ≠ X.env.locals := fun z => offA (List.mem_filterMap.mpr ⟨X.env, List.mem_cons_self, by rw [frm, z]⟩)
    have notF : a ∉ X.fs := fun hin => by
      obtain ⟨e, he, q⟩ := List.mem_filterMap.mp hin
      exact offA (List.mem_filterMap.mpr ⟨e, List.mem_cons_of_mem _ he, q⟩)
    have notP : ∀ p ∈ X.pn ++ pins, p.1 ≠ a := fun p hp z => by
      have := (J.pin p hp).1
      rw [z, newI] at this
      cases this
    have S3 := J3.suite he3 hd3 na notL notF
    refine wpAny_handleBy_cons (codeAny_handlers_test ?_) (fun q => nomatch q)
    have ty : PySem.W.Looks (model X.prog X.w) h3 (typeOf (.ref a)) cls := fun Ar Q E s9 k q => wpAny_typeOf_ref (k _ _ he3) (by
      rw [hz3.1]
      exact q)
    have class_ : ∀ {Q : Value → Shared → Prop} {E : Value → Shared → Prop}, Q c { s2 with heap := h3 } → wpAny (model X.prog X.w) (X.A.mark (some (.ref a))) (eval (.Name x np) X.env) Q E { s2 with heap := h3 } := fun {Q E} q => by
      obtain ⟨g1, g2, g3 | ⟨g3, g4, g5⟩⟩ := named
      · exact ld_glob (X := X.suite a ((a, oe3) :: (X.pn ++ pins))) S3 g1 g3 q g2
      · exact ld_blt (X := X.suite a ((a, oe3) :: (X.pn ++ pins))) S3 g1 g3 g4 q g5 g2
    refine class_ ((PySem.W.exm_one (M := model X.prog X.w) J3.kIn ty hm).here (codeAny_handlers_suite_as ?_))
    refine HandSPX.lands_againZ fl3 fun h4 fl4 up4 => ?_
    have J4 : Inv X pins σ2 H2 { s2 with heap := h4 } := J.landed nb fl4.1 ((up.trans up3).trans up4) os ag
    obtain ⟨oe4, vs4, he4, hz4, hd4⟩ := fl4.there
    refine store_ok (X := X.suite a ((a, oe4) :: (X.pn ++ pins))) (v := .ref a) (J4.suite he4 hd4 na notL notF) nd slot locn rfl (fun s5 S5 => ?_) (.inr loc)
    refine wpAny_mono ((suiteP a oe4 cls d (X.pn ++ pins) hz4 ⟨_, hd4⟩).run [] s5 _ H2 _ S5 (wish a na)) (fun fl s6 out => ?_) (fun _ _ z => False.elim z)
    cases fl with
    | next =>
      obtain ⟨σ6, H6, S6, q6⟩ := out
      have at6 := S6.pin (a, oe4) (List.mem_append_left _ List.mem_cons_self)
      exact gone_ok (Pl.Inv.hold (S6.unsuite ok) at6.1 hz4 hd4 at6.2.1 notL notP new0) nd slot loc fun s7 J7 => ⟨_, _, J7, q6⟩
    | brk =>
      obtain ⟨_, _, _, no⟩ := out
      exact no.elim
    | cont =>
      obtain ⟨_, _, _, no⟩ := out
      exact no.elim
    | ret u =>
      obtain ⟨_, _, _, _, _, no⟩ := out
      exact no.elim
  · cases fl with
    | next =>
      obtain ⟨σ2, H2, J, q⟩ := out
      exact wpAny_execs_nil ⟨σ2, H2, J.ofTry ok, q⟩
    | brk =>
      obtain ⟨σ2, H2, J, q⟩ := out
      exact ⟨σ2, H2, J.ofTry ok, q⟩
    | cont =>
      obtain ⟨σ2, H2, J, q⟩ := out
      exact ⟨σ2, H2, J.ofTry ok, q⟩
    | ret u =>
      obtain ⟨v, σ2, H2, J, r, q⟩ := out
      exact ⟨v, σ2, H2, J.ofTry ok, r, q⟩
end
end Pl
/-! text PlI -/
set_option Elab.async false
set_option linter.all false
set_option maxRecDepth 100000
set_option maxHeartbeats 4000000
set_option exponentiation.threshold 5000
/-! PlI: isinstance of an error that is held as a value (it may have a dict of its own), and its fields. -/
namespace Pl
open PySem PySem.Spec PySem.Calls PyProof.Rows
section
variable {prog : Program} {w : World} {Ar : Around} {Ex : Value → Shared → Prop} {st : Shared} {K : PySem.W.Frag} {x D : Addr} {ox : Obj} {od : Option Obj}
theorem find_dat {C : Addr} {nm : Str} {at1 get1 : Value} (known : (PySem.W.clsIn K C).isSome = true) (has : PySem.W.findIn K (.ref C) nm = some (some at1)) (gets : PySem.W.specialIn K at1 "__get__" = some (some get1)) (takes : PySem.W.takesIn K at1 = some true) :
    PySem.W.findObj K C od nm = some (.bind get1 at1) := by
  obtain ⟨cd, known⟩ := Option.isSome_iff_exists.mp known
  unfold PySem.W.findObj
  simp [known, has, gets, takes]
theorem class_ofX {Qv : Option Value → Shared → Prop} (T : L2.ExcC K D) (inK : K.In st.heap) (inst : PySem.W.InstAt st.heap x ox D od) (fin : Qv (some (.ref D)) { st with toks := st.toks + 1 }) :
    wpAny (model prog w) Ar (getAttr? (.ref x) "__class__") Qv Ex st := by
  have found : PySem.W.findObj K D od "__class__" = some (.bind (.builtin "getset_descriptor.__get__") (.builtin "object.__class__")) := find_dat (by
    obtain ⟨cd, c, _⟩ := PySem.W.any_some T.hd
    rw [c]
    rfl) T.ha T.hn T.ht
  obtain ⟨hp, gl, dr, tk, os⟩ := st
  have look0 := inst.type (M := model prog w)
  have look1 := PySem.W.looks_findIn (M := model prog w) inK T.hg
  have look2 := PySem.W.looks_findIn (M := model prog w) inK T.hk
  have look3 := PySem.W.looks_find (M := model prog w) inK inst found
  have isE : PySem.W.Looks (model prog w) hp (isInstance (.ref x) (.type "BaseException")) true := look0.andThen (PySem.W.looks_subIn inK T.hs)
  have no2 : (Value.builtin "BaseException.__getattribute__" == Value.builtin "object.__getattribute__") = false := by decide +kernel
  have no1 : (onTheHeap (Value.ref D) && Value.builtin "BaseException.__getattribute__" == Value.builtin "object.__getattribute__") = false := (congrArg (fun b => onTheHeap (Value.ref D) && b) no2).trans (Bool.and_false _)
  have no0 : (false && onTheHeap (Value.builtin "BaseException.__getattribute__")) = false := rfl
  unfold getAttr? getAttrBy? getAttrBy
  apply wpAny_bind; apply wpAny_mkText; apply wpAny_bind; apply wpAny_attempt; apply wpAny_holding; apply wpAny_bind
  refine look0.at ?_
  apply wpAny_bind
  refine look1.at ?_
  show wpAny _ _ (if (onTheHeap (Value.ref D) && Value.builtin "BaseException.__getattribute__" == Value.builtin "object.__getattribute__") = true then _ else _) _ _ _
  rw [if_neg (by rw [no1]; exact Bool.false_ne_true)]
  unfold getAttrByItsOwn hookBefore
  apply wpAny_bind
  have onH : onTheHeap (Value.ref D) = true := rfl
  rw [if_pos onH]
  refine look2.at ?_
  apply wpAny_bind; apply wpAny_attempt; apply wpAny_holding
  unfold callGetattribute
  rw [if_neg (by rw [no0]; exact Bool.false_ne_true)]
  unfold boundAndCalled
  rw [PySem.F.excAttr_ValueError.ga.bind (.ref x)]
  apply wpAny_bind; apply wpAny_pure
  show wpAny _ _ (call (.builtin "BaseException.__getattribute__") [.ref x, .str "__class__" tk]) _ _ _
  apply wpAny_call
  refine codeAny_call_builtin PySem.F.excAttr_ValueError.ga.plain PySem.F.entry_bexc_ga (@PySem.W.check_slot (model prog w) _ _ ⟨hp, gl, dr, tk + 1, os⟩ "BaseException.__getattribute__" "BaseException" "__getattribute__" (.ref x) [.str "__class__" tk] [] _ (by decide +kernel) (by decide +kernel) isE (PySem.F.args_bexc_ga (.ref x) (.str "__class__" tk)) ?_)
  unfold Builtin.«object.__getattribute__»
  apply wpAny_bind
  refine wpAny_of_eq (a := ((Value.ref x : Value), [Value.str "__class__" tk])) (by first | rfl | (simp only [slotArgs]; rfl)) ?_
  apply wpAny_bind; apply wpAny_pure; apply wpAny_bind
  refine look0.at ?_
  apply wpAny_bind
  refine look3.at ?_
  show wpAny _ _ (holding [Value.builtin "object.__class__"] (call (.builtin "getset_descriptor.__get__") [.builtin "object.__class__", .ref x, .ref D]) >>= ret) _ _ _
  apply wpAny_bind; apply wpAny_holding; apply wpAny_call
  refine PySem.W.class_get (s := ⟨hp, gl, dr, tk + 1, os⟩) (ox := ox) (od := od) inK inst T.hm ?_
  apply wpAny_pure
  show wpAny _ _ (handedOut (.ref D)) _ _ _
  rw [PySem.W.handedOut_of (v := .ref D) rfl]
  first
    | exact wpAny_pure (wpAny_pure fin)
    | exact wpAny_pure fin
    | exact wpAny_pure (wpAny_bind (wpAny_pure (wpAny_pure fin)))
theorem class_there {K : PySem.W.Frag} {D : Addr} (h : PySem.W.hasDictIn K D = true) : ∃ (cv : Value) (dv : Option Addr) (cd : ClassData) (sl : Array (Option Value)), K.lookup D = some ⟨cv, dv, .cls cd, sl⟩ := by
  obtain ⟨cd, q, _⟩ := PySem.W.any_some h
  unfold PySem.W.clsIn at q
  split at q
  · rename_i cv dv cd2 sl e
    exact ⟨cv, dv, _, sl, e⟩
  · cases q
theorem kitx_errX (T : L2.ExcC K D) : PySem.W.KitX K (.ref x) (.ref D) (fun h => PySem.W.InstAt h x ox D od) where
  ty := fun _ _ _ inst => inst.type
  it := fun _ h inK _ => by
    obtain ⟨cv, dv, cd, sl, e⟩ := class_there T.hd
    intro Ar Qv Ex st k q
    unfold isType loadHead
    exact wpAny_bind (wpAny_loadPart (k _ _ (inK _ _ e)) (wpAny_pure q))
  ne := fun h tp dd its n sl inK at_ => by
    obtain ⟨cv, dv, cd, sl2, e⟩ := class_there T.hd
    cases same : (Value.ref D == Value.ref tp) with
    | false => rfl
    | true =>
      have q : D = tp := Value.ref.inj (beq_iff_eq.mp same)
      subst q
      have z := inK _ _ e
      rw [at_] at z
      cases z
  ca := fun inK inst k => class_ofX T inK inst k
end
end Pl
namespace Pl
open PySem PySem.Spec PyProof.Rows L2
/-- isinstance(e, c), e an error that is held as a value -/
def rIsX (K : PySem.W.Frag) : List V → Hp → VK → Prop := fun xs H Q => ∃ (a D : Addr) (d : Option Addr) (c : V) (u : Value) (b : Bool), xs = [.ref a, c] ∧ ClsV c u ∧ H a = some (Xv (.ref D) d a) ∧ (∀ dd, d = some dd → ∃ fs, H dd = some (.xd fs)) ∧ ExcC K D ∧ PySem.W.kitOne K (.ref D) u = some b ∧ Q (.bl b) H
theorem inst_of {X : Cx} {pins : List (Addr × Obj)} {σ : L2.St} {H : Hp} {s : Shared} {a D : Addr} {d : Option Addr} (I : Inv X pins σ H s) (ha : H a = some (Xv (.ref D) d a)) (hd : ∀ dd, d = some dd → ∃ fs, H dd = some (.xd fs)) : ∃ ox od, PySem.W.InstAt s.heap a ox D od := by
  obtain ⟨⟨oe, vs, e1, e2, e3⟩, _⟩ := I.hok a _ ha
  have no : PySem.W.notCls oe = true := by
    unfold PySem.W.notCls
    rw [e3]
  cases d with
  | none => exact ⟨oe, none, e1, e2.1, no, by rw [e2.2]; trivial⟩
  | some dd =>
    obtain ⟨fs, hx⟩ := hd dd rfl
    obtain ⟨mA, ns, _⟩ := (show ObjOk X.prog X.w H s.heap dd (.xd fs) from I.hok dd _ hx)
    obtain ⟨o, es, ep, q, _⟩ := ns
    exact ⟨oe, some o, e1, e2.1, no, by rw [e2.2]; exact q⟩
theorem call_isX {X : Cx} : CallR X (.builtin "isinstance") (rIsX X.K) := by
  intro pins s σ H xs us Q I r h
  obtain ⟨a, D, d, c, u, b, rfl, cl, ha, hd, T, e, q⟩ := h
  obtain ⟨u1, u2, rfl, r1, r2⟩ := vals2 r
  cases r1
  have e2 := cl.eq r2
  subst e2
  obtain ⟨ox, od, inst⟩ := inst_of I ha hd
  exact PySem.W.kia_one (kitx_errX T) I.kIn inst e (fun z => nomatch z) fun tk => ⟨.bl b, H, I.tok tk, rfl, q⟩
/-- e.f, e an error that is held as a value -/
def tFx (K : PySem.W.Frag) (te : TE) (f : Str) : TE := fun σ H Q => te σ H fun x H1 => ∃ (a D dd : Addr) (fs : List (Str × V)) (v : V), x = .ref a ∧ H1 a = some (Xv (.ref D) (some dd) a) ∧ H1 dd = some (.xd fs) ∧ XfC K D ∧ PySem.W.findIn K (.ref D) f = some none ∧ fs.lookup f = some v ∧ Q v H1
theorem pe_fx {X : Cx} {e : Expr} {te : TE} {pos : Pos} {f : Str} (he : PE X e te) (hb : attributeBase e f X.env (eval e X.env) = eval e X.env := by rfl) : PE X (.Attribute e f pos) (tFx X.K te f) := by
  refine ⟨fun pins s σ H Q I h => attr_of hb (thn (he.run pins s σ H _ I h) fun u s1 z => ?_)⟩
  obtain ⟨x, H1, I1, rx, a, D, dd, fs, v, rfl, ha, hx, T, no, look, q⟩ := z
  obtain rfl : u = Value.ref a := rx
  obtain ⟨⟨oe, vs, e1, e2, e3⟩, _⟩ := I1.hok a _ ha
  obtain ⟨mA, ns, rel⟩ := (show ObjOk X.prog X.w H1 s1.heap dd (.xd fs) from I1.hok dd _ hx)
  obtain ⟨od, at1, look1⟩ := lookIn_ns ns
  obtain ⟨u, hu, ru⟩ := RelO.some_of (v := v) (o := mA f) (by rw [← look]; exact rel f)
  have inst : PySem.W.InstAt s1.heap a oe D (some od) := ⟨e1, e2.1, by unfold PySem.W.notCls; rw [e3], by rw [e2.2]; exact at1⟩
  exact HandSPX.exc_get I1.kIn inst T.ga T.gg T.exC (PySem.W.findObj_own T.hdC no rfl (by rw [look1, hu])) (handed_of ru) ⟨v, H1, I1.tok _, ru, q⟩
end Pl
/-! text K02q -/
set_option Elab.async false
set_option linter.all false
set_option maxRecDepth 100000
set_option maxHeartbeats 4000000
set_option exponentiation.threshold 5000
namespace K02
open PySem PySem.Spec PyProof.Rows L2 Pl PlS
/-- the j-th statement of the class at the i-th -/
def inCls (i j : Nat) : Stmt := match topS i with
  | .ClassDef _ _ _ body _ _ _ _ _ _ _ => body.getD j (.Pass ⟨0, 0, 0, 0⟩)
  | _ => .Pass ⟨0, 0, 0, 0⟩
def clsName (i : Nat) : Str := match topS i with
  | .ClassDef n _ _ _ _ _ _ _ _ _ _ => n
  | _ => Str.ofString ""
theorem cls_err : clsName 4 = "InvalidQuery" := by decide +kernel
theorem cls_query : clsName 14 = "Query" := by decide +kernel
abbrev s_iq_init : Stmt := inCls 4 0
theorem sc_iq_init : FnScope ["self", "reason"] ["self", "reason"] (defScope s_iq_init) := ⟨rfl, rfl, rfl, by decide +kernel, rfl, by decide +kernel, by decide +kernel⟩
/-- InvalidQuery.__init__ -/
def spIq (K : PySem.W.Frag) (C : Addr) : Sp := fun vs H Q _ => ∃ a r, vs = [.ref a, r] ∧ OexC K C ∧ PySem.W.findIn K (.ref C) "reason" = some none ∧ H a = some (exo a C none) ∧ ∀ dx, H dx = none → dx ≠ a → Q .non (upd (upd H dx (exd dx [("reason", r)])) a (exo a C (some dx)))
section
variable {P : Program} {w : World} {K : PySem.W.Frag} {mg : Str → Option Value} {base : Heap}
theorem ok_iq_init {f C : Addr} {fd : FuncData} (F : Fun K "__init__" "InvalidQuery.__init__" s_iq_init f fd) : FnOk P w K mg base CX0 1 f fd ["self", "reason"] (spIq K C) := by
  refine F.ok sc_iq_init (fun vs H Q E h => ?_) (fun cdv A' outer st H vs Q E hr h => ⟨_, pss_one (ps_ost (pv 0) (pv 1)), ?_⟩)
  · obtain ⟨a, r, rfl, _⟩ := h
    rfl
  · obtain ⟨a, r, rfl, T, no, ha, q⟩ := h
    exact ⟨r, rfl, .ref a, rfl, a, C, rfl, T, no, .inl ⟨ha, fun dx h1 h2 => q dx h1 h2⟩⟩
/-- InvalidQuery(r) on its way: what the library asks, from what is wished of the error with the field reason -/
theorem mk_iq {C : Addr} {r : V} {H1 : Hp} {Q : XK} (T : OexC K C) (no : PySem.W.findIn K (.ref C) "reason" = some none) (q : ∀ d, H1 d = none → Q (.ref C) (some d) (upd H1 d (.xd [("reason", r)]))) :
    [r].length ≤ 1000 ∧ ∀ a, H1 a = none → spIq K C (.ref a :: ([r] ++ [])) (upd H1 a (exo a C none))
      (fun v H2 => v = .non ∧ ∃ (d : Addr) (fs : List (Str × V)), H2 a = some (exo a C (some d)) ∧ H2 d = some (exd d fs) ∧ H1 d = none ∧ Q (.ref C) (some d) (upd (del H2 a) d (.xd fs))) (fun _ _ _ => False) := by
  refine ⟨by exact (by decide : (1 : Nat) ≤ 1000), fun a ha => ⟨a, r, rfl, T, no, upd_same, fun dx h1 h2 => ⟨rfl, dx, _, upd_same, by rw [upd_ne h2]; exact upd_same, by rw [upd_ne h2] at h1; exact h1, ?_⟩⟩⟩
  have h1' : H1 dx = none := by rw [upd_ne h2] at h1; exact h1
  have e : upd (del (upd (upd (upd H1 a (exo a C none)) dx (exd dx [("reason", r)])) a (exo a C (some dx))) a) dx (.xd [("reason", r)]) = upd H1 dx (.xd [("reason", r)]) := by
    funext b
    by_cases eb : b = dx
    · rw [eb, upd_same, upd_same]
    · rw [upd_ne eb, upd_ne eb]
      by_cases ea : b = a
      · rw [ea, del_same, ha]
      · rw [del_ne ea, upd_ne ea, upd_ne eb, upd_ne ea]
  rw [e]
  exact q dx h1'
end
end K02
/-! text PlQ -/
set_option Elab.async false
set_option linter.all false
set_option maxRecDepth 100000
set_option maxHeartbeats 4000000
set_option exponentiation.threshold 5000
/-! PlQ: an instance is made by an __init__ that may raise, where what is wished of the error hangs on the slots (in a try). -/
namespace Pl
open PySem PySem.Spec PyProof.Rows L2
/-- C(e, ..): the instance, or what the slots' wish says of an error -/
def tMakeS (C : Addr) (sp : Sp) (E : L2.St → XK) (t : TA) : TE := fun σ H Q => t σ H fun zs G => ∀ i d, G i = none → G d = none → d ≠ i →
  sp (.ref i :: zs) (upd (upd G d (.own i)) i (.ins C d [])) (fun v G2 => v = .non ∧ Q (.ref i) G2) (E σ)
section
variable {X : Cx} {CX : CXT} {k : Nat} {f C : Addr} {fd : FuncData} {ps : List Str} {sp : Sp} {E : L2.St → XK} {x : Str} {p pos : Pos} {e : Expr} {es : List Expr} {t : TA}
theorem made_at {pins : List (Addr × Obj)} {σ : L2.St} {G : Hp} {st : Shared} {Q : VK} {us : List Value} {zs : List V} (kit : Mk X.K C f) (ini : FnOk X.prog X.w X.K X.mg X.base CX k f fd ps sp) (room : Room (k + 1) X.A) (bnd : Binds X.K fd ps [])
    (out : PassesAt CX X σ (E σ)) (J : Inv X pins σ G st) (rel : Vals zs us)
    (wish : ∀ i d, G i = none → G d = none → d ≠ i → sp (.ref i :: zs) (upd (upd G d (.own i)) i (.ins C d [])) (fun v G2 => v = .non ∧ Q (.ref i) G2) (E σ)) :
    wpAny (model X.prog X.w) X.A (call (.ref C) us) (EP X pins σ Q) X.xe st := by
  have want := wish (st.heap.objs.size + 1) st.heap.objs.size (J.hok.fresh (Nat.le_succ _)) (J.hok.fresh (Nat.le_refl _)) (Nat.ne_of_lt (Nat.lt_succ_self _))
  have J2 := Inv.made (C := C) J
  have rel2 : Vals (V.ref (st.heap.objs.size + 1) :: zs) (Value.ref (st.heap.objs.size + 1) :: us) := .cons rfl rel
  have count : (Value.ref (st.heap.objs.size + 1) :: us).length = ps.length := rel2.length.symm.trans (ini.len _ _ _ _ want)
  have bound := bnd _ (Value.ref (st.heap.objs.size + 1) :: us) J2.kIn (by rw [List.append_nil]; exact count)
  rw [List.append_nil] at bound
  refine wpAny_call (make_map (f := f) J.kIn kit.makes kit.init (beq_iff_eq.mp kit.fn) (codeAny_mono (ini.run _ X.stack _ _ ⟨Value.ref (st.heap.objs.size + 1) :: us, []⟩ (Value.ref (st.heap.objs.size + 1) :: us) _ _ (E σ)
    (room.make C us []) (J2.env0.make C us []) bound rel2 want) fun flow s2 end_ => ?_))
  match flow, end_ with
  | .error u, end_ => exact out pins _ _ u s2 J2 end_
  | .ok (.ret u), end_ =>
    obtain ⟨v, G2, J3, rv, hv, q⟩ := J2.after end_
    subst hv
    exact ⟨rv, ⟨.ref (st.heap.objs.size + 1), G2, J3, rfl, q⟩⟩
  | .ok .next, end_ => exact False.elim end_
  | .ok .brk, end_ => exact False.elim end_
  | .ok .cont, end_ => exact False.elim end_
theorem pe_makeS (kit : Mk X.K C f) (ini : FnOk X.prog X.w X.K X.mg X.base CX k f fd ps sp) (room : Room (k + 1) X.A) (hg : Gl X x) (hm : X.mg x = some (.ref C)) (bnd : Binds X.K fd ps []) (out : ∀ σ, PassesAt CX X σ (E σ))
    (ha : PA X (e :: es) t) (hdb : (x == ("__debug__" : Str)) = false := by decide) (he : starEach (e :: es) X.env = (false, eval e X.env) :: starEach es X.env := by rfl) (hpl : (backTo pos (starEach es X.env)).any (·.1) = false := by rfl) :
    PE X (.Call (.Name x p) (e :: es) [] pos) (tMakeS C sp E t) := ⟨fun pins st σ G Q J h =>
  wpAny_Call_Name_kw (ld_glob J hg hm (PySem.W.callWith_K (h₀ := X.base) J.ok.mod.kin kit.kp (thn (ha.run pos pins st σ G _ J h) fun us s1 z => by
    obtain ⟨zs, G1, J1, rel, q⟩ := z
    exact ⟨J1.kIn, made_at kit ini room bnd (out σ) J1 rel q⟩) he hpl) hdb)⟩
end
end Pl
/-! text PlJ -/
set_option Elab.async false
set_option linter.all false
set_option maxRecDepth 100000
set_option maxHeartbeats 4000000
set_option exponentiation.threshold 5000
/-! PlJ: own instances: != by an own __eq__ alone, == and str by own defs, both answers. -/
namespace Pl
open PySem PySem.Spec PySem.Calls PySem.W PyProof.Rows Builtin
section
variable {prog : Program} {w : World} {A : Around} {E : Value → Shared → Prop} {st : Shared} {K : Frag} {x C L f : Addr} {h₀ : Heap} {m : Str → Option Value} {ox : Obj} {od : Option Obj} {b tb : Value}
/-- a special that the class has from object, called -/
theorem ifBound_B {M : Model} {name : Str} {id : String} {args : List Value} {Q : Option Value → Shared → Prop} (X : K.In st.heap) (I : InstAt st.heap x ox C od) (S : Slot "object" name id) (hs : findIn K (.ref C) name = some (some (.builtin id)))
    (h : wpAny M A (call (.builtin id) (.ref x :: args)) (fun v => Q (some v)) E st) : wpAny M A (callSpecialIfBound? (.ref x) name args) Q E st := by
  unfold callSpecialIfBound? bindSpecialIfBound?
  refine wpAny_holding (wpAny_bind (wpAny_bind (wpAny_bind (I.type.here ((looks_findIn X hs).here ?_)))))
  dsimp only
  rw [S.bind]
  refine wpAny_bind (wpAny_askSetting (wpAny_ite ?_))
  have out : wpAny M A (call (.builtin id) ([.ref x] ++ args) >>= fun v => pure (some v)) Q E st := wpAny_bind (wpAny_mono h (fun _ _ z => wpAny_pure z) fun _ _ z => z)
  split
  · exact wpAny_bind (wpAny_pure (wpAny_pure out))
  · exact wpAny_tryCatch (wpAny_bind (wpAny_pure (wpAny_pure out)))
theorem inst_isObj {M : Model} (X : K.In st.heap) (I : InstAt st.heap x ox C od) (hm : mroIn K C (.type "object") = some true) : Looks M st.heap (isInstance (.ref x) (.type "object")) true := by
  refine I.type.andThen ?_
  exact looks_mroIn X hm
/-- x != b: by the own __eq__, turned -/
theorem ne_own {Q : Value → Shared → Prop} (hu : A.units + 1 < cLine) (F : Fr h₀ L st.heap m) (X₀ : K.In h₀) (I : InstAt st.heap x ox C od) (hb : Looks (model prog w) st.heap (typeOf b) tb) (hn : notFirst K C tb = true)
    (hne : findIn K (.ref C) "__ne__" = some (some (.builtin "object.__ne__"))) (heq : findIn K (.ref C) "__eq__" = some (some (.ref f))) (hf : isFn K (.ref f) = true) (hm : mroIn K C (.type "object") = some true)
    (h : wpAny (model prog w) A.in1 (call (.ref f) [.ref x, b]) (fun v s' => ∃ c, v = .bool c ∧ Q (.bool (!c)) s') E st) : wpAny (model prog w) A (richCompare .NotEq (.ref x) b) Q E st := by
  have X := X₀.keeps F.keep
  have one : wpAny (model prog w) A (tryCompare (.ref x) "__ne__" b) (fun r s' => ∃ v, r = some v ∧ Q v s') E st := by
    unfold tryCompare
    refine wpAny_bind (ifBound_B X I PySem.F.cmp_object.ne hne (wpAny_call (codeAny_call_builtin PySem.F.cmp_object.ne.plain PySem.F.cmpEntry_ne (PySem.W.check_slot PySem.F.cmpKind_ne PySem.F.cmpSplit_ne (inst_isObj X I hm) (PySem.F.cmpArgs_ne _ _) ?_))))
    unfold Builtin.«object.__ne__»
    repeat (first
      | with_reducible refine wpAny_cRoomFor hu ?_
      | (refine wpAny_bind (m := callSpecialIfBound? (.ref x) (Str.ofString "__eq__") [b]) (ifBound_K X I heq hf (wpAny_mono h (fun r s' hr => by
          obtain ⟨c, rfl, hq⟩ := hr
          have z : ∃ v, (Value.bool !c) = v ∧ Q v s' := ⟨_, rfl, hq⟩
          repeat (first | exact ⟨_, rfl, hq⟩ | exact wpAny_pure ⟨_, rfl, hq⟩ | exact wpAny_pure (wpAny_pure ⟨_, rfl, hq⟩) | exact wpAny_truthy_bool hq | (refine wpAny_bind (m := truthy (.bool _)) (wpAny_truthy_bool ?_)) | wp_step)) fun _ _ e => e)))
      | wp_step)
  unfold richCompare
  simp only [oneThing_ref]
  refine wpAny_holding (wpAny_bind (wpAny_cRoomFor (Nat.lt_of_succ_lt hu) ?_))
  refine wpAny_bind (I.type.here (wpAny_bind (hb.here ?_)))
  split
  · rename_i q
    have e : subIn K tb (.ref C) = some false := by
      rcases Bool.or_eq_true_iff.mp hn with e | e
      · rw [beq_iff_eq.mp e] at q; simp at q
      · exact beq_iff_eq.mp e
    refine wpAny_bind ((looks_subIn X e).here ?_)
    simp only [Bool.false_eq_true, if_false]
    refine wpAny_bind (wpAny_mono one (fun r s' z => ?_) fun _ _ e => e)
    obtain ⟨v, rfl, hq⟩ := z
    exact wpAny_pure hq
  · refine wpAny_bind (wpAny_pure ?_)
    simp only [Bool.false_eq_true, if_false]
    refine wpAny_bind (wpAny_mono one (fun r s' z => ?_) fun _ _ e => e)
    obtain ⟨v, rfl, hq⟩ := z
    exact wpAny_pure hq
end
end Pl
/-! text PlJ2 -/
set_option Elab.async false
set_option linter.all false
set_option maxRecDepth 100000
set_option maxHeartbeats 4000000
set_option exponentiation.threshold 5000
/-! PlJ2: the rules: ==, != with an own instance on the left, str of one; what a def of them promises. -/
namespace Pl
open PySem PySem.Spec PyProof.Rows L2
section
variable {X : Cx} {C f : Addr} {fd : FuncData} {ps : List Str} {sp : Sp} {k : Nat}
/-- a def is called one room further in -/
theorem run_in1 {pins : List (Addr × Obj)} {σ : L2.St} {H : Hp} {st : Shared} {A' : Around} {Q : VK} {us : List Value} {vs : List V} (F : FnOk X.prog X.w X.K X.mg X.base CX0 k f fd ps sp) (room : Room k A') (hb : Binds X.K fd ps []) (J : Inv X pins σ H st)
    (env : Env0 X.prog X.w X.K X.mg X.base A' X.stack st H) (r : Vals vs us) (h : sp vs H Q E0) : wpAny (model X.prog X.w) A' (call (.ref f) us) (EP X pins σ Q) X.xe st := by
  have count : us.length = ps.length := r.length.symm.trans (F.len _ _ _ _ h)
  have bound := hb st us J.kIn (by rw [List.append_nil]; exact count)
  rw [List.append_nil] at bound
  refine wpAny_call (codeAny_mono (F.run A' X.stack st H ⟨us, []⟩ us vs Q E0 room env bound r h) fun flow s2 z => ?_)
  match flow, z with
  | .error u, z => exact False.elim z
  | .ok (.ret u), z => exact J.after z
  | .ok .next, z => exact False.elim z
  | .ok .brk, z => exact False.elim z
  | .ok .cont, z => exact False.elim z
def rEqI (K : PySem.W.Frag) (C : Addr) (sp : Sp) : R2 := fun x y H Q => ∃ a dx fs ty, x = .ref a ∧ H a = some (.ins C dx fs) ∧ TyX K H y ty ∧ PySem.W.notFirst K C ty = true ∧ sp [x, y] H (fun v H' => ∃ b, v = .bl b ∧ Q (.bl b) H') E0
def rNeI (K : PySem.W.Frag) (C : Addr) (sp : Sp) : R2 := fun x y H Q => ∃ a dx fs ty, x = .ref a ∧ H a = some (.ins C dx fs) ∧ TyX K H y ty ∧ PySem.W.notFirst K C ty = true ∧ sp [x, y] H (fun v H' => ∃ b, v = .bl b ∧ Q (.bl (!b)) H') E0
theorem op_eqI (F : FnOk X.prog X.w X.K X.mg X.base CX0 k f fd ps sp) (room : Room (k + 1) X.A) (heq : PySem.W.findIn X.K (.ref C) "__eq__" = some (some (.ref f))) (hf : PySem.W.isFn X.K (.ref f) = true) (hb : Binds X.K fd ps []) : OpR X (compareOp .Eq) (rEqI X.K C sp) := by
  intro pins st σ H x y v u Q J rx ry h
  obtain ⟨a, dx, fs, ty, rfl, ha, hy, nf, q⟩ := h
  obtain rfl : v = .ref a := rx
  obtain ⟨mA, O, _⟩ := ins_get J.hok ha
  obtain ⟨od, inst, _⟩ := O.look
  obtain ⟨Pk, kx, pk, _⟩ := kit_of J ry hy
  obtain ⟨m, fr⟩ := J.fr
  have un : X.A.units < cLine := by have := room.un; omega
  show wpAny (model X.prog X.w) X.A (richCompare .Eq (.ref a) u) (EP X pins σ Q) X.xe st
  refine PySem.W.cmp_K (op := .Eq) (tb := ty) un fr J.ok.mod.kin inst (kx.ty _ _ J.kIn pk) nf heq hf (wpAny_mono (run_in1 (vs := [V.ref a, y]) F (room.mono (Nat.le_succ k)) hb J J.env0 (.cons rfl (.cons ry .nil)) q) (fun r s2 z => ?_) fun _ _ z => z)
  obtain ⟨w2, H2, J2, r2, b, rfl, q2⟩ := z
  obtain rfl : r = .bool b := r2
  exact ⟨.bl b, H2, J2, rfl, q2⟩
theorem op_neI (F : FnOk X.prog X.w X.K X.mg X.base CX0 k f fd ps sp) (room : Room (k + 1) X.A) (heq : PySem.W.findIn X.K (.ref C) "__eq__" = some (some (.ref f))) (hne : PySem.W.findIn X.K (.ref C) "__ne__" = some (some (.builtin "object.__ne__"))) (hm : PySem.W.mroIn X.K C (.type "object") = some true)
    (hf : PySem.W.isFn X.K (.ref f) = true) (hb : Binds X.K fd ps []) : OpR X (compareOp .NotEq) (rNeI X.K C sp) := by
  intro pins st σ H x y v u Q J rx ry h
  obtain ⟨a, dx, fs, ty, rfl, ha, hy, nf, q⟩ := h
  obtain rfl : v = .ref a := rx
  obtain ⟨mA, O, _⟩ := ins_get J.hok ha
  obtain ⟨od, inst, _⟩ := O.look
  obtain ⟨Pk, kx, pk, _⟩ := kit_of J ry hy
  obtain ⟨m, fr⟩ := J.fr
  have un : X.A.units + 1 < cLine := by have := room.un; omega
  show wpAny (model X.prog X.w) X.A (richCompare .NotEq (.ref a) u) (EP X pins σ Q) X.xe st
  refine ne_own (tb := ty) un fr J.ok.mod.kin inst (kx.ty _ _ J.kIn pk) nf hne heq hf hm (wpAny_mono (run_in1 (vs := [V.ref a, y]) F room.in1 hb J J.env0.in1 (.cons rfl (.cons ry .nil)) q) (fun r s2 z => ?_) fun _ _ z => z)
  obtain ⟨w2, H2, J2, r2, b, rfl, q2⟩ := z
  obtain rfl : r = .bool b := r2
  exact ⟨b, rfl, .bl (!b), H2, J2, rfl, q2⟩
/-- str(x), x an own instance -/
def rStrI (C : Addr) (sp : Sp) : List V → Hp → VK → Prop := fun xs H Q => ∃ a dx fs, xs = [.ref a] ∧ H a = some (.ins C dx fs) ∧ sp xs H (fun v H' => ∃ z, v = .str z ∧ Q (.str z) H') E0
theorem call_strI (F : FnOk X.prog X.w X.K X.mg X.base CX0 k f fd ps sp) (room : Room (k + 2) X.A) (hs : PySem.W.findIn X.K (.ref C) "__str__" = some (some (.ref f))) (hf : PySem.W.isFn X.K (.ref f) = true) (hb : Binds X.K fd ps []) : CallR X (.type "str") (rStrI C sp) := by
  intro pins st σ H xs us Q J r h
  obtain ⟨a, dx, fs, rfl, ha, q⟩ := h
  obtain ⟨u, rfl, ru⟩ := vals1 r
  obtain rfl : u = .ref a := ru
  obtain ⟨mA, O, _⟩ := ins_get J.hok ha
  obtain ⟨od, inst, _⟩ := O.look
  have un : X.A.in1.in1.units < cLine := by
    have := room.un
    show X.A.units + 1 + 1 < cLine
    omega
  refine PySem.W.kso_call un J.kIn inst hs hf (wpAny_mono (run_in1 (vs := [V.ref a]) F room.in1.in1 hb J J.env0.in1.in1 (.cons rfl .nil) q) (fun r s2 z => ?_) fun _ _ z => z)
  obtain ⟨w2, H2, J2, r2, x, rfl, q2⟩ := z
  obtain ⟨t, rfl⟩ := r2
  exact ⟨.str x, H2, J2, ⟨t, rfl⟩, q2⟩
end
end Pl
/-! text PlM -/
set_option Elab.async false
set_option linter.all false
set_option maxRecDepth 100000
set_option maxHeartbeats 4000000
set_option exponentiation.threshold 5000
/-! PlM: own classes' instances as data: made by an __init__ that fills them or raises, their fields, their properties. -/
namespace Pl
open PySem PySem.Spec PyProof.Rows L2
section
variable {s c a C dx : Addr} {H H' : Hp}
theorem gr_wide (g : Gr [s, c] H H') : Gr [s, c, a] H H' := g.mono fun b hb => by
  rcases List.mem_cons.mp hb with e | hb
  · rw [e]; exact List.mem_cons_self
  · rw [List.mem_singleton.mp hb]; exact List.mem_cons_of_mem _ List.mem_cons_self
theorem gr_store {fs : List (Str × V)} {o : HO} (g : Gr [s, c] H H') (hi : H a = some (.ins C dx fs)) : Gr [s, c, a] H (upd H' a o) := fun b u e m => by
  have ne : b ≠ a := fun z => by
    rw [z, hi] at e
    cases e
    rcases m with m | m
    · exact m (by rw [z]; exact List.mem_cons_of_mem _ (List.mem_cons_of_mem _ List.mem_cons_self))
    · cases m
  rw [upd_ne ne]
  exact (gr_wide g) b u e m
theorem three_sub {M : List Addr} (hm : s ∈ M ∧ c ∈ M) (ha : a ∈ M) : ∀ b ∈ [s, c, a], b ∈ M := fun b hb => by
  rcases List.mem_cons.mp hb with e | hb
  · rw [e]; exact hm.1
  · rcases List.mem_cons.mp hb with e | hb
    · rw [e]; exact hm.2
    · rw [List.mem_singleton.mp hb]; exact ha
theorem gr_all {L M : List Addr} {n : Nat} (g : Gr L H H') (src : Src s c n H') (other : ∀ b ∈ L, b = s ∨ b = c ∨ ∃ o, H' b = some o) (ht : ∀ b ∈ M, ∃ o, H b = some o) : ∀ b ∈ M, ∃ o, H' b = some o := fun b hb => by
  obtain ⟨o, e⟩ := ht b hb
  by_cases q : b ∈ L
  · rcases other b q with z | z | z
    · rw [z]; exact src.s_some
    · rw [z]; exact src.c_some
    · exact z
  · exact ⟨o, g b o e (.inl q)⟩
theorem gr_two {M : List Addr} {n : Nat} (g : Gr [s, c] H H') (src : Src s c n H') (ht : ∀ b ∈ M, ∃ o, H b = some o) : ∀ b ∈ M, ∃ o, H' b = some o := gr_all g src (fun b hb => by
  rcases List.mem_cons.mp hb with e | hb
  · exact .inl e
  · exact .inr (.inl (List.mem_singleton.mp hb))) ht
/-- behind the making of an instance at i, its dict at d -/
theorem gr_made {i d : Addr} {H2 : Hp} {o u : HO} (hd : H d = none) (hi : H i = none) (g : Gr [s, c, i] (upd (upd H d o) i u) H2) : Gr [s, c] H H2 := fun b q e m => by
  have ei : b ≠ i := ne_of_none e hi
  have ed : b ≠ d := ne_of_none e hd
  refine g b q (by rw [upd_ne ei, upd_ne ed]; exact e) ?_
  rcases m with m | m
  · refine .inl fun z => ?_
    rcases List.mem_cons.mp z with z | z
    · exact m (by rw [z]; exact List.mem_cons_self)
    · rcases List.mem_cons.mp z with z | z
      · exact m (by rw [z]; exact List.mem_cons_of_mem _ List.mem_cons_self)
      · exact ei (List.mem_singleton.mp z)
  · exact .inr m
end
theorem putF_new (f : Str) (v : V) : ∀ fs : List (Str × V), f ∉ fs.map (·.1) → putF f v fs = fs ++ [(f, v)]
  | [], _ => rfl
  | (g, u) :: fs, h => by
    have hg : ¬ g = f := fun z => h (by rw [← z]; exact List.mem_cons_self)
    have ih := putF_new f v fs fun z => h (List.mem_cons_of_mem _ z)
    show (if g = f then (g, v) :: fs else (g, u) :: putF f v fs) = _
    rw [if_neg hg, ih]
    rfl
section
variable {K : PySem.W.Frag} {s c a C dx : Addr} {M : List Addr} {n : Nat} {σ : L2.St} {ρ : List Sl} {H : Hp}
theorem ok_now (hm : s ∈ M ∧ c ∈ M) (ht : ∀ b ∈ M, ∃ o, H b = some o) (src : Src s c n H) (sl : SlR K M H ρ σ []) : Ok K s c M H [] ρ n σ H :=
  ⟨hm, fun b hb => .inr (.inr (ht b hb)), src, Gr.refl _ _, fun o ho => by simp at ho, List.nodup_nil, sl⟩
theorem RepL.snoc {l : List D} {xs : List V} {d : D} {v : V} (h : RepL K M H l xs) (r : Rep K M H d v) : RepL K M H (l ++ [d]) (xs ++ [v]) := h.append (RepL.one r)
/-- self.f = e, f not there as yet -/
theorem fld_new {ks : List Str} {l : List D} {fs : List (Str × V)} {te : TE} {f : Str} {d : D} {Dn : Ends} (hm : s ∈ M ∧ c ∈ M) (ht : ∀ b ∈ M, ∃ o, H b = some o) (src : Src s c n H) (sl : SlR K M H ρ σ [])
    (ha : a ∈ M) (nas : a ≠ s) (nac : a ≠ c) (hi : H a = some (.ins C dx fs)) (cl : Cls K C) (no : NoAttr K C f) (hk : fs.map (·.1) = ks) (hl : ks.length < 900) (hf : f ∉ ks) (rl : RepL K M H l (fs.map (·.2))) (h0 : σ[0]? = some (some (.ref a)))
    (he : EvE K s c te ρ n n (fun x => x = d))
    (k : ∀ H' fs', fs'.map (·.1) = ks ++ [f] → Gr [s, c, a] H H' → Src s c n H' → (∀ b ∈ M, ∃ o, H' b = some o) → SlR K M H' ρ σ [] → H' a = some (.ins C dx fs') → RepL K M H' (l ++ [d]) (fs'.map (·.2)) → Dn.nx σ H') : sFld K (tVar 0) te f Dn σ H :=
  he M H [] σ H _ (ok_now hm ht src sl) fun v H1 d' g1 s1 r1 p1 => by
    subst p1
    have ia : H1 a = some (.ins C dx fs) := g1 a _ hi (.inl (not_two nas nac))
    have g3 : Gr [s, c, a] H (upd H1 a (.ins C dx (putF f v fs))) := gr_store g1 hi
    have src' : Src s c n (upd H1 a (.ins C dx (putF f v fs))) := s1.put nas nac
    have gM := g3.mono (three_sub hm ha)
    have lk : fs.length < 1000 := by
      have := congrArg List.length hk
      rw [List.length_map] at this
      omega
    have e : putF f v fs = fs ++ [(f, v)] := putF_new f v fs (by rw [hk]; exact hf)
    have g13 : Gr M H1 (upd H1 a (.ins C dx (putF f v fs))) := fun b u eb m => by
      by_cases z : b = a
      · rw [z, ia] at eb
        cases eb
        rcases m with m | m
        · exact absurd (by rw [z]; exact ha) m
        · cases m
      · rw [upd_ne z]; exact eb
    refine ⟨.ref a, h0, a, C, dx, fs, rfl, ia, cl, no, lk, k _ (putF f v fs) (by rw [e, List.map_append, hk]; rfl) g3 src' (gr_all g3 src' (fun b hb => by
      rcases List.mem_cons.mp hb with e | hb
      · exact .inl e
      · rcases List.mem_cons.mp hb with e | hb
        · exact .inr (.inl e)
        · exact .inr (.inr ⟨_, by rw [List.mem_singleton.mp hb]; exact upd_same⟩)) ht) (sl.imp (fun _ _ r => r.gr gM) (fun _ _ r => r.gr gM) fun o ho => by simp at ho) upd_same ?_⟩
    have e2 : (putF f v fs).map (·.2) = fs.map (·.2) ++ [v] := by rw [e, List.map_append]; rfl
    rw [e2]
    exact (rl.gr gM).append (RepL.one (r1.gr g13))
end
/-- an __init__ on the data ds: it fills the instance (keys ks, data l with val ds l), or raises an error with one field -/
def PrC (K : PySem.W.Frag) (C : Addr) (ks : List Str) (pre : Addr → Addr → List D → Prop) (val : List D → List D → Prop) (bad : List D → Addr → Str → D → Prop) : Sp := fun vs H Q E => ∃ (a dx s c : Addr) (M : List Addr) (n : Nat) (ws : List V) (ds : List D),
  vs = .ref a :: ws ∧ (s ∈ M ∧ c ∈ M) ∧ a ∈ M ∧ a ≠ s ∧ a ≠ c ∧ (∀ b ∈ M, ∃ o, H b = some o) ∧ Src s c n H ∧ n ≤ 2 ^ 40 ∧ H a = some (.ins C dx []) ∧ RepL K M H ds ws ∧ pre s c ds ∧
  (∀ l H' fs, val ds l → Gr [s, c, a] H H' → Src s c n H' → H' a = some (.ins C dx fs) → fs.map (·.1) = ks → RepL K M H' l (fs.map (·.2)) → Q .non H') ∧
  (∀ CE nm e d H' v, bad ds CE nm e → Gr [s, c, a] H H' → Src s c n H' → H' d = none → Rep K M H' e v → E (.ref CE) (some d) (upd H' d (.xd [(nm, v)])))
theorem pass_no {X : Cx} : Passes (L2.CX X.prog X.w) X (fun _ _ _ => False) := fun _ _ _ _ _ _ _ h => by
  obtain ⟨_, _, _, _, _, _, _, _, _, _, _, _, z⟩ := h
  exact z.elim
section
variable {K : PySem.W.Frag} {s c C : Addr} {ρ : List Sl} {n n1 n2 : Nat} {ks : List Str} {pre : Addr → Addr → List D → Prop} {val : List D → List D → Prop} {bad : List D → Addr → Str → D → Prop} {t : TA} {ds : List D}
/-- what PrC asks at a call, from data in a state -/
theorem prc_at {M0 : List Addr} {H0 : Hp} {O : List Addr} {σ : L2.St} {H1 : Hp} {ws : List V} {Q : V → Hp → Prop} {E : XK} {x dx : Addr} (J : Ok K s c M0 H0 O ρ n1 σ H1) (hn : n1 ≤ 2 ^ 40) (rl : RepL K (O ++ M0) H1 ds ws) (hp : pre s c ds) (nx : H1 x = none) (nd : H1 dx = none) (ne : dx ≠ x)
    (good : ∀ l H', val ds l → Gr [s, c] H1 H' → Src s c n1 H' → Rep K (O ++ M0) H' (.ins C ks l) (.ref x) → Q (.ref x) H')
    (err : ∀ CE nm e d H' v, bad ds CE nm e → Gr [s, c] H1 H' → Src s c n1 H' → H' d = none → Rep K (O ++ M0) H' e v → E (.ref CE) (some d) (upd H' d (.xd [(nm, v)]))) :
    PrC K C ks pre val bad (.ref x :: ws) (upd (upd H1 dx (.own x)) x (.ins C dx [])) (fun v H2 => v = .non ∧ Q (.ref x) H2) E := by
  have nx' : upd H1 dx (.own x) x = none := by rw [upd_ne (Ne.symm ne)]; exact nx
  have G0 : Gr (x :: (O ++ M0)) H1 (upd (upd H1 dx (.own x)) x (.ins C dx [])) := (Gr.new nd).trans (Gr.new nx')
  have xs : x ≠ s := fun z => by
    obtain ⟨o, e⟩ := J.src.s_some
    rw [← z, nx] at e
    cases e
  have xc : x ≠ c := fun z => by
    obtain ⟨o, e⟩ := J.src.c_some
    rw [← z, nx] at e
    cases e
  refine ⟨x, dx, s, c, x :: (O ++ M0), n1, ws, ds, rfl, ⟨List.mem_cons_of_mem _ (List.mem_append_right _ J.ms.1), List.mem_cons_of_mem _ (List.mem_append_right _ J.ms.2)⟩, List.mem_cons_self, xs, xc, fun b hb => ?_, (J.src.new nd).new nx', hn, upd_same, (rl.apart nx).gr G0, hp,
    fun l H' fs hv g sr hi hk r => ⟨rfl, good l H' hv (gr_made nd nx g) sr ⟨x, dx, fs, rfl, J.new_out nx, hi, hk, r.mono fun b hb => List.mem_cons_of_mem _ hb⟩⟩,
    fun CE nm e d H' v hb g sr hd r => err CE nm e d H' v hb (gr_made nd nx g) sr hd (r.mono fun b hb => List.mem_cons_of_mem _ hb)⟩
  by_cases e : b = x
  · rw [e]; exact ⟨_, upd_same⟩
  · rcases List.mem_cons.mp hb with z | z
    · exact absurd z e
    · obtain ⟨o, he⟩ := J.thereA b z
      exact ⟨o, by rw [upd_ne e, upd_ne (ne_of_none he nd)]; exact he⟩
/-- C(..) that can't raise -/
theorem ev_makeC {E : XK} (ha : EvA K s c t ρ n n1 (fun l => l = ds)) (hn : n1 ≤ 2 ^ 40) (hp : pre s c ds) (hb : ∀ CE nm e, ¬ bad ds CE nm e) :
    EvE K s c (tMake C (PrC K C ks pre val bad) [] E t) ρ n n1 (fun d => ∃ l, val ds l ∧ d = .ins C ks l) := fun M0 H0 O σ H Q I k =>
  ha M0 H0 O σ H _ I fun vs H1 l g1 s1 rl e => by
    subst e
    intro x dx nx nd ne
    rw [List.append_nil]
    exact prc_at (I.next g1 s1) hn rl hp nx nd ne (fun m H' hv g sr r => k (.ref x) H' _ (g1.trans g) sr r ⟨m, hv, rfl⟩) fun CE nm e _ _ _ z => (hb CE nm e z).elim
/-- try: x = C(..) except E as y: suite -/
theorem s_tryMake {D : Pn} {cE : Value} {i j : Nat} {ts : Addr → Value → Option Addr → TS} {Wout : WX} (ha : EvA K s c t ρ n n1 (fun l => l = ds)) (hn : n1 ≤ 2 ^ 40) (hp : pre s c ds) (oj : isOw ρ[j]? = false) (oi : isOw ρ[i]? = false)
    (good : ∀ l, val ds l → D.nx (ρ.set j (.va (.ins C ks l))) n1)
    (err : ∀ CE nm e, bad ds CE nm e → PySem.W.exmOne K (.ref CE) cE = some true ∧ ∀ x d, EvS K s c (ts x (.ref CE) (some d)) (ρ.set i (.va (.obj x))) n1 ⟨fun ρ' m => isOw ρ'[i]? = false ∧ D.nx (ρ'.set i .no) m, D.rt, fun _ _ => False, fun _ _ => False⟩) :
    EvS K s c (fun Dn σ H => tAsg (tMakeS C (PrC K C ks pre val bad) (WE (wAs K cE i ts Wout Dn)) t) (gName j) Dn σ H) ρ n D := fun M0 H0 O σ H Dn I G =>
  ha M0 H0 O σ H _ I fun vs H1 l g1 s1 rl e => by
    subst e
    intro x dx nx nd ne
    have J := I.next g1 s1
    refine prc_at (Q := fun v H' => gName j v σ H' Dn.nx) J hn rl hp nx nd ne (fun m H' hv g sr r => ?_) fun CE nm e d H' v hb g sr hd r => ?_
    · exact eg_name oj M0 H0 O n1 σ H' (.ref x) _ (J.next g sr) r fun σ2 J2 _ => G.nx O _ n1 σ2 H' J2 (good m hv)
    · obtain ⟨ex, suite⟩ := err CE nm e hb
      refine ⟨true, ex, fun _ a ha' => ?_, fun q => nomatch q⟩
      have J3 := (J.next g sr).next (Gr.new (o := .xd [(nm, v)]) hd) (sr.new hd)
      refine eg_name (d := .obj a) oi M0 H0 O n1 σ _ (.ref a) (fun σ' H'' => ts a (.ref CE) (some d) { nx := fun σ' H' => Dn.nx (σ'.set i none) H', rt := Dn.rt, bk := fun σ' H' => Dn.bk (σ'.set i none) H', ct := fun σ' H' => Dn.ct (σ'.set i none) H' } σ' H'') J3 rfl fun σ2 J4 _ => ?_
      refine suite a d M0 H0 O σ2 _ _ J4 ⟨fun O' ρ' n' σ' H'' J5 q => ?_, G.rt, fun _ _ _ _ _ _ q => q.elim, fun _ _ _ _ _ _ q => q.elim⟩
      exact G.nx O' _ n' _ H'' ⟨J5.ms, J5.tr, J5.src, J5.gr, J5.fr, J5.nd, J5.sl.off q.1⟩ q.2
/-- a field of an instance, by its property -/
theorem ins_field {M : List Addr} {H : Hp} {l : List D} {v : V} {f : Str} {d : D} (r : Rep K M H (.ins C ks l) v) (e : (ks.zip l).lookup f = some d) : ∃ a dx fs u, v = .ref a ∧ H a = some (.ins C dx fs) ∧ fs.lookup f = some u ∧ Rep K M H d u := by
  obtain ⟨a, dx, fs, rfl, _, hi, hk, rl⟩ := r
  subst hk
  refine ⟨a, dx, fs, ?_⟩
  suffices z : ∃ u, fs.lookup f = some u ∧ Rep K M H d u by
    obtain ⟨u, h1, h2⟩ := z
    exact ⟨u, rfl, hi, h1, h2⟩
  clear hi
  induction fs generalizing l with
  | nil => simp at e
  | cons p fs ih =>
    obtain ⟨g, w⟩ := p
    cases l with
    | nil => exact rl.elim
    | cons x l =>
      have e' : List.lookup f ((g, x) :: ((fs.map (·.1)).zip l)) = some d := e
      rw [List.lookup_cons] at e'
      rw [List.lookup_cons]
      cases q : (f == g) with
      | true =>
        rw [q] at e'
        cases e'
        exact ⟨w, rfl, rl.1⟩
      | false =>
        rw [q] at e'
        exact ih rl.2 e'
theorem ev_prop {te : TE} {E : XK} {l : List D} {f : Str} {d : D} (h : EvE K s c te ρ n n1 (fun x => x = .ins C ks l)) (e : (ks.zip l).lookup f = some d) : EvE K s c (tProp C (getSp C f) [] E te) ρ n n1 (fun x => x = d) := fun M0 H0 O σ H Q I k =>
  h M0 H0 O σ H _ I fun v H1 x g1 s1 r1 p => by
    subst p
    obtain ⟨a, dx, fs, u, rfl, hi, hl, ru⟩ := ins_field r1 e
    exact ⟨a, dx, fs, rfl, hi, a, dx, fs, u, rfl, hi, hl, k u H1 d g1 s1 ru rfl⟩
theorem ev_fldI {te : TE} {l : List D} {f : Str} {d : D} (h : EvE K s c te ρ n n1 (fun x => x = .ins C ks l)) (cl : Cls K C) (no : NoAttr K C f) (e : (ks.zip l).lookup f = some d) : EvE K s c (tFld K te f) ρ n n1 (fun x => x = d) := fun M0 H0 O σ H Q I k =>
  h M0 H0 O σ H _ I fun v H1 x g1 s1 r1 p => by
    subst p
    obtain ⟨a, dx, fs, u, rfl, hi, hl, ru⟩ := ins_field r1 e
    exact ⟨a, C, dx, fs, u, rfl, hi, cl, no, hl, k u H1 d g1 s1 ru rfl⟩
end
end Pl
/-! text PlN2 -/
set_option Elab.async false
set_option linter.all false
set_option maxRecDepth 100000
set_option maxHeartbeats 4000000
set_option exponentiation.threshold 5000
/-! PlN2: errors raised where none is handled (their context is None), so that a suite may raise another from None; an own class called by a local name (cls). -/
namespace Pl
open PySem PySem.Spec PyProof.Rows L2
section
variable {X : Cx} {CX' : CXT} {x : Str} {e : Expr} {es : List Expr} {ta : TA} {p pos : Pos} {C fI : Addr} {k : Nat} {fd : FuncData} {ps : List Str} {sp : Sp}
/-- C(e, ..), an own error by its own __init__, made where nothing is handled -/
theorem pmk_oexN (own : OexC X.K C) (ini : PySem.W.findIn X.K (.ref C) "__init__" = some (some (.ref fI))) (fnI : PySem.W.typeIn X.K (.ref fI) = some (.type "function")) (Fi : FnOk X.prog X.w X.K X.mg X.base CX' k fI fd ps sp) (room : Room (k + 1) X.A)
    (bnd : Binds X.K fd ps []) (none_ : Passes CX' X (fun _ _ _ => False)) (hg : Gl X x) (hm : X.mg x = some (.ref C)) (ha : PA X (e :: es) ta)
    (hdb : (x == ("__debug__" : Str)) = false := by decide) (he : starEach (e :: es) X.env = (false, eval e X.env) :: starEach es X.env := by rfl) (hpl : (backTo pos (starEach es X.env)).any (·.1) = false := by rfl) :
    L2N.PMk X (.Call (.Name x p) (e :: es) [] pos) (tMkO C sp [] ta) := fun pins st σ G Q J h => by
  obtain ⟨n1, n2, n3, n4, bm, n5, n6, n7, n8, n9, m0, m1, m2, m3, m5, lookC, refs⟩ := own.cls
  refine wpAny_Call_Name_kw (ld_glob J hg hm (PySem.W.callWith_K (h₀ := X.base) J.ok.mod.kin own.kC (thn (ha.run pos pins st σ G _ J h) fun us s1 z => ?_) he hpl) hdb)
  obtain ⟨zs, G1, J1, rel, few, more⟩ := z
  refine ⟨J1.kIn, ?_⟩
  obtain ⟨hp, gs, dr, tk, os⟩ := s1
  have next : hp.objs.size ≤ hp.objs.size + 1 := Nat.le_succ _
  have want := more (hp.objs.size + 1) (J1.hok.fresh next)
  rw [List.append_nil] at want
  have old : ∀ b o, hp.get? b = some o → ((hp.push (PySem.W.kdv_tup us)).push (PySem.HandSPX.excO C hp.objs.size)).get? b = some o := fun b o z => Heap.get?_push_of_some _ (Heap.get?_push_of_some _ z)
  have there : ((hp.push (PySem.W.kdv_tup us)).push (PySem.HandSPX.excO C hp.objs.size)).get? (hp.objs.size + 1) = some (PySem.HandSPX.excO C hp.objs.size) := by heap_get
  have J2 : Inv X pins σ (upd G1 (hp.objs.size + 1) (exo (hp.objs.size + 1) C none)) ⟨(hp.push (PySem.W.kdv_tup us)).push (PySem.HandSPX.excO C hp.objs.size), gs, dr, tk, os⟩ := J1.laid (t' := tk) old next (exo_ok there)
  have rel2 : Vals (V.ref (hp.objs.size + 1) :: zs) (Value.ref (hp.objs.size + 1) :: us) := .cons rfl rel
  have count : (Value.ref (hp.objs.size + 1) :: us).length = ps.length := rel2.length.symm.trans (Fi.len _ _ _ _ want)
  have bound := bnd _ (Value.ref (hp.objs.size + 1) :: us) J2.kIn (by rw [List.append_nil]; exact count)
  rw [List.append_nil] at bound
  have line : us.length ≤ sizeLine := by
    have := Paired.length rel
    rw [sizeLine_eq]
    omega
  refine wpAny_call (PySem.HandSPX.call_own F.excBase_ValueError (fun Y => PySem.HandSPX.refsVE_contains Y bm refs) (J1.kIn _ _ lookC) (PySem.W.looks_findIn J1.kIn ini) (fun self => PySem.W.bind_fn J1.kIn self fnI) line
    (codeAny_mono (Fi.run _ X.stack _ _ ⟨Value.ref (hp.objs.size + 1) :: us, []⟩ (Value.ref (hp.objs.size + 1) :: us) _ _ (fun _ _ _ => False) (room.make C us []) (J2.env0.make C us []) bound rel2 want) fun flow s2 fin => ?_))
  match flow, fin with
  | .error u, fin => exact none_ pins σ _ _ u s2 J2 fin
  | .ok .next, fin => exact False.elim fin
  | .ok .brk, fin => exact False.elim fin
  | .ok .cont, fin => exact False.elim fin
  | .ok (.ret u), fin =>
    obtain ⟨v, G2, os2, bare2, un2, ok2, rv, ev, d, fs, ea, ed, nd, q⟩ := fin
    subst ev
    obtain ⟨h2, g2, d2, t2, os'⟩ := s2
    obtain ⟨t0, B, J3, kB, gone, at_, na⟩ := mk_end0 (d2 := d2) (t2 := t2) J1 next old un2 ok2 os2 bare2 ea ed nd
    exact ⟨rv, hp.objs.size + 1, _, _, ⟨B, g2, d2, t2, os'⟩, _, .ref C, some d, rfl, J3, kB, gone, at_, ⟨rfl, rfl, fun vs hv => by cases hv; rfl⟩, rfl, rfl, na, rfl, bare2, raises_own own.exC own.tyC, q⟩
end
section
variable {P : Program} {w : World} {K : PySem.W.Frag} {mg : Str → Option Value} {base : Heap}
/-- a def that may raise, where nothing is handled -/
theorem okN {x qual : Str} {dst : Stmt} {f : Addr} {fd : FuncData} {N ps : List Str} {k : Nat} {sp : Sp} (F : Fun K x qual dst f fd) (S : FnScope N ps (defScope dst)) (len : ∀ vs H Q E, sp vs H Q E → vs.length = ps.length)
    (body : ∀ (cdv : Value) (A : Around) (outer : List Env) (st : Shared) (H : Hp) (vs : List V) (Q : VK) (E : XK), Room k (A.deeper (envOfC qual (defScope dst) st.heap.objs.size f cdv)) → sp vs H Q E →
      ∃ t, PSs (cxOf (L2N.CX P w) P w K mg base N qual (defScope dst) f cdv A outer st H E) (defBody dst) t ∧ t { nx := fun _ H' => Q .non H', rt := Q } (L2.start N vs) H) : FnOk P w K mg base (L2N.CX P w) (k + 1) f fd ps sp := by
  obtain ⟨oc, od, kV, doc, pm, an, cdv, ct, osl, rfl, look, code⟩ := F.ex
  exact fn_of look code S len fun A outer st H vs Q E room wish => body cdv A outer st H vs Q E room wish
theorem cxN_cx {outer : List Env} {H : Hp} {st s' : Shared} {E : XK} {u : Value} (h : L2N.CX P w outer H st E u s') : L2.CX P w outer H st E u s' := by
  obtain ⟨a, B, H', cls, d, rfl, fl, r⟩ := h
  exact ⟨a, B, H', cls, d, rfl, L2H.flyingZ_imp (fun o z => z.zc) fl, r⟩
/-- .. is one that may raise -/
theorem fnN_fn {f : Addr} {fd : FuncData} {ps : List Str} {k : Nat} {sp : Sp} (F : FnOk P w K mg base (L2N.CX P w) k f fd ps sp) : FnOk P w K mg base (L2.CX P w) k f fd ps sp :=
  ⟨F.len, fun A outer st H args us vs Q E room env bnd rel wish => codeAny_mono (F.run A outer st H args us vs Q E room env bnd rel wish) fun r s' z => by
    match r, z with
    | .error u, z => exact cxN_cx z
    | .ok (.ret u), z => exact z
    | .ok .next, z => exact z
    | .ok .brk, z => exact z
    | .ok .cont, z => exact z⟩
end
section
variable {X : Cx} {CX' : CXT} {k i : Nat} {f C : Addr} {fd : FuncData} {ps : List Str} {sp : Sp} {E : L2.St → XK} {x : Str} {p pos : Pos} {e : Expr} {es : List Expr} {t : TA}
/-- cls(e, ..), the class in slot i -/
def tMakeL (i : Nat) (C : Addr) (sp : Sp) (E : L2.St → XK) (t : TA) : TE := fun σ H Q => σ[i]? = some (some (.ref C)) ∧ tMakeS C sp E t σ H Q
theorem pe_makeL (kit : Mk X.K C f) (ini : FnOk X.prog X.w X.K X.mg X.base CX' k f fd ps sp) (room : Room (k + 1) X.A) (hN : X.N[i]? = some x) (hv : Vis X.env.scope x) (bnd : Binds X.K fd ps []) (out : ∀ σ, PassesAt CX' X σ (E σ))
    (ha : PA X (e :: es) t) (hdb : (x == ("__debug__" : Str)) = false := by decide) (hcd : (x == ("__classdict__" : Str)) = false := by decide) (he : starEach (e :: es) X.env = (false, eval e X.env) :: starEach es X.env := by rfl) (hpl : (backTo pos (starEach es X.env)).any (·.1) = false := by rfl) :
    PE X (.Call (.Name x p) (e :: es) [] pos) (tMakeL i C sp E t) := ⟨fun pins st σ G Q J h => by
  obtain ⟨at_, h⟩ := h
  refine wpAny_Call_Name_kw (thn ((pe_var (pos := p) hN hv hdb hcd).run pins st σ G (fun v G1 => v = .ref C ∧ G1 = G) J ⟨.ref C, at_, rfl, rfl⟩) fun u s1 z => ?_)
  obtain ⟨v, G1, J1, rv, rfl, rfl⟩ := z
  obtain rfl : u = Value.ref C := rv
  refine PySem.W.callWith_K (h₀ := X.base) J.ok.mod.kin kit.kp (thn (ha.run pos pins s1 σ _ _ J1 h) fun us s2 z => ?_) he hpl
  obtain ⟨zs, G2, J2, rel, q⟩ := z
  exact ⟨J2.kIn, made_at kit ini room bnd (out σ) J2 rel q⟩⟩
end
section
variable {X : Cx} {C : Addr} {bmB : List Value} {Bs newId initId : String}
/-- X('..'), an own error without an __init__, where another is handled -/
theorem pmk5_text {x m : Str} {j : Nat} {p p2 pos : Pos} (fb : ExcBaseFacts Bs newId initId bmB) (known : PySem.W.excIn X.K C bmB newId = true) (gC : X.mg x = some (.ref C)) (kC : PySem.W.keepIn X.K (.ref C) = true) (r : Raises X (.ref C)) (hg : Gl X x)
    (hdb : (x == ("__debug__" : Str)) = false := by decide) : L2H.PMk5 X (.Call (.Name x p) [.Constant (.str m) j p2] [] pos) (fun _ H Q => Q (.ref C) none H) := fun pins st σ G Q J wish => by
  have args : PA X [.Constant (.str m) j p2] (tCons (tC (.str m)) tNil) := pa_cons pe_str pa_nil
  refine wpAny_Call_Name_kw (ld_glob J hg gC (PySem.W.callWith_K (h₀ := X.base) J.ok.mod.kin kC (thn (args.run pos pins st σ G (fun vs G1 => vs = [V.str m] ∧ G = G1) J ⟨rfl, rfl⟩) fun us s1 z => ?_)) hdb)
  obtain ⟨vs, G1, J1, rel, ev, eG⟩ := z
  subst ev
  subst eG
  refine ⟨J1.kIn, ?_⟩
  obtain ⟨u, rfl, _⟩ := vals1 rel
  obtain ⟨hp, gs, dr, tk, os⟩ := s1
  obtain ⟨bm, N, nm, qn, bs, hd, sn, sub, ab, col, dd, m0, m1, m2, m3, m5, mN, atC, nsC, noInit, tail⟩ := exc_obj J1.kIn known
  exact wpAny_call_exc_subT fb tail atC nsC noInit (fun h' e made => L2H.mk_of5 J1 made r wish (J1.hok.gone made.new)) (by show 1 ≤ sizeLine; rw [sizeLine_eq]; omega)
end
end Pl
/-! text PlO -/
set_option Elab.async false
set_option linter.all false
set_option maxRecDepth 100000
set_option maxHeartbeats 4000000
set_option exponentiation.threshold 5000
/-! PlO: sorted of a list of alike data (tuples of texts and tuples ..). -/
namespace Pl
open PySem PySem.Spec PyProof.Rows L2
def rSortD (K : PySem.W.Frag) : List V → Hp → VK → Prop := fun vs H Q => ∃ (a : Addr) (zs : List (V × PyData)), vs = [.ref a] ∧ SqL K H a (zs.map (·.1)) ∧ (∀ z ∈ zs, Dp K H z.1 z.2) ∧ PySem.W.AllAlike (zs.map (·.2)) ∧ PySem.W.Sortable (zs.map (·.2)) ∧ (∀ z ∈ zs, z.2.depth ≤ 64) ∧
  ∀ p, H p = none → Q (.ref p) (upd H p (.lst ((zs.mergeSort (PySem.W.dataLe false (·.2))).map (·.1))))
theorem each_rel : ∀ {zs : List (V × PyData)} {us : List Value}, Vals (zs.map (·.1)) us → PySem.W.EachIs (fun u z => RelV z.1 u) us zs
  | [], _, r => by
    cases r
    exact .nil
  | z :: zs, _, r => by
    cases r with
    | cons r t => exact .cons r (each_rel t)
theorem rel_each : ∀ {zs : List (V × PyData)} {us : List Value}, PySem.W.EachIs (fun u z => RelV z.1 u) us zs → Vals (zs.map (·.1)) us
  | [], _, r => by
    cases r
    exact .nil
  | z :: zs, _, r => by
    cases r with
    | cons r t => exact .cons r (rel_each t)
section
variable {X : Cx}
theorem each_reads {pins : List (Addr × Obj)} {σ : L2.St} {H : Hp} {s : Shared} (I : Inv X pins σ H s) : ∀ {zs : List (V × PyData)} {us : List Value}, Vals (zs.map (·.1)) us → (∀ z ∈ zs, Dp X.K H z.1 z.2) → PySem.W.EachIs (fun u z => ∃ as, Reads s.heap u z.2 as) us zs
  | [], _, r, _ => by
    cases r
    exact .nil
  | z :: zs, _, r, h => by
    cases r with
    | cons r t => exact .cons (Dp.reads I z.2 z.1 _ (h z List.mem_cons_self) r) (each_reads I t fun y hy => h y (List.mem_cons_of_mem _ hy))
theorem call_sortD (hu : X.A.units + 70 < cLine) : CallR X (.builtin "sorted") (rSortD X.K) := by
  intro pins s σ H vs us Q I r h
  obtain ⟨a, zs, rfl, hs, hd, al, so, dp, q⟩ := h
  obtain ⟨u, rfl, ru⟩ := vals1 r
  obtain rfl : u = Value.ref a := ru
  obtain ⟨its, rv, hl, hz⟩ := I.list hs
  have len : its.length = zs.length := by
    rw [← rv.length, List.length_map]
  have hz' : zs.length ≤ sizeLine := by
    rw [List.length_map] at hz
    exact hz
  refine PySem.W.sorted_data (R := fun u z => RelV z.1 u) (enc := (·.2)) hl.isList (each_rel rv) (each_reads I rv hd) al so hz' (fun z hm => by have := dp z hm; omega) fun out ho e => ?_
  obtain ⟨n, at1⟩ := sortedAll_at s.heap its out.toArray
  have new : s.heap.objs.size ≤ s.heap.objs.size + 1 := Nat.le_succ _
  refine ⟨.ref (s.heap.objs.size + 1), _, I.laid (a := s.heap.objs.size + 1) (o := .lst ((zs.mergeSort (PySem.W.dataLe false (·.2))).map (·.1))) (t' := s.toks) (fun b o g => sortedAll_old g) new ⟨?_, out, n, rel_each e, at1⟩, rfl, q _ (I.hok.fresh new)⟩
  rw [List.length_map, List.length_mergeSort]
  exact hz'
end
section
variable {K : PySem.W.Frag} {s c : Addr} {M : List Addr} {H : Hp}
theorem repL_pairs : ∀ ts : List (V × D), (∀ t ∈ ts, Rep K M H t.2 t.1) → RepL K M H (ts.map (·.2)) (ts.map (·.1))
  | [], _ => trivial
  | t :: ts, h => ⟨h t List.mem_cons_self, repL_pairs ts fun x hx => h x (List.mem_cons_of_mem _ hx)⟩
theorem pairs_repL : ∀ {l : List D} {xs : List V}, RepL K M H l xs → ∃ ts : List (V × D), l = ts.map (·.2) ∧ xs = ts.map (·.1) ∧ ∀ t ∈ ts, Rep K M H t.2 t.1
  | [], [], _ => ⟨[], rfl, rfl, fun t ht => by simp at ht⟩
  | d :: l, x :: xs, h => by
    obtain ⟨ts, e1, e2, ht⟩ := pairs_repL h.2
    refine ⟨(x, d) :: ts, by rw [e1]; rfl, by rw [e2]; rfl, fun t hm => ?_⟩
    rcases List.mem_cons.mp hm with rfl | hm
    · exact h.1
    · exact ht t hm
  | [], _ :: _, h => h.elim
  | _ :: _, [], h => h.elim
/-- data in their order -/
def ordD (l : List D) : List D := l.mergeSort (PySem.W.dataLe false py)
theorem ordD_perm (l : List D) : (ordD l).Perm l := List.mergeSort_perm _ _
theorem ck_sortD {l : List D} (hp : plainL l = true) (al : PySem.W.AllAlike (l.map py)) (so : PySem.W.Sortable (l.map py)) (dp : ∀ d ∈ l, (py d).depth ≤ 64) : CK K s c (rSortD K) [.lst l] (.lst (ordD l)) := fun M n vs H Q hm ht hh r k => by
  obtain ⟨v, rfl, a, xs, rfl, ma, ea, rl⟩ := r.inv1
  obtain ⟨ts, rfl, rfl, hts⟩ := pairs_repL rl
  have pl : ∀ t ∈ ts, plain t.2 = true := by
    intro t htm
    have all : ∀ {l : List D}, plainL l = true → ∀ d ∈ l, plain d = true := fun {l} => by
      induction l with
      | nil => intro _ d hd; simp at hd
      | cons x l ih =>
        intro h d hd
        have h' : (plain x && plainL l) = true := h
        rw [Bool.and_eq_true] at h'
        rcases List.mem_cons.mp hd with rfl | hd
        · exact h'.1
        · exact ih h'.2 d hd
    exact all hp t.2 (List.mem_map.mpr ⟨t, htm, rfl⟩)
  let f : V × D → V × PyData := fun t => (t.1, py t.2)
  have e1 : (ts.map f).map (·.1) = ts.map (·.1) := by rw [List.map_map]; rfl
  have e2 : (ts.map f).map (·.2) = (ts.map (·.2)).map py := by rw [List.map_map, List.map_map]; rfl
  have m1 : (ts.map f).mergeSort (PySem.W.dataLe false (·.2)) = (ts.mergeSort (PySem.W.dataLe false (fun t => py t.2))).map f := (List.map_mergeSort (f := f) (r := PySem.W.dataLe false (fun t : V × D => py t.2)) (s := PySem.W.dataLe false (fun z : V × PyData => z.2)) (fun _ _ _ _ => rfl)).symm
  have m2 : ordD (ts.map (·.2)) = (ts.mergeSort (PySem.W.dataLe false (fun t => py t.2))).map (·.2) := (List.map_mergeSort (f := fun t : V × D => t.2) (r := PySem.W.dataLe false (fun t : V × D => py t.2)) (s := PySem.W.dataLe false py) (fun _ _ _ _ => rfl)).symm
  refine ⟨a, ts.map f, rfl, by rw [e1]; exact SqL.of ea, fun z hz => ?_, by rw [e2]; exact al, by rw [e2]; exact so, fun z hz => ?_, fun p hpn => k (.ref p) _ (Gr.new hpn) (hh.new hpn) ⟨p, _, rfl, fun z => ?_, upd_same, ?_⟩⟩
  · obtain ⟨t, htm, rfl⟩ := List.mem_map.mp hz
    exact rep_dp (hts t htm) (pl t htm)
  · obtain ⟨t, htm, rfl⟩ := List.mem_map.mp hz
    exact dp t.2 (List.mem_map.mpr ⟨t, htm, rfl⟩)
  · obtain ⟨o, e⟩ := ht p z
    rw [hpn] at e
    cases e
  · rw [m1, m2, List.map_map]
    show RepL K M _ _ ((ts.mergeSort (PySem.W.dataLe false (fun t => py t.2))).map (·.1))
    exact (repL_pairs _ fun t htm => hts t ((List.mergeSort_perm _ _).mem_iff.mp htm)).gr (Gr.new hpn)
end
end Pl
/-! text K02r -/
set_option Elab.async false
set_option linter.all false
set_option maxRecDepth 100000
set_option maxHeartbeats 4000000
set_option exponentiation.threshold 5000
namespace K02
open PySem PySem.Spec PyProof.Rows L2 Pl PlS
abbrev s_q_init : Stmt := inCls 14 0
theorem sc_q_init : FnScope ["self", "head", "atoms", "reason", "table", "variables"] ["self", "head", "atoms"] (defScope s_q_init) := ⟨rfl, rfl, rfl, by decide +kernel, rfl, by decide +kernel, by decide +kernel⟩
/-- what the top has written of the classes Query and InvalidQuery -/
structure QTxt (K : PySem.W.Frag) (mg : Str → Option Value) (CQ fQ CE fE : Addr) (dQ dE : FuncData) : Prop where
  gE : mg "InvalidQuery" = some (.ref CE)
  oE : OexC K CE
  iE : PySem.W.findIn K (.ref CE) "__init__" = some (some (.ref fE))
  tE : PySem.W.typeIn K (.ref fE) = some (.type "function")
  FE : Fun K "__init__" "InvalidQuery.__init__" s_iq_init fE dE
  bE : Binds K dE ["self", "reason"] []
  nE : PySem.W.findIn K (.ref CE) "reason" = some none
  gQ : mg "Query" = some (.ref CQ)
  kQ : Mk K CQ fQ
  FQ : Fun K "__init__" "Query.__init__" s_q_init fQ dQ
  bQ : Binds K dQ ["self", "head", "atoms"] []
  cQ : Cls K CQ
  nH : NoAttr K CQ "_head"
  nA : NoAttr K CQ "_atoms"
  nV : NoAttr K CQ "_variables"
theorem k_sortD {X : Cx} {K : PySem.W.Frag} (hu : X.A.units + 70 < cLine) (h : X.K = K := by rfl) : CallR X (.builtin "sorted") (rSortD K) := by subst h; exact call_sortD hu
theorem first_none {p : Nat → Bool} {m : Nat} (h : firstT p m = none) : ∀ j, j < m → p j = false := fun j hj => by
  have := List.find?_eq_none.mp h j (List.mem_range.mpr hj)
  simpa using this
/-- no error: a head and atoms -/
theorem err_none {x y : D} (h : errD x y = .non) : ∃ (hd : List Str) (as : List (Str × List Str)), x = .tup (dStrs hd) ∧ seqD y = some (as.map dAtom) ∧ 1 ≤ as.length ∧ as.length ≤ 6 ∧ (∀ a ∈ as, isName a.1 ∧ 1 ≤ a.2.length ∧ a.2.length ≤ 3 ∧ ∀ v ∈ a.2, isName v) := by
  unfold errD at h
  split at h
  · cases h
  · rename_i nb
    have nb' : namesB 0 3 x = true := by
      cases q : namesB 0 3 x with
      | true => rfl
      | false => exact absurd q nb
    obtain ⟨hd, rfl, _, _, _⟩ := names_is nb'
    split at h
    · cases h
    · rename_i l e
      split at h
      · cases h
      · rename_i few
        unfold errL at h
        split at h
        · cases h
        · rename_i no
          have all : ∀ d ∈ l, atomB d = true := fun d hd' => by
            obtain ⟨j, hj⟩ := List.getElem?_of_mem hd'
            have jl := (List.getElem?_eq_some_iff.mp hj).1
            have := first_none no j jl
            unfold notAtom at this
            rw [hj] at this
            simpa using this
          obtain ⟨as, rfl, ha⟩ := atoms_are all
          rw [List.length_map] at few
          exact ⟨hd, as, rfl, e, by omega, by omega, ha⟩
theorem err_form' (x y : D) : (∃ l, errD x y = .tup l) ∨ errD x y = .non := by
  have hA : ∀ hd as, (∃ l, errA hd as = .tup l) ∨ errA hd as = .non := fun hd as => by
    unfold errA
    split
    · exact .inl ⟨_, rfl⟩
    · split
      · exact .inl ⟨_, rfl⟩
      · split
        · exact .inl ⟨_, rfl⟩
        · exact .inr rfl
  unfold errD
  split
  · exact .inl ⟨_, rfl⟩
  · split
    · exact .inl ⟨_, rfl⟩
    · split
      · exact .inl ⟨_, rfl⟩
      · unfold errL
        split
        · exact .inl ⟨_, rfl⟩
        · exact hA _ _
theorem if_yes {b : Bool} {p q : Prop} (e : b = true) (h : p) : if b = true then p else q := by rw [if_pos e]; exact h
theorem if_no {b : Bool} {p q : Prop} (e : b = false) (h : q) : if b = true then p else q := by rw [if_neg (by rw [e]; exact Bool.false_ne_true)]; exact h
theorem plainL_of : ∀ {l : List D}, (∀ d ∈ l, plain d = true) → plainL l = true
  | [], _ => rfl
  | d :: l, h => by
    show (plain d && plainL l) = true
    rw [h d List.mem_cons_self, plainL_of fun e he => h e (List.mem_cons_of_mem _ he)]
    rfl
theorem err_ref {K : PySem.W.Frag} {M : List Addr} {H : Hp} {x y : D} {v : V} (h : errD x y ≠ .non) (r : Rep K M H (errD x y) v) : v ≠ .non := by
  rcases err_form' x y with ⟨l, e⟩ | e
  · rw [e] at r
    obtain ⟨a, xs, rfl, _⟩ := r
    exact fun z => nomatch z
  · exact absurd e h
/-- atoms are alike -/
theorem alike_strs : ∀ a b : List Str, PySem.W.alikeAll ((dStrs a).map py) ((dStrs b).map py) = true
  | [], _ => by unfold PySem.W.alikeAll; split <;> simp_all [dStrs]
  | _ :: _, [] => by unfold PySem.W.alikeAll; rfl
  | x :: a, y :: b => by
    show (PySem.W.alike (.str x) (.str y) && PySem.W.alikeAll ((dStrs a).map py) ((dStrs b).map py)) = true
    rw [alike_strs a b]
    rfl
theorem pyL_map : ∀ l : List D, pyL l = l.map py
  | [] => rfl
  | d :: l => by
    show py d :: pyL l = _
    rw [pyL_map l]
    rfl
theorem alike_atoms (as : List (Str × List Str)) : PySem.W.AllAlike ((as.map dAtom).map py) := fun d hd e he => by
  obtain ⟨d', hd', rfl⟩ := List.mem_map.mp hd
  obtain ⟨a, _, rfl⟩ := List.mem_map.mp hd'
  obtain ⟨e', he', rfl⟩ := List.mem_map.mp he
  obtain ⟨b, _, rfl⟩ := List.mem_map.mp he'
  show (PySem.W.alike (.str a.1) (.str b.1) && (PySem.W.alike (.tuple (pyL (dStrs a.2))) (.tuple (pyL (dStrs b.2))) && PySem.W.alikeAll [] [])) = true
  have h2 : PySem.W.alike (.tuple (pyL (dStrs a.2))) (.tuple (pyL (dStrs b.2))) = PySem.W.alikeAll (pyL (dStrs a.2)) (pyL (dStrs b.2)) := rfl
  rw [h2, pyL_map, pyL_map, alike_strs]
  rfl
theorem sortable_atoms (as : List (Str × List Str)) : PySem.W.Sortable ((as.map dAtom).map py) := .inl fun d hd => by
  obtain ⟨d', hd', rfl⟩ := List.mem_map.mp hd
  obtain ⟨a, _, rfl⟩ := List.mem_map.mp hd'
  exact ⟨_, _, rfl⟩
/-- atoms in ascending order -/
def sortA (as : List (Str × List Str)) : List (Str × List Str) := (ordD (as.map dAtom)).map unD
theorem sortA_of (as : List (Str × List Str)) : ordD (as.map dAtom) = (sortA as).map dAtom := by
  obtain ⟨bs, _, e⟩ := perm_map dAtom (ordD_perm (as.map dAtom)) as rfl
  unfold sortA
  rw [e, un_all]
theorem sortA_perm (as : List (Str × List Str)) : (sortA as).Perm as := by
  obtain ⟨bs, p, e⟩ := perm_map dAtom (ordD_perm (as.map dAtom)) as rfl
  unfold sortA
  rw [e, un_all]
  exact p
theorem ck_sortA {K : PySem.W.Frag} {s c : Addr} {as : List (Str × List Str)} (hat : ∀ a ∈ as, isName a.1 ∧ 1 ≤ a.2.length ∧ a.2.length ≤ 3 ∧ ∀ v ∈ a.2, isName v) : CK K s c (rSortD K) [.lst (as.map dAtom)] (.lst ((sortA as).map dAtom)) := by
  rw [← sortA_of]
  refine ck_sortD (plainL_of fun d hd => ?_) (alike_atoms as) (sortable_atoms as) fun d hd => ?_
  · obtain ⟨b, hb, rfl⟩ := List.mem_map.mp hd
    exact plain_of (atom_tame (hat b hb).1 (hat b hb).2.2.1 (hat b hb).2.2.2).1
  · obtain ⟨b, hb, rfl⟩ := List.mem_map.mp hd
    exact Nat.le_trans (atom_tame (hat b hb).1 (hat b hb).2.2.1 (hat b hb).2.2.2).2 (by decide)
/-- the fields of a query -/
def ksQ : List Str := ["_head", "_atoms", "_variables"]
def qL (hd : List Str) (as : List (Str × List Str)) : List D := [.tup (dStrs hd), .tup ((sortA as).map dAtom), .tup (dStrs (usort (as.flatMap (·.2))))]
def preQ (s c : Addr) (ds : List D) : Prop := ∃ x y, ds = [x, y] ∧ (tame x = true ∧ dp x ≤ 60) ∧ tame y = true ∧ dp y ≤ 60
def valQ (ds : List D) (l : List D) : Prop := ∃ x y hd as, ds = [x, y] ∧ errD x y = .non ∧ x = .tup (dStrs hd) ∧ seqD y = some (as.map dAtom) ∧ l = qL hd as
def badQ (CE : Addr) (ds : List D) (C : Addr) (nm : Str) (e : D) : Prop := ∃ x y, ds = [x, y] ∧ errD x y ≠ .non ∧ C = CE ∧ nm = "reason" ∧ e = errD x y
section
variable {P : Program} {w : World} {K : PySem.W.Frag} {mg : Str → Option Value} {base : Heap} {A : Adr} {CQ fQ CE fE : Addr} {dQ dE : FuncData}
theorem ok_q_initN (T : Txt A K mg) (U : QTxt K mg CQ fQ CE fE dQ dE) : FnOk P w K mg base (L2N.CX P w) 5 fQ dQ ["self", "head", "atoms"] (PrC K CQ ksQ preQ valQ (badQ CE)) := by
  have G__query_error := ok__query_error (P := P) (w := w) (base := base) T
  have G__different_variables := ok__different_variables (P := P) (w := w) (base := base) T
  refine okN U.FQ sc_q_init (fun vs H Q E h => ?_) (fun cdv A' outer st H vs Q E hr h => have hs70 : _ := (by have := hr.un; omega : (A'.deeper (envOfC "Query.__init__" (defScope s_q_init) st.heap.objs.size fQ cdv)).units + 70 < cLine); ⟨_, (pss_cons (ps_set (i := 3) sc_q_init.nd rfl (by first | exact Or.inl rfl | exact Or.inr rfl) (pe_call G__query_error (hr.mono (by decide)) (by rfl) T.m__query_error T.F__query_error.kp T.b__query_error .nil pass0 (pa_cons (pv 1) (pa_cons (pv 2) pa_nil))))
      (pss_cons (ps_if (pt_cmp (pc_notN (pv 3)) rfl) (pss_one (L2N.ps_raise rfl (L2N.takes_of rfl rfl rfl rfl) (pmk_oexN U.oE U.iE U.tE (ok_iq_init (K := K) (C := CE) U.FE) (hr.mono (by decide)) U.bE pass0 (by rfl) U.gE (pa_cons (pv 3) pa_nil)))) pss_nil)
      (pss_cons (ps_fld (pv 0) (pe_callTy (k_tuple K) (by rfl) T.m_tuple (by decide +kernel) (pa_cons (pv 1) pa_nil)) rfl)
      (pss_cons (ps_fld (pv 0) (pe_callTy (k_tuple K) (by rfl) T.m_tuple (by decide +kernel) (pa_cons (pe_callB (k_sortD (K := K) hs70) (by rfl) T.m_sorted (by decide +kernel) (pa_cons (pe_lc (own := [("table", 4), ("variables", 5)]) rfl sc_q_init.nd (k_piseq (K := K) (pv 2)) (blkOk_by (N := ["self", "head", "atoms", "reason", "table", "variables"]) (sc := defScope s_q_init) (by decide +kernel)) (fun _ _ _ _ _ => (k_pgtup K (n := 2) rfl (pgs_cons (pg_name (i := 4) sc_q_init.nd rfl (by first | exact Or.inl rfl | exact Or.inr rfl)) (pgs_cons (pg_name (i := 5) sc_q_init.nd rfl (by first | exact Or.inl rfl | exact Or.inr rfl)) pgs_nil)))) (fun _ _ _ _ _ => pts_nil) (fun _ _ _ _ _ => (pe_tup (pa_cons (pv 4) (pa_cons (pe_callTy (k_tuple K) (by rfl) T.m_tuple (by decide +kernel) (pa_cons (pv 5) pa_nil)) pa_nil))))) pa_nil)) pa_nil)) rfl)
      (pss_one (ps_fld (pv 0) (pe_callTy (k_tuple K) (by rfl) T.m_tuple (by decide +kernel) (pa_cons (pe_call G__different_variables (hr.mono (by decide)) (by rfl) T.m__different_variables T.F__different_variables.kp T.b__different_variables .nil pass0 (pa_cons (pv 2) pa_nil)) pa_nil)) rfl)))))), ?_⟩)
  · obtain ⟨a, dx, s, c, M, n, ws, ds, rfl, _, _, _, _, _, _, _, _, rl, ⟨x, y, rfl, _⟩, _⟩ := h
    have := rl.length
    show ws.length + 1 = 3
    rw [← this]
    rfl
  · obtain ⟨a, dx, s, c, M, n, ws, ds, rfl, hm, ha, nas, nac, ht, src, hn, hi, rl, ⟨x, y, rfl, tx, ty⟩, good, bad⟩ := h
    obtain ⟨vx, vy, rfl, rx, ry⟩ := rl.inv2
    have I0 : Ok K s c M H [] [.va (.obj a), .va x, .va y, .no, .no, .no] n (L2.start ["self", "head", "atoms", "reason", "table", "variables"] [.ref a, vx, vy]) H := ok_now hm ht src ⟨rfl, rx, ry, trivial⟩
    refine ev_defK (z := errD x y) (ea_c (ev_var rfl) (ea_one (ev_var rfl))) hn ⟨x, y, rfl, tx, ty⟩ (fun d h => by
      obtain ⟨x', y', e, rfl⟩ := h
      cases e
      rfl) M H [] _ H _ I0 fun v H1 d g1 s1 r1 e1 => ?_
    subst e1
    have r1 : Rep K M H1 (errD x y) v := r1
    have i1 : H1 a = some (.ins CQ dx []) := g1 a _ hi (.inl (not_two nas nac))
    have t1 := gr_two g1 s1 ht
    have gM := g1.mono (two_sub hm)
    have rx1 : Rep K M H1 x vx := rx.gr gM
    have ry1 : Rep K M H1 y vy := ry.gr gM
    refine ⟨v, rfl, _, rfl, ?_⟩
    by_cases none_ : errD x y = .non
    · rw [none_] at r1
      have r1 : v = .non := r1
      subst r1
      obtain ⟨hd, as, rfl, hy, a1, a6, hat⟩ := err_none none_
      have S1 : SlR K M H1 [.va (.obj a), .va (.tup (dStrs hd)), .va y, .va .non, .no, .no] [some (.ref a), some vx, some vy, some .non, none, none] [] := ⟨rfl, rx1, ry1, rfl, trivial⟩
      refine if_no rfl ?_
      have few : ∀ b ∈ as, b.2.length ≤ 3 := fun b hb => (hat b hb).2.2.1
      -- self._head
      refine fld_new (ρ := [.va (.obj a), .va (.tup (dStrs hd)), .va y, .va .non, .no, .no]) (ks := []) (l := []) hm t1 s1 S1 ha nas nac i1 U.cQ U.nH rfl (by exact (by decide : (0 : Nat) < 900)) (fun z => nomatch z) trivial rfl (ev_callK (ea_one (ev_var rfl)) (ck_tuple rfl)) fun H2 f2 k2 g2 s2 t2 S2 i2 l2 => ?_
      -- self._atoms
      refine fld_new (ρ := [.va (.obj a), .va (.tup (dStrs hd)), .va y, .va .non, .no, .no]) hm t2 s2 S2 ha nas nac i2 U.cQ U.nA k2 (by exact (by decide : (1 : Nat) < 900)) (by decide +kernel) l2 rfl (ev_callK (ea_one (ev_callK (ea_one (EvE.imp (EvN.evK (en_mapK (L := as.map dAtom) id (ei_seq (ev_var rfl) hy) rfl (by rw [List.length_map]; omega) fun i d hd' => ?_)) fun d e => ?_))
        (ck_sortA hat))) (ck_tuple rfl)) fun H3 f3 k3 g3 s3 t3 S3 i3 l3 => ?_
      · have hd' : (as.map dAtom)[i]? = some d := hd'
        rw [List.getElem?_map] at hd'
        cases q : as[i]? with
        | none => rw [q] at hd'; cases hd'
        | some b =>
          rw [q] at hd'
          cases hd'
          exact ⟨_, _, eg_tup (egs_cons (eg_name (j := 4) rfl) (egs_cons (eg_name (j := 5) rfl) egs_nil)) rfl, fun j hj => hj, ev_tupE (ea_c (ev_var rfl) (ea_one (ev_callK (ea_one (ev_var rfl)) (ck_tuple rfl)))) (by exact (by decide : (2 : Nat) ≤ 1000))⟩
      · rw [List.map_id] at e
        exact e
      -- self._variables
      refine fld_new (ρ := [.va (.obj a), .va (.tup (dStrs hd)), .va y, .va .non, .no, .no]) hm t3 s3 S3 ha nas nac i3 U.cQ U.nV k3 (by exact (by decide : (2 : Nat) < 900)) (by decide +kernel) l3 rfl (ev_callK (ea_one (ev_defK (z := .lst (dStrs (usort (as.flatMap (·.2))))) (ea_one (ev_var rfl)) hn ⟨y, as, rfl, hy, by have := vars_len few; omega⟩ fun d h => by
          obtain ⟨y', as', e, h2, rfl⟩ := h
          cases e
          rw [hy] at h2
          rw [as_inj (Option.some.inj h2)])) (ck_tuple rfl)) fun H4 f4 k4 g4 s4 t4 S4 i4 l4 => ?_
      exact good (qL hd as) H4 f4 ⟨_, y, hd, as, rfl, none_, rfl, hy, rfl⟩ (((gr_wide g1).trans g2).trans (g3.trans g4)) s4 i4 k4 l4
    · refine if_yes (by rw [decide_eq_false (err_ref none_ r1)]; rfl) ?_
      exact ⟨v, rfl, mk_iq U.oE U.nE fun d hd => bad CE _ _ d H1 v ⟨x, y, rfl, none_, rfl, rfl, rfl⟩ (gr_wide g1) s1 hd r1⟩
theorem ok_q_init (T : Txt A K mg) (U : QTxt K mg CQ fQ CE fE dQ dE) : FnOk P w K mg base (L2.CX P w) 5 fQ dQ ["self", "head", "atoms"] (PrC K CQ ksQ preQ valQ (badQ CE)) := fnN_fn (ok_q_initN T U)
end

end K02
/-! text PlZ -/
set_option Elab.async false
set_option linter.all false
set_option maxRecDepth 100000
set_option maxHeartbeats 4000000
set_option exponentiation.threshold 5000
/-! PlZ: methods of texts (split, partition, words, strip), stars in displays, slices of texts. -/
namespace Pl
open PySem PySem.Spec PyProof.Rows L2
def rSplitS : V → List V → Hp → VK → Prop := fun x xs H Q => ∃ a b, x = .str a ∧ xs = [.str b] ∧ (b.length == 0) = false ∧ a.length + 2 ≤ sizeLine ∧ rNewStrs (Txt.split a b) H Q
def rWordsS : V → List V → Hp → VK → Prop := fun x xs H Q => ∃ a, x = .str a ∧ xs = [] ∧ a.length + 2 ≤ sizeLine ∧ rNewStrs (Txt.words a) H Q
def rPartS : V → List V → Hp → VK → Prop := fun x xs H Q => ∃ a b, x = .str a ∧ xs = [.str b] ∧ (b.length == 0) = false ∧ a.length ≤ sizeLine ∧
    ∀ p, H p = none → Q (.ref p) (upd H p (.tup [.str (Txt.partition a b).1, .str (Txt.partition a b).2.1, .str (Txt.partition a b).2.2]))
def rStripS : V → List V → Hp → VK → Prop := fun x xs H Q => ∃ a, x = .str a ∧ xs = [] ∧ a.length ≤ sizeLine ∧ Q (.str (Txt.strip a)) H
section
variable {X : Cx}
theorem k_star {K : PySem.W.Frag} {e : Expr} {es : List Expr} {te : TE} {t : TA} {p : Pos} (he : PE X e te) (hr : PA X es t) (hs : starEach (.Starred e p :: es) X.env = (true, eval e X.env) :: starEach es X.env := by rfl) (h : X.K = K := by rfl) : PA X (.Starred e p :: es) (StX.tStar K te t) := by subst h; exact StX.pa_star he hr hs
theorem ms_split : MtR X "str.split" rSplitS := mt_split
theorem ms_words : MtR X "str.split" rWordsS := mt_words
theorem ms_part : MtR X "str.partition" rPartS := mt_partition
theorem ms_strip : MtR X "str.strip" rStripS := mt_strip
end
section
variable {K : PySem.W.Frag} {s c : Addr} {ρ : List Sl} {n n1 n2 n3 : Nat} {te to : TE}
theorem repS_out {M : List Addr} {n : Nat} {H : Hp} (hm : s ∈ M ∧ c ∈ M) (ht : ∀ a ∈ M, ∃ o, H a = some o) {p : Addr} (hp : H p = none) : p ∉ M := fun z => by
  obtain ⟨o, e⟩ := ht p z
  rw [hp] at e
  cases e
theorem mk_split {a b : Str} (hb : (b.length == 0) = false) (ha : a.length + 2 ≤ sizeLine) : MK K s c "str" rSplitS (.str a) [.str b] (.lst (dStrs (Txt.split a b))) := ⟨ty_str, fun M n v vs H Q hm ht hs rx r k => by
  obtain ⟨u, rfl, ru⟩ := r.inv1
  exact ⟨a, b, rx, by rw [show u = .str b from ru], hb, ha, fun p hp => k (.ref p) _ (Gr.new hp) (hs.new hp) ⟨p, _, rfl, repS_out (n := n) hm ht hp, upd_same, rep_dStrs _⟩⟩⟩
theorem mk_words {a : Str} (ha : a.length + 2 ≤ sizeLine) : MK K s c "str" rWordsS (.str a) [] (.lst (dStrs (Txt.words a))) := ⟨ty_str, fun M n v vs H Q hm ht hs rx r k => by
  cases vs with
  | cons u us => exact r.elim
  | nil => exact ⟨a, rx, rfl, ha, fun p hp => k (.ref p) _ (Gr.new hp) (hs.new hp) ⟨p, _, rfl, repS_out (n := n) hm ht hp, upd_same, rep_dStrs _⟩⟩⟩
theorem mk_part {a b : Str} (hb : (b.length == 0) = false) (ha : a.length ≤ sizeLine) : MK K s c "str" rPartS (.str a) [.str b] (.tup (dStrs [(Txt.partition a b).1, (Txt.partition a b).2.1, (Txt.partition a b).2.2])) := ⟨ty_str, fun M n v vs H Q hm ht hs rx r k => by
  obtain ⟨u, rfl, ru⟩ := r.inv1
  exact ⟨a, b, rx, by rw [show u = .str b from ru], hb, ha, fun p hp => k (.ref p) _ (Gr.new hp) (hs.new hp) ⟨p, _, rfl, .inl (.inl upd_same), rep_dStrs [_, _, _]⟩⟩⟩
theorem mk_strip {a : Str} (ha : a.length ≤ sizeLine) : MK K s c "str" rStripS (.str a) [] (.str (Txt.strip a)) := ⟨ty_str, fun M n v vs H Q hm ht hs rx r k => by
  cases vs with
  | cons u us => exact r.elim
  | nil => exact ⟨a, rx, rfl, ha, k _ H (Gr.refl _ _) hs rfl⟩⟩
theorem ev_methK {T : String} {r : V → List V → Hp → VK → Prop} {t : TA} {x z : D} {l : List D} (ho : EvE K s c to ρ n n1 (fun d => d = x)) (ha : EvA K s c t ρ n1 n2 (fun m => m = l)) (hr : MK K s c T r x l z) : EvE K s c (tBM K T r to t) ρ n n2 (fun d => d = z) :=
  ev_methP ho ha (fun x' l' e1 e2 => ⟨z, by rw [e1, e2]; exact hr, rfl⟩) fun x' e => by rw [e]; exact hr.1
theorem ev_meth0K {T : String} {r : V → List V → Hp → VK → Prop} {x z : D} (ho : EvE K s c to ρ n n1 (fun d => d = x)) (hr : MK K s c T r x [] z) : EvE K s c (tBM0 K T r to) ρ n n1 (fun d => d = z) := fun M0 H0 O σ H Q I k =>
  ho M0 H0 O σ H _ I fun v H1 d g1 s1 r1 p => by
    subst p
    exact ⟨hr.1 _ H1 v r1, hr.2 (O ++ M0) n1 v [] H1 Q ⟨List.mem_append_right _ I.ms.1, List.mem_append_right _ I.ms.2⟩ (I.next g1 s1).thereA s1 r1 trivial fun u H2 g2 s2 r2 => k u H2 z (g1.trans g2) s2 r2 rfl⟩
theorem RepL.join : ∀ {l m : List D} {xs ys : List V} {M : List Addr} {H : Hp}, RepL K M H l xs → RepL K M H m ys → RepL K M H (l ++ m) (xs ++ ys) := fun h k => h.append k
/-- *xs, e, .. in a display or a call -/
theorem ea_star {t : TA} {d : D} {l m : List D} (h : EvE K s c te ρ n n1 (fun x => x = d)) (e : seqD d = some l) (ht : EvA K s c t ρ n1 n2 (fun x => x = m)) : EvA K s c (StX.tStar K te t) ρ n n2 (fun x => x = l ++ m) := fun M0 H0 O σ H Q I k =>
  h M0 H0 O σ H _ I fun v H1 x g1 s1 r1 p => by
    subst p
    obtain ⟨a, xs, rfl, sq, rl⟩ := rep_seq e r1
    refine ⟨a, xs, rfl, sq.symm, ht M0 H0 O σ H1 _ (I.next g1 s1) fun ws H2 m' g2 s2 r2 q => ?_⟩
    subst q
    exact k _ H2 _ (g1.trans g2) s2 ((rl.gr (g2.mono I.sub)).append r2) rfl
end
theorem tl_of (z : Str) : TL.tl z = z.cps.toList := rfl
theorem small_s {a : Str} (h : a.length ≤ 100000) : a.length + 2 ≤ sizeLine := by
  have : sizeLine = 16777216 := sizeLine_eq
  omega
end Pl
/-! text PlE2 -/
set_option Elab.async false
set_option linter.all false
set_option maxRecDepth 100000
set_option maxHeartbeats 4000000
set_option exponentiation.threshold 5000
/-! PlE2: == of lists of texts is equality; isinstance of an own class, for built-in data and for instances. -/
namespace Pl
open PySem PySem.Spec PyProof.Rows L2
theorem eqv_strsL : ∀ a b : List Str, PyData.eqvAll (pyL (dStrs a)) (pyL (dStrs b)) = decide (a = b)
  | [], [] => rfl
  | [], _ :: _ => rfl
  | _ :: _, [] => rfl
  | x :: a, y :: b => by
    show ((x == y) && PyData.eqvAll (pyL (dStrs a)) (pyL (dStrs b))) = _
    rw [eqv_strsL a b, Bool.eq_iff_iff]
    simp
theorem eqv_strsT (a b : List Str) : PyData.eqv (py (.tup (dStrs a))) (py (.tup (dStrs b))) = decide (a = b) := eqv_strsL a b
theorem sum_le {k : Nat} : ∀ {ys : List Str}, (∀ y ∈ ys, y.length ≤ k) → (ys.map (·.length)).sum ≤ k * ys.length
  | [], _ => Nat.zero_le _
  | y :: ys, h => by
    have h1 := h y List.mem_cons_self
    have h2 := sum_le (ys := ys) fun z hz => h z (List.mem_cons_of_mem _ hz)
    simp only [List.map_cons, List.sum_cons, List.length_cons]
    have : k * (ys.length + 1) = k * ys.length + k := Nat.mul_succ _ _
    omega
/-- what an own class must be for its name behind isinstance, and its instances before it -/
structure IsC (K : PySem.W.Frag) (C : Addr) : Prop where
  cl : Cls K C
  ha : PySem.W.findIn K (.ref C) "__class__" = some (some (.builtin "object.__class__"))
  hn : PySem.W.specialIn K (.builtin "object.__class__") "__get__" = some (some (.builtin "getset_descriptor.__get__"))
  ht : PySem.W.takesIn K (.builtin "object.__class__") = some true
  hm : PySem.W.mroIn K C (.type "object") = some true
  ic : PySem.W.isClsIn K C = true
  ty : PySem.W.typeIn K (.ref C) = some (.type "type")
  no : ∀ d : D, topD d = true → PySem.W.subIn K (.type (tyD d)) (.ref C) = some false
section
variable {K : PySem.W.Frag} {s c C : Addr} {ρ : List Sl} {n n1 : Nat} {ta : TE}
theorem IsC.kit (I : IsC K C) {d : D} (h : topD d = true) : PySem.W.kitOne K (.type (tyD d)) (.ref C) = some false := by
  show PySem.W.kitCls K (.type (tyD d)) (.ref C) = some false
  have h1 : (PySem.W.clsIn K C).isSome = true := I.ic
  show (if ((PySem.W.clsIn K C).isSome && PySem.W.typeIn K (.ref C) == some (.type "type")) = true then PySem.W.subIn K (.type (tyD d)) (.ref C) else none) = some false
  rw [h1, I.ty, if_pos (by rfl)]
  exact I.no d h
theorem IsC.self (C : Addr) : PySem.W.kitOne K (.ref C) (.ref C) = some true := by
  unfold PySem.W.kitOne
  rw [if_pos (beq_self_eq_true _)]
theorem IsC.ins (I : IsC K C) {M : List Addr} {H : Hp} {ks : List Str} {l : List D} {v : V} (r : Rep K M H (.ins C ks l) v) : TyX K H v (.ref C) := by
  obtain ⟨a, dx, fs, rfl, _, e, _⟩ := r
  exact .base (.ins e I.cl I.ha I.hn I.ht I.hm)
theorem ev_isiC (I : IsC K C) {d : D} {b : Bool} (h : EvE K s c ta ρ n n1 (fun x => x = d)) (hd : (topD d = true ∧ b = false) ∨ ((∃ ks l, d = .ins C ks l) ∧ b = true)) :
    EvE K s c (tCB (rIsiA K) (tCons ta (tCons (tC (.ref C)) tNil))) ρ n n1 (fun x => x = .bl b) := fun M0 H0 O σ H Q J k =>
  h M0 H0 O σ H _ J fun v H1 x g s1 r p => by
    subst p
    rcases hd with ⟨hd, rfl⟩ | ⟨⟨ks, l, rfl⟩, rfl⟩
    · exact .inl ⟨v, .ref C, _, _, false, rfl, .own C, ty_of r hd, I.kit hd, k _ H1 (.bl false) g s1 rfl rfl⟩
    · exact .inl ⟨v, .ref C, _, _, true, rfl, .own C, I.ins r, IsC.self C, k _ H1 (.bl true) g s1 rfl rfl⟩
theorem IsC.first (I : IsC K C) {d : D} (h : topD d = true) : PySem.W.notFirst K C (.type (tyD d)) = true := by
  unfold PySem.W.notFirst
  rw [I.no d h]
  simp
theorem IsC.first' (C : Addr) : PySem.W.notFirst K C (.ref C) = true := by
  unfold PySem.W.notFirst
  simp
/-- x == y, x != y, x an own instance: what its __eq__ promises -/
theorem rk_eqIns {ks : List Str} {l : List D} {y : D} {b : Bool} {pre : Addr → Addr → List D → Prop} {post : Addr → Addr → List D → D → Prop} (I : IsC K C) (hy : topD y = true ∨ ∃ ks' l', y = .ins C ks' l') (hp : pre s c [.ins C ks l, y]) (hq : ∀ z, post s c [.ins C ks l, y] z → z = .bl b) :
    ∀ M n v w H (Q : VK), s ∈ M ∧ c ∈ M → (∀ a ∈ M, ∃ o, H a = some o) → Src s c n H → n ≤ 2 ^ 40 → Rep K M H (.ins C ks l) v → Rep K M H y w → (∀ u H', Gr [s, c] H H' → Src s c n H' → Rep K M H' (.bl b) u → Q u H') → rEqI K C (Pr K pre 0 post) v w H Q := fun M n v w H Q hm ht hs hn rx ry k => by
  obtain ⟨a, dx, fs, rfl, ma, e, hk, rl⟩ := rx
  have r0 : Rep K M H (.ins C ks l) (.ref a) := ⟨a, dx, fs, rfl, ma, e, hk, rl⟩
  have ty : ∃ t, TyX K H w t ∧ PySem.W.notFirst K C t = true := by
    rcases hy with hy | ⟨ks', l', rfl⟩
    · exact ⟨_, ty_of ry hy, I.first hy⟩
    · exact ⟨_, I.ins ry, IsC.first' C⟩
  obtain ⟨t, ty, nf⟩ := ty
  refine ⟨a, dx, fs, t, rfl, e, ty, nf, s, c, M, n, [.ins C ks l, y], hm.1, hm.2, ht, hs, hn, ⟨r0, ry, trivial⟩, hp, fun u H' d g sr r q => ?_⟩
  have := hq d q
  subst this
  have r : u = .bl b := r
  subst r
  exact ⟨b, rfl, k _ H' g sr rfl⟩
theorem rk_neI' {ks : List Str} {l : List D} {y : D} {b : Bool} {pre : Addr → Addr → List D → Prop} {post : Addr → Addr → List D → D → Prop} (I : IsC K C) (hy : topD y = true ∨ ∃ ks' l', y = .ins C ks' l') (hp : pre s c [.ins C ks l, y]) (hq : ∀ z, post s c [.ins C ks l, y] z → z = .bl b) :
    ∀ M n v w H (Q : VK), s ∈ M ∧ c ∈ M → (∀ a ∈ M, ∃ o, H a = some o) → Src s c n H → n ≤ 2 ^ 40 → Rep K M H (.ins C ks l) v → Rep K M H y w → (∀ u H', Gr [s, c] H H' → Src s c n H' → Rep K M H' (.bl (!b)) u → Q u H') → rNeI K C (Pr K pre 0 post) v w H Q := fun M n v w H Q hm ht hs hn rx ry k => by
  obtain ⟨a, dx, fs, rfl, ma, e, hk, rl⟩ := rx
  have r0 : Rep K M H (.ins C ks l) (.ref a) := ⟨a, dx, fs, rfl, ma, e, hk, rl⟩
  have ty : ∃ t, TyX K H w t ∧ PySem.W.notFirst K C t = true := by
    rcases hy with hy | ⟨ks', l', rfl⟩
    · exact ⟨_, ty_of ry hy, I.first hy⟩
    · exact ⟨_, I.ins ry, IsC.first' C⟩
  obtain ⟨t, ty, nf⟩ := ty
  refine ⟨a, dx, fs, t, rfl, e, ty, nf, s, c, M, n, [.ins C ks l, y], hm.1, hm.2, ht, hs, hn, ⟨r0, ry, trivial⟩, hp, fun u H' d g sr r q => ?_⟩
  have := hq d q
  subst this
  have r : u = .bl b := r
  subst r
  exact ⟨b, rfl, k _ H' g sr rfl⟩
/-- str(x), x an own instance -/
theorem ck_strI {ks : List Str} {l : List D} {z : Str} {pre : Addr → Addr → List D → Prop} {post : Addr → Addr → List D → D → Prop} (hp : pre s c [.ins C ks l]) (hq : ∀ d, post s c [.ins C ks l] d → d = .str z) :
    ∀ M n vs H (Q : VK), s ∈ M ∧ c ∈ M → (∀ a ∈ M, ∃ o, H a = some o) → Src s c n H → n ≤ 2 ^ 40 → RepL K M H [.ins C ks l] vs → (∀ u H', Gr [s, c] H H' → Src s c n H' → Rep K M H' (.str z) u → Q u H') → rStrI C (Pr K pre 0 post) vs H Q := fun M n vs H Q hm ht hs hn rl k => by
  obtain ⟨v, rfl, rx⟩ := rl.inv1
  obtain ⟨a, dx, fs, rfl, ma, e, hk, rl'⟩ := rx
  have r0 : Rep K M H (.ins C ks l) (.ref a) := ⟨a, dx, fs, rfl, ma, e, hk, rl'⟩
  refine ⟨a, dx, fs, rfl, e, s, c, M, n, [.ins C ks l], hm.1, hm.2, ht, hs, hn, ⟨r0, trivial⟩, hp, fun u H' d g sr r q => ?_⟩
  have := hq d q
  subst this
  have r : u = .str z := r
  subst r
  exact ⟨z, rfl, k _ H' g sr rfl⟩
theorem ev_strI {ks : List Str} {l : List D} {z : Str} {pre : Addr → Addr → List D → Prop} {post : Addr → Addr → List D → D → Prop} (h : EvE K s c ta ρ n n1 (fun x => x = .ins C ks l)) (hn : n1 ≤ 2 ^ 40) (hp : pre s c [.ins C ks l]) (hq : ∀ d, post s c [.ins C ks l] d → d = .str z) :
    EvE K s c (tCB (rStrI C (Pr K pre 0 post)) (tCons ta tNil)) ρ n n1 (fun x => x = .str z) := fun M0 H0 O σ H Q J k =>
  h M0 H0 O σ H _ J fun v H1 x g1 s1 r p => by
    subst p
    exact ck_strI hp hq (O ++ M0) n1 [v] H1 Q ⟨List.mem_append_right _ J.ms.1, List.mem_append_right _ J.ms.2⟩ (J.next g1 s1).thereA s1 hn ⟨r, trivial⟩ fun u H2 g2 s2 r2 => k u H2 _ (g1.trans g2) s2 r2 rfl
theorem ev_eqI {tb : TE} {n2 : Nat} {ks : List Str} {l : List D} {y : D} {b : Bool} {pre : Addr → Addr → List D → Prop} {post : Addr → Addr → List D → D → Prop} (I : IsC K C) (ha : EvE K s c ta ρ n n1 (fun x => x = .ins C ks l)) (hb : EvE K s c tb ρ n1 n2 (fun x => x = y)) (hn : n2 ≤ 2 ^ 40) (hy : topD y = true ∨ ∃ ks' l', y = .ins C ks' l')
    (hp : pre s c [.ins C ks l, y]) (hq : ∀ z, post s c [.ins C ks l, y] z → z = .bl b) : EvE K s c (tOp (rEqI K C (Pr K pre 0 post)) ta tb) ρ n n2 (fun x => x = .bl b) := fun M0 H0 O σ H Q J k =>
  ha M0 H0 O σ H _ J fun v H1 x g1 s1 r1 p => hb M0 H0 O σ H1 _ (J.next g1 s1) fun w H2 x2 g2 s2 r2 p2 => by
    subst p
    subst p2
    exact rk_eqIns I hy hp hq (O ++ M0) n2 v w H2 Q ⟨List.mem_append_right _ J.ms.1, List.mem_append_right _ J.ms.2⟩ ((J.next g1 s1).next g2 s2).thereA s2 hn (r1.gr (g2.mono J.sub)) r2 fun u H3 g3 s3 r3 => k u H3 _ ((g1.trans g2).trans g3) s3 r3 rfl
theorem ev_neI {tb : TE} {n2 : Nat} {ks : List Str} {l : List D} {y : D} {b : Bool} {pre : Addr → Addr → List D → Prop} {post : Addr → Addr → List D → D → Prop} (I : IsC K C) (ha : EvE K s c ta ρ n n1 (fun x => x = .ins C ks l)) (hb : EvE K s c tb ρ n1 n2 (fun x => x = y)) (hn : n2 ≤ 2 ^ 40) (hy : topD y = true ∨ ∃ ks' l', y = .ins C ks' l')
    (hp : pre s c [.ins C ks l, y]) (hq : ∀ z, post s c [.ins C ks l, y] z → z = .bl b) : EvE K s c (tOp (rNeI K C (Pr K pre 0 post)) ta tb) ρ n n2 (fun x => x = .bl (!b)) := fun M0 H0 O σ H Q J k =>
  ha M0 H0 O σ H _ J fun v H1 x g1 s1 r1 p => hb M0 H0 O σ H1 _ (J.next g1 s1) fun w H2 x2 g2 s2 r2 p2 => by
    subst p
    subst p2
    exact rk_neI' I hy hp hq (O ++ M0) n2 v w H2 Q ⟨List.mem_append_right _ J.ms.1, List.mem_append_right _ J.ms.2⟩ ((J.next g1 s1).next g2 s2).thereA s2 hn (r1.gr (g2.mono J.sub)) r2 fun u H3 g3 s3 r3 => k u H3 _ ((g1.trans g2).trans g3) s3 r3 rfl
end
end Pl
/-! text K02s -/
set_option Elab.async false
set_option linter.all false
set_option maxRecDepth 100000
set_option maxHeartbeats 4000000
set_option exponentiation.threshold 5000
namespace K02
open PySem PySem.Spec PyProof.Rows L2 Pl PlS
abbrev s_q_eq : Stmt := inCls 14 7
theorem sc_q_eq : FnScope ["self", "other"] ["self", "other"] (defScope s_q_eq) := ⟨rfl, rfl, rfl, by decide +kernel, rfl, by decide +kernel, by decide +kernel⟩
abbrev s_q_str : Stmt := inCls 14 8
theorem sc_q_str : FnScope ["self", "atoms", "table", "variables"] ["self"] (defScope s_q_str) := ⟨rfl, rfl, rfl, by decide +kernel, rfl, by decide +kernel, by decide +kernel⟩
/-- what a query is, as data -/
def okQ (hd : List Str) (as : List (Str × List Str)) : Prop := (∀ v ∈ hd, isName v) ∧ hd.length ≤ 3 ∧ 1 ≤ as.length ∧ as.length ≤ 6 ∧ ∀ a ∈ as, isName a.1 ∧ 1 ≤ a.2.length ∧ a.2.length ≤ 3 ∧ ∀ v ∈ a.2, isName v
theorem err_ok {x y : D} (h : errD x y = .non) : ∃ (hd : List Str) (as : List (Str × List Str)), x = .tup (dStrs hd) ∧ seqD y = some (as.map dAtom) ∧ okQ hd as := by
  have nb : namesB 0 3 x = true := by
    cases q : namesB 0 3 x with
    | true => rfl
    | false =>
      unfold errD at h
      rw [if_pos q] at h
      cases h
  obtain ⟨hd, e, _, h3, hn⟩ := names_is nb
  obtain ⟨hd', as, e', hy, h1, h6, hat⟩ := err_none h
  rw [e] at e'
  have : hd = hd' := str_inj (D.tup.inj e')
  subst this
  exact ⟨hd, as, e, hy, hn, by omega, h1, h6, hat⟩
theorem okQ_perm {hd : List Str} {as bs : List (Str × List Str)} (h : okQ hd as) (p : bs.Perm as) : okQ hd bs := ⟨h.1, h.2.1, by rw [p.length_eq]; exact h.2.2.1, by rw [p.length_eq]; exact h.2.2.2.1, fun a ha => h.2.2.2.2 a (p.mem_iff.mp ha)⟩
theorem eqv_atoms : ∀ a b : List (Str × List Str), PyData.eqvAll (pyL (a.map dAtom)) (pyL (b.map dAtom)) = decide (a = b)
  | [], [] => rfl
  | [], _ :: _ => rfl
  | _ :: _, [] => rfl
  | x :: a, y :: b => by
    show (((x.1 == y.1) && (PyData.eqvAll (pyL (dStrs x.2)) (pyL (dStrs y.2)) && true)) && PyData.eqvAll (pyL (a.map dAtom)) (pyL (b.map dAtom))) = _
    rw [eqv_atoms a b, eqv_strsL, Bool.eq_iff_iff]
    simp only [Bool.and_eq_true, decide_eq_true_eq, beq_iff_eq, Bool.and_true, List.cons.injEq, Prod.ext_iff]
theorem tame_names {hd : List Str} (h : ∀ v ∈ hd, isName v) (k : hd.length ≤ 1000) : tame (.tup (dStrs hd)) = true ∧ dp (.tup (dStrs hd)) ≤ 60 := by
  have hs : ∀ d ∈ dStrs hd, tame d = true ∧ dp d = 0 := fun d hd' => by
    obtain ⟨z, rfl, hz⟩ := strs_mem hd'
    exact ⟨(name_tame (h z hz)).1, rfl⟩
  exact ⟨tame_tupOf (fun d hd' => (hs d hd').1) (by rw [strs_len]; exact k), Nat.le_trans (dp_seq (k := 0) fun d hd' => Nat.le_of_eq (hs d hd').2).2 (by decide)⟩
theorem tame_atoms {as : List (Str × List Str)} (h : ∀ a ∈ as, isName a.1 ∧ 1 ≤ a.2.length ∧ a.2.length ≤ 3 ∧ ∀ v ∈ a.2, isName v) (k : as.length ≤ 1000) : (tame (.tup (as.map dAtom)) = true ∧ dp (.tup (as.map dAtom)) ≤ 61) ∧ tame (.lst (as.map dAtom)) = true ∧ dp (.lst (as.map dAtom)) ≤ 61 := by
  have hs : ∀ d ∈ as.map dAtom, tame d = true ∧ dp d ≤ 60 := fun d hd' => by
    obtain ⟨a, ha, rfl⟩ := List.mem_map.mp hd'
    exact atom_tame (h a ha).1 (h a ha).2.2.1 (h a ha).2.2.2
  refine ⟨⟨tame_tupOf (fun d hd' => (hs d hd').1) (by rw [List.length_map]; exact k), (dp_seq (k := 60) fun d hd' => (hs d hd').2).2⟩, tame_lstOf (fun d hd' => (hs d hd').1) (by rw [List.length_map]; exact k), (dp_seq (k := 60) fun d hd' => (hs d hd').2).1⟩
/-- an instance of Query -/
def qI (CQ : Addr) (q : List Str × List (Str × List Str)) : D := .ins CQ ksQ (qL q.1 q.2)
/-- two queries are equal -/
def eqQ (p q : List Str × List (Str × List Str)) : Bool := decide (p.1 = q.1) && decide (sortA p.2 = sortA q.2)
def preEq (CQ : Addr) (s c : Addr) (ds : List D) : Prop := ∃ p o, ds = [qI CQ p, o] ∧ okQ p.1 p.2 ∧ (topD o = true ∨ ∃ q, o = qI CQ q ∧ okQ q.1 q.2)
def postEq (CQ : Addr) (s c : Addr) (ds : List D) (z : D) : Prop := ∃ p o, ds = [qI CQ p, o] ∧ ((topD o = true ∧ z = .bl false) ∨ ∃ q, o = qI CQ q ∧ z = .bl (eqQ p q))
theorem qI_inj {CQ : Addr} {p q : List Str × List (Str × List Str)} (h : qI CQ p = qI CQ q) : p.1 = q.1 ∧ sortA p.2 = sortA q.2 := by
  unfold qI qL at h
  injection h with _ _ h
  injection h with h1 h
  injection h with h2 _
  injection h1 with h1
  injection h2 with h2
  exact ⟨str_inj h1, as_inj h2⟩
theorem qI_top {CQ : Addr} {p : List Str × List (Str × List Str)} : topD (qI CQ p) = false := rfl
/-- the text of an atom, of a query -/
def textA (a : Str × List Str) : Str := Txt.join " " (a.1 :: a.2)
def textQ (hd : List Str) (as : List (Str × List Str)) : Str := Txt.join " " (hd ++ [Str.ofString "<-", Txt.join ", " (as.map textA)])
def preStr (CQ : Addr) (s c : Addr) (ds : List D) : Prop := ∃ q, ds = [qI CQ q] ∧ okQ q.1 q.2
def postStr (CQ : Addr) (s c : Addr) (ds : List D) (z : D) : Prop := ∃ q, ds = [qI CQ q] ∧ z = .str (textQ q.1 (sortA q.2))
theorem join_len (y : Str) (ys : List Str) : (Txt.join y ys).length ≤ (ys.map (·.length)).sum + ys.length * y.length := by
  have key : ∀ ps : List Str, (TL.joinL (TL.tl y) (ps.map TL.tl)).length ≤ (ps.map (·.length)).sum + ps.length * y.length := by
    intro ps
    induction ps with
    | nil => exact Nat.zero_le _
    | cons p ps ih =>
      cases ps with
      | nil =>
        show (TL.tl p).length ≤ _
        rw [← TL.len_tl]
        simp
      | cons q r =>
        show (TL.tl p ++ (TL.tl y ++ TL.joinL (TL.tl y) ((q :: r).map TL.tl))).length ≤ _
        rw [List.length_append, List.length_append, ← TL.len_tl, ← TL.len_tl]
        have e : ((p :: q :: r).map (·.length)).sum = p.length + ((q :: r).map (·.length)).sum := rfl
        have e2 : (p :: q :: r).length * y.length = (q :: r).length * y.length + y.length := Nat.succ_mul _ _
        omega
  rw [TL.join_eq, TL.len_tl, TL.tl_join]
  exact key ys
theorem textA_len {a : Str × List Str} (h1 : isName a.1) (h2 : a.2.length ≤ 3) (h3 : ∀ v ∈ a.2, isName v) : (textA a).length ≤ a.1.length + 9 * a.2.length := by
  have e := join_len " " (a.1 :: a.2)
  have e1 : (Str.ofString " ").length = 1 := by decide +kernel
  have s := sum_le (k := 8) (ys := a.2) fun y hy => (h3 y hy).2.1
  have key : ∀ vs : List Str, (Txt.join " " (a.1 :: vs)).length ≤ a.1.length + (vs.map (·.length)).sum + vs.length := by
    intro vs
    rw [TL.join_eq, TL.len_tl, TL.tl_join]
    have k2 : ∀ (p : Str) (vs : List Str), (TL.joinL (TL.tl " ") ((p :: vs).map TL.tl)).length ≤ p.length + (vs.map (·.length)).sum + vs.length := by
      intro p vs
      induction vs generalizing p with
      | nil =>
        show (TL.tl p).length ≤ _
        rw [← TL.len_tl]
        simp
      | cons q r ih =>
        show (TL.tl p ++ (TL.tl " " ++ TL.joinL (TL.tl " ") ((q :: r).map TL.tl))).length ≤ _
        rw [List.length_append, List.length_append, ← TL.len_tl, ← TL.len_tl, e1]
        have := ih q
        have e : ((q :: r).map (·.length)).sum = q.length + (r.map (·.length)).sum := rfl
        have e2 : (q :: r).length = r.length + 1 := rfl
        omega
    exact k2 a.1 vs
  have := key a.2
  show (Txt.join " " (a.1 :: a.2)).length ≤ _
  omega
theorem texts_small {as : List (Str × List Str)} (h : ∀ a ∈ as, isName a.1 ∧ 1 ≤ a.2.length ∧ a.2.length ≤ 3 ∧ ∀ v ∈ a.2, isName v) : ∀ y ∈ as.map textA, y.length ≤ 40 := fun y hy => by
  obtain ⟨a, ha, rfl⟩ := List.mem_map.mp hy
  have := textA_len (h a ha).1 (h a ha).2.2.1 (h a ha).2.2.2
  have h1 := (h a ha).1.2.1
  have h2 := (h a ha).2.2.1
  omega
/-- how a part of a text is read -/
def atomR (p : Str) : Str × List Str := ((Txt.partition (Txt.strip p) " ").1, Txt.words (Txt.partition (Txt.strip p) " ").2.2)
def preRA (s c : Addr) (ds : List D) : Prop := ∃ p : Str, ds = [.str p] ∧ p.length ≤ 5000
def postRA (s c : Addr) (ds : List D) (z : D) : Prop := ∃ p : Str, ds = [.str p] ∧ z = dAtom (atomR p)
/-- what the top has written of Query's other methods -/
structure MTxt (K : PySem.W.Frag) (mg : Str → Option Value) (CQ fq fs : Addr) (dq dstr : FuncData) : Prop where
  ic : IsC K CQ
  Fq : Fun K "__eq__" "Query.__eq__" s_q_eq fq dq
  bq : Binds K dq ["self", "other"] []
  aq : PySem.W.findIn K (.ref CQ) "__eq__" = some (some (.ref fq))
  nq : PySem.W.findIn K (.ref CQ) "__ne__" = some (some (.builtin "object.__ne__"))
  iq : PySem.W.isFn K (.ref fq) = true
  Fs : Fun K "__str__" "Query.__str__" s_q_str fs dstr
  bs : Binds K dstr ["self"] []
  as_ : PySem.W.findIn K (.ref CQ) "__str__" = some (some (.ref fs))
  is_ : PySem.W.isFn K (.ref fs) = true
theorem strip_len (p : Str) : (Txt.strip p).length ≤ p.length := by
  unfold PySem.Txt.strip PySem.Txt.stripBy
  split
  · exact Nat.le_refl _
  · unfold PySem.stripped
    rw [TL.len_tl, TL.tl_strSub, List.length_take, List.length_drop, ← TL.len_tl]
    omega
theorem part_len (p : Str) : (Txt.partition p " ").2.2.length ≤ p.length := by
  rcases PyProof.Rows.partition_whole p " " with ⟨e, _⟩ | ⟨i, e, hi, _⟩
  · rw [e]
    exact Nat.zero_le _
  · rw [e, TL.len_tl, TL.tl_strSub_end, List.length_drop, ← TL.len_tl]
    omega
section
variable {P : Program} {w : World} {K : PySem.W.Frag} {mg : Str → Option Value} {base : Heap} {A : Adr} {CQ fQ CE fE fq fs : Addr} {dQ dE dq dstr : FuncData}
theorem ok_q_eq (T : Txt A K mg) (U : QTxt K mg CQ fQ CE fE dQ dE) (V : MTxt K mg CQ fq fs dq dstr) : FnOk P w K mg base CX0 1 fq dq ["self", "other"] (Pr K (preEq CQ) 0 (postEq CQ)) := by
  refine V.Fq.ok sc_q_eq (fun vs H Q E h => pr_len h fun s c ds hp => ?_) (fun cdv A' outer st H vs Q E hr h => have hw : _ := hr.units; ⟨_, (pss_one (ps_ret (pe_and (pe_callB (k_isi (K := K)) (by rfl) T.m_isinstance (by decide +kernel) (pa_cons (pv 1) (pa_cons (pe_glob (v := .ref CQ) rfl U.gQ rfl) pa_nil))) (pe_and (pe_cmpR (k_eqA hw) (k_fld K (pv 0) rfl) (k_fld K (pv 1) rfl) (nomark _)) (pe_one (pe_cmpR (k_eqA hw) (k_fld K (pv 0) rfl) (k_fld K (pv 1) rfl) (nomark _))))))), body_ok h fun s c n ds hn hp => ?_⟩)
  · obtain ⟨p, o, rfl, _⟩ := hp
    rfl
  · obtain ⟨p, o, rfl, okp, ho⟩ := hp
    rcases ho with ho | ⟨q, rfl, okq⟩
    · exact s_ret (ev_andK (a := false) (b := false) (ev_isiC V.ic (ev_var rfl) (.inl ⟨ho, rfl⟩)) fun e => by cases e) fun d hd => ⟨Nat.le_refl _, p, o, rfl, .inl ⟨ho, hd⟩⟩
    · have th := tame_names okp.1 (by have := okp.2.1; omega)
      have th' := tame_names okq.1 (by have := okq.2.1; omega)
      have op := okQ_perm okp (sortA_perm p.2)
      have oq := okQ_perm okq (sortA_perm q.2)
      have ta := (tame_atoms op.2.2.2.2 (by have := op.2.2.2.1; omega)).1
      have ta' := (tame_atoms oq.2.2.2.2 (by have := oq.2.2.2.1; omega)).1
      refine s_ret (ev_andK (a := true) (b := PyData.eqv (py (.tup (dStrs p.1))) (py (.tup (dStrs q.1))) && PyData.eqv (py (.tup ((sortA p.2).map dAtom))) (py (.tup ((sortA q.2).map dAtom)))) (ev_isiC V.ic (ev_var rfl) (.inr ⟨⟨_, _, rfl⟩, rfl⟩)) fun _ => ev_andK (ev_opK (ev_fldI (ev_var rfl) U.cQ U.nH rfl) (ev_fldI (ev_var rfl) U.cQ U.nH rfl) (rk_eqD (plain_of th.1) (plain_of th'.1) (shaped_of th.1 (Nat.le_trans th.2 (by decide))) (shaped_of th'.1 (Nat.le_trans th'.2 (by decide)))))
        fun _ => ev_opK (ev_fldI (ev_var rfl) U.cQ U.nA rfl) (ev_fldI (ev_var rfl) U.cQ U.nA rfl) (rk_eqD (plain_of ta.1) (plain_of ta'.1) (shaped_of ta.1 (Nat.le_trans ta.2 (by decide))) (shaped_of ta'.1 (Nat.le_trans ta'.2 (by decide))))) fun d hd => ⟨Nat.le_refl _, p, _, rfl, .inr ⟨q, rfl, ?_⟩⟩
      rw [hd]
      show D.bl (PyData.eqv (py (.tup (dStrs p.1))) (py (.tup (dStrs q.1))) && PyData.eqvAll (pyL ((sortA p.2).map dAtom)) (pyL ((sortA q.2).map dAtom))) = _
      rw [eqv_strsT, eqv_atoms]
      rfl
theorem ok_q_str (T : Txt A K mg) (U : QTxt K mg CQ fQ CE fE dQ dE) (V : MTxt K mg CQ fq fs dq dstr) : FnOk P w K mg base CX0 1 fs dstr ["self"] (Pr K (preStr CQ) 0 (postStr CQ)) := by
  refine V.Fs.ok sc_q_str (fun vs H Q E h => pr_len h fun s c ds hp => ?_) (fun cdv A' outer st H vs Q E hr h => have hw : _ := hr.units; ⟨_, (pss_cons (ps_setLc (i := 1) (own := [("table", 2), ("variables", 3)]) rfl sc_q_str.nd rfl rfl (sw_true rfl rfl rfl (by decide +kernel)) (k_pitup K (k_fld K (pv 0) rfl)) (blkOk_by (N := ["self", "atoms", "table", "variables"]) (sc := defScope s_q_str) (by decide +kernel)) (fun _ _ _ _ _ => (k_pgtup K (n := 2) rfl (pgs_cons (pg_name (i := 2) sc_q_str.nd rfl (by first | exact Or.inl rfl | exact Or.inr rfl)) (pgs_cons (pg_name (i := 3) sc_q_str.nd rfl (by first | exact Or.inl rfl | exact Or.inr rfl)) pgs_nil)))) (fun _ _ _ _ _ => pts_nil) (fun _ _ _ _ _ => (k_bm K PySem.F.plainAttrs_str PySem.F.slot_str_join PySem.F.type_str_join (k_join K) pe_str (pa_cons (pe_lst (pa_cons (pv 2) (k_star (K := K) (pv 3) pa_nil))) pa_nil))))
      (pss_one (ps_ret (k_bm K PySem.F.plainAttrs_str PySem.F.slot_str_join PySem.F.type_str_join (k_join K) pe_str (pa_cons (pe_lst (k_star (K := K) (k_fld K (pv 0) rfl) (pa_cons pe_str (pa_cons (k_bm K PySem.F.plainAttrs_str PySem.F.slot_str_join PySem.F.type_str_join (k_join K) pe_str (pa_cons (pv 1) pa_nil)) pa_nil)))) pa_nil))))), body_ok h fun s c n ds hn hp => ?_⟩)
  · obtain ⟨q, rfl, _⟩ := hp
    rfl
  · obtain ⟨q, rfl, ok⟩ := hp
    have oq := okQ_perm ok (sortA_perm q.2)
    have sm := texts_small oq.2.2.2.2
    have sl : ((sortA q.2).map textA).length ≤ 6 := by rw [List.length_map]; exact oq.2.2.2.1
    have one : (Str.ofString " ").length = 1 := by decide +kernel
    have two : (Str.ofString ", ").length = 2 := by decide +kernel
    have arr : (Str.ofString "<-").length = 2 := by decide +kernel
    have eL : ((sortA q.2).map dAtom).map (fun d => D.str (textA (unD d))) = dStrs ((sortA q.2).map textA) := by
      unfold dStrs
      rw [List.map_map, List.map_map]
      exact List.map_congr_left fun a _ => by show D.str (textA (unD (dAtom a))) = _; rw [unD_of]; rfl
    refine s_seq (N := fun ρ' m => m = n ∧ ∃ y2 y3, ρ' = [.va (qI CQ q), .va (.lst (dStrs ((sortA q.2).map textA))), y2, y3]) (s_set (EvN.evK (en_mapK (L := (sortA q.2).map dAtom) (fun d => .str (textA (unD d))) (ei_tup (ev_fldI (ev_var rfl) U.cQ U.nA rfl) fun d e => ⟨_, e, rfl⟩) rfl (by rw [List.length_map]; have := oq.2.2.2.1; omega) fun i d hi => ?_)) rfl fun d e => ?_) fun ρ1 n1 h1 => ?_
    · rw [List.getElem?_map] at hi
      cases z : (sortA q.2)[i]? with
      | none => rw [z] at hi; cases hi
      | some a =>
        rw [z] at hi
        cases hi
        have ha := oq.2.2.2.2 a (List.mem_of_getElem? z)
        have s2 := sum_le (k := 8) (ys := a.2) fun y hy => (ha.2.2.2 y hy).2.1
        refine ⟨_, _, eg_tup (egs_cons (eg_name (j := 2) rfl) (egs_cons (eg_name (j := 3) rfl) egs_nil)) rfl, fun j hj => hj, ?_⟩
        rw [unD_of]
        refine ev_methK (x := .str " ") ev_str (ea_one (ev_lstE (l := .str a.1 :: (dStrs a.2 ++ [])) (ea_c (ev_var rfl) (ea_star (ev_var rfl) rfl ea_nil)) (by rw [List.append_nil, List.length_cons, strs_len]; have := ha.2.2.1; omega))) (mk_join (ys := a.1 :: a.2) (by show some (D.str a.1 :: (dStrs a.2 ++ [])) = _; rw [List.append_nil]; rfl) ?_)
        have h1 := ha.1.2.1
        have h2 := ha.2.2.1
        simp only [List.map_cons, List.sum_cons, List.length_cons, one]
        omega
    · rw [eL] at e
      exact ⟨rfl, _, _, by rw [e]; rfl⟩
    · obtain ⟨rfl, y2, y3, rfl⟩ := h1
      have s1 := sum_le sm
      have l1 : (Txt.join ", " ((sortA q.2).map textA)).length ≤ 300 := by
        have := join_len ", " ((sortA q.2).map textA)
        rw [two] at this
        omega
      have s2 := sum_le (k := 8) (ys := q.1) fun y hy => (ok.1 y hy).2.1
      refine s_ret (ev_methK (x := .str " ") ev_str (ea_one (ev_lstE (l := dStrs q.1 ++ [.str "<-", .str (Txt.join ", " ((sortA q.2).map textA))]) (ea_star (ev_fldI (ev_var rfl) U.cQ U.nH rfl) rfl (ea_c ev_str (ea_one (ev_methK (x := .str ", ") ev_str (ea_one (ev_var rfl)) (mk_join (ys := (sortA q.2).map textA) rfl (by rw [two]; omega)))))) (by rw [List.length_append, strs_len]; have := ok.2.1; show q.1.length + 2 ≤ 1000; omega)))
        (mk_join (ys := q.1 ++ [Str.ofString "<-", Txt.join ", " ((sortA q.2).map textA)]) (by show some (dStrs q.1 ++ _) = some (dStrs (q.1 ++ _)); unfold dStrs; rw [List.map_append]; rfl) ?_)) fun d e => ⟨Nat.le_refl _, q, rfl, e⟩
      have := ok.2.1
      simp only [List.map_append, List.map_cons, List.map_nil, List.sum_append, List.sum_cons, List.sum_nil, List.length_append, List.length_cons, List.length_nil, one, arr]
      omega
end

end K02
/-! text K02V -/
set_option Elab.async false
set_option linter.all false
set_option maxRecDepth 100000
set_option maxHeartbeats 4000000
set_option exponentiation.threshold 5000
namespace K02
open PySem PySem.Spec PyProof.Rows L2 Pl PlS
/-! ### which queries are valid -/
def okV (hd : List Str) (as : List (Str × List Str)) : Prop := okQ hd as ∧ (∀ a ∈ as, ∀ b ∈ as, a.1 = b.1 → a.2.length = b.2.length) ∧ (∀ h ∈ hd, h ∈ as.flatMap (·.2)) ∧ (usort (as.flatMap (·.2))).length ≤ 5
theorem first_iff {p : Nat → Bool} {m : Nat} : firstT p m = none ↔ ∀ j, j < m → p j = false := by
  refine ⟨fun h j hj => ?_, firstT_none⟩
  unfold firstT at h
  rw [List.find?_eq_none] at h
  have := h j (List.mem_range.mpr hj)
  simpa using this
theorem clash_iff (as : List (Str × List Str)) : (∀ k, k < as.length → clash as k = false) ↔ ∀ a ∈ as, ∀ b ∈ as, a.1 = b.1 → a.2.length = b.2.length := by
  constructor
  · intro h
    have key : ∀ (i k : Nat) (a b : Str × List Str), i < k → as[i]? = some a → as[k]? = some b → a.1 = b.1 → a.2.length = b.2.length := fun i k a b lt ea eb e => by
      have hk : k < as.length := (List.getElem?_eq_some_iff.mp eb).1
      have c := h k hk
      unfold clash at c
      rw [eb] at c
      have c : ((as.take k).any fun a => decide (a.1 = b.1) && !decide ((a.2.length : Int) = (b.2.length : Int))) = false := c
      rw [List.any_eq_false] at c
      have m : a ∈ as.take k := List.mem_iff_getElem?.mpr ⟨i, by rw [List.getElem?_take, if_pos lt]; exact ea⟩
      have d := c a m
      rw [decide_eq_true e, Bool.true_and] at d
      have d2 : decide ((a.2.length : Int) = (b.2.length : Int)) = true := by simpa using d
      have := of_decide_eq_true d2
      omega
    intro a ha b hb e
    obtain ⟨i, ei⟩ := List.mem_iff_getElem?.mp ha
    obtain ⟨k, ek⟩ := List.mem_iff_getElem?.mp hb
    rcases Nat.lt_trichotomy i k with lt | eq | gt
    · exact key i k a b lt ei ek e
    · rw [eq, ek] at ei
      rw [Option.some.inj ei]
    · exact (key k i b a gt ek ei e.symm).symm
  · intro h k hk
    unfold clash
    obtain ⟨b, eb⟩ : ∃ b, as[k]? = some b := ⟨as[k], List.getElem?_eq_getElem hk⟩
    rw [eb]
    show ((as.take k).any fun a => decide (a.1 = b.1) && !decide ((a.2.length : Int) = (b.2.length : Int))) = false
    rw [List.any_eq_false]
    intro a ha
    have ma := List.mem_of_mem_take ha
    have mb := List.mem_of_getElem? eb
    by_cases e : a.1 = b.1
    · rw [h a ma b mb e, decide_eq_true rfl]; simp
    · rw [decide_eq_false e]; simp
theorem notVar_iff (hd vs : List Str) : (∀ k, k < hd.length → notVar hd vs k = false) ↔ ∀ h ∈ hd, h ∈ vs := by
  constructor
  · intro h z hz
    obtain ⟨i, ei⟩ := List.mem_iff_getElem?.mp hz
    have := h i (List.getElem?_eq_some_iff.mp ei).1
    unfold notVar at this
    rw [ei] at this
    simpa using this
  · intro h k hk
    unfold notVar
    obtain ⟨b, eb⟩ : ∃ b, hd[k]? = some b := ⟨hd[k], List.getElem?_eq_getElem hk⟩
    rw [eb]
    have := h b (List.mem_of_getElem? eb)
    simpa using this
theorem errA_iff (hd : List Str) (as : List (Str × List Str)) : errA hd as = .non ↔ (∀ a ∈ as, ∀ b ∈ as, a.1 = b.1 → a.2.length = b.2.length) ∧ (∀ h ∈ hd, h ∈ as.flatMap (·.2)) ∧ (usort (as.flatMap (·.2))).length ≤ 5 := by
  rw [← clash_iff]
  have e2 : (∀ h ∈ hd, h ∈ as.flatMap (·.2)) ↔ ∀ k, k < hd.length → notVar hd (usort (as.flatMap (·.2))) k = false := by
    rw [notVar_iff]
    exact ⟨fun h z hz => (usort_mem z _).mpr (h z hz), fun h z hz => (usort_mem z _).mp (h z hz)⟩
  rw [e2, ← first_iff, ← first_iff]
  unfold errA
  cases firstT (clash as) as.length with
  | some k => exact ⟨fun h => (nomatch h), fun h => (nomatch h.1)⟩
  | none =>
    cases firstT (notVar hd (usort (as.flatMap (·.2)))) hd.length with
    | some k => exact ⟨fun h => (nomatch h), fun h => (nomatch h.2.1)⟩
    | none =>
      show (if 5 < ((usort (as.flatMap (·.2))).length : Int) then E1 "variables" else .non) = .non ↔ _
      by_cases h : 5 < ((usort (as.flatMap (·.2))).length : Int)
      · rw [if_pos h]
        exact ⟨fun z => (nomatch z), fun z => by have := z.2.2; omega⟩
      · rw [if_neg h]
        exact ⟨fun _ => ⟨rfl, rfl, by omega⟩, fun _ => rfl⟩
theorem nameB_of {z : Str} (h : isName z) : nameB (.str z) = true := by
  show (decide ((1 : Int) ≤ (z.length : Int)) && decide ((z.length : Int) ≤ 8) && z.cps.toList.all lowB) = true
  have h1 := h.1
  have h2 := h.2.1
  rw [decide_eq_true (by omega), decide_eq_true (by omega), Bool.true_and, Bool.true_and, List.all_eq_true]
  exact fun q hq => by
    have := h.2.2 q hq
    unfold lowB
    rw [Bool.and_eq_true, decide_eq_true_eq, decide_eq_true_eq]
    exact this
theorem namesB_of {lo hi : Int} {vs : List Str} (h : ∀ v ∈ vs, isName v) (h1 : lo ≤ (vs.length : Int)) (h2 : (vs.length : Int) ≤ hi) : namesB lo hi (.tup (dStrs vs)) = true := by
  show (decide (lo ≤ ((dStrs vs).length : Int)) && decide (((dStrs vs).length : Int) ≤ hi) && (dStrs vs).all nameB) = true
  rw [strs_len, decide_eq_true h1, decide_eq_true h2, Bool.true_and, Bool.true_and, List.all_eq_true]
  exact fun d hd => by
    obtain ⟨z, rfl, hz⟩ := strs_mem hd
    exact nameB_of (h z hz)
theorem atomB_of {a : Str × List Str} (h : isName a.1 ∧ 1 ≤ a.2.length ∧ a.2.length ≤ 3 ∧ ∀ v ∈ a.2, isName v) : atomB (dAtom a) = true := by
  show (nameB (.str a.1) && namesB 1 3 (.tup (dStrs a.2))) = true
  rw [nameB_of h.1, namesB_of h.2.2.2 (by have := h.2.1; omega) (by have := h.2.2.1; omega)]
  rfl
theorem err_okQ {hd : List Str} {as : List (Str × List Str)} (h : okQ hd as) : errD (.tup (dStrs hd)) (.lst (as.map dAtom)) = errA hd as := by
  unfold errD
  rw [if_neg (by rw [namesB_of h.1 (by omega) (by have := h.2.1; omega)]; exact Bool.false_ne_true.symm)]
  show (if ((as.map dAtom).length : Int) < 1 ∨ (6 : Int) < (as.map dAtom).length then E1 "atoms" else errL (textsD (.tup (dStrs hd))) (as.map dAtom)) = _
  rw [List.length_map, if_neg (by have := h.2.2.1; have := h.2.2.2.1; omega)]
  unfold errL
  have none_ : firstT (notAtom (as.map dAtom)) (as.map dAtom).length = none := firstT_none fun j hj => by
    unfold notAtom
    rw [List.getElem?_map]
    cases e : as[j]? with
    | none => rfl
    | some a =>
      show (!atomB (dAtom a)) = false
      rw [atomB_of (h.2.2.2.2 a (List.mem_of_getElem? e))]
      rfl
  rw [none_]
  show errA (textsD (.tup (dStrs hd))) ((as.map dAtom).map unD) = _
  rw [textsD_of, un_all]
theorem err_iff (hd : List Str) (as : List (Str × List Str)) : errD (.tup (dStrs hd)) (.lst (as.map dAtom)) = .non ↔ okV hd as := by
  constructor
  · intro h
    obtain ⟨hd', as', e1, e2, ok⟩ := err_ok h
    have e3 := str_inj (D.tup.inj e1)
    have e4 := as_inj (Option.some.inj e2)
    subst e3 e4
    rw [err_okQ ok] at h
    exact ⟨ok, (errA_iff _ _).mp h⟩
  · intro h
    rw [err_okQ h.1]
    exact (errA_iff _ _).mpr h.2
theorem okV_perm {hd : List Str} {as bs : List (Str × List Str)} (h : okV hd as) (p : bs.Perm as) : okV hd bs := by
  have m : ∀ z : Str, z ∈ bs.flatMap (·.2) ↔ z ∈ as.flatMap (·.2) := fun z => by
    rw [List.mem_flatMap, List.mem_flatMap]
    exact ⟨fun ⟨a, ha, hz⟩ => ⟨a, p.mem_iff.mp ha, hz⟩, fun ⟨a, ha, hz⟩ => ⟨a, p.mem_iff.mpr ha, hz⟩⟩
  have e : usort (bs.flatMap (·.2)) = usort (as.flatMap (·.2)) := asc_uniq (usort_asc _) (usort_asc _) fun z => by rw [usort_mem, usort_mem, m]
  exact ⟨okQ_perm h.1 p, fun a ha b hb => h.2.1 a (p.mem_iff.mp ha) b (p.mem_iff.mp hb), fun z hz => (m z).mpr (h.2.2.1 z hz), by rw [e]; exact h.2.2.2⟩
end K02
/-! text PlDi -/
set_option Elab.async false
set_option linter.all false
set_option maxRecDepth 100000
set_option maxHeartbeats 4000000
set_option exponentiation.threshold 5000
/-! PlDi: dicts from texts to ints that no one changes, as data. -/
namespace Pl
open PySem PySem.Spec PyProof.Rows L2
def eK (p : Str × Int) : Key × V := (.inr p.1, .int p.2)
def dD (ps : List (Str × Int)) : D := .dct (ps.map fun p => .inr p.1) (ps.map fun p => .int p.2)
def putS (ps : List (Str × Int)) (k : Str) (v : Int) : List (Str × Int) := if (ps.any fun p => decide (p.1 = k)) = true then ps.map (fun p => if p.1 = k then (p.1, v) else p) else ps ++ [(k, v)]
def getS (ps : List (Str × Int)) (k : Str) : Option Int := (ps.find? fun p => decide (p.1 = k)).map (·.2)
theorem put_eK (ps : List (Str × Int)) (k : Str) (v : Int) : putK (ps.map eK) (.inr k) (.int v) = (putS ps k v).map eK := by
  unfold putK putS
  have e : ((ps.map eK).any fun kv => decide (kv.1 = .inr k)) = ps.any fun p => decide (p.1 = k) := by
    rw [List.any_map]
    congr 1
    funext p
    show decide ((Sum.inr p.1 : Key) = .inr k) = decide (p.1 = k)
    by_cases h : p.1 = k
    · rw [h, decide_eq_true rfl, decide_eq_true rfl]
    · rw [decide_eq_false h, decide_eq_false fun z => h (Sum.inr.inj z)]
  rw [e]
  split
  · rw [List.map_map, List.map_map]
    refine List.map_congr_left fun p _ => ?_
    show (if (Sum.inr p.1 : Key) = .inr k then ((Sum.inr p.1 : Key), V.int v) else (.inr p.1, .int p.2)) = eK (if p.1 = k then (p.1, v) else p)
    by_cases h : p.1 = k
    · rw [if_pos (by rw [h]), if_pos h]; rfl
    · rw [if_neg fun z => h (Sum.inr.inj z), if_neg h]; rfl
  · rw [List.map_append]
    rfl
theorem val_eK : ∀ (ps : List (Str × Int)) (k : Str), valV (ps.map eK) (.inr k) = (getS ps k).map V.int
  | [], _ => rfl
  | p :: ps, k => by
    by_cases h : p.1 = k
    · rw [List.map_cons, valV_pos (p := eK p) (by show (Sum.inr p.1 : Key) = _; rw [h])]
      unfold getS
      rw [List.find?_cons_of_pos (by rw [decide_eq_true h])]
      rfl
    · rw [List.map_cons, valV_neg (p := eK p) (fun z => h (Sum.inr.inj z)), val_eK ps k]
      unfold getS
      rw [List.find?_cons_of_neg (by rw [decide_eq_false h]; exact Bool.false_ne_true)]
section
variable {K : PySem.W.Frag} {M : List Addr} {H : Hp}
theorem rep_ints : ∀ ps : List (Str × Int), RepL K M H (ps.map fun p => D.int p.2) ((ps.map eK).map (·.2))
  | [] => trivial
  | _ :: ps => ⟨rfl, rep_ints ps⟩
theorem repD_of {ps : List (Str × Int)} {a : Addr} {o : Obj} (h : H a = some (.frz o (.dK (ps.map eK)))) : Rep K M H (dD ps) (.ref a) := ⟨a, o, ps.map eK, rfl, h, by rw [List.map_map]; rfl, rep_ints ps⟩
theorem eK_of : ∀ {ps : List (Str × Int)} {fs : List (Key × V)}, fs.map (·.1) = (ps.map fun p => (.inr p.1 : Key)) → RepL K M H (ps.map fun p => D.int p.2) (fs.map (·.2)) → fs = ps.map eK
  | [], [], _, _ => rfl
  | [], _ :: _, h, _ => by cases h
  | _ :: _, [], h, _ => by cases h
  | p :: ps, f :: fs, h, r => by
    injection h with h1 h2
    have r1 : f.2 = .int p.2 := r.1
    rw [eK_of h2 r.2, List.map_cons]
    congr 1
    exact Prod.ext h1 r1
theorem repD_inv {ps : List (Str × Int)} {v : V} (h : Rep K M H (dD ps) v) : ∃ a o, v = .ref a ∧ H a = some (.frz o (.dK (ps.map eK))) := by
  obtain ⟨a, o, fs, rfl, e, k, r⟩ := h
  rw [eK_of k r] at e
  exact ⟨a, o, rfl, e⟩
end
/-- what e makes is not changed from here on -/
def tFrz (t : TE) : TE := fun σ H Q => t σ H fun v H' => ∃ d u, v = .ref d ∧ H' d = some u ∧ Mut (some u) ∧ ∀ od, Q v (upd H' d (.frz od u))
theorem pe_frz {X : Cx} {e : Expr} {t : TE} (h : PE X e t) : PE X e (tFrz t) := by
  refine ⟨fun pins s σ H Q I hw => ?_⟩
  refine thn (h.run pins s σ H _ I hw) fun v s1 ⟨x, H1, I2, r, d, u, e, hd, mu, q⟩ => ?_
  obtain ⟨od, I3⟩ := I2.lock hd mu
  exact ⟨x, _, I3, r, q od⟩
section
variable {K : PySem.W.Frag} {s c : Addr} {ρ : List Sl} {n n1 : Nat} {te ty tx : TE}
/-- d.items() -/
theorem ei_items {ps : List (Str × Int)} (h : EvE K s c te ρ n n1 (fun x => x = dD ps)) : EvI K s c (iItems te) ρ n n1 (fun l => l = ps.map fun p => .tup [.str p.1, .int p.2]) := fun M0 H0 O σ H R I k =>
  h M0 H0 O σ H _ I fun v H1 d g hs r p => by
    subst p
    obtain ⟨a, o, rfl, e⟩ := repD_inv r
    have J := I.next g hs
    refine ⟨a, o, ps.map eK, rfl, e, k _ H1 _ g hs (fun A H2 g2 hA => ?_) rfl⟩
    have e2 : H2 a = some (.frz o (.dK (ps.map eK))) := g2 a _ (by rw [minus_out fun z => by obtain ⟨ys, e3⟩ := J.lst a z; rw [e] at e3; cases e3]; exact e) (.inr rfl)
    refine ⟨⟨e2, by rw [List.length_map, List.length_map]; exact Nat.le_refl _⟩, fun i d hi => ?_⟩
    rw [List.getElem?_map] at hi
    cases q : ps[i]? with
    | none => rw [q] at hi; cases hi
    | some p =>
      rw [q] at hi
      cases hi
      have il := (List.getElem?_eq_some_iff.mp q).1
      refine ⟨⟨e2, by rw [List.length_map]; exact il⟩, fun x H3 hy => ?_⟩
      obtain ⟨T, k', v', hk, rfl, hT, rfl⟩ := hy
      rw [List.getElem?_map, q] at hk
      cases hk
      exact ⟨Gr.new hT, fun _ z => z.new hT, ⟨T, [V.str p.1, V.int p.2], rfl, .inl (.inl upd_same), rfl, rfl, trivial⟩⟩
/-- d.get(k, x) -/
theorem ev_get2 {ps : List (Str × Int)} {t : Str} {x : Int} (h : EvE K s c te ρ n n (fun d => d = dD ps)) (hy : EvE K s c ty ρ n n (fun d => d = .str t)) (hx : EvE K s c tx ρ n n (fun d => d = .int x)) : EvE K s c (tDGet2 te ty tx) ρ n n (fun d => d = .int ((getS ps t).getD x)) := fun M0 H0 O σ H Q I k =>
  h M0 H0 O σ H _ I fun v H1 d g1 s1 r1 p => by
    subst p
    obtain ⟨a, o, rfl, e⟩ := repD_inv r1
    refine ⟨a, rfl, .inl ⟨_, .inr ⟨o, e⟩⟩, hy M0 H0 O σ H1 _ (I.next g1 s1) fun y H2 d2 g2 s2 r2 p2 => hx M0 H0 O σ H2 _ ((I.next g1 s1).next g2 s2) fun z H3 d3 g3 s3 r3 p3 => ?_⟩
    subst p2
    subst p3
    have r2 : y = .str t := r2
    have r3 : z = .int x := r3
    subst r2
    subst r3
    have e3 : H3 a = some (.frz o (.dK (ps.map eK))) := g3 a _ (g2 a _ e (.inr rfl)) (.inr rfl)
    refine ⟨(getS ps t).map V.int, .inl ⟨ps.map eK, .inr t, .inr ⟨o, e3⟩, rfl, (val_eK ps t).symm⟩, ?_⟩
    have ev : ((getS ps t).map V.int).getD (V.int x) = V.int ((getS ps t).getD x) := by cases getS ps t <;> rfl
    rw [ev]
    exact k (.int _) H3 (.int _) ((g1.trans g2).trans g3) s3 rfl rfl
/-- e.f, a property with a promise -/
theorem ev_propP {C : Addr} {ks : List Str} {l : List D} {E : XK} {z : D} {pre : Addr → Addr → List D → Prop} {post : Addr → Addr → List D → D → Prop} (h : EvE K s c te ρ n n1 (fun x => x = .ins C ks l)) (hn : n1 ≤ 2 ^ 40) (hp : pre s c [.ins C ks l]) (hq : ∀ d, post s c [.ins C ks l] d → d = z) : EvE K s c (tProp C (Pr K pre 0 post) [] E te) ρ n n1 (fun x => x = z) := fun M0 H0 O σ H Q I k =>
  h M0 H0 O σ H _ I fun v H1 x g1 s1 r1 p => by
    subst p
    have r0 := r1
    obtain ⟨a, dx, fs, rfl, ma, e, hk, rl⟩ := r1
    exact ⟨a, dx, fs, rfl, e, s, c, O ++ M0, n1, [.ins C ks l], List.mem_append_right _ I.ms.1, List.mem_append_right _ I.ms.2, (I.next g1 s1).thereA, s1, hn, ⟨r0, trivial⟩, hp, fun u H2 d g2 s2 r2 q => k u H2 d (g1.trans g2) s2 r2 (hq d q)⟩
end
end Pl
/-! text PlDc -/
set_option Elab.async false
set_option linter.all false
set_option maxRecDepth 100000
set_option maxHeartbeats 4000000
set_option exponentiation.threshold 5000
/-! PlDc: {k: v for .. in ..}, texts to ints. -/
namespace Pl
open PySem PySem.Spec PyProof.Rows L2
section
variable {K : PySem.W.Frag} {s c : Addr} {ρ : List Sl} {n n1 : Nat} {tk tv : TE}
theorem put_len (ps : List (Str × Int)) (k : Str) (v : Int) : (putS ps k v).length ≤ ps.length + 1 := by
  unfold putS
  split
  · rw [List.length_map]; omega
  · rw [List.length_append]; exact Nat.le_refl _
/-- what the comprehension makes -/
def fillS (kf : D → Str) (vf : D → Int) (L : List D) : List (Str × Int) := L.foldl (fun ps d => putS ps (kf d) (vf d)) []
theorem fill_snoc (kf : D → Str) (vf : D → Int) (L : List D) (i : Nat) (d : D) (h : L[i]? = some d) : fillS kf vf (L.take (i + 1)) = putS (fillS kf vf (L.take i)) (kf d) (vf d) := by
  unfold fillS
  rw [List.take_add_one, h, List.foldl_append]
  rfl
theorem fill_len (kf : D → Str) (vf : D → Int) : ∀ (L : List D) (ps : List (Str × Int)), (L.foldl (fun ps d => putS ps (kf d) (vf d)) ps).length ≤ ps.length + L.length
  | [], ps => Nat.le_refl _
  | d :: L, ps => by
    have h1 := fill_len kf vf L (putS ps (kf d) (vf d))
    have h2 := put_len ps (kf d) (vf d)
    simp only [List.foldl_cons, List.length_cons]
    omega
theorem ev_dc {wi : TI} {g : TG} {vs : List Nat} {L : List D} (kf : D → Str) (vf : D → Int) (h : EvI K s c wi ρ n n1 (fun l => l = L)) (hv : noOws ρ vs = true) (few : L.length ≤ 1000)
    (hs : ∀ (i : Nat) (d : D), L[i]? = some d → ∃ ρ2 js, EvG K s c g d (wipeS ρ vs) ρ2 js ∧ (∀ j ∈ js, j ∈ vs) ∧ EvE K s c tk ρ2 n1 n1 (fun x => x = .str (kf d)) ∧ EvE K s c tv ρ2 n1 n1 (fun x => x = .int (vf d))) :
    EvE K s c (tFrz (tDc wi g tYes tk tv vs)) ρ n n1 (fun x => x = dD (fillS kf vf L)) := fun M0 H0 O σ H Q I k =>
  h M0 H0 O σ H _ I fun J H1 ds g1 s1 w p D hD => by
    subst p
    have I1 := I.next g1 s1
    have hDout := I1.new_out hD
    have hDs : D ∉ [s, c] := fun z => hDout (I1.sub D z)
    have hDO : D ∉ O := fun z => hDout (List.mem_append_left _ z)
    refine ⟨fun i kk H' => Gr [s, c] (minus H1 O) H' ∧ (∀ o ∈ O, ∀ ys, H1 o = some (.lst ys) → H' o = some (.lst ys)) ∧ H' D = some (.dK ((fillS kf vf (ds.take i)).map eK)) ∧ Src s c n1 H' ∧ i ≤ ds.length ∧ kk = ds.length - i,
      ⟨ds.length, ?_, fun o ho ys e => ?_, ?_, s1.new hD, Nat.zero_le _, rfl⟩, ?_⟩
    · exact fun a o e m => by
        obtain ⟨h1, h2⟩ := minus_some e
        rw [upd_ne (ne_of_none h2 hD)]
        exact h2
    · rw [upd_ne (fun z => hDO (by rw [← z]; exact ho))]
      exact e
    · rw [List.take_zero]
      exact upd_same
    rintro i kk H2 ⟨gr2, ow2, eD, s2, hi, rfl⟩
    obtain ⟨w1, w2⟩ := w (D :: O) H2 (gr2.mono (two_sub I.ms)) fun a ha => by
      rcases List.mem_cons.mp ha with z | z
      · rw [z, minus_out hDO]; exact hD
      · exact minus_in z
    have gH : Gr (O ++ M0) H1 H2 := fun a o e mm => by
      by_cases z : a ∈ O
      · obtain ⟨ys, hy⟩ := I1.lst a z
        rw [hy] at e; cases e
        exact ow2 a z ys hy
      · refine gr2 a o (by rw [minus_out z]; exact e) ?_
        rcases mm with mm | mm
        · exact .inl fun q => mm (I1.sub a q)
        · exact .inr mm
    have st : Ok K s c (D :: M0) (minus H2 O) O (wipeS ρ vs) n1 (L2.wipe σ vs) H2 := by
      have sl2 : SlR K (D :: (O ++ M0)) H2 ρ σ O := I1.sl.imp (fun _ _ r => (r.apart hD).gr (gH.mono fun a ha => List.mem_cons_of_mem _ ha)) (fun _ _ r => (r.apart hD).gr (gH.mono fun a ha => List.mem_cons_of_mem _ ha)) ow2
      refine ⟨⟨List.mem_cons_of_mem _ I.ms.1, List.mem_cons_of_mem _ I.ms.2⟩, fun a ha => ?_, s2, fun a o e _ => (minus_some e).2, fun o ho => ⟨minus_in ho, (I.fr o ho).2⟩, I.nd, ?_⟩
      · rcases List.mem_cons.mp ha with z | z
        · exact .inr (.inr ⟨_, by rw [z, minus_out hDO]; exact eD⟩)
        · obtain ⟨o, e⟩ := I1.there a z
          by_cases z1 : a = s
          · exact .inl z1
          · by_cases z2 : a = c
            · exact .inr (.inl z2)
            · have z3 : a ∉ O := fun q => by
                rcases I.tr a z with y | y | ⟨u, y⟩
                · exact z1 y
                · exact z2 y
                · rw [(I.fr a q).1] at y; cases y
              exact .inr (.inr ⟨o, by rw [minus_out z3]; exact gr2 a o (by rw [minus_out z3]; exact e) (.inl (not_two z1 z2))⟩)
      · refine (sl2.wipe hv).imp (fun _ _ r => r.mono ?_) (fun _ _ r => r.mono ?_) fun _ _ _ e => e
        all_goals
          intro a ha
          simp only [List.mem_append, List.mem_cons] at ha ⊢
          rcases ha with z | z | z
          · exact .inr (.inl z)
          · exact .inl z
          · exact .inr (.inr z)
    by_cases hlt : i < ds.length
    · have hi' : ds[i]? = some ds[i] := List.getElem?_eq_getElem hlt
      obtain ⟨w3, w4⟩ := w2 i ds[i] hi'
      obtain ⟨ρ2, js, eg, hj, ek, ev⟩ := hs i _ hi'
      refine .inr ⟨w3, fun H' => Gr [s, c] (minus H1 O) H' ∧ (∀ o ∈ O, ∀ ys, H1 o = some (.lst ys) → H' o = some (.lst ys)) ∧ H' D = some (.dK ((fillS kf vf (ds.take (i + 1))).map eK)) ∧ Src s c n1 H',
        fun H' ⟨q1, q2, q3, q4⟩ => ⟨ds.length - (i + 1), by omega, q1, q2, q3, q4, hlt, rfl⟩, fun x H3 hy => ?_⟩
      obtain ⟨g3, s3, r3⟩ := w4 x H3 hy
      have st3 := st.next g3 (s3 _ s2)
      have rx : Rep K (O ++ (D :: M0)) H3 ds[i] x := r3.mono fun a ha => by
        simp only [List.mem_append, List.mem_cons] at ha ⊢
        rcases ha with z | z | z
        · exact .inl (.inr z)
        · exact .inl (.inl z)
        · exact .inr z
      refine eg (D :: M0) (minus H2 O) O n1 (L2.wipe σ vs) H3 x _ st3 rx fun σ2 st4 hw => ⟨?_, ?_⟩
      · rw [hw vs hj, wipe_wipe σ vs vs fun u hu => hu]
      · unfold tYes
        dsimp only
        rw [if_pos rfl]
        refine ek (D :: M0) (minus H2 O) O σ2 H3 _ st4 fun y H4 d4 g4 s4 r4 p4 => ev (D :: M0) (minus H2 O) O σ2 H4 _ (st4.next g4 s4) fun z H5 d5 g5 s5 r5 p5 => ?_
        subst p4
        subst p5
        have r4 : y = .str (kf ds[i]) := r4
        have r5 : z = .int (vf ds[i]) := r5
        subst r4
        subst r5
        have g25 := (g3.trans g4).trans g5
        have fl := fill_len kf vf (ds.take i) []
        have tl : (ds.take i).length ≤ 1000 := by rw [List.length_take]; omega
        refine ⟨(fillS kf vf (ds.take i)).map eK, .inr (kf ds[i]), rfl, g25 D _ eD (.inl hDs), small1000 (by rw [List.length_map]; unfold fillS; simp only [List.length_nil] at fl; omega), (gr2.trans g25).put ?_, fun o ho ys e => ?_, ?_, s5.put ?_ ?_⟩
        · rw [minus_out hDO]; exact hD
        · rw [upd_ne (fun z => hDO (by rw [← z]; exact ho))]
          exact g25 o _ (ow2 o ho ys e) (.inl (not_two (I.fr o ho).2.1 (I.fr o ho).2.2))
        · rw [upd_same, put_eK, fill_snoc kf vf ds i _ hi']
        · exact fun z => hDs (by rw [z]; exact List.mem_cons_self)
        · exact fun z => hDs (by rw [z]; exact List.mem_cons_of_mem _ List.mem_cons_self)
    · have e : i = ds.length := by omega
      subst e
      refine .inl ⟨w1, D, _, rfl, eD, trivial, fun od => ?_⟩
      rw [List.take_length] at eD ⊢
      have gF : Gr [s, c] H H2 := fun a o e m => by
        have e1 := g1 a o e m
        by_cases z : a ∈ O
        · obtain ⟨ys, hy⟩ := I1.lst a z
          rw [hy] at e1; cases e1
          exact ow2 a z ys hy
        · exact gr2 a o (by rw [minus_out z]; exact e1) m
      have hDH : H D = none := g1.none hD hDs
      refine k (.ref D) _ (dD (fillS kf vf ds)) (gF.put hDH) (s2.put (fun z => hDs (by rw [z]; exact List.mem_cons_self)) fun z => hDs (by rw [z]; exact List.mem_cons_of_mem _ List.mem_cons_self)) (repD_of upd_same) rfl
end
end Pl
/-! text PlZd -/
set_option Elab.async false
set_option linter.all false
set_option maxRecDepth 100000
set_option maxHeartbeats 4000000
set_option exponentiation.threshold 5000
/-! PlZd: dict(zip(t, u)) of two tuples. -/
namespace Pl
open PySem PySem.Spec PyProof.Rows L2
section
variable {prog : Program} {w : World} {B : Around} {F' : Value → Shared → Prop} {s : Shared} {z ti to_ T ja jb la lb : Addr} {f : Bool} {oT : Obj} {m n : Nat} {xs ys : Array Value}
/-- the next pair of a zip of tuples whose last pair is still held -/
theorem heldT_item {x y : Value} {R : Option Value → Shared → Prop} (ap : ZipApart z ti to_ ja jb la lb) (hz : IsZipHeld s.heap z ti to_ T f) (hT : s.heap.get? T = some oT) (hti : IsPair s.heap ti (.ref ja) (.ref jb))
    (a1 : s.heap.IsTupleIter ja la m) (a2 : s.heap.IsTupleIter jb lb n) (b1 : s.heap.IsTuple la xs) (b2 : s.heap.IsTuple lb ys) (ex : xs[m]? = some x) (ey : ys[n]? = some y)
    (fin : ∀ h', IsZipHeld h' z ti to_ T true → h'.IsTupleIter ja la (m + 1) → h'.IsTupleIter jb lb (n + 1) → IsPair h' s.heap.objs.size x y → (∀ c o, c ≠ z → c ≠ ja → c ≠ jb → s.heap.get? c = some o → h'.get? c = some o) → R (some (.ref s.heap.objs.size)) { s with heap := h' }) :
    wpAny (model prog w) B (pyNext (.ref z)) R F' s := by
  have ty : s.TypeIs (.ref z) "zip" := ⟨_, hz, rfl⟩
  unfold pyNext
  refine wpAny_bind (wpAny_attempt (wpAny_callSpecial?_slot (name := Str.ofString "__next__") ty F.slot_zip_next (wpAny_call_entry F.slot_zip_next ty F.entry_zip_next ?_ (F.args_zip_next_1 _))))
  show wpAny _ _ (field (.ref z) 2 >>= _) _ _ s
  refine wpAny_bind (wpAny_field hz rfl (x := .bool false) rfl (show wpAny _ _ (field (.ref z) 3 >>= _) _ _ s from wpAny_bind (wpAny_field hz rfl (x := .ref ti) rfl (wpAny_bind (wpAny_seqItems hti rfl ?_)))))
  show wpAny _ _ (Builtin.SmallTypes.ownedTupleIsFree (.ref z) >>= _) _ _ s
  refine wpAny_bind (wpAny_tupleHeld_zip hz hT fun g1 z1 k1 => ?_)
  simp only [Bool.false_eq_true, if_false]
  refine wpAny_bind ?_
  rw [← Array.forIn_toList]
  simp only [List.forIn_cons, List.forIn_nil]
  refine wpAny_bind (wpAny_bind (wpAny_holding (show wpAny _ _ (Builtin.SmallTypes.nextOf (.ref ja) >>= _) _ _ _ from wpAny_bind (RZ.nextOf_tuple_item (s := { s with heap := g1 }) (a1.extBut k1.extBut ap.i1z) (b1.extBut k1.extBut ap.l1z) ex fun g2 i2 k2 => wpAny_pure (wpAny_pure ?_)))))
  refine wpAny_bind (wpAny_bind (wpAny_holding (show wpAny _ _ (Builtin.SmallTypes.nextOf (.ref jb) >>= _) _ _ _ from wpAny_bind (RZ.nextOf_tuple_item (s := { s with heap := g2 }) ((a2.extBut k1.extBut ap.i2z).extBut k2.extBut ap.i12.symm) ((b2.extBut k1.extBut ap.l2z).extBut k2.extBut ap.l2i1) ey fun g3 i3 k3 => wpAny_pure (wpAny_pure (wpAny_pure ?_))))))
  show wpAny _ _ (newTuple [x, y] >>= _) _ _ _
  refine wpAny_bind (wpAny_newTuple ?_)
  have size : g3.objs.size = s.heap.objs.size := by rw [k3.1, k2.1, k1.1]
  have z3 : IsZipHeld g3 z ti to_ T true := k3.extBut _ _ ap.i2z.symm (k2.extBut _ _ ap.i1z.symm z1)
  have i23 : g3.IsTupleIter ja la (m + 1) := i2.extBut k3.extBut ap.i12
  have old : ∀ c o, c ≠ z → c ≠ ja → c ≠ jb → s.heap.get? c = some o → g3.get? c = some o := fun c o c1 c2 c3 e => k3.extBut _ _ c3 (k2.extBut _ _ c2 (k1.extBut _ _ c1 e))
  refine wpAny_pure ⟨_, rfl, wpAny_pure ?_⟩
  show R (some (.ref g3.objs.size)) _
  have new : IsPair (g3.push { cls := .type "tuple", data := .seq #[x, y] }) g3.objs.size x y := Heap.get?_push_size _ rfl
  rw [size] at new ⊢
  exact fin _ (Heap.get?_push_of_some _ z3) (i23.at fun o e => Heap.get?_push_of_some _ e) (i3.at fun o e => Heap.get?_push_of_some _ e) new fun c o c1 c2 c3 e => Heap.get?_push_of_some _ (old c o c1 c2 c3 e)
theorem heldT_end {R : Option Value → Shared → Prop} (hh : B.handled = none) (ap : ZipApart z ti to_ ja jb la lb) (hz : IsZipHeld s.heap z ti to_ T f) (hT : s.heap.get? T = some oT) (hti : IsPair s.heap ti (.ref ja) (.ref jb))
    (a1 : s.heap.IsTupleIter ja la m) (a2 : s.heap.IsTupleIter jb lb n) (b1 : s.heap.IsTuple la xs) (b2 : s.heap.IsTuple lb ys) (over : xs[m]? = none ∨ ys[n]? = none)
    (fin : ∀ h', (∀ c o, c ≠ z → c ≠ ja → c ≠ jb → s.heap.get? c = some o → h'.get? c = some o) → R none { s with heap := h' }) : wpAny (model prog w) B (pyNext (.ref z)) R F' s := by
  have ty : s.TypeIs (.ref z) "zip" := ⟨_, hz, rfl⟩
  have stopped : ∀ (h' : Heap) (e : Addr), (∀ c o, c ≠ z → c ≠ ja → c ≠ jb → s.heap.get? c = some o → h'.get? c = some o) → (∃ o, h'.get? e = some o ∧ o.cls = .type "StopIteration") → wpAny (model prog w) B (isInstance (.ref e) (.type "StopIteration")) (fun b s' => b = true ∧ R none { s with heap := h' } ∧ s' = { s with heap := h' }) F' { s with heap := h' } := fun h' e k he => by
    obtain ⟨o, ho, hc⟩ := he
    exact wpAny_isInstance (T := "StopIteration") (b := true) ⟨o, ho, hc⟩ isSubtype_stop ⟨rfl, fin h' k, rfl⟩
  unfold pyNext
  refine wpAny_bind (wpAny_attempt (wpAny_callSpecial?_slot (name := Str.ofString "__next__") ty F.slot_zip_next (wpAny_call_entry F.slot_zip_next ty F.entry_zip_next ?_ (F.args_zip_next_1 _))))
  show wpAny _ _ (field (.ref z) 2 >>= _) _ _ s
  refine wpAny_bind (wpAny_field hz rfl (x := .bool false) rfl (show wpAny _ _ (field (.ref z) 3 >>= _) _ _ s from wpAny_bind (wpAny_field hz rfl (x := .ref ti) rfl (wpAny_bind (wpAny_seqItems hti rfl ?_)))))
  show wpAny _ _ (Builtin.SmallTypes.ownedTupleIsFree (.ref z) >>= _) _ _ s
  refine wpAny_bind (wpAny_tupleHeld_zip hz hT fun g1 z1 k1 => ?_)
  simp only [Bool.false_eq_true, if_false]
  refine wpAny_bind ?_
  rw [← Array.forIn_toList]
  simp only [List.forIn_cons, List.forIn_nil]
  refine wpAny_bind (wpAny_bind (wpAny_holding (show wpAny _ _ (Builtin.SmallTypes.nextOf (.ref ja) >>= _) _ _ _ from ?_)))
  cases ex : xs[m]? with
  | none =>
    refine wpAny_bind (RZ.nextOf_tuple_end (s := { s with heap := g1 }) hh (a1.extBut k1.extBut ap.i1z) (b1.extBut k1.extBut ap.l1z) ex fun g2 e k2 he => ?_)
    exact wpAny_bind (wpAny_mono (stopped g2 e (fun c o c1 c2 _ x => k2 _ _ c2 (k1.extBut _ _ c1 x)) he) (fun b s' h => by obtain ⟨rfl, h2, rfl⟩ := h; exact wpAny_pure h2) fun _ _ h => h)
  | some x =>
    have ey : ys[n]? = none := by
      rcases over with h | h
      · rw [ex] at h; cases h
      · exact h
    refine wpAny_bind (RZ.nextOf_tuple_item (s := { s with heap := g1 }) (a1.extBut k1.extBut ap.i1z) (b1.extBut k1.extBut ap.l1z) ex fun g2 i2 k2 => wpAny_pure (wpAny_pure ?_))
    refine wpAny_bind (wpAny_bind (wpAny_holding (show wpAny _ _ (Builtin.SmallTypes.nextOf (.ref jb) >>= _) _ _ _ from ?_)))
    refine wpAny_bind (RZ.nextOf_tuple_end (s := { s with heap := g2 }) hh ((a2.extBut k1.extBut ap.i2z).extBut k2.extBut ap.i12.symm) ((b2.extBut k1.extBut ap.l2z).extBut k2.extBut ap.l2i1) ey fun g3 e k3 he => ?_)
    exact wpAny_bind (wpAny_mono (stopped g3 e (fun c o c1 c2 c3 x => k3 _ _ c3 (k2.extBut _ _ c2 (k1.extBut _ _ c1 x))) he) (fun b s' h => by obtain ⟨rfl, h2, rfl⟩ := h; exact wpAny_pure h2) fun _ _ h => h)
end
/-- a zip of two tuples as the argument of dict() -/
theorem pairsT {prog : Program} {w : World} {z ti to_ ja jb la lb : Addr} (ap : ZipApart z ti to_ ja jb la lb) (xs ys : Array Value) :
    PairArg prog w "zip" z [z, ti, to_, ja, jb, la, lb] [z, to_, ja, jb] (min xs.size ys.size) (fun i k v => xs[i]? = some k ∧ ys[i]? = some v)
      (fun h => IsZip h z ti to_ .none ∧ IsPair h ti (.ref ja) (.ref jb) ∧ (∃ a b, IsPair h to_ a b) ∧ h.IsTupleIter ja la 0 ∧ h.IsTupleIter jb lb 0 ∧ h.IsTuple la xs ∧ h.IsTuple lb ys) := by
  refine ⟨fun s ok => ⟨_, ok.1, rfl⟩, by decide, fun h h' ok hk => ?_, fun h ok b hb => ?_, fun b hb => ?_, fun A s Q E hA ok k => getAttrOr_miss_zip ok.1 rfl rfl rfl zip_no_keys (by decide +kernel) hA k, fun A s d Q E hA ok hd off k => ?_⟩
  · obtain ⟨h1, h2, ⟨a, b, h3⟩, h4, h5, h6, h7⟩ := ok
    exact ⟨hk _ _ h1, hk _ _ h2, ⟨a, b, hk _ _ h3⟩, h4.at fun o e => hk _ o e, h5.at fun o e => hk _ o e, h6.at fun o e => hk _ o e, h7.at fun o e => hk _ o e⟩
  · obtain ⟨h1, h2, ⟨a, c, h3⟩, ⟨o4, h4, _⟩, ⟨o5, h5, _⟩, ⟨o6, h6, _⟩, ⟨o7, h7, _⟩⟩ := ok
    simp only [List.mem_cons, List.not_mem_nil, or_false] at hb
    rcases hb with rfl | rfl | rfl | rfl | rfl | rfl | rfl <;> first | exact ⟨_, h1⟩ | exact ⟨_, h2⟩ | exact ⟨_, h3⟩ | exact ⟨_, h4⟩ | exact ⟨_, h5⟩ | exact ⟨_, h6⟩ | exact ⟨_, h7⟩
  · simp only [List.mem_cons, List.not_mem_nil, or_false] at hb ⊢
    rcases hb with rfl | rfl | rfl | rfl <;> simp
  · obtain ⟨h1, h2, ⟨a, b, h3⟩, h4, h5, h6, h7⟩ := ok
    simp only [List.mem_cons, List.not_mem_nil, or_false, not_or] at off
    obtain ⟨dz, dti, dto, dja, djb, dla, dlb⟩ := off
    refine wpAny_pyIter_zip h1 (k z [z, to_, ja, jb] (fun i h => IsPair h ti (.ref ja) (.ref jb) ∧ h.IsTupleIter ja la i ∧ h.IsTupleIter jb lb i ∧ h.IsTuple la xs ∧ h.IsTuple lb ys ∧
      ((IsZip h z ti to_ .none ∧ ∃ a b, IsPair h to_ a b) ∨ ∃ T f oT, IsZipHeld h z ti to_ T f ∧ h.get? T = some oT ∧ T ≠ z ∧ T ≠ ja ∧ T ≠ jb ∧ T ≠ d)) s.heap s.toks ?_ ⟨h2, h4, h5, h6, h7, .inl ⟨h1, a, b, h3⟩⟩ (fun _ _ e => e) fun b hb => .inl hb)
    refine ⟨fun hm => ?_, fun i g1 g2 st hk => ?_, fun i s1 Q1 E1 hi st hds fin => ?_, fun s1 Q1 E1 st fin => ?_⟩
    · simp only [List.mem_cons, List.not_mem_nil, or_false] at hm
      rcases hm with e | e | e | e
      · exact dz e
      · exact dto e
      · exact dja e
      · exact djb e
    · obtain ⟨h2, h4, h5, h6, h7, hz⟩ := st
      refine ⟨hk _ _ (Ne.symm dti) h2, h4.at fun o e => hk _ o (Ne.symm dja) e, h5.at fun o e => hk _ o (Ne.symm djb) e, h6.at fun o e => hk _ o (Ne.symm dla) e, h7.at fun o e => hk _ o (Ne.symm dlb) e, ?_⟩
      rcases hz with ⟨hz, a, b, h3⟩ | ⟨T, f, oT, hz, hT, r1, r2, r3, r4⟩
      · exact .inl ⟨hk _ _ (Ne.symm dz) hz, a, b, hk _ _ (Ne.symm dto) h3⟩
      · exact .inr ⟨T, f, oT, hk _ _ (Ne.symm dz) hz, hk _ _ r4 hT, r1, r2, r3, r4⟩
    · obtain ⟨h2, h4, h5, h6, h7, hz⟩ := st
      have ex := Array.getElem?_eq_getElem (Nat.lt_of_lt_of_le hi (Nat.min_le_left ..))
      have ey := Array.getElem?_eq_getElem (Nat.lt_of_lt_of_le hi (Nat.min_le_right ..))
      have far : ∀ {c o}, s1.heap.get? c = some o → s1.heap.objs.size ≠ c := fun e => Nat.ne_of_gt (Heap.lt_size e)
      have f1 : s1.heap.objs.size ≠ ja := let ⟨_, e, _⟩ := h4; far e
      have f2 : s1.heap.objs.size ≠ jb := let ⟨_, e, _⟩ := h5; far e
      rcases hz with ⟨hz, a, b, h3⟩ | ⟨T, f, oT, hz, hT, r1, r2, r3, r4⟩
      · refine RZ.pyNext_zipT_item ap hz h2 h3 h4 h5 h6 h7 ex ey fun h' a1 a2 a3 a4 a5 a6 hk => ?_
        refine fin s1.heap.objs.size _ _ h' s1.toks ⟨ex, ey⟩ (.inl ⟨_, a5, rfl, _, rfl⟩) ⟨hk _ _ ap.TIz ap.TITO ap.TIi1 ap.TIi2 h2, a3, a4, h6.at fun o e => hk _ o ap.l1z ap.l1TO ap.l1i1 ap.l1i2 e, h7.at fun o e => hk _ o ap.l2z ap.l2TO ap.l2i1 ap.l2i2 e, .inr ⟨s1.heap.objs.size, false, _, a1, a5, far hz, f1, f2, Nat.ne_of_gt hds⟩⟩ fun c o hc e => ?_
        simp only [List.mem_cons, List.not_mem_nil, or_false, not_or] at hc
        exact hk c o hc.1 hc.2.1 hc.2.2.1 hc.2.2.2 e
      · refine heldT_item ap hz hT h2 h4 h5 h6 h7 ex ey fun h' a1 a3 a4 a5 hk => ?_
        refine fin s1.heap.objs.size _ _ h' s1.toks ⟨ex, ey⟩ (.inl ⟨_, a5, rfl, _, rfl⟩) ⟨hk _ _ ap.TIz ap.TIi1 ap.TIi2 h2, a3, a4, h6.at fun o e => hk _ o ap.l1z ap.l1i1 ap.l1i2 e, h7.at fun o e => hk _ o ap.l2z ap.l2i1 ap.l2i2 e, .inr ⟨T, true, oT, a1, hk _ _ r1 r2 r3 hT, r1, r2, r3, r4⟩⟩ fun c o hc e => ?_
        simp only [List.mem_cons, List.not_mem_nil, or_false, not_or] at hc
        exact hk c o hc.1 hc.2.2.1 hc.2.2.2 e
    · obtain ⟨h2, h4, h5, h6, h7, hz⟩ := st
      have over : xs[min xs.size ys.size]? = none ∨ ys[min xs.size ys.size]? = none := by
        rcases Nat.le_total xs.size ys.size with h | h
        · exact .inl (Array.getElem?_eq_none (by rw [Nat.min_eq_left h]; exact Nat.le_refl _))
        · exact .inr (Array.getElem?_eq_none (by rw [Nat.min_eq_right h]; exact Nat.le_refl _))
      rcases hz with ⟨hz, a, b, h3⟩ | ⟨T, f, oT, hz, hT, r1, r2, r3, r4⟩
      · refine RZ.pyNext_zipT_end hA ap hz h2 h3 h4 h5 h6 h7 over fun h' hk => fin h' s1.toks fun c o hc e => ?_
        simp only [List.mem_cons, List.not_mem_nil, or_false, not_or] at hc
        exact hk c o hc.1 hc.2.1 hc.2.2.1 hc.2.2.2 e
      · refine heldT_end hA ap hz hT h2 h4 h5 h6 h7 over fun h' hk => fin h' s1.toks fun c o hc e => ?_
        simp only [List.mem_cons, List.not_mem_nil, or_false, not_or] at hc
        exact hk c o hc.1 hc.2.2.1 hc.2.2.2 e
/-- dict(zip(t, u)) of tuples, the first of keys -/
def tDZ (K : PySem.W.Frag) (ta : TA) : TE := fun σ H Q => ta σ H fun vs H1 => ∃ (a b : Addr) (ks : List Key) (ys : List V), vs = [.ref a, .ref b] ∧ SqT K H1 a (ks.map kV) ∧ SqT K H1 b ys ∧ ks.length = ys.length ∧ ∀ p, H1 p = none → Q (.ref p) (upd H1 p (.dK (mergeK [] (ks.zip ys))))
theorem pe_dz {X : Cx} {e e2 : Expr} {ta : TA} {x y : Str} {p q pos pos2 : Pos} (hc : X.calm = true) (hgd : Gl X x) (hmd : X.mg x = none) (hvd : bootBuiltins x = some (.type "dict")) (hgz : Gl X y) (hmz : X.mg y = none) (hvz : bootBuiltins y = some (.type "zip")) (ha : PA X [e, e2] ta)
    (hnd : x ≠ "__name__" := by decide) (hdd : (x == ("__debug__" : Str)) = false := by decide) (hnz : y ≠ "__name__" := by decide) (hdz : (y == ("__debug__" : Str)) = false := by decide)
    (hs : starEach [e, e2] X.env = (false, eval e X.env) :: starEach [e2] X.env := by rfl) (hpl : (backTo pos2 (starEach [e2] X.env)).any (·.1) = false := by rfl)
    (hs2 : starEach [.Call (.Name y q) [e, e2] [] pos2] X.env = (false, eval (.Call (.Name y q) [e, e2] [] pos2) X.env) :: starEach [] X.env := by rfl) (hpl2 : (backTo pos (starEach [] X.env)).any (·.1) = false := by rfl) :
    PE X (.Call (.Name x p) [.Call (.Name y q) [e, e2] [] pos2] [] pos) (tDZ X.K ta) := by
  refine ⟨fun pins s σ H Q I h => ?_⟩
  refine wpAny_Call_Name_kw (ld_blt I hgd hmd hvd (PyProof.Rows.callWith_type1 ?_ hs2 hpl2) hnd hdd)
  rw [hs2]
  show wpAny _ _ (spliced ((false, eval (.Call (.Name y q) [e, e2] [] pos2) X.env) :: backTo pos (starEach [] X.env))) _ _ s
  refine Calls.spliced_cons (wpAny_Call_Name_kw (ld_blt I hgz hmz hvz (PyProof.Rows.callWith_type1 (thn (ha.run pos2 pins s σ H _ I h) fun us s1 ⟨vs, H1, I1, r1, q1⟩ => ?_) hs hpl) hnz hdz))
  obtain ⟨a, b, ks, ys, rfl, ta1, tb1, len, q1⟩ := q1
  cases r1 with
  | cons ra r =>
    cases r with
    | cons rb r =>
      cases r
      cases ra
      cases rb
      obtain ⟨i1, v1, p1, l1⟩ := I1.tuple ta1
      obtain ⟨i2, v2, p2, l2⟩ := I1.tuple tb1
      obtain ⟨o1, ho1, _⟩ := id p1
      obtain ⟨o2, ho2, _⟩ := id p2
      refine RZ.call_zipT (show s1.heap.IsTuple a i1.toArray from p1) (show s1.heap.IsTuple b i2.toArray from p2) fun h' hz hti hto ha' hb' hsz hk => Calls.spliced_nil ?_
      have ap := PySem.W.ktu_apart s1.heap.objs.size a b (Heap.lt_size ho1) (Heap.lt_size ho2)
      have lenK : i1.length = ks.length := by rw [← v1.length, List.length_map]
      have lenY : i2.length = ys.length := v2.length.symm
      -- the pairs
      let kvs : List (Key × Value) := ks.zip i2
      have rel : KV (ks.zip ys) kvs := by
        have go : ∀ {ks : List Key} {ys : List V} {us : List Value}, Vals ys us → KV (ks.zip ys) (ks.zip us) := fun {ks} => by
          induction ks with
          | nil => intro ys us _; rw [List.zip_nil_left, List.zip_nil_left]; exact .nil
          | cons k ks ih =>
            intro ys us r
            cases r with
            | nil => rw [List.zip_nil_right, List.zip_nil_right]; exact .nil
            | cons r1 r2 => exact .cons ⟨rfl, r1⟩ (ih r2)
        exact go v2
      have keyAt : ∀ {ks : List Key} {us : List Value} (i : Nat) (u : Value), Vals (ks.map kV) us → us[i]? = some u → ∃ k, ks[i]? = some k ∧ (mixKind X.prog X.w).is k u = true := fun {ks} => by
        induction ks with
        | nil => intro us i u r e; cases r; simp at e
        | cons k ks ih =>
          intro us i u r e
          cases r with
          | cons r1 r2 =>
            cases i with
            | zero => simp at e; subst e; exact ⟨k, rfl, kV_is r1⟩
            | succ i => simp at e; obtain ⟨k', e1, e2⟩ := ih i u r2 e; exact ⟨k', by simpa using e1, e2⟩
      have few : (min i1.toArray.size i2.toArray.size) ≤ sizeLine := by
        rw [List.size_toArray]
        refine Nat.le_trans (Nat.min_le_left ..) ?_
        have : (ks.map kV).length ≤ sizeLine := l1
        rw [List.length_map] at this
        omega
      have lenZ : kvs.length = min i1.toArray.size i2.toArray.size := by
        show (ks.zip i2).length = _
        rw [List.length_zip, List.size_toArray, List.size_toArray, lenK]
      have okT : ∀ {l : Addr} {its : Array Value}, s1.heap.IsTuple l its → h'.IsTuple l its := fun t => t.at fun o e => hk _ o e
      refine call_dict_pairs (knd := mixKind X.prog X.w) (kvs := kvs) (pairsT ap i1.toArray i2.toArray) (I.ok.hd hc) ⟨hz, hti, ⟨_, _, hto⟩, ha', hb', okT p1, okT p2⟩ ⟨lenZ, fun i key v e => ?_⟩ few fun h2 tk dd kp => ?_
      · obtain ⟨e1, e2⟩ := e
        obtain ⟨k, ek, is⟩ := keyAt i key v1 (by simpa using e1)
        refine ⟨k, ?_, is⟩
        show (ks.zip i2)[i]? = _
        rw [List.getElem?_zip_eq_some]
        exact ⟨ek, by simpa using e2⟩
      · have nw : ∀ b, b < s1.heap.objs.size → b ∉ [s1.heap.objs.size + 4, s1.heap.objs.size + 3, s1.heap.objs.size, s1.heap.objs.size + 1] := fun b hb hm => by
          simp only [List.mem_cons, List.not_mem_nil, or_false] at hm
          rcases hm with e | e | e | e <;> (rw [e] at hb; first | exact Nat.lt_irrefl _ hb | exact absurd hb (Nat.not_lt.mpr (Nat.le_add_right _ _)))
        have old : ∀ b o, s1.heap.get? b = some o → h2.get? b = some o := fun b o e => kp b o (nw b (Heap.lt_size e)) (hk b o e)
        have le : s1.heap.objs.size ≤ h'.objs.size := by rw [hsz]; exact Nat.le_add_right _ _
        have hm : (h'.objs.size == sysModules) = false := beq_eq_false_iff_ne.mpr (Nat.ne_of_gt (Nat.lt_of_lt_of_le I1.big le))
        have hlen : (mergeK [] (ks.zip ys)).length ≤ sizeLine := by
          refine Nat.le_trans (length_mergeK _ []) ?_
          rw [List.length_nil, Nat.zero_add, List.length_zip]
          have : (ks.map kV).length ≤ sizeLine := l1
          rw [List.length_map] at this
          omega
        exact ⟨.ref h'.objs.size, upd H1 h'.objs.size (.dK (mergeK [] (ks.zip ys))), I1.laid (t' := tk) old le (show ObjOk X.prog X.w _ _ _ (.dK (mergeK [] (ks.zip ys))) from ⟨hlen, hm, merged [] kvs, KV.merge rel .nil, dd⟩), rfl, q1 _ (I1.hok.fresh le)⟩
end Pl
/-! text PlY2 -/
set_option Elab.async false
set_option linter.all false
set_option maxRecDepth 100000
set_option maxHeartbeats 4000000
set_option exponentiation.threshold 5000
/-! PlY2: a tuple, zero times. -/
namespace Pl
open PySem PySem.Spec PyProof.Rows L2 PlS
theorem times_none (l : Addr) (items : Array Value) (n : Nat) (dd : Option Addr) (sl : Array (Option Value)) (x : Int) (u : Tok) (c0 : (decide (x < -(2 ^ 63)) || decide (x ≥ 2 ^ 63)) = false) (c1 : (items.isEmpty || x == 1) = false) (c2 : (decide (x ≤ 0) || items.isEmpty) = true) :
    Meets (Builtin.«tuple.__mul__» ⟨[.ref l, .int x u], []⟩) (fun _ R s => s.heap.get? l = some { cls := .type "tuple", dict := dd, data := .seq items n, slots := sl } ∧
      R (.ok (.ret (Value.ref s.heap.objs.size))) { s with heap := s.heap.push { cls := Value.type "tuple", data := Data.seq #[] }, toks := s.toks }) :=
  .of_wp fun prog w A R s h => by
    obtain ⟨hp, g, d, tk, os⟩ := s
    obtain ⟨hl, h⟩ := h
    have f1 := AutoSeq1.idx_int
    wp_walk using wpAny_loadPart' hl
    repeat (first
      | (refine wpAny_ite_false (decide_eq_false (by rw [c0]; exact Bool.false_ne_true)) ?_; wp_walk using wpAny_loadPart' hl)
      | (refine wpAny_ite_false (decide_eq_false (by rw [c1]; exact Bool.false_ne_true)) ?_; wp_walk using wpAny_loadPart' hl)
      | (refine wpAny_ite_true (decide_eq_true (by rw [c2])) ?_; wp_walk using wpAny_loadPart' hl))
    exact ⟨_, rfl, h⟩
def rRep0 (K : PySem.W.Frag) : R2 := fun x y H Q => ∃ l xs, x = .ref l ∧ y = .int 0 ∧ SqT K H l xs ∧ xs ≠ [] ∧ ∀ p, H p = none → Q (.ref p) (upd H p (.tup []))
section
variable {X : Cx} {K : PySem.W.Frag}
theorem op_rep0 : OpR X (binaryOp .Mult) (rRep0 X.K) := by
  intro pins s σ H x y v u Q I rx ry h
  obtain ⟨l, xs, rfl, rfl, hT, hne, q⟩ := h
  cases rx
  obtain ⟨t, rfl⟩ := ry
  obtain ⟨its, r, ⟨⟨cls, dd, data, sl⟩, ho, hc, n, hd⟩, hs⟩ := I.tuple hT
  simp only at hc hd
  subst hc hd
  have hn : its ≠ [] := fun e => hne (by
    have hle : its.length = xs.length := r.length.symm
    rw [e] at hle
    exact List.eq_nil_of_length_eq_zero hle.symm)
  have hi : its.toArray.isEmpty = false := by
    cases its with
    | nil => exact absurd rfl hn
    | cons a b => rfl
  have c0 : (decide ((0 : Int) < -(2 ^ 63)) || decide ((0 : Int) ≥ 2 ^ 63)) = false := by decide
  have c1 : (its.toArray.isEmpty || (0 : Int) == 1) = false := by
    rw [hi, Bool.false_or]
    rfl
  have c2 : (decide ((0 : Int) ≤ 0) || its.toArray.isEmpty) = true := by
    rw [hi, Bool.or_false]
    rfl
  refine wpAny_binaryOp_repeat_ref (T := "tuple") (U := "int") (by decide) ⟨_, ho, rfl⟩ (fun s' => typeIs_int s' 0 t) noFill_tuple_mul F.fills_int_mul F.slot_int_rmul repeat_tuple F.slot_int_index.lookup
    (call_meets F.slot_int_rmul (typeIs_int s 0 t) F.entry_int_rmul (F.args_int_rmul_2 _ _) (int_rmul_tuple 0 t l its.toArray n dd sl)
      ⟨ho, rfl, ⟨_, ho, rfl⟩, call_meets F.slot_tuple_mul ⟨_, ho, rfl⟩ F.entry_tuple_mul (F.args_tuple_mul_2 _ _) (times_none l its.toArray n dd sl 0 t c0 c1 c2) ⟨ho, ?_⟩⟩)
  refine ⟨.ref s.heap.objs.size, _, I.laid (t' := s.toks) (o := .tup []) (fun b ob q => Heap.get?_push_of_some _ q) (Nat.le_refl _) ?_, rfl, q _ (I.hok.fresh (Nat.le_refl _))⟩
  exact ⟨Nat.zero_le _, [], .nil, IsTup.new _ _⟩
def rMulC (K : PySem.W.Frag) : R2 := fun x y H Q => rMulB K x y H Q ∨ rRep0 K x y H Q
theorem k_mulC (h : X.K = K := by rfl) : OpR X (binaryOp .Mult) (rMulC K) := by subst h; exact (k_mulB rfl).or op_rep0
end
section
variable {K : PySem.W.Frag} {s c : Addr} {M : List Addr} {H : Hp}
theorem rk_timesC {l : List D} {k : Int} (g0 : 0 ≤ k) (g1 : k ≤ 1000) (gl : l.length ≤ 1000) (ne : l ≠ []) : RK K s c (rMulC K) (.tup l) (.int k) (.tup (List.replicate k.toNat l).flatten) := fun M n v w H Q hm ht hs rx ry kk => by
  by_cases hk : k = 0
  · subst hk
    obtain ⟨a, xs, rfl, st, rl⟩ := rx
    have ry : w = .int 0 := ry
    subst ry
    exact .inr ⟨a, xs, rfl, rfl, st, fun e => ne (rl.nil_iff.mp e), fun p hp => kk (.ref p) _ (Gr.new hp) (hs.new hp) ⟨p, [], rfl, .inl (.inl upd_same), trivial⟩⟩
  · exact .inl (rk_timesT (by omega) g1 gl M n v w H Q hm ht hs rx ry kk)
theorem rk_timesLC {l : List D} {k : Int} (g0 : 0 ≤ k) (g1 : k ≤ 1000) (gl : l.length ≤ 1000) : RK K s c (rMulC K) (.lst l) (.int k) (.lst (List.replicate k.toNat l).flatten) := fun M n v w H Q hm ht hs rx ry kk => .inl (rk_timesL g0 g1 gl M n v w H Q hm ht hs rx ry kk)
end
end Pl
/-! text PlDn -/
set_option Elab.async false
set_option linter.all false
set_option maxRecDepth 100000
set_option maxHeartbeats 4000000
set_option exponentiation.threshold 5000
/-! PlDn: new lists and new dicts as a def's result; dict(zip(t, u)) as data; list(d.items()) of a new dict. -/
namespace Pl
open PySem PySem.Spec PyProof.Rows L2
/-- te makes a new dict from texts to ints -/
def EvDk (K : PySem.W.Frag) (s c : Addr) (te : TE) (ρ : List Sl) (n n' : Nat) (P : List (Str × Int) → Prop) : Prop := ∀ M0 H0 O σ H (Q : VK), Ok K s c M0 H0 O ρ n σ H →
  (∀ p H' ps, H p = none → Gr [s, c] H H' → Src s c n' H' → H' p = some (.dK (ps.map eK)) → P ps → Q (.ref p) H') → te σ H Q
section
variable {K : PySem.W.Frag} {s c : Addr} {ρ : List Sl} {n n1 : Nat} {tk tv : TE}
theorem dc_new {wi : TI} {g : TG} {vs : List Nat} {L : List D} (kf : D → Str) (vf : D → Int) (h : EvI K s c wi ρ n n1 (fun l => l = L)) (hv : noOws ρ vs = true) (few : L.length ≤ 1000)
    (hs : ∀ (i : Nat) (d : D), L[i]? = some d → ∃ ρ2 js, EvG K s c g d (wipeS ρ vs) ρ2 js ∧ (∀ j ∈ js, j ∈ vs) ∧ EvE K s c tk ρ2 n1 n1 (fun x => x = .str (kf d)) ∧ EvE K s c tv ρ2 n1 n1 (fun x => x = .int (vf d))) :
    EvDk K s c (tDc wi g tYes tk tv vs) ρ n n1 (fun ps => ps = fillS kf vf L) := fun M0 H0 O σ H Q I k =>
  h M0 H0 O σ H _ I fun J H1 ds g1 s1 w p D hD => by
    subst p
    have I1 := I.next g1 s1
    have hDout := I1.new_out hD
    have hDs : D ∉ [s, c] := fun z => hDout (I1.sub D z)
    have hDO : D ∉ O := fun z => hDout (List.mem_append_left _ z)
    refine ⟨fun i kk H' => Gr [s, c] (minus H1 O) H' ∧ (∀ o ∈ O, ∀ ys, H1 o = some (.lst ys) → H' o = some (.lst ys)) ∧ H' D = some (.dK ((fillS kf vf (ds.take i)).map eK)) ∧ Src s c n1 H' ∧ i ≤ ds.length ∧ kk = ds.length - i,
      ⟨ds.length, ?_, fun o ho ys e => ?_, ?_, s1.new hD, Nat.zero_le _, rfl⟩, ?_⟩
    · exact fun a o e m => by
        obtain ⟨h1, h2⟩ := minus_some e
        rw [upd_ne (ne_of_none h2 hD)]
        exact h2
    · rw [upd_ne (fun z => hDO (by rw [← z]; exact ho))]
      exact e
    · rw [List.take_zero]
      exact upd_same
    rintro i kk H2 ⟨gr2, ow2, eD, s2, hi, rfl⟩
    obtain ⟨w1, w2⟩ := w (D :: O) H2 (gr2.mono (two_sub I.ms)) fun a ha => by
      rcases List.mem_cons.mp ha with z | z
      · rw [z, minus_out hDO]; exact hD
      · exact minus_in z
    have gH : Gr (O ++ M0) H1 H2 := fun a o e mm => by
      by_cases z : a ∈ O
      · obtain ⟨ys, hy⟩ := I1.lst a z
        rw [hy] at e; cases e
        exact ow2 a z ys hy
      · refine gr2 a o (by rw [minus_out z]; exact e) ?_
        rcases mm with mm | mm
        · exact .inl fun q => mm (I1.sub a q)
        · exact .inr mm
    have st : Ok K s c (D :: M0) (minus H2 O) O (wipeS ρ vs) n1 (L2.wipe σ vs) H2 := by
      have sl2 : SlR K (D :: (O ++ M0)) H2 ρ σ O := I1.sl.imp (fun _ _ r => (r.apart hD).gr (gH.mono fun a ha => List.mem_cons_of_mem _ ha)) (fun _ _ r => (r.apart hD).gr (gH.mono fun a ha => List.mem_cons_of_mem _ ha)) ow2
      refine ⟨⟨List.mem_cons_of_mem _ I.ms.1, List.mem_cons_of_mem _ I.ms.2⟩, fun a ha => ?_, s2, fun a o e _ => (minus_some e).2, fun o ho => ⟨minus_in ho, (I.fr o ho).2⟩, I.nd, ?_⟩
      · rcases List.mem_cons.mp ha with z | z
        · exact .inr (.inr ⟨_, by rw [z, minus_out hDO]; exact eD⟩)
        · obtain ⟨o, e⟩ := I1.there a z
          by_cases z1 : a = s
          · exact .inl z1
          · by_cases z2 : a = c
            · exact .inr (.inl z2)
            · have z3 : a ∉ O := fun q => by
                rcases I.tr a z with y | y | ⟨u, y⟩
                · exact z1 y
                · exact z2 y
                · rw [(I.fr a q).1] at y; cases y
              exact .inr (.inr ⟨o, by rw [minus_out z3]; exact gr2 a o (by rw [minus_out z3]; exact e) (.inl (not_two z1 z2))⟩)
      · refine (sl2.wipe hv).imp (fun _ _ r => r.mono ?_) (fun _ _ r => r.mono ?_) fun _ _ _ e => e
        all_goals
          intro a ha
          simp only [List.mem_append, List.mem_cons] at ha ⊢
          rcases ha with z | z | z
          · exact .inr (.inl z)
          · exact .inl z
          · exact .inr (.inr z)
    by_cases hlt : i < ds.length
    · have hi' : ds[i]? = some ds[i] := List.getElem?_eq_getElem hlt
      obtain ⟨w3, w4⟩ := w2 i ds[i] hi'
      obtain ⟨ρ2, js, eg, hj, ek, ev⟩ := hs i _ hi'
      refine .inr ⟨w3, fun H' => Gr [s, c] (minus H1 O) H' ∧ (∀ o ∈ O, ∀ ys, H1 o = some (.lst ys) → H' o = some (.lst ys)) ∧ H' D = some (.dK ((fillS kf vf (ds.take (i + 1))).map eK)) ∧ Src s c n1 H',
        fun H' ⟨q1, q2, q3, q4⟩ => ⟨ds.length - (i + 1), by omega, q1, q2, q3, q4, hlt, rfl⟩, fun x H3 hy => ?_⟩
      obtain ⟨g3, s3, r3⟩ := w4 x H3 hy
      have st3 := st.next g3 (s3 _ s2)
      have rx : Rep K (O ++ (D :: M0)) H3 ds[i] x := r3.mono fun a ha => by
        simp only [List.mem_append, List.mem_cons] at ha ⊢
        rcases ha with z | z | z
        · exact .inl (.inr z)
        · exact .inl (.inl z)
        · exact .inr z
      refine eg (D :: M0) (minus H2 O) O n1 (L2.wipe σ vs) H3 x _ st3 rx fun σ2 st4 hw => ⟨?_, ?_⟩
      · rw [hw vs hj, wipe_wipe σ vs vs fun u hu => hu]
      · unfold tYes
        dsimp only
        rw [if_pos rfl]
        refine ek (D :: M0) (minus H2 O) O σ2 H3 _ st4 fun y H4 d4 g4 s4 r4 p4 => ev (D :: M0) (minus H2 O) O σ2 H4 _ (st4.next g4 s4) fun z H5 d5 g5 s5 r5 p5 => ?_
        subst p4
        subst p5
        have r4 : y = .str (kf ds[i]) := r4
        have r5 : z = .int (vf ds[i]) := r5
        subst r4
        subst r5
        have g25 := (g3.trans g4).trans g5
        have fl := fill_len kf vf (ds.take i) []
        have tl : (ds.take i).length ≤ 1000 := by rw [List.length_take]; omega
        refine ⟨(fillS kf vf (ds.take i)).map eK, .inr (kf ds[i]), rfl, g25 D _ eD (.inl hDs), small1000 (by rw [List.length_map]; unfold fillS; simp only [List.length_nil] at fl; omega), (gr2.trans g25).put ?_, fun o ho ys e => ?_, ?_, s5.put ?_ ?_⟩
        · rw [minus_out hDO]; exact hD
        · rw [upd_ne (fun z => hDO (by rw [← z]; exact ho))]
          exact g25 o _ (ow2 o ho ys e) (.inl (not_two (I.fr o ho).2.1 (I.fr o ho).2.2))
        · rw [upd_same, put_eK, fill_snoc kf vf ds i _ hi']
        · exact fun z => hDs (by rw [z]; exact List.mem_cons_self)
        · exact fun z => hDs (by rw [z]; exact List.mem_cons_of_mem _ List.mem_cons_self)
    · have e : i = ds.length := by omega
      subst e
      refine .inl ⟨w1, ?_⟩
      rw [List.take_length] at eD
      have gF : Gr [s, c] H H2 := fun a o e m => by
        have e1 := g1 a o e m
        by_cases z : a ∈ O
        · obtain ⟨ys, hy⟩ := I1.lst a z
          rw [hy] at e1; cases e1
          exact ow2 a z ys hy
        · exact gr2 a o (by rw [minus_out z]; exact e1) m
      have hDH : H D = none := g1.none hD hDs
      exact k D H2 _ hDH gF s2 eD rfl
end
/-- a def whose result is a new dict -/
def PrDk (K : PySem.W.Frag) (pre : Addr → Addr → List D → Prop) (val : List D → List (Str × Int) → Prop) : Sp := fun vs H Q _ => ∃ s c M n ds, s ∈ M ∧ c ∈ M ∧ (∀ a ∈ M, ∃ o, H a = some o) ∧ Src s c n H ∧ n ≤ 2 ^ 40 ∧ RepL K M H ds vs ∧ pre s c ds ∧
  ∀ p H' ps, H p = none → Gr [s, c] H H' → Src s c n H' → H' p = some (.dK (ps.map eK)) → val ds ps → Q (.ref p) H'
theorem prdk_len {K : PySem.W.Frag} {pre : Addr → Addr → List D → Prop} {m : Nat} {val : List D → List (Str × Int) → Prop} {vs : List V} {H : Hp} {Q : VK} {E : XK} (h : PrDk K pre val vs H Q E) (hp : ∀ s c ds, pre s c ds → ds.length = m) : vs.length = m := by
  obtain ⟨s, c, M, n, ds, _, _, _, _, _, rl, h7, _⟩ := h
  rw [← rl.length]
  exact hp s c ds h7
/-- the body of such a def: return {..} -/
theorem body_okD {K : PySem.W.Frag} {N : List Str} {te : TE} {pre : Addr → Addr → List D → Prop} {val : List D → List (Str × Int) → Prop} {vs : List V} {H : Hp} {Q : VK} {E : XK} (h : PrDk K pre val vs H Q E)
    (hb : ∀ s c n ds, n ≤ 2 ^ 40 → pre s c ds → EvDk K s c te (slots N.length ds) n n (fun ps => val ds ps)) : tRet te { nx := fun _ H' => Q .non H', rt := Q } (L2.start N vs) H := by
  obtain ⟨s, c, M, n, ds, h1, h2, h3, h4, h5, h6, h7, q⟩ := h
  refine hb s c n ds h5 h7 M H [] (L2.start N vs) H _ ⟨⟨h1, h2⟩, fun a ha => .inr (.inr (h3 a ha)), h4, Gr.refl _ _, fun o ho => by simp at ho, List.nodup_nil, ?_⟩ fun p H' ps hp g sr e hv => q p H' ps hp g sr e hv
  unfold slots L2.start
  rw [h6.length]
  exact sl_start h6
/-- a def whose result is a new list -/
def PrNl (K : PySem.W.Frag) (pre : Addr → Addr → List D → Prop) (k : Nat) (val : Addr → Addr → List D → List D → Prop) : Sp := fun vs H Q _ => ∃ s c M n ds, s ∈ M ∧ c ∈ M ∧ (∀ a ∈ M, ∃ o, H a = some o) ∧ Src s c n H ∧ n + k ≤ 2 ^ 40 ∧ RepL K M H ds vs ∧ pre s c ds ∧
  ∀ p H' xs es, Gr [s, c] H H' → Src s c (n + k) H' → H p = none → H' p = some (.lst xs) → RepL K (p :: M) H' es xs → val s c ds es → Q (.ref p) H'
theorem prnl_len {K : PySem.W.Frag} {pre : Addr → Addr → List D → Prop} {k m : Nat} {val : Addr → Addr → List D → List D → Prop} {vs : List V} {H : Hp} {Q : VK} {E : XK} (h : PrNl K pre k val vs H Q E) (hp : ∀ s c ds, pre s c ds → ds.length = m) : vs.length = m := by
  obtain ⟨s, c, M, n, ds, _, _, _, _, _, rl, h7, _⟩ := h
  rw [← rl.length]
  exact hp s c ds h7
/-- statements whose last one returns an own list -/
def EvSN (K : PySem.W.Frag) (s c : Addr) (ts : TS) (ρ : List Sl) (n : Nat) (R : List D → Nat → Prop) : Prop := ∀ M0 H0 O σ H (Rt : VK) (Nx : L2.St → Hp → Prop), Ok K s c M0 H0 O ρ n σ H →
  (∀ p H' xs es m, Gr [s, c] H0 H' → Src s c m H' → H0 p = none → H' p = some (.lst xs) → RepL K (p :: M0) H' es xs → R es m → Rt (.ref p) H') → ts { nx := Nx, rt := Rt } σ H
section
variable {K : PySem.W.Frag} {s c : Addr} {ρ : List Sl} {n n1 : Nat} {t u : TS} {R : List D → Nat → Prop}
theorem sn_seq {N : List Sl → Nat → Prop} (h : EvS K s c t ρ n ⟨N, fun _ _ => False, fun _ _ => False, fun _ _ => False⟩) (hu : ∀ ρ1 n1, N ρ1 n1 → EvSN K s c u ρ1 n1 R) : EvSN K s c (tSeq t u) ρ n R := fun M0 H0 O σ H Rt Nx I k =>
  h M0 H0 O σ H _ I ⟨fun O' ρ' n' σ' H' J q => hu ρ' n' q M0 H0 O' σ' H' Rt Nx J k, fun _ _ _ _ _ _ _ z => z.elim, fun _ _ _ _ _ _ z => z.elim, fun _ _ _ _ _ _ z => z.elim⟩
theorem sn_ret {i : Nat} {l : List D} (e : ρ[i]? = some (.ow l)) (r : R l n) : EvSN K s c (tRet (tVar i)) ρ n R := fun M0 H0 O σ H Rt Nx I k => by
  obtain ⟨p, xs, hp, e2, hx, rl⟩ := I.sl.own e
  refine ⟨.ref p, e2, k p H xs l n I.gr I.src (I.fr p hp).1 hx (rl.mono fun a ha => ?_) r⟩
  rcases List.mem_cons.mp ha with rfl | ha
  · exact List.mem_append_left _ hp
  · exact List.mem_append_right _ ha
theorem body_okN {N : List Str} {t : TS} {pre : Addr → Addr → List D → Prop} {k : Nat} {val : Addr → Addr → List D → List D → Prop} {vs : List V} {H : Hp} {Q : VK} {E : XK} (h : PrNl K pre k val vs H Q E)
    (hb : ∀ s c n ds, n + k ≤ 2 ^ 40 → pre s c ds → EvSN K s c t (slots N.length ds) n (fun es m => m ≤ n + k ∧ val s c ds es)) : t { nx := fun _ H' => Q .non H', rt := Q } (L2.start N vs) H := by
  obtain ⟨s, c, M, n, ds, h1, h2, h3, h4, h5, h6, h7, q⟩ := h
  refine hb s c n ds h5 h7 M H [] (L2.start N vs) H _ _ ⟨⟨h1, h2⟩, fun a ha => .inr (.inr (h3 a ha)), h4, Gr.refl _ _, fun o ho => by simp at ho, List.nodup_nil, ?_⟩ fun p H' xs es m g sr hp e rl hr => q p H' xs es g (sr.mono hr.1) hp e rl hr.2
  unfold slots L2.start
  rw [h6.length]
  exact sl_start h6
/-- a call of a def whose result is a new list -/
theorem en_defN {pre : Addr → Addr → List D → Prop} {k : Nat} {val : Addr → Addr → List D → List D → Prop} {ta : TA} {A : List D → Prop} (ha : EvA K s c ta ρ n n1 A) (hn : n1 + k ≤ 2 ^ 40) (hp : ∀ l, A l → pre s c l) : EvN K s c (tCall (PrNl K pre k val) [] E0 ta) ρ n (n1 + k) (fun es => ∃ l, A l ∧ val s c l es) := fun M0 H0 O σ H Q I q =>
  ha M0 H0 O σ H _ I fun vs H1 ds g1 s1 r1 p1 => ⟨s, c, O ++ M0, n1, ds, List.mem_append_right _ I.ms.1, List.mem_append_right _ I.ms.2, (I.next g1 s1).thereA, s1, hn, by rw [List.append_nil]; exact r1, hp ds p1, fun p H2 xs es g2 s2 h2 e2 rl hv => q p H2 es xs (g1.trans g2) s2 (g1.none h2 fun z => (I.next g1 s1).new_out h2 ((I.next g1 s1).sub _ z)) e2 rl ⟨ds, p1, hv⟩⟩
/-- an instance with flat fields, made where an own list is read -/
theorem ev_thawI {i : Nat} {l : List D} {te : TE} {P : D → Prop} (e : ρ[i]? = some (.ow l)) (h : EvE K s c te (ρ.set i (.va (.lst l))) n n1 P) (hf : ∀ d, P d → ∃ C ks fs, d = .ins C ks fs ∧ flatL fs = true) (no : i < ρ.length) : EvE K s c te ρ n n1 P := fun M0 H0 O σ H Q I k => by
  obtain ⟨p, xs, hp, e2, hx, rl⟩ := I.sl.own e
  obtain ⟨O', sub, J⟩ := I.freeze e
  refine h M0 H0 O' σ H Q J fun v H' d g hs r pd => ?_
  obtain ⟨C, ks, fs, rfl, fl⟩ := hf d pd
  refine k v H' _ g hs ?_ pd
  obtain ⟨a, dx, gs, rfl, ma, ea, hk, rf⟩ := r
  refine ⟨a, dx, gs, rfl, fun z => ?_, ea, hk, RepL.flat rf fl⟩
  rcases List.mem_append.mp z with z | z
  · obtain ⟨ys, hy⟩ := I.lst a z
    have : H' a = some (.lst ys) := g a _ hy (.inl (not_two (I.fr a z).2.1 (I.fr a z).2.2))
    rw [ea] at this
    cases this
  · exact ma (List.mem_append_right _ z)
end
/-- a dict from texts, as data -/
def dZ (vs : List Str) (ds : List D) : D := .dct (vs.map .inr) ds
def getZ : List Str → List D → Str → D
  | v :: vs, d :: ds, t => if v = t then d else getZ vs ds t
  | _, _, _ => .non
theorem merge_nodup : ∀ (kvs acc : List (Key × V)), ((acc ++ kvs).map (·.1)).Nodup → mergeK acc kvs = acc ++ kvs
  | [], acc, _ => by rw [List.append_nil]; rfl
  | kv :: kvs, acc, h => by
    have no : (acc.any fun x => decide (x.1 = kv.1)) = false := by
      rw [List.any_eq_false]
      intro x hx
      rw [decide_eq_true_eq]
      intro e
      rw [List.map_append, List.nodup_append] at h
      exact h.2.2 x.1 (List.mem_map.mpr ⟨x, hx, rfl⟩) kv.1 (List.mem_map.mpr ⟨kv, List.mem_cons_self, rfl⟩) e
    have e : putK acc kv.1 kv.2 = acc ++ [kv] := by
      unfold putK
      rw [if_neg (by rw [no]; exact Bool.false_ne_true)]
    show mergeK (putK acc kv.1 kv.2) kvs = _
    rw [e, merge_nodup kvs (acc ++ [kv]) (by rw [List.append_assoc]; exact h), List.append_assoc]
    rfl
section
variable {K : PySem.W.Frag} {s c : Addr} {ρ : List Sl} {n n1 n2 : Nat} {te ty : TE} {ta : TA}
theorem zip_parts : ∀ {vs : List Str} {ys : List V}, vs.length = ys.length → ((vs.map (Sum.inr : Str → Key)).zip ys).map (·.1) = vs.map Sum.inr ∧ ((vs.map (Sum.inr : Str → Key)).zip ys).map (·.2) = ys
  | [], [], _ => ⟨rfl, rfl⟩
  | v :: vs, y :: ys, h => by
    obtain ⟨h1, h2⟩ := zip_parts (vs := vs) (ys := ys) (by simpa using h)
    exact ⟨by rw [List.map_cons, List.zip_cons_cons, List.map_cons, h1], by rw [List.map_cons, List.zip_cons_cons, List.map_cons, h2]⟩
  | [], _ :: _, h => by simp at h
  | _ :: _, [], h => by simp at h
theorem kV_strs : ∀ vs : List Str, (vs.map (Sum.inr : Str → Key)).map kV = vs.map V.str
  | [] => rfl
  | v :: vs => by rw [List.map_cons, List.map_cons, List.map_cons, kV_strs vs]; rfl
/-- dict(zip(vs, ds)) -/
theorem ev_dz {vs : List Str} {ds : List D} (h : EvA K s c ta ρ n n1 (fun l => l = [.tup (dStrs vs), .tup ds])) (nd : vs.Nodup) (len : vs.length = ds.length) : EvE K s c (tFrz (tDZ K ta)) ρ n n1 (fun d => d = dZ vs ds) := fun M0 H0 O σ H Q I k =>
  h M0 H0 O σ H _ I fun xs H1 l g1 s1 r1 e1 => by
    subst e1
    obtain ⟨x, y, rfl, ⟨a, zs, rfl, sa, ra⟩, ⟨b, ys, rfl, sb, rb⟩⟩ := r1.inv2
    rw [dStrs_rep ra] at sa
    have lenY : ys.length = ds.length := rb.length.symm
    refine ⟨a, b, vs.map .inr, ys, rfl, by rw [kV_strs]; exact sa, sb, by rw [List.length_map]; omega, fun p hp => ⟨p, _, rfl, upd_same, trivial, fun od => ?_⟩⟩
    obtain ⟨z1, z2⟩ := zip_parts (vs := vs) (ys := ys) (by omega)
    have em : mergeK [] ((vs.map (Sum.inr : Str → Key)).zip ys) = (vs.map Sum.inr).zip ys := by
      have := merge_nodup ((vs.map (Sum.inr : Str → Key)).zip ys) [] (by rw [List.nil_append, z1]; exact List.Pairwise.map _ (fun a b h e => h (Sum.inr.inj e)) nd)
      rw [List.nil_append] at this
      exact this
    rw [em]
    have g2 : ∀ M, Gr M H1 (upd (upd H1 p (.dK ((vs.map Sum.inr).zip ys))) p (.frz od (.dK ((vs.map Sum.inr).zip ys)))) := fun M a' o e _ => by
      rw [upd_ne (ne_of_none e hp), upd_ne (ne_of_none e hp)]
      exact e
    exact k (.ref p) _ (dZ vs ds) (g1.trans (g2 _)) (s1.keep fun a' o e => g2 [] a' o e (.inl (by simp))) ⟨p, od, _, rfl, upd_same, z1, by rw [z2]; exact rb.gr (g2 _)⟩ rfl
theorem val_getZ {M : List Addr} {H : Hp} : ∀ {vs : List Str} {ds : List D} {fs : List (Key × V)} {t : Str}, fs.map (·.1) = vs.map Sum.inr → RepL K M H ds (fs.map (·.2)) → t ∈ vs → ∃ v, valV fs (.inr t) = some v ∧ Rep K M H (getZ vs ds t) v
  | [], _, _, _, _, _, ht => by cases ht
  | v :: vs, [], fs, t, h, r, _ => by
    cases fs with
    | nil => cases h
    | cons f fs => exact r.elim
  | v :: vs, d :: ds, [], t, h, _, _ => by cases h
  | v :: vs, d :: ds, f :: fs, t, h, r, ht => by
    injection h with h1 h2
    have h1 : f.1 = Sum.inr v := h1
    by_cases e : v = t
    · refine ⟨f.2, valV_pos (p := f) (by rw [h1, e]), ?_⟩
      unfold getZ
      rw [if_pos e]
      exact r.1
    · obtain ⟨w, e1, e2⟩ := val_getZ (vs := vs) h2 r.2 (by
        rcases List.mem_cons.mp ht with q | q
        · exact absurd q.symm e
        · exact q)
      refine ⟨w, by rw [valV_neg (p := f) (fun z => e (Sum.inr.inj (h1.symm.trans z)))]; exact e1, ?_⟩
      unfold getZ
      rw [if_neg e]
      exact e2
/-- d[t] -/
theorem ev_getZ {vs : List Str} {ds : List D} {t : Str} (h : EvE K s c te ρ n n1 (fun d => d = dZ vs ds)) (hy : EvE K s c ty ρ n1 n2 (fun d => d = .str t)) (ht : t ∈ vs) : EvE K s c (tDGet te ty) ρ n n2 (fun d => d = getZ vs ds t) := fun M0 H0 O σ H Q I k =>
  h M0 H0 O σ H _ I fun v H1 d g1 s1 r1 e1 => hy M0 H0 O σ H1 _ (I.next g1 s1) fun y H2 d2 g2 s2 r2 e2 => by
    subst e1
    subst e2
    have r2 : y = .str t := r2
    subst r2
    obtain ⟨a, o, fs, rfl, ea, hk, rl⟩ := r1.gr (g2.mono I.sub)
    obtain ⟨w, w1, w2⟩ := val_getZ hk rl ht
    exact ⟨a, w, rfl, .inl ⟨fs, .inr t, .inr ⟨o, ea⟩, rfl, w1.symm⟩, k w H2 _ (g1.trans g2) s2 w2 rfl⟩
/-- list(d.items()) of a new dict -/
theorem ev_listItems {ps : List (Str × Int)} (h : EvDk K s c te ρ n n1 (fun x => x = ps)) : EvE K s c (LiI.tListItems te) ρ n n1 (fun d => d = .lst (ps.map fun p => .tup [.str p.1, .int p.2])) := fun M0 H0 O σ H Q I k =>
  h M0 H0 O σ H _ I fun d H1 x hd g1 s1 ed e1 => by
    subst e1
    refine ⟨d, _, rfl, ed, fun H' p ts up hp new out eL pr => ?_⟩
    have J := I.next g1 s1
    have g2 : ∀ M, Gr M H1 H' := fun M a o e _ => up a o e
    refine k (.ref p) H' (.lst (x.map fun p => .tup [.str p.1, .int p.2])) (g1.trans (g2 _)) (s1.keep fun a o e => up a o e) ⟨p, _, rfl, J.new_out hp, eL, ?_⟩ rfl
    have go : ∀ {ps : List (Str × Int)} {ts : List Addr}, Paired (fun (t : Addr) (q : Key × V) => H' t = some (.tup [kV q.1, q.2])) ts (ps.map eK) → RepL K (O ++ M0) H' (ps.map fun p => .tup [.str p.1, .int p.2]) (ts.map V.ref) := fun {ps} => by
      induction ps with
      | nil =>
        intro ts r
        cases r
        exact trivial
      | cons q ps ih =>
        intro ts r
        cases r with
        | cons r1 r2 => exact ⟨⟨_, _, rfl, .inl (.inl r1), rfl, rfl, trivial⟩, ih r2⟩
    exact go pr
/-- e.f, a property whose result is a new dict -/
theorem ed_prop {C : Addr} {ks : List Str} {l : List D} {E : XK} {pre : Addr → Addr → List D → Prop} {val : List D → List (Str × Int) → Prop} {ps : List (Str × Int)} (h : EvE K s c te ρ n n1 (fun x => x = .ins C ks l)) (hn : n1 ≤ 2 ^ 40) (hp : pre s c [.ins C ks l]) (hq : ∀ qs, val [.ins C ks l] qs → qs = ps) : EvDk K s c (tProp C (PrDk K pre val) [] E te) ρ n n1 (fun x => x = ps) := fun M0 H0 O σ H Q I k =>
  h M0 H0 O σ H _ I fun v H1 x g1 s1 r1 p => by
    subst p
    have J := I.next g1 s1
    have r0 := r1
    obtain ⟨a, dx, fs, rfl, ma, e, hk, rl⟩ := r1
    exact ⟨a, dx, fs, rfl, e, s, c, O ++ M0, n1, [.ins C ks l], List.mem_append_right _ I.ms.1, List.mem_append_right _ I.ms.2, J.thereA, s1, hn, ⟨r0, trivial⟩, hp, fun p H2 qs hp2 g2 s2 e2 hv => k p H2 qs (g1.none hp2 fun z => J.new_out hp2 (J.sub _ z)) (g1.trans g2) s2 e2 (hq qs hv)⟩
end
end Pl
/-! text K02p -/
set_option Elab.async false
set_option linter.all false
set_option maxRecDepth 100000
set_option maxHeartbeats 4000000
set_option exponentiation.threshold 5000
namespace K02
open PySem PySem.Spec PyProof.Rows L2 Pl PlS
abbrev s_q_head : Stmt := inCls 14 1
theorem sc_q_head : FnScope ["self"] ["self"] (defScope s_q_head) := ⟨rfl, rfl, rfl, by decide +kernel, rfl, by decide +kernel, by decide +kernel⟩
abbrev s_q_atoms : Stmt := inCls 14 2
theorem sc_q_atoms : FnScope ["self"] ["self"] (defScope s_q_atoms) := ⟨rfl, rfl, rfl, by decide +kernel, rfl, by decide +kernel, by decide +kernel⟩
abbrev s_q_vars : Stmt := inCls 14 3
theorem sc_q_vars : FnScope ["self"] ["self"] (defScope s_q_vars) := ⟨rfl, rfl, rfl, by decide +kernel, rfl, by decide +kernel, by decide +kernel⟩
abbrev s_q_places : Stmt := inCls 14 4
theorem sc_q_places : FnScope ["self", "table", "variables"] ["self"] (defScope s_q_places) := ⟨rfl, rfl, rfl, by decide +kernel, rfl, by decide +kernel, by decide +kernel⟩
/-- what the top has written of Query's properties -/
structure PTxt (K : PySem.W.Frag) (mg : Str → Option Value) (CQ : Addr) (rh ra rv rp gh ga gv gp : Addr) (dh da dv dpl : FuncData) : Prop where
  rh : PropOf K CQ "head" rh gh
  Fh : Fun K "head" "Query.head" s_q_head gh dh
  bh : Binds K dh ["self"] []
  ra : PropOf K CQ "atoms" ra ga
  Fa : Fun K "atoms" "Query.atoms" s_q_atoms ga da
  ba : Binds K da ["self"] []
  rv : PropOf K CQ "variables" rv gv
  Fv : Fun K "variables" "Query.variables" s_q_vars gv dv
  bv : Binds K dv ["self"] []
  rp : PropOf K CQ "places" rp gp
  Fp : Fun K "places" "Query.places" s_q_places gp dpl
  bp : Binds K dpl ["self"] []
def preG (CQ : Addr) (s c : Addr) (ds : List D) : Prop := ∃ p, ds = [qI CQ p]
def postH (CQ : Addr) (s c : Addr) (ds : List D) (z : D) : Prop := ∃ p, ds = [qI CQ p] ∧ z = .tup (dStrs p.1)
def postAt (CQ : Addr) (s c : Addr) (ds : List D) (z : D) : Prop := ∃ p, ds = [qI CQ p] ∧ z = .tup ((sortA p.2).map dAtom)
/-- the variables of atoms -/
def varsA (as : List (Str × List Str)) : List Str := usort (as.flatMap (·.2))
def postVs (CQ : Addr) (s c : Addr) (ds : List D) (z : D) : Prop := ∃ p, ds = [qI CQ p] ∧ z = .tup (dStrs (varsA p.2))
def preGo (CQ : Addr) (s c : Addr) (ds : List D) : Prop := ∃ p, ds = [qI CQ p] ∧ okQ p.1 p.2
/-- the tables and their numbers of places -/
def plA (as : List (Str × List Str)) : List (Str × Int) := fillS (fun d => (unD d).1) (fun d => ((unD d).2.length : Int)) (as.map dAtom)
def valPl (CQ : Addr) (ds : List D) (ps : List (Str × Int)) : Prop := ∃ p, ds = [qI CQ p] ∧ ps = plA (sortA p.2)
section
variable {P : Program} {w : World} {K : PySem.W.Frag} {mg : Str → Option Value} {base : Heap} {A : Adr} {CQ fQ CE fE rh ra rv rp gh ga gv gp : Addr} {dQ dE dh da dv dpl : FuncData}
theorem ok_q_head (T : Txt A K mg) (U : QTxt K mg CQ fQ CE fE dQ dE) (V : PTxt K mg CQ rh ra rv rp gh ga gv gp dh da dv dpl) : FnOk P w K mg base CX0 1 gh dh ["self"] (Pr K (preG CQ) 0 (postH CQ)) := by
  refine V.Fh.ok sc_q_head (fun vs H Q E h => pr_len h fun s c ds hp => ?_) (fun cdv A' outer st H vs Q E hr h => ⟨_, (pss_one (ps_ret (k_fld K (pv 0) rfl))), body_ok h fun s c n ds hn hp => ?_⟩)
  · obtain ⟨p, rfl⟩ := hp
    rfl
  · obtain ⟨p, rfl⟩ := hp
    exact s_ret (ev_fldI (ks := ksQ) (l := qL p.1 p.2) (ev_var rfl) U.cQ U.nH rfl) fun d e => ⟨Nat.le_refl _, p, rfl, e⟩
theorem ok_q_atoms (T : Txt A K mg) (U : QTxt K mg CQ fQ CE fE dQ dE) (V : PTxt K mg CQ rh ra rv rp gh ga gv gp dh da dv dpl) : FnOk P w K mg base CX0 1 ga da ["self"] (Pr K (preG CQ) 0 (postAt CQ)) := by
  refine V.Fa.ok sc_q_atoms (fun vs H Q E h => pr_len h fun s c ds hp => ?_) (fun cdv A' outer st H vs Q E hr h => ⟨_, (pss_one (ps_ret (k_fld K (pv 0) rfl))), body_ok h fun s c n ds hn hp => ?_⟩)
  · obtain ⟨p, rfl⟩ := hp
    rfl
  · obtain ⟨p, rfl⟩ := hp
    exact s_ret (ev_fldI (ks := ksQ) (l := qL p.1 p.2) (ev_var rfl) U.cQ U.nA rfl) fun d e => ⟨Nat.le_refl _, p, rfl, e⟩
theorem ok_q_vars (T : Txt A K mg) (U : QTxt K mg CQ fQ CE fE dQ dE) (V : PTxt K mg CQ rh ra rv rp gh ga gv gp dh da dv dpl) : FnOk P w K mg base CX0 1 gv dv ["self"] (Pr K (preG CQ) 0 (postVs CQ)) := by
  refine V.Fv.ok sc_q_vars (fun vs H Q E h => pr_len h fun s c ds hp => ?_) (fun cdv A' outer st H vs Q E hr h => ⟨_, (pss_one (ps_ret (k_fld K (pv 0) rfl))), body_ok h fun s c n ds hn hp => ?_⟩)
  · obtain ⟨p, rfl⟩ := hp
    rfl
  · obtain ⟨p, rfl⟩ := hp
    exact s_ret (ev_fldI (ks := ksQ) (l := qL p.1 p.2) (ev_var rfl) U.cQ U.nV rfl) fun d e => ⟨Nat.le_refl _, p, rfl, e⟩
theorem ok_q_places (T : Txt A K mg) (U : QTxt K mg CQ fQ CE fE dQ dE) (V : PTxt K mg CQ rh ra rv rp gh ga gv gp dh da dv dpl) : FnOk P w K mg base CX0 1 gp dpl ["self"] (PrDk K (preGo CQ) (valPl CQ)) := by
  refine V.Fp.ok sc_q_places (fun vs H Q E h => prdk_len h fun s c ds hp => ?_) (fun cdv A' outer st H vs Q E hr h => ⟨_, (pss_one (ps_ret (pe_dc rfl (own := [("table", 1), ("variables", 2)]) sc_q_places.nd (k_pitup K (k_fld K (pv 0) rfl)) (blkOk_by (N := ["self", "table", "variables"]) (sc := defScope s_q_places) (by decide +kernel)) (fun _ _ _ _ _ => (k_pgtup K (n := 2) rfl (pgs_cons (pg_name (i := 1) sc_q_places.nd rfl (by first | exact Or.inl rfl | exact Or.inr rfl)) (pgs_cons (pg_name (i := 2) sc_q_places.nd rfl (by first | exact Or.inl rfl | exact Or.inr rfl)) pgs_nil)))) (fun _ _ _ _ _ => pts_nil) (fun _ _ _ _ _ => (pv 1)) (fun _ _ _ _ _ => (pe_callB (k_len K) (by rfl) T.m_len (by decide +kernel) (pa_cons (pv 2) pa_nil)))))), body_okD h fun s c n ds hn hp => ?_⟩)
  · obtain ⟨p, rfl, _⟩ := hp
    rfl
  · obtain ⟨p, rfl, ok⟩ := hp
    have oq := okQ_perm ok (sortA_perm p.2)
    refine fun M0 H0 O σ H Q I k => dc_new (L := (sortA p.2).map dAtom) (fun d => (unD d).1) (fun d => ((unD d).2.length : Int)) (ei_tup (ev_fldI (ks := ksQ) (l := qL p.1 p.2) (ev_var rfl) U.cQ U.nA rfl) fun d e => ⟨_, e, rfl⟩) rfl (by rw [List.length_map]; have := oq.2.2.2.1; omega) (fun i d hi => ?_) M0 H0 O σ H Q I fun q H' ps hq g1 s1 e1 e2 => k q H' ps hq g1 s1 e1 ⟨p, rfl, e2⟩
    rw [List.getElem?_map] at hi
    cases z : (sortA p.2)[i]? with
    | none => rw [z] at hi; cases hi
    | some a =>
      rw [z] at hi
      cases hi
      refine ⟨_, _, eg_tup (egs_cons (eg_name (j := 1) rfl) (egs_cons (eg_name (j := 2) rfl) egs_nil)) rfl, fun j hj => hj, ?_, ?_⟩
      · rw [unD_of]
        exact ev_var rfl
      · rw [unD_of]
        exact (ev_callK (ea_one (ev_var rfl)) (ck_len rfl)).imp fun d e => by rw [e, strs_len]
end

end K02
/-! text PlP -/
set_option Elab.async false
set_option linter.all false
set_option maxRecDepth 100000
set_option maxHeartbeats 4000000
set_option exponentiation.threshold 5000
/-! PlP: defs that may raise an error without fields; classmethods; try around them. -/
namespace Pl
open PySem PySem.Spec PyProof.Rows L2
/-- from the data of the arguments: a value, or an error of a class without fields -/
def PrX (K : PySem.W.Frag) (pre : Addr → Addr → List D → Prop) (k : Nat) (val : List D → D → Prop) (bad : List D → Addr → Prop) : Sp := fun vs H Q E => ∃ s c M n ds, s ∈ M ∧ c ∈ M ∧ (∀ a ∈ M, ∃ o, H a = some o) ∧ Src s c n H ∧ n + k ≤ 2 ^ 40 ∧ RepL K M H ds vs ∧ pre s c ds ∧
  (∀ v H' d, Gr [s, c] H H' → Src s c (n + k) H' → Rep K M H' d v → val ds d → Q v H') ∧ (∀ C H', Gr [s, c] H H' → Src s c (n + k) H' → bad ds C → E (.ref C) none H')
section
variable {X : Cx} {CX' : CXT} {k : Nat} {g C p : Addr} {sp : Sp} {E : L2.St → XK} {mc : Value} {m : Str} {fd : FuncData} {ps : List Str} {o e : Expr} {es : List Expr} {apos pos : Pos} {ta : TE} {t : TA}
/-- C.m(..), m a classmethod that may raise -/
def tCMethS (C : Addr) (sp : Sp) (E : L2.St → XK) (ta : TE) (t : TA) : TE := fun σ H Q => ta σ H fun x H1 => x = .ref C ∧ t σ H1 fun vs H2 => sp (.ref C :: vs) H2 Q (E σ)
theorem run_at {pins : List (Addr × Obj)} {σ : L2.St} {H : Hp} {st : Shared} {Q : VK} {us : List Value} {vs : List V} (F : FnOk X.prog X.w X.K X.mg X.base CX' k g fd ps sp) (room : Room k X.A) (bnd : Binds X.K fd ps []) (out : PassesAt CX' X σ (E σ)) (J : Inv X pins σ H st)
    (rel : Vals vs us) (wish : sp vs H Q (E σ)) : codeAny (model X.prog X.w) X.A (.call (.ref g) ⟨us, []⟩) (fun r s' => match r with | .ok (.ret v) => EP X pins σ Q v s' | .ok _ => False | .error e => X.xe e s') st := by
  have count : us.length = ps.length := rel.length.symm.trans (F.len _ _ _ _ wish)
  have bound := bnd st us J.kIn (by rw [List.append_nil]; exact count)
  rw [List.append_nil] at bound
  refine codeAny_mono (F.run X.A X.stack st H ⟨us, []⟩ us vs Q (E σ) room J.env0 bound rel wish) fun flow s2 z => ?_
  match flow, z with
  | .error u, z => exact out pins _ _ u s2 J z
  | .ok (.ret u), z => exact J.after z
  | .ok .next, z => exact False.elim z
  | .ok .brk, z => exact False.elim z
  | .ok .cont, z => exact False.elim z
theorem pe_cmethS {pl : Sem Bool} (ho : PE X o ta) (r : ClX.CRead X.K C mc) (c : ClX.CMet X.K C mc m p g) (F : FnOk X.prog X.w X.K X.mg X.base CX' k g fd ps sp) (room : Room k X.A) (bnd : Binds X.K fd ps []) (out : ∀ σ, PassesAt CX' X σ (E σ)) (ha : PA X (e :: es) t)
    (he : starEach (e :: es) X.env = (false, eval e X.env) :: starEach es X.env := by rfl) (hpl : (backTo pos (starEach es X.env)).any (·.1) = false := by rfl)
    (hc : eval (.Call (.Attribute o m apos) (e :: es) [] pos) X.env = (do let w ← eval o X.env; standAt apos.atName; let (q, own) ← holding [w] (getMethod w m pl); callWith pos q own (backTo pos (starEach (e :: es) X.env)) (backToKw pos (keywordEach [] X.env))) := by rfl) :
    PE X (.Call (.Attribute o m apos) (e :: es) [] pos) (tCMethS C sp E ta t) := ⟨fun pins st σ G Q J h => by
  refine PySem.W.methodCall_KW (pl := pl) (thn (ho.run pins st σ G _ J h) fun u s1 z => ?_) hc
  obtain ⟨y, G1, J1, ry, rfl, q⟩ := z
  obtain rfl : u = Value.ref C := ry
  refine ClX.getmethcm_ok J1 r c fun s2 J2 => ?_
  refine ClX.callwith_cm J2 (ClX.base_none J1 (Nat.le_refl _)) c.fi (thn (ha.run pos _ s2 σ G1 _ J2 q) fun us s3 z => ?_) he hpl
  obtain ⟨vs, G2, J3, rv, q2⟩ := z
  refine ⟨⟨ClX.pin_at J3, J3.kIn⟩, ?_⟩
  have ran : wpAny (model X.prog X.w) X.A (call (.ref s1.heap.objs.size) us) (EP X ((s1.heap.objs.size, PySem.W.methodObj (.ref g) (.ref C)) :: pins) σ Q) X.xe s3 :=
    wpAny_call (PySem.W.method_call (ClX.pin_at J3) (run_at (us := .ref C :: us) (vs := .ref C :: vs) F room bnd (out σ) J3 (.cons rfl rv) q2))
  exact thn ran fun _ _ z => ClX.unpinE z⟩
end
end Pl
/-! text PlP2 -/
set_option Elab.async false
set_option linter.all false
set_option maxRecDepth 100000
set_option maxHeartbeats 4000000
set_option exponentiation.threshold 5000
/-! PlP2: statements that may raise an error without fields. -/
namespace Pl
open PySem PySem.Spec PyProof.Rows L2
/-- a statement, from which an error of a class C with R C may leave (E: what is wished of it) -/
def EvSE (K : PySem.W.Frag) (s c : Addr) (E : XK) (R : Addr → Nat → Prop) (ts : TS) (ρ : List Sl) (n : Nat) (D : Pn) : Prop := ∀ M0 H0 O σ H (Dn : Ends), Ok K s c M0 H0 O ρ n σ H → Go K s c M0 H0 D Dn →
  (∀ C H' n', Gr [s, c] H0 H' → Src s c n' H' → R C n' → E (.ref C) none H') → ts Dn σ H
section
variable {K : PySem.W.Frag} {s c : Addr} {E : XK} {R : Addr → Nat → Prop} {ρ : List Sl} {n n1 n2 : Nat} {t u : TS} {D : Pn}
theorem EvS.e (h : EvS K s c t ρ n D) : EvSE K s c E R t ρ n D := fun M0 H0 O σ H Dn I G _ => h M0 H0 O σ H Dn I G
theorem se_seq {N : List Sl → Nat → Prop} (h : EvSE K s c E R t ρ n { D with nx := N }) (hu : ∀ ρ1 n1, N ρ1 n1 → EvSE K s c E R u ρ1 n1 D) : EvSE K s c E R (tSeq t u) ρ n D := fun M0 H0 O σ H Dn I G w =>
  h M0 H0 O σ H _ I (G.nx' fun O' ρ' n' σ' H' J q => hu ρ' n' q M0 H0 O' σ' H' Dn J G w) w
theorem se_if {tt : TT} {b : Bool} (h : EvT K s c tt ρ n n1 (fun x => x = b)) (h1 : b = true → EvSE K s c E R t ρ n1 D) (h2 : b = false → EvSE K s c E R u ρ n1 D) : EvSE K s c E R (tIfS tt t u) ρ n D := fun M0 H0 O σ H Dn I G w =>
  h M0 H0 O σ H _ I fun x H1 g1 s1 e => by
    subst e
    have J := (I.next g1 s1)
    cases x with
    | true => exact h1 rfl M0 H0 O σ H1 Dn J G w
    | false => exact h2 rfl M0 H0 O σ H1 Dn J G w
/-- raise X('..') -/
theorem se_raise {C : Addr} (h : R C n) : EvSE K s c E R (fun _ σ H => (fun _ H' Q' => Q' (Value.ref C) none H' : L2.St → Hp → XK → Prop) σ H fun cls d H' => E cls d H') ρ n D := fun M0 H0 O σ H Dn I G w => w C H n I.gr I.src h
/-- a body keeps the promise -/
theorem body_okE {N : List Str} {t : TS} {pre : Addr → Addr → List Pl.D → Prop} {k : Nat} {val : List Pl.D → Pl.D → Prop} {bad : List Pl.D → Addr → Prop} {vs : List V} {H : Hp} {Q : VK} {E : XK} (h : PrX K pre k val bad vs H Q E)
    (hb : ∀ s c n ds, n + k ≤ 2 ^ 40 → pre s c ds → EvSE K s c E (fun C m => m ≤ n + k ∧ bad ds C) t (slots N.length ds) n ⟨fun _ m => m ≤ n + k ∧ val ds .non, fun d m => m ≤ n + k ∧ val ds d, fun _ _ => False, fun _ _ => False⟩) : t { nx := fun _ H' => Q .non H', rt := Q } (L2.start N vs) H := by
  obtain ⟨s, c, M, n, ds, h1, h2, h3, h4, h5, h6, h7, good, err⟩ := h
  refine hb s c n ds h5 h7 M H [] (L2.start N vs) H _ ⟨⟨h1, h2⟩, fun a ha => .inr (.inr (h3 a ha)), h4, Gr.refl _ _, fun o ho => by simp at ho, List.nodup_nil, ?_⟩ ⟨fun O' ρ' m σ' H' J hp => ?_, fun v H' d m g hs r hp => good v H' d g (hs.mono hp.1) r hp.2, fun _ _ _ _ _ _ hp => hp.elim, fun _ _ _ _ _ _ hp => hp.elim⟩ fun C H' m g hs hp => err C H' g (hs.mono hp.1) hp.2
  · unfold slots L2.start
    rw [h6.length]
    exact sl_start h6
  · exact good .non H' .non J.gr (J.src.mono hp.1) rfl hp.2
theorem prx_len {pre : Addr → Addr → List Pl.D → Prop} {k m : Nat} {val : List Pl.D → Pl.D → Prop} {bad : List Pl.D → Addr → Prop} {vs : List V} {H : Hp} {Q : VK} (h : PrX K pre k val bad vs H Q E) (hp : ∀ s c ds, pre s c ds → ds.length = m) : vs.length = m := by
  obtain ⟨s, c, M, n, ds, _, _, _, _, _, rl, h7, _⟩ := h
  rw [← rl.length]
  exact hp s c ds h7
/-- try: x = cls(..) except Y: raise Z('..') from None -/
theorem se_tryMakeL {C CZ : Addr} {ks : List Str} {pre : Addr → Addr → List Pl.D → Prop} {val : List Pl.D → List Pl.D → Prop} {bad : List Pl.D → Addr → Str → Pl.D → Prop} {ta : TA} {ds : List Pl.D} {cE : Value} {i j : Nat} (ha : EvA K s c ta ρ n n1 (fun l => l = ds)) (hi : ρ[i]? = some (.va (.obj C))) (hn : n1 ≤ 2 ^ 40) (hp : pre s c ds) (oj : isOw ρ[j]? = false)
    (good : ∀ l, val ds l → D.nx (ρ.set j (.va (.ins C ks l))) n1) (err : ∀ CE nm e, bad ds CE nm e → PySem.W.exmOne K (.ref CE) cE = some true ∧ R CZ n1) :
    EvSE K s c E R (fun Dn σ H => tAsg (tMakeL i C (PrC K C ks pre val bad) (WE (wOnly K cE (fun _ _ _ => (fun _ σ H => (fun _ H' Q' => Q' (Value.ref CZ) none H' : L2.St → Hp → XK → Prop) σ H fun cls d H' => E cls d H' : TS)) (fun cls d _ H => E cls d H) Dn)) ta) (gName j) Dn σ H) ρ n D := fun M0 H0 O σ H Dn I G w => by
  obtain ⟨v, hv, rv⟩ := I.sl.get hi
  have rv : v = .ref C := rv
  subst rv
  refine ⟨hv, ha M0 H0 O σ H _ I fun vs H1 l g1 s1 rl e => ?_⟩
  subst e
  intro x dx nx nd ne
  have J := I.next g1 s1
  refine prc_at (Q := fun v H' => gName j v σ H' Dn.nx) J hn rl hp nx nd ne (fun m H' hv g sr r => ?_) fun CE nm e d H' v hb g sr hd r => ?_
  · exact eg_name oj M0 H0 O n1 σ H' (.ref x) _ (J.next g sr) r fun σ2 J2 _ => G.nx O _ n1 σ2 H' J2 (good m hv)
  · obtain ⟨ex, hR⟩ := err CE nm e hb
    exact ⟨true, ex, fun _ a _ => w CZ _ n1 ((J.gr.trans g).trans (Gr.new hd)) (sr.new hd) hR, fun q => nomatch q⟩
end
end Pl
/-! text K02t -/
set_option Elab.async false
set_option linter.all false
set_option maxRecDepth 100000
set_option maxHeartbeats 4000000
set_option exponentiation.threshold 5000
namespace K02
open PySem PySem.Spec PyProof.Rows L2 Pl PlS
/-- a name in the place of another one -/
def subS : List Str → List Str → Str → Str
  | v :: vs, n :: ns, t => if v = t then n else subS vs ns t
  | _, _, t => t
theorem get_sub : ∀ {vs ns : List Str} {t : Str}, vs.length = ns.length → t ∈ vs → getZ vs (dStrs ns) t = .str (subS vs ns t)
  | [], _, _, _, h => by cases h
  | v :: vs, [], t, l, _ => by cases l
  | v :: vs, n :: ns, t, l, h => by
    show (if v = t then D.str n else getZ vs (dStrs ns) t) = .str (if v = t then n else subS vs ns t)
    by_cases e : v = t
    · rw [if_pos e, if_pos e]
    · rw [if_neg e, if_neg e]
      refine get_sub (by simpa using l) ?_
      rcases List.mem_cons.mp h with q | q
      · exact absurd q.symm e
      · exact q
def imgA (vs ns : List Str) (as : List (Str × List Str)) : List (Str × List Str) := as.map fun a => (a.1, a.2.map (subS vs ns))
def imgQ (q : List Str × List (Str × List Str)) (ns : List Str) : List Str × List (Str × List Str) := (q.1.map (subS (varsA q.2) ns), imgA (varsA q.2) ns (sortA q.2))
def preRp (s c : Addr) (ds : List D) : Prop := ∃ y ws vs ns, ds = [y, dZ vs (dStrs ns)] ∧ seqD y = some (dStrs ws) ∧ (∀ v ∈ ws, v ∈ vs) ∧ vs.length = ns.length ∧ ws.length ≤ 1000
def postRp (s c : Addr) (ds : List D) (z : D) : Prop := ∃ y ws vs ns, ds = [y, dZ vs (dStrs ns)] ∧ seqD y = some (dStrs ws) ∧ z = .tup (dStrs (ws.map (subS vs ns)))
def preMv (CQ : Addr) (s c : Addr) (ds : List D) : Prop := ∃ q ns, ds = [qI CQ q, .tup (dStrs ns)] ∧ okV q.1 q.2 ∧ ns.length = (varsA q.2).length
def postMh (CQ : Addr) (s c : Addr) (ds : List D) (z : D) : Prop := ∃ q ns, ds = [qI CQ q, .tup (dStrs ns)] ∧ z = .tup (dStrs (q.1.map (subS (varsA q.2) ns)))
def postMa (CQ : Addr) (s c : Addr) (ds : List D) (z : D) : Prop := ∃ q ns, ds = [qI CQ q, .tup (dStrs ns)] ∧ z = .lst ((imgA (varsA q.2) ns (sortA q.2)).map dAtom)
def preRn (CQ : Addr) (s c : Addr) (ds : List D) : Prop := ∃ q ns, ds = [qI CQ q, .tup (dStrs ns)] ∧ okV q.1 q.2 ∧ ns.length = (varsA q.2).length ∧ ∀ v ∈ ns, isName v
def postRn (CQ : Addr) (s c : Addr) (ds : List D) (z : D) : Prop := ∃ q ns, ds = [qI CQ q, .tup (dStrs ns)] ∧ z = .tup [.tup (dStrs (imgQ q ns).1), .tup ((sortA (imgQ q ns).2).map dAtom)]
theorem inr_inj : ∀ {a b : List Str}, a.map (Sum.inr : Str → Key) = b.map Sum.inr → a = b
  | [], [], _ => rfl
  | [], _ :: _, h => by cases h
  | _ :: _, [], h => by cases h
  | x :: a, y :: b, h => by
    injection h with h1 h2
    rw [Sum.inr.inj h1, inr_inj h2]
theorem vars_nodup (as : List (Str × List Str)) : (varsA as).Nodup := (usort_asc _).imp fun h e => by
  rw [e] at h
  exact absurd h (slt_irrefl _)
theorem vars_perm {as bs : List (Str × List Str)} (p : bs.Perm as) : varsA bs = varsA as := asc_uniq (usort_asc _) (usort_asc _) fun z => by
  show z ∈ usort _ ↔ z ∈ usort _
  rw [usort_mem, usort_mem, List.mem_flatMap, List.mem_flatMap]
  exact ⟨fun ⟨a, ha, hz⟩ => ⟨a, p.mem_iff.mp ha, hz⟩, fun ⟨a, ha, hz⟩ => ⟨a, p.mem_iff.mpr ha, hz⟩⟩
theorem in_vars {as : List (Str × List Str)} {v : Str} : v ∈ varsA as ↔ ∃ a ∈ as, v ∈ a.2 := by
  unfold varsA
  rw [usort_mem, List.mem_flatMap]
theorem subS_in : ∀ {vs ns : List Str} {t : Str}, vs.length = ns.length → t ∈ vs → subS vs ns t ∈ ns
  | [], _, _, _, h => by cases h
  | v :: vs, [], t, l, _ => by cases l
  | v :: vs, n :: ns, t, l, h => by
    show (if v = t then n else subS vs ns t) ∈ n :: ns
    by_cases e : v = t
    · rw [if_pos e]; exact List.mem_cons_self
    · rw [if_neg e]
      refine List.mem_cons_of_mem _ (subS_in (by simpa using l) ?_)
      rcases List.mem_cons.mp h with q | q
      · exact absurd q.symm e
      · exact q
/-- an image of a valid query is one -/
theorem img_okV {q : List Str × List (Str × List Str)} {ns : List Str} (ok : okV q.1 q.2) (len : ns.length = (varsA q.2).length) (nm : ∀ v ∈ ns, isName v) : okV (imgQ q ns).1 (imgQ q ns).2 := by
  have oks := okV_perm ok (sortA_perm q.2)
  have inV : ∀ a ∈ sortA q.2, ∀ v ∈ a.2, subS (varsA q.2) ns v ∈ ns := fun a ha v hv => subS_in len.symm (in_vars.mpr ⟨a, (sortA_perm q.2).mem_iff.mp ha, hv⟩)
  have inH : ∀ v ∈ q.1, v ∈ varsA q.2 := fun v hv => (usort_mem v _).mpr (ok.2.2.1 v hv)
  have memI : ∀ b ∈ (imgQ q ns).2, ∃ a ∈ sortA q.2, b = (a.1, a.2.map (subS (varsA q.2) ns)) := fun b hb => by
    obtain ⟨a, ha, rfl⟩ := List.mem_map.mp hb
    exact ⟨a, ha, rfl⟩
  refine ⟨⟨fun v hv => ?_, ?_, ?_, ?_, fun b hb => ?_⟩, fun b1 h1 b2 h2 e => ?_, fun v hv => ?_, ?_⟩
  · obtain ⟨u, hu, rfl⟩ := List.mem_map.mp hv
    exact nm _ (subS_in len.symm (inH u hu))
  · show (q.1.map _).length ≤ 3
    rw [List.length_map]
    exact ok.1.2.1
  · show 1 ≤ ((sortA q.2).map _).length
    rw [List.length_map]
    exact oks.1.2.2.1
  · show ((sortA q.2).map _).length ≤ 6
    rw [List.length_map]
    exact oks.1.2.2.2.1
  · obtain ⟨a, ha, rfl⟩ := memI b hb
    have h := oks.1.2.2.2.2 a ha
    refine ⟨h.1, by show 1 ≤ (a.2.map _).length; rw [List.length_map]; exact h.2.1, by show (a.2.map _).length ≤ 3; rw [List.length_map]; exact h.2.2.1, fun v hv => ?_⟩
    obtain ⟨u, hu, rfl⟩ := List.mem_map.mp hv
    exact nm _ (inV a ha u hu)
  · obtain ⟨a1, ha1, rfl⟩ := memI b1 h1
    obtain ⟨a2, ha2, rfl⟩ := memI b2 h2
    show (a1.2.map _).length = (a2.2.map _).length
    rw [List.length_map, List.length_map]
    exact oks.2.1 a1 ha1 a2 ha2 e
  · obtain ⟨u, hu, rfl⟩ := List.mem_map.mp hv
    obtain ⟨a, ha, hv2⟩ := List.mem_flatMap.mp (oks.2.2.1 u hu)
    exact List.mem_flatMap.mpr ⟨_, List.mem_map.mpr ⟨a, ha, rfl⟩, List.mem_map.mpr ⟨u, hv2, rfl⟩⟩
  · refine Nat.le_trans (PySem.length_le_of_nodup_of_subset _ ns (vars_nodup _) fun v hv => ?_) (by rw [len]; exact ok.2.2.2)
    obtain ⟨b, hb, hv2⟩ := in_vars.mp hv
    obtain ⟨a, ha, rfl⟩ := memI b hb
    obtain ⟨u, hu, rfl⟩ := List.mem_map.mp hv2
    exact inV a ha u hu
section
variable {P : Program} {w : World} {K : PySem.W.Frag} {mg : Str → Option Value} {base : Heap} {A : Adr} {CQ fQ CE fE rh ra rv rp gh ga gv gp : Addr} {dQ dE dh da dv dpl : FuncData}
/-- a property of a query, as data -/
theorem ev_qHead {s c : Addr} {ρ : List Sl} {n n1 : Nat} {te : TE} {E : XK} {q : List Str × List (Str × List Str)} (h : EvE K s c te ρ n n1 (fun x => x = qI CQ q)) (hn : n1 ≤ 2 ^ 40) : EvE K s c (tProp CQ (Pr K (preG CQ) 0 (postH CQ)) [] E te) ρ n n1 (fun x => x = .tup (dStrs q.1)) :=
  ev_propP (ks := ksQ) (l := qL q.1 q.2) h hn ⟨q, rfl⟩ fun d h => by
    obtain ⟨p, e, rfl⟩ := h
    rw [(qI_inj (p := q) (List.cons.inj e).1).1]
theorem ev_qAtoms {s c : Addr} {ρ : List Sl} {n n1 : Nat} {te : TE} {E : XK} {q : List Str × List (Str × List Str)} (h : EvE K s c te ρ n n1 (fun x => x = qI CQ q)) (hn : n1 ≤ 2 ^ 40) : EvE K s c (tProp CQ (Pr K (preG CQ) 0 (postAt CQ)) [] E te) ρ n n1 (fun x => x = .tup ((sortA q.2).map dAtom)) :=
  ev_propP (ks := ksQ) (l := qL q.1 q.2) h hn ⟨q, rfl⟩ fun d h => by
    obtain ⟨p, e, rfl⟩ := h
    rw [(qI_inj (p := q) (List.cons.inj e).1).2]
theorem ev_qVars {s c : Addr} {ρ : List Sl} {n n1 : Nat} {te : TE} {E : XK} {q : List Str × List (Str × List Str)} (h : EvE K s c te ρ n n1 (fun x => x = qI CQ q)) (hn : n1 ≤ 2 ^ 40) : EvE K s c (tProp CQ (Pr K (preG CQ) 0 (postVs CQ)) [] E te) ρ n n1 (fun x => x = .tup (dStrs (varsA q.2))) :=
  ev_propP (ks := ksQ) (l := qL q.1 q.2) h hn ⟨q, rfl⟩ fun d h => by
    obtain ⟨p, e, rfl⟩ := h
    have e2 : qI CQ q = qI CQ p := (List.cons.inj e).1
    have e3 := (qI_inj e2).2
    rw [← vars_perm (sortA_perm q.2), ← vars_perm (sortA_perm p.2), e3]
theorem ok__replaced (T : Txt A K mg) : FnOk P w K mg base CX0 1 A.f__replaced A.fd__replaced ["variables", "new"] (Pr K preRp 0 postRp) := by
  refine T.F__replaced.ok sc__replaced (fun vs H Q E h => pr_len h fun s c ds hp => ?_) (fun cdv A' outer st H vs Q E hr h => have hw : _ := hr.units; ⟨_, (pss_one (ps_ret (pe_callTy (k_tuple K) (by rfl) T.m_tuple (by decide +kernel) (pa_cons (pe_lc (own := [("variable", 2)]) rfl sc__replaced.nd (k_piseq (K := K) (pv 0)) (blkOk_by (N := ["variables", "new", "variable"]) (sc := defScope s__replaced) (by decide +kernel)) (fun _ _ _ _ _ => (pg_name (i := 2) sc__replaced.nd rfl (by first | exact Or.inl rfl | exact Or.inr rfl))) (fun _ _ _ _ _ => pts_nil) (fun _ _ _ _ _ => (pe_dget (Nat.lt_of_le_of_lt (Nat.add_le_add_left (by decide) _) hw) (pv 1) (pv 2) (fun _ _ => rfl)))) pa_nil)))), body_ok h fun s c n ds hn hp => ?_⟩)
  · obtain ⟨y, ws, vs, ns, rfl, _⟩ := hp
    rfl
  · obtain ⟨y, ws, vs, ns, rfl, sy, hv, len, few⟩ := hp
    refine s_ret (n1 := n) (P := fun d => d = .tup (dStrs (ws.map (subS vs ns)))) (EvE.imp (ev_callK (z := .tup ((dStrs ws).map fun d => match d with | .str t => getZ vs (dStrs ns) t | _ => .non)) (ea_one (EvN.evK (en_mapK (L := dStrs ws) (fun d => match d with | .str t => getZ vs (dStrs ns) t | _ => .non) (ei_seq (ev_var rfl) sy) rfl (by rw [strs_len]; omega) fun i d hi => ?_))) (ck_tuple rfl)) fun d e => ?_) fun d e => ⟨Nat.le_refl _, y, ws, vs, ns, rfl, sy, e⟩
    · obtain ⟨t, rfl, ht⟩ := strs_mem (List.mem_of_getElem? hi)
      exact ⟨_, _, eg_name (j := 2) rfl, fun j hj => hj, ev_getZ (ev_var rfl) (ev_var rfl) (hv t ht)⟩
    · rw [e]
      congr 1
      unfold dStrs
      rw [List.map_map, List.map_map]
      refine List.map_congr_left fun t ht => ?_
      exact get_sub len (hv t ht)
theorem ok_moved_head (T : Txt A K mg) (U : QTxt K mg CQ fQ CE fE dQ dE) (V : PTxt K mg CQ rh ra rv rp gh ga gv gp dh da dv dpl) : FnOk P w K mg base CX0 3 A.f_moved_head A.fd_moved_head ["query", "values"] (Pr K (preMv CQ) 0 (postMh CQ)) := by
  have G_head := ok_q_head (P := P) (w := w) (base := base) T U V
  have G_atoms := ok_q_atoms (P := P) (w := w) (base := base) T U V
  have G_vars := ok_q_vars (P := P) (w := w) (base := base) T U V
  have G__replaced := ok__replaced (P := P) (w := w) (base := base) T
  refine T.F_moved_head.ok sc_moved_head (fun vs H Q E h => pr_len h fun s c ds hp => ?_) (fun cdv A' outer st H vs Q E hr h => have hw : _ := hr.units; ⟨_, (pss_cons (ps_set (i := 2) sc_moved_head.nd rfl (by first | exact Or.inl rfl | exact Or.inr rfl) (pe_frz (pe_dz rfl (by rfl) T.m_dict (by decide +kernel) (by rfl) T.m_zip (by decide +kernel) (pa_cons (pe_prop (pv 0) U.cQ V.rv G_vars (hr.mono (by decide)) V.bv .nil pass0 rfl) (pa_cons (pv 1) pa_nil)))))
      (pss_one (ps_ret (pe_call G__replaced (hr.mono (by decide)) (by rfl) T.m__replaced T.F__replaced.kp T.b__replaced .nil pass0 (pa_cons (pe_prop (pv 0) U.cQ V.rh G_head (hr.mono (by decide)) V.bh .nil pass0 rfl) (pa_cons (pv 2) pa_nil)))))), body_ok h fun s c n ds hn hp => ?_⟩)
  · obtain ⟨q, ns, rfl, _⟩ := hp
    rfl
  · obtain ⟨q, ns, rfl, ok, len⟩ := hp
    refine s_seq (N := fun ρ' m => n = m ∧ ρ' = [.va (qI CQ q), .va (.tup (dStrs ns)), .va (dZ (varsA q.2) (dStrs ns))]) (s_set (n1 := n) (ev_dz (ea_c (ev_qVars (ev_var rfl) hn) (ea_one (ev_var rfl))) (vars_nodup _) (by rw [strs_len]; exact len.symm)) rfl fun d e => ⟨rfl, by rw [e]; rfl⟩) fun ρ1 n1 h1 => ?_
    obtain ⟨rfl, rfl⟩ := h1
    refine s_ret (ev_defK (z := .tup (dStrs (q.1.map (subS (varsA q.2) ns)))) (ea_c (ev_qHead (ev_var rfl) hn) (ea_one (ev_var rfl))) hn ⟨_, q.1, varsA q.2, ns, rfl, rfl, fun v hv => (usort_mem v _).mpr (ok.2.2.1 v hv), len.symm, by have := ok.1.2.1; omega⟩ fun d h => ?_) fun d e => ⟨Nat.le_refl _, q, ns, rfl, e⟩
    obtain ⟨y, ws, vs, ns', e, sy, rfl⟩ := h
    injection e with e1 e
    injection e with e2 _
    subst e1
    have ew := str_inj (Option.some.inj sy)
    injection e2 with e3 e4
    have e5 : varsA q.2 = vs := inr_inj e3
    rw [← ew, ← e5, ← str_inj e4]
theorem ok_moved_atoms (T : Txt A K mg) (U : QTxt K mg CQ fQ CE fE dQ dE) (V : PTxt K mg CQ rh ra rv rp gh ga gv gp dh da dv dpl) : FnOk P w K mg base CX0 3 A.f_moved_atoms A.fd_moved_atoms ["query", "values"] (Pr K (preMv CQ) 0 (postMa CQ)) := by
  have G_head := ok_q_head (P := P) (w := w) (base := base) T U V
  have G_atoms := ok_q_atoms (P := P) (w := w) (base := base) T U V
  have G_vars := ok_q_vars (P := P) (w := w) (base := base) T U V
  have G__replaced := ok__replaced (P := P) (w := w) (base := base) T
  refine T.F_moved_atoms.ok sc_moved_atoms (fun vs H Q E h => pr_len h fun s c ds hp => ?_) (fun cdv A' outer st H vs Q E hr h => have hw : _ := hr.units; ⟨_, (pss_cons (ps_set (i := 2) sc_moved_atoms.nd rfl (by first | exact Or.inl rfl | exact Or.inr rfl) (pe_frz (pe_dz rfl (by rfl) T.m_dict (by decide +kernel) (by rfl) T.m_zip (by decide +kernel) (pa_cons (pe_prop (pv 0) U.cQ V.rv G_vars (hr.mono (by decide)) V.bv .nil pass0 rfl) (pa_cons (pv 1) pa_nil)))))
      (pss_one (ps_ret (pe_lc (own := [("table", 3), ("variables", 4)]) rfl sc_moved_atoms.nd (k_pitup K (pe_prop (pv 0) U.cQ V.ra G_atoms (hr.mono (by decide)) V.ba .nil pass0 rfl)) (blkOk_by (N := ["query", "values", "new", "table", "variables"]) (sc := defScope s_moved_atoms) (by decide +kernel)) (fun _ _ _ _ _ => (k_pgtup K (n := 2) rfl (pgs_cons (pg_name (i := 3) sc_moved_atoms.nd rfl (by first | exact Or.inl rfl | exact Or.inr rfl)) (pgs_cons (pg_name (i := 4) sc_moved_atoms.nd rfl (by first | exact Or.inl rfl | exact Or.inr rfl)) pgs_nil)))) (fun _ _ _ _ _ => pts_nil) (fun _ _ _ _ _ => (pe_tup (pa_cons (pv 3) (pa_cons (pe_call G__replaced (hr.mono (by decide)) (by rfl) T.m__replaced T.F__replaced.kp T.b__replaced .nil pass0 (pa_cons (pv 4) (pa_cons (pv 2) pa_nil))) pa_nil)))))))), body_ok h fun s c n ds hn hp => ?_⟩)
  · obtain ⟨q, ns, rfl, _⟩ := hp
    rfl
  · obtain ⟨q, ns, rfl, ok, len⟩ := hp
    have oks := okV_perm ok (sortA_perm q.2)
    refine s_seq (N := fun ρ' m => n = m ∧ ρ' = [.va (qI CQ q), .va (.tup (dStrs ns)), .va (dZ (varsA q.2) (dStrs ns)), .no, .no]) (s_set (n1 := n) (ev_dz (ea_c (ev_qVars (ev_var rfl) hn) (ea_one (ev_var rfl))) (vars_nodup _) (by rw [strs_len]; exact len.symm)) rfl fun d e => ⟨rfl, by rw [e]; rfl⟩) fun ρ1 n1 h1 => ?_
    obtain ⟨rfl, rfl⟩ := h1
    refine s_ret (n1 := n) (P := fun d => d = .lst ((imgA (varsA q.2) ns (sortA q.2)).map dAtom)) (EvE.imp (EvN.evK (en_mapK (L := (sortA q.2).map dAtom) (fun d => dAtom ((unD d).1, (unD d).2.map (subS (varsA q.2) ns))) (ei_tup (ev_qAtoms (ev_var rfl) hn) fun d e => ⟨_, e, rfl⟩) rfl (by rw [List.length_map]; have := oks.1.2.2.2.1; omega) fun i d hi => ?_)) fun d e => ?_) fun d e => ⟨Nat.le_refl _, q, ns, rfl, e⟩
    · rw [List.getElem?_map] at hi
      cases z : (sortA q.2)[i]? with
      | none => rw [z] at hi; cases hi
      | some a =>
        rw [z] at hi
        cases hi
        have ha := List.mem_of_getElem? z
        refine ⟨_, _, eg_tup (egs_cons (eg_name (j := 3) rfl) (egs_cons (eg_name (j := 4) rfl) egs_nil)) rfl, fun j hj => hj, ?_⟩
        rw [unD_of]
        refine ev_tupE (ea_c (ev_var rfl) (ea_one (ev_defK (z := .tup (dStrs (a.2.map (subS (varsA q.2) ns)))) (ea_c (ev_var rfl) (ea_one (ev_var rfl))) hn ⟨_, a.2, varsA q.2, ns, rfl, rfl, fun v hv => in_vars.mpr ⟨a, (sortA_perm q.2).mem_iff.mp ha, hv⟩, len.symm, by have := (oks.1.2.2.2.2 a ha).2.2.1; omega⟩ fun d h => ?_))) (by exact (by decide : (2 : Nat) ≤ 1000))
        obtain ⟨y, ws, vs, ns', e, sy, rfl⟩ := h
        injection e with e1 e
        injection e with e2 _
        subst e1
        have ew := str_inj (Option.some.inj sy)
        injection e2 with e3 e4
        have e5 : varsA q.2 = vs := inr_inj e3
        rw [← ew, ← e5, ← str_inj e4]
    · rw [e]
      congr 1
      unfold imgA
      rw [List.map_map, List.map_map]
      refine List.map_congr_left fun a ha => ?_
      show dAtom ((unD (dAtom a)).1, (unD (dAtom a)).2.map (subS (varsA q.2) ns)) = _
      rw [unD_of]
      rfl
theorem ok__renamed (T : Txt A K mg) (U : QTxt K mg CQ fQ CE fE dQ dE) (V : PTxt K mg CQ rh ra rv rp gh ga gv gp dh da dv dpl) : FnOk P w K mg base CX0 4 A.f__renamed A.fd__renamed ["query", "names"] (Pr K (preRn CQ) 0 (postRn CQ)) := by
  have G_moved_head := ok_moved_head (P := P) (w := w) (base := base) T U V
  have G_moved_atoms := ok_moved_atoms (P := P) (w := w) (base := base) T U V
  refine T.F__renamed.ok sc__renamed (fun vs H Q E h => pr_len h fun s c ds hp => ?_) (fun cdv A' outer st H vs Q E hr h => have hw : _ := hr.units; have hs70 : _ := (by have := hr.un; omega : (A'.deeper (envOfC "_renamed" (defScope s__renamed) st.heap.objs.size A.f__renamed cdv)).units + 70 < cLine); ⟨_, (pss_one (ps_ret (pe_tup (pa_cons (pe_call G_moved_head (hr.mono (by decide)) (by rfl) T.m_moved_head T.F_moved_head.kp T.b_moved_head .nil pass0 (pa_cons (pv 0) (pa_cons (pv 1) pa_nil))) (pa_cons (pe_callTy (k_tuple K) (by rfl) T.m_tuple (by decide +kernel) (pa_cons (pe_callB (k_sortD (K := K) hs70) (by rfl) T.m_sorted (by decide +kernel) (pa_cons (pe_call G_moved_atoms (hr.mono (by decide)) (by rfl) T.m_moved_atoms T.F_moved_atoms.kp T.b_moved_atoms .nil pass0 (pa_cons (pv 0) (pa_cons (pv 1) pa_nil))) pa_nil)) pa_nil)) pa_nil))))), body_ok h fun s c n ds hn hp => ?_⟩)
  · obtain ⟨q, ns, rfl, _⟩ := hp
    rfl
  · obtain ⟨q, ns, rfl, ok, len, nm⟩ := hp
    have oki := img_okV ok len nm
    refine s_ret (ev_tupE (ea_c (ev_defK (z := .tup (dStrs (imgQ q ns).1)) (ea_c (ev_var rfl) (ea_one (ev_var rfl))) hn ⟨q, ns, rfl, ok, len⟩ fun d h => ?_) (ea_one (ev_callK (ea_one (ev_callK (ea_one (ev_defK (z := .lst ((imgQ q ns).2.map dAtom)) (ea_c (ev_var rfl) (ea_one (ev_var rfl))) hn ⟨q, ns, rfl, ok, len⟩ fun d h => ?_)) (ck_sortA oki.1.2.2.2.2))) (ck_tuple rfl)))) (by exact (by decide : (2 : Nat) ≤ 1000))) fun d e => ⟨Nat.le_refl _, q, ns, rfl, e⟩
    · obtain ⟨q', ns', e, rfl⟩ := h
      injection e with e1 e
      injection e with e2 _
      injection e2 with e2
      have e3 := qI_inj e1
      have e4 : varsA q.2 = varsA q'.2 := by rw [← vars_perm (sortA_perm q.2), ← vars_perm (sortA_perm q'.2), e3.2]
      rw [← e3.1, ← e4, ← str_inj e2]
      rfl
    · obtain ⟨q', ns', e, rfl⟩ := h
      injection e with e1 e
      injection e with e2 _
      injection e2 with e2
      have e3 := qI_inj e1
      have e4 : varsA q.2 = varsA q'.2 := by rw [← vars_perm (sortA_perm q.2), ← vars_perm (sortA_perm q'.2), e3.2]
      rw [← e3.2, ← e4, ← str_inj e2]
      rfl
end

end K02
/-! text PlQR -/
set_option Elab.async false
set_option linter.all false
set_option maxRecDepth 100000
set_option maxHeartbeats 4000000
set_option exponentiation.threshold 5000
/-! PlQR: as PlQ, by an __init__ that is told by FnR (a star __init__ that may raise), where what is wished of the error hangs on the slots. -/
namespace Pl
open PySem PySem.Spec PyProof.Rows L2
section
variable {X : Cx} {CX : CXT} {k : Nat} {f C : Addr} {sp : Sp} {E : L2.St → XK} {x : Str} {p pos : Pos} {e : Expr} {es : List Expr} {t : TA}
theorem made_atR {pins : List (Addr × Obj)} {σ : L2.St} {G : Hp} {st : Shared} {Q : VK} {us : List Value} {zs : List V} (kit : Mk X.K C f) (ini : FnR X.prog X.w X.K X.mg X.base CX k f sp) (room : Room (k + 1) X.A)
    (out : PassesAt CX X σ (E σ)) (J : Inv X pins σ G st) (rel : Vals zs us)
    (wish : ∀ i d, G i = none → G d = none → d ≠ i → sp (.ref i :: zs) (upd (upd G d (.own i)) i (.ins C d [])) (fun v G2 => v = .non ∧ Q (.ref i) G2) (E σ)) :
    wpAny (model X.prog X.w) X.A (call (.ref C) us) (EP X pins σ Q) X.xe st := by
  have want := wish (st.heap.objs.size + 1) st.heap.objs.size (J.hok.fresh (Nat.le_succ _)) (J.hok.fresh (Nat.le_refl _)) (Nat.ne_of_lt (Nat.lt_succ_self _))
  have J2 := Inv.made (C := C) J
  have rel2 : Vals (V.ref (st.heap.objs.size + 1) :: zs) (Value.ref (st.heap.objs.size + 1) :: us) := .cons rfl rel
  refine wpAny_call (make_map (f := f) J.kIn kit.makes kit.init (beq_iff_eq.mp kit.fn) (codeAny_mono (ini _ X.stack _ _ (Value.ref (st.heap.objs.size + 1) :: us) _ _ (E σ)
    (room.make C us []) (J2.env0.make C us []) rel2 want) fun flow s2 end_ => ?_))
  match flow, end_ with
  | .error u, end_ => exact out pins _ _ u s2 J2 end_
  | .ok (.ret u), end_ =>
    obtain ⟨v, G2, J3, rv, hv, q⟩ := J2.after end_
    subst hv
    exact ⟨rv, ⟨.ref (st.heap.objs.size + 1), G2, J3, rfl, q⟩⟩
  | .ok .next, end_ => exact False.elim end_
  | .ok .brk, end_ => exact False.elim end_
  | .ok .cont, end_ => exact False.elim end_
theorem pe_makeSR (kit : Mk X.K C f) (ini : FnR X.prog X.w X.K X.mg X.base CX k f sp) (room : Room (k + 1) X.A) (hg : Gl X x) (hm : X.mg x = some (.ref C)) (out : ∀ σ, PassesAt CX X σ (E σ))
    (ha : PA X (e :: es) t) (hdb : (x == ("__debug__" : Str)) = false := by decide) (he : starEach (e :: es) X.env = (false, eval e X.env) :: starEach es X.env := by rfl) (hpl : (backTo pos (starEach es X.env)).any (·.1) = false := by rfl) :
    PE X (.Call (.Name x p) (e :: es) [] pos) (tMakeS C sp E t) := ⟨fun pins st σ G Q J h =>
  wpAny_Call_Name_kw (ld_glob J hg hm (PySem.W.callWith_K (h₀ := X.base) J.ok.mod.kin kit.kp (thn (ha.run pos pins st σ G _ J h) fun us s1 z => by
    obtain ⟨zs, G1, J1, rel, q⟩ := z
    exact ⟨J1.kIn, made_atR kit ini room (out σ) J1 rel q⟩) he hpl) hdb)⟩
/-- C(): no argument -/
theorem pe_makeSR0 (kit : Mk X.K C f) (ini : FnR X.prog X.w X.K X.mg X.base CX k f sp) (room : Room (k + 1) X.A) (hg : Gl X x) (hm : X.mg x = some (.ref C)) (out : ∀ σ, PassesAt CX X σ (E σ))
    (hdb : (x == ("__debug__" : Str)) = false := by decide) :
    PE X (.Call (.Name x p) [] [] pos) (tMakeS C sp E tNil) := ⟨fun pins st σ G Q J h =>
  wpAny_Call_Name_kw (ld_glob J hg hm (PySem.W.callWith_K0 J.kIn kit.kp (made_atR kit ini room (out σ) J .nil h)) hdb)⟩
end
end Pl
/-! text PlMR -/
set_option Elab.async false
set_option linter.all false
set_option maxRecDepth 100000
set_option maxHeartbeats 4000000
set_option exponentiation.threshold 5000
/-! PlMR: instances from data by a star __init__ (its one argument is the tuple of the call's arguments), as PlM. -/
namespace Pl
open PySem PySem.Spec PyProof.Rows L2
/-- an __init__(self, *xs) whose body keeps sp -/
def spStar1 (sp : Sp) : Sp := fun vs H Q E => ∃ ws rest, vs = ws ++ rest ∧ ws.length = (["self"] : List Str).length ∧ rest.length ≤ sizeLine ∧ ∀ p, H p = Option.none → sp (ws ++ [V.ref p]) (upd H p (.tup rest)) Q E
section
variable {K : PySem.W.Frag} {s c C : Addr} {ρ : List Sl} {n n1 n2 : Nat} {ks : List Str} {pre : Addr → Addr → List D → Prop} {val : List D → List D → Prop} {bad : List D → Addr → Str → D → Prop} {t : TA} {ds : List D}
theorem star_at {M0 : List Addr} {H0 : Hp} {O : List Addr} {σ : L2.St} {H1 : Hp} {ws : List V} {Q : V → Hp → Prop} {E : XK} {x dx : Addr} (J : Ok K s c M0 H0 O ρ n1 σ H1) (hn : n1 ≤ 2 ^ 40) (few : ds.length ≤ sizeLine) (rl : RepL K (O ++ M0) H1 ds ws) (hp : pre s c [.tup ds]) (nx : H1 x = none) (nd : H1 dx = none) (ne : dx ≠ x)
    (good : ∀ l H', val [.tup ds] l → Gr [s, c] H1 H' → Src s c n1 H' → Rep K (O ++ M0) H' (.ins C ks l) (.ref x) → Q (.ref x) H')
    (err : ∀ CE nm e d H' v, bad [.tup ds] CE nm e → Gr [s, c] H1 H' → Src s c n1 H' → H' d = none → Rep K (O ++ M0) H' e v → E (.ref CE) (some d) (upd H' d (.xd [(nm, v)]))) :
    spStar1 (PrC K C ks pre val bad) (.ref x :: ws) (upd (upd H1 dx (.own x)) x (.ins C dx [])) (fun v H2 => v = .non ∧ Q (.ref x) H2) E := by
  refine ⟨[.ref x], ws, rfl, rfl, by rw [← rl.length]; exact few, fun p np => ?_⟩
  have nx' : upd H1 dx (.own x) x = none := by rw [upd_ne (Ne.symm ne)]; exact nx
  have G0 : Gr (x :: (O ++ M0)) H1 (upd (upd H1 dx (.own x)) x (.ins C dx [])) := (Gr.new nd).trans (Gr.new nx')
  have G1 : Gr (x :: (O ++ M0)) H1 (upd (upd (upd H1 dx (.own x)) x (.ins C dx [])) p (.tup ws)) := G0.trans (Gr.new np)
  have px : x ≠ p := fun z => by
    subst z
    rw [upd_same] at np
    cases np
  have xs : x ≠ s := fun z => by
    obtain ⟨o, e⟩ := J.src.s_some
    rw [← z, nx] at e
    cases e
  have xc : x ≠ c := fun z => by
    obtain ⟨o, e⟩ := J.src.c_some
    rw [← z, nx] at e
    cases e
  refine ⟨x, dx, s, c, x :: (O ++ M0), n1, [.ref p], [.tup ds], rfl, ⟨List.mem_cons_of_mem _ (List.mem_append_right _ J.ms.1), List.mem_cons_of_mem _ (List.mem_append_right _ J.ms.2)⟩, List.mem_cons_self, xs, xc, fun b hb => ?_, ((J.src.new nd).new nx').new np, hn, by rw [upd_ne px]; exact upd_same, ⟨⟨p, ws, rfl, .inl (.inl upd_same), (rl.apart nx).gr G1⟩, trivial⟩, hp,
    fun l H' fs hv g sr hi hk r => ⟨rfl, good l H' hv (gr_made nd nx ((Gr.new np).trans g)) sr ⟨x, dx, fs, rfl, J.new_out nx, hi, hk, r.mono fun b hb => List.mem_cons_of_mem _ hb⟩⟩,
    fun CE nm e d H' v hb g sr hd r => err CE nm e d H' v hb (gr_made nd nx ((Gr.new np).trans g)) sr hd (r.mono fun b hb => List.mem_cons_of_mem _ hb)⟩
  by_cases e : b = x
  · rw [e, upd_ne px]; exact ⟨_, upd_same⟩
  · rcases List.mem_cons.mp hb with z | z
    · exact absurd z e
    · obtain ⟨o, he⟩ := J.thereA b z
      have hb2 : upd (upd H1 dx (.own x)) x (.ins C dx []) b = some o := by rw [upd_ne e, upd_ne (ne_of_none he nd)]; exact he
      exact ⟨o, by rw [upd_ne (ne_of_none hb2 np)]; exact hb2⟩
/-- try: x = C(..) except E as y: suite, by a star __init__ -/
theorem s_tryStar {D : Pn} {cE : Value} {i j : Nat} {ts : Addr → Value → Option Addr → TS} {Wout : WX} (ha : EvA K s c t ρ n n1 (fun l => l = ds)) (hn : n1 ≤ 2 ^ 40) (few : ds.length ≤ sizeLine) (hp : pre s c [.tup ds]) (oj : isOw ρ[j]? = false) (oi : isOw ρ[i]? = false)
    (good : ∀ l, val [.tup ds] l → D.nx (ρ.set j (.va (.ins C ks l))) n1)
    (err : ∀ CE nm e, bad [.tup ds] CE nm e → PySem.W.exmOne K (.ref CE) cE = some true ∧ ∀ x d, EvS K s c (ts x (.ref CE) (some d)) (ρ.set i (.va (.obj x))) n1 ⟨fun ρ' m => isOw ρ'[i]? = false ∧ D.nx (ρ'.set i .no) m, D.rt, fun _ _ => False, fun _ _ => False⟩) :
    EvS K s c (fun Dn σ H => tAsg (tMakeS C (spStar1 (PrC K C ks pre val bad)) (WE (wAs K cE i ts Wout Dn)) t) (gName j) Dn σ H) ρ n D := fun M0 H0 O σ H Dn I G =>
  ha M0 H0 O σ H _ I fun vs H1 l g1 s1 rl e => by
    subst e
    intro x dx nx nd ne
    have J := I.next g1 s1
    refine star_at (Q := fun v H' => gName j v σ H' Dn.nx) J hn few rl hp nx nd ne (fun m H' hv g sr r => ?_) fun CE nm e d H' v hb g sr hd r => ?_
    · exact eg_name oj M0 H0 O n1 σ H' (.ref x) _ (J.next g sr) r fun σ2 J2 _ => G.nx O _ n1 σ2 H' J2 (good m hv)
    · obtain ⟨ex, suite⟩ := err CE nm e hb
      refine ⟨true, ex, fun _ a ha' => ?_, fun q => nomatch q⟩
      have J3 := (J.next g sr).next (Gr.new (o := .xd [(nm, v)]) hd) (sr.new hd)
      refine eg_name (d := .obj a) oi M0 H0 O n1 σ _ (.ref a) (fun σ' H'' => ts a (.ref CE) (some d) { nx := fun σ' H' => Dn.nx (σ'.set i none) H', rt := Dn.rt, bk := fun σ' H' => Dn.bk (σ'.set i none) H', ct := fun σ' H' => Dn.ct (σ'.set i none) H' } σ' H'') J3 rfl fun σ2 J4 _ => ?_
      refine suite a d M0 H0 O σ2 _ _ J4 ⟨fun O' ρ' n' σ' H'' J5 q => ?_, G.rt, fun _ _ _ _ _ _ q => q.elim, fun _ _ _ _ _ _ q => q.elim⟩
      exact G.nx O' _ n' _ H'' ⟨J5.ms, J5.tr, J5.src, J5.gr, J5.fr, J5.nd, J5.sl.off q.1⟩ q.2
end
end Pl
/-! text PlPF -/
set_option Elab.async false
set_option linter.all false
set_option maxRecDepth 100000
set_option maxHeartbeats 4000000
set_option exponentiation.threshold 5000
/-! PlPF: as PlP, PlP2, where the error that may leave has one field. -/
namespace Pl
open PySem PySem.Spec PyProof.Rows L2
/-- from the data of the arguments: a value, or an error with one field -/
def PrF (K : PySem.W.Frag) (pre : Addr → Addr → List D → Prop) (k : Nat) (val : List D → D → Prop) (bad : List D → Addr → Str → D → Prop) : Sp := fun vs H Q E => ∃ s c M n ds, s ∈ M ∧ c ∈ M ∧ (∀ a ∈ M, ∃ o, H a = some o) ∧ Src s c n H ∧ n + k ≤ 2 ^ 40 ∧ RepL K M H ds vs ∧ pre s c ds ∧
  (∀ v H' d, Gr [s, c] H H' → Src s c (n + k) H' → Rep K M H' d v → val ds d → Q v H') ∧ (∀ CE nm e d H' v, bad ds CE nm e → Gr [s, c] H H' → Src s c (n + k) H' → H' d = none → Rep K M H' e v → E (.ref CE) (some d) (upd H' d (.xd [(nm, v)])))
/-- a statement, from which an error with a field may leave -/
def EvSF (K : PySem.W.Frag) (s c : Addr) (E : XK) (R : Addr → Str → D → Nat → Prop) (ts : TS) (ρ : List Sl) (n : Nat) (D : Pn) : Prop := ∀ M0 H0 O σ H (Dn : Ends), Ok K s c M0 H0 O ρ n σ H → Go K s c M0 H0 D Dn →
  (∀ CE nm e d H' v n', R CE nm e n' → Gr [s, c] H0 H' → Src s c n' H' → H' d = none → Rep K M0 H' e v → E (.ref CE) (some d) (upd H' d (.xd [(nm, v)]))) → ts Dn σ H
section
variable {K : PySem.W.Frag} {s c : Addr} {E : XK} {R : Addr → Str → D → Nat → Prop} {ρ : List Sl} {n n1 n2 : Nat} {t u : TS} {D : Pn}
theorem EvS.f (h : EvS K s c t ρ n D) : EvSF K s c E R t ρ n D := fun M0 H0 O σ H Dn I G _ => h M0 H0 O σ H Dn I G
theorem sf_seq {N : List Sl → Nat → Prop} (h : EvSF K s c E R t ρ n { D with nx := N }) (hu : ∀ ρ1 n1, N ρ1 n1 → EvSF K s c E R u ρ1 n1 D) : EvSF K s c E R (tSeq t u) ρ n D := fun M0 H0 O σ H Dn I G w =>
  h M0 H0 O σ H _ I (G.nx' fun O' ρ' n' σ' H' J q => hu ρ' n' q M0 H0 O' σ' H' Dn J G w) w
theorem sf_if {tt : TT} {b : Bool} (h : EvT K s c tt ρ n n1 (fun x => x = b)) (h1 : b = true → EvSF K s c E R t ρ n1 D) (h2 : b = false → EvSF K s c E R u ρ n1 D) : EvSF K s c E R (tIfS tt t u) ρ n D := fun M0 H0 O σ H Dn I G w =>
  h M0 H0 O σ H _ I fun x H1 g1 s1 e => by
    subst e
    have J := (I.next g1 s1)
    cases x with
    | true => exact h1 rfl M0 H0 O σ H1 Dn J G w
    | false => exact h2 rfl M0 H0 O σ H1 Dn J G w
theorem body_okF {N : List Str} {t : TS} {pre : Addr → Addr → List Pl.D → Prop} {k : Nat} {val : List Pl.D → Pl.D → Prop} {bad : List Pl.D → Addr → Str → Pl.D → Prop} {vs : List V} {H : Hp} {Q : VK} {E : XK} (h : PrF K pre k val bad vs H Q E)
    (hb : ∀ s c n ds, n + k ≤ 2 ^ 40 → pre s c ds → EvSF K s c E (fun CE nm e m => m ≤ n + k ∧ bad ds CE nm e) t (slots N.length ds) n ⟨fun _ m => m ≤ n + k ∧ val ds .non, fun d m => m ≤ n + k ∧ val ds d, fun _ _ => False, fun _ _ => False⟩) : t { nx := fun _ H' => Q .non H', rt := Q } (L2.start N vs) H := by
  obtain ⟨s, c, M, n, ds, h1, h2, h3, h4, h5, h6, h7, good, err⟩ := h
  refine hb s c n ds h5 h7 M H [] (L2.start N vs) H _ ⟨⟨h1, h2⟩, fun a ha => .inr (.inr (h3 a ha)), h4, Gr.refl _ _, fun o ho => by simp at ho, List.nodup_nil, ?_⟩ ⟨fun O' ρ' m σ' H' J hp => ?_, fun v H' d m g hs r hp => good v H' d g (hs.mono hp.1) r hp.2, fun _ _ _ _ _ _ hp => hp.elim, fun _ _ _ _ _ _ hp => hp.elim⟩ fun CE nm e d H' v m hp g hs hd r => err CE nm e d H' v hp.2 g (hs.mono hp.1) hd r
  · unfold slots L2.start
    rw [h6.length]
    exact sl_start h6
  · exact good .non H' .non J.gr (J.src.mono hp.1) rfl hp.2
theorem prf_len {pre : Addr → Addr → List Pl.D → Prop} {k m : Nat} {val : List Pl.D → Pl.D → Prop} {bad : List Pl.D → Addr → Str → Pl.D → Prop} {vs : List V} {H : Hp} {Q : VK} (h : PrF K pre k val bad vs H Q E) (hp : ∀ s c ds, pre s c ds → ds.length = m) : vs.length = m := by
  obtain ⟨s, c, M, n, ds, _, _, _, _, _, rl, h7, _⟩ := h
  rw [← rl.length]
  exact hp s c ds h7
/-- return C(..), by a star __init__ that may raise -/
theorem sf_retStar {C : Addr} {ks : List Str} {pre : Addr → Addr → List Pl.D → Prop} {val : List Pl.D → List Pl.D → Prop} {bad : List Pl.D → Addr → Str → Pl.D → Prop} {ta : TA} {ds : List Pl.D} (ha : EvA K s c ta ρ n n1 (fun l => l = ds)) (hn : n1 ≤ 2 ^ 40) (few : ds.length ≤ sizeLine) (hp : pre s c [.tup ds]) (O0 : ∀ σ M H O, SlR K M H ρ σ O → O = [])
    (good : ∀ l, val [.tup ds] l → D.rt (.ins C ks l) n1) (err : ∀ CE nm e, bad [.tup ds] CE nm e → R CE nm e n1) :
    EvSF K s c E R (tRet (StX.tMakeR C (spStar1 (PrC K C ks pre val bad)) E ta)) ρ n D := fun M0 H0 O σ H Dn I G w =>
  ha M0 H0 O σ H _ I fun vs H1 l g1 s1 rl e => by
    subst e
    intro x dx nx nd ne
    have J := I.next g1 s1
    have z : O = [] := O0 _ _ _ _ J.sl
    subst z
    refine star_at (Q := Dn.rt) J hn few rl hp nx nd ne (fun m H' hv g sr r => ?_) fun CE nm e d H' v hb g sr hd r => ?_
    · exact G.rt (.ref x) H' _ n1 (J.gr.trans g) sr r (good m hv)
    · exact w CE nm e d H' v n1 (err CE nm e hb) (J.gr.trans g) sr hd r
end
end Pl
/-! text PlSt -/
set_option Elab.async false
set_option linter.all false
set_option maxRecDepth 100000
set_option maxHeartbeats 4000000
set_option exponentiation.threshold 5000
/-! PlSt: C(*y), an instance by a star call; return C(*y) over data. -/
namespace Pl
open PySem PySem.Spec PyProof.Rows L2
/-- C(*y) -/
def tMakeSt (K : PySem.W.Frag) (C : Addr) (sp : Sp) (E : L2.St → XK) (te : TE) : TE := fun σ H Q => te σ H fun y H1 => ∃ a xs, y = V.ref a ∧ (SqT K H1 a xs ∨ SqL K H1 a xs) ∧ ∀ i d, H1 i = none → H1 d = none → d ≠ i →
  sp (.ref i :: xs) (upd (upd H1 d (.own i)) i (.ins C d [])) (fun v G2 => v = .non ∧ Q (.ref i) G2) (E σ)
section
variable {X : Cx} {CX : CXT} {k : Nat} {f C : Addr} {sp : Sp} {E : L2.St → XK} {x : Str} {p pos sp_ : Pos} {e : Expr} {te : TE}
theorem pe_makeSt (kit : Mk X.K C f) (ini : FnR X.prog X.w X.K X.mg X.base CX k f sp) (room : Room (k + 1) X.A) (hg : Gl X x) (hm : X.mg x = some (.ref C)) (out : ∀ σ, PassesAt CX X σ (E σ))
    (he : PE X e te) (hd : (x == ("__debug__" : Str)) = false := by decide) (hst : starEach [.Starred e sp_] X.env = [(true, eval e X.env)] := by rfl) :
    PE X (.Call (.Name x p) [.Starred e sp_] [] pos) (tMakeSt X.K C sp E te) := by
  refine ⟨fun pins s σ H Q I h => ?_⟩
  refine wpAny_Call_Name_kw (ld_glob I hg hm ?_ hd)
  refine PySem.W.callWith_S (h₀ := X.base) I.ok.mod.kin kit.kp (thn (he.run pins s σ H _ I h) fun v s1 ⟨y, H1, I1, ry, a, xs, ey, hxs, q⟩ => ?_) hst
  subst ey
  obtain rfl : v = Value.ref a := ry
  exact StX.star_any I1 hxs fun us s2 I2 rv => ⟨I2.kIn, made_atR kit ini room (out σ) I2 rv q⟩
end
section
variable {K : PySem.W.Frag} {s c C : Addr} {E : XK} {R : Addr → Str → Pl.D → Nat → Prop} {ρ : List Sl} {n n1 : Nat} {D : Pn} {ks : List Str} {pre : Addr → Addr → List Pl.D → Prop} {val : List Pl.D → List Pl.D → Prop} {bad : List Pl.D → Addr → Str → Pl.D → Prop} {te : TE} {d : Pl.D} {ds : List Pl.D}
/-- return C(*y), by a star __init__ that may raise -/
theorem sf_retSt (he : EvE K s c te ρ n n1 (fun x => x = d)) (hs : seqD d = some ds) (hn : n1 ≤ 2 ^ 40) (few : ds.length ≤ sizeLine) (hp : pre s c [.tup ds]) (O0 : ∀ σ M H O, SlR K M H ρ σ O → O = [])
    (good : ∀ l, val [.tup ds] l → D.rt (.ins C ks l) n1) (err : ∀ CE nm e, bad [.tup ds] CE nm e → R CE nm e n1) :
    EvSF K s c E R (tRet (tMakeSt K C (spStar1 (PrC K C ks pre val bad)) (fun _ => E) te)) ρ n D := fun M0 H0 O σ H Dn I G w =>
  he M0 H0 O σ H _ I fun v H1 x g1 s1 r1 e => by
    subst e
    obtain ⟨l, xs, rfl, sq, rl⟩ := rep_seq hs r1
    refine ⟨l, xs, rfl, sq.symm, fun x dx nx nd ne => ?_⟩
    have J := I.next g1 s1
    have z : O = [] := O0 _ _ _ _ J.sl
    subst z
    refine star_at (Q := Dn.rt) J hn few rl hp nx nd ne (fun m H' hv g sr r => ?_) fun CE nm e d H' v hb g sr hd r => ?_
    · exact G.rt (.ref x) H' _ n1 (J.gr.trans g) sr r (good m hv)
    · exact w CE nm e d H' v n1 (err CE nm e hb) (J.gr.trans g) sr hd r
end
end Pl
/-! text PlTr -/
set_option Elab.async false
set_option linter.all false
set_option maxRecDepth 100000
set_option maxHeartbeats 4000000
set_option exponentiation.threshold 5000
/-! PlTr: a def of PrF (a value, or an error with one field) called in a try. -/
namespace Pl
open PySem PySem.Spec PyProof.Rows L2
section
variable {K : PySem.W.Frag} {s c : Addr} {ρ : List Sl} {n n1 : Nat} {k : Nat} {pre : Addr → Addr → List D → Prop} {val : List D → D → Prop} {bad : List D → Addr → Str → D → Prop} {t : TA} {ds : List D}
theorem prf_at {M0 : List Addr} {H0 : Hp} {O : List Addr} {σ : L2.St} {H1 : Hp} {ws : List V} {Q : VK} {E : XK} (J : Ok K s c M0 H0 O ρ n1 σ H1) (hn : n1 + k ≤ 2 ^ 40) (rl : RepL K (O ++ M0) H1 ds ws) (hp : pre s c ds)
    (good : ∀ v H' d, Gr [s, c] H1 H' → Src s c (n1 + k) H' → Rep K (O ++ M0) H' d v → val ds d → Q v H')
    (err : ∀ CE nm e d H' v, bad ds CE nm e → Gr [s, c] H1 H' → Src s c (n1 + k) H' → H' d = none → Rep K (O ++ M0) H' e v → E (.ref CE) (some d) (upd H' d (.xd [(nm, v)]))) :
    PrF K pre k val bad ws H1 Q E :=
  ⟨s, c, O ++ M0, n1, ds, List.mem_append_right _ J.ms.1, List.mem_append_right _ J.ms.2, J.thereA, J.src, hn, rl, hp, good, err⟩
/-- try: f(..) except E as y: suite -/
theorem s_tryCall {D : Pn} {cE : Value} {i : Nat} {ts : Addr → Value → Option Addr → TS} {Wout : WX} (ha : EvA K s c t ρ n n1 (fun l => l = ds)) (hn : n1 + k ≤ 2 ^ 40) (hp : pre s c ds) (oi : isOw ρ[i]? = false)
    (good : ∀ d, val ds d → D.nx ρ (n1 + k))
    (err : ∀ CE nm e, bad ds CE nm e → PySem.W.exmOne K (.ref CE) cE = some true ∧ ∀ x d, EvS K s c (ts x (.ref CE) (some d)) (ρ.set i (.va (.obj x))) (n1 + k) ⟨fun ρ' m => isOw ρ'[i]? = false ∧ D.nx (ρ'.set i .no) m, D.rt, fun _ _ => False, fun _ _ => False⟩) :
    EvS K s c (fun Dn σ H => tDrop (tCallS (PrF K pre k val bad) (WE (wAs K cE i ts Wout Dn)) t) Dn σ H) ρ n D := fun M0 H0 O σ H Dn I G =>
  ha M0 H0 O σ H _ I fun vs H1 l g1 s1 rl e => by
    subst e
    have J := I.next g1 s1
    refine prf_at (Q := fun _ H' => Dn.nx σ H') J hn rl hp (fun v H' d g sr r hv => ?_) fun CE nm e d H' v hb g sr hd r => ?_
    · exact G.nx O _ _ σ H' (J.next g sr) (good d hv)
    · obtain ⟨ex, suite⟩ := err CE nm e hb
      refine ⟨true, ex, fun _ a ha' => ?_, fun q => nomatch q⟩
      have J3 := (J.next g sr).next (Gr.new (o := .xd [(nm, v)]) hd) (sr.new hd)
      refine eg_name (d := .obj a) oi M0 H0 O _ σ _ (.ref a) (fun σ' H'' => ts a (.ref CE) (some d) { nx := fun σ' H' => Dn.nx (σ'.set i none) H', rt := Dn.rt, bk := fun σ' H' => Dn.bk (σ'.set i none) H', ct := fun σ' H' => Dn.ct (σ'.set i none) H' } σ' H'') J3 rfl fun σ2 J4 _ => ?_
      refine suite a d M0 H0 O σ2 _ _ J4 ⟨fun O' ρ' n' σ' H'' J5 q => ?_, G.rt, fun _ _ _ _ _ _ q => q.elim, fun _ _ _ _ _ _ q => q.elim⟩
      exact G.nx O' _ n' _ H'' ⟨J5.ms, J5.tr, J5.src, J5.gr, J5.fr, J5.nd, J5.sl.off q.1⟩ q.2
end
end Pl
/-! text PlTx -/
set_option Elab.async false
set_option linter.all false
set_option maxRecDepth 100000
set_option maxHeartbeats 4000000
set_option exponentiation.threshold 5000
/-! PlTx: the signs of parts of a text are signs of the text. -/
namespace Pl
open PySem PySem.Spec PyProof.Rows L2
def SubT (a x : Str) : Prop := ∀ q ∈ TL.tl a, q ∈ TL.tl x
theorem SubT.trans {a b x : Str} (h : SubT a b) (k : SubT b x) : SubT a x := fun q hq => k q (h q hq)
theorem SubT.ok {a x : Str} (h : SubT a x) (k : PyData.strOk x = true) : PyData.strOk a = true := by
  unfold PyData.strOk at k ⊢
  rw [← Array.all_toList, List.all_eq_true] at k ⊢
  exact fun q hq => k q (h q hq)
theorem sub_sub (x : Str) (i j : Nat) : SubT (PySem.Builtin.Str.strSub x i j) x := fun q hq => by
  rw [TL.tl_strSub] at hq
  exact List.mem_of_mem_drop (List.mem_of_mem_take hq)
theorem sub_strip (x : Str) : SubT (Txt.strip x) x := by
  unfold Txt.strip Txt.stripBy
  split
  · exact fun q hq => hq
  · unfold PySem.stripped
    exact sub_sub x _ _
theorem sub_part (x y : Str) : SubT (Txt.partition x y).1 x ∧ SubT (Txt.partition x y).2.2 x := by
  unfold Txt.partition
  split
  · exact ⟨sub_sub x _ _, sub_sub x _ _⟩
  · exact ⟨fun q hq => hq, fun q hq => by cases hq⟩
theorem wfin_mem : ∀ (l : List Nat) (st : List (List Nat) × List Nat) (p : List Nat) (q : Nat), p ∈ TL.wfin (l.foldl TL.wstep st) → q ∈ p → q ∈ l ∨ (∃ w ∈ st.1, q ∈ w) ∨ q ∈ st.2
  | [], st, p, q, hp, hq => by
    have hp : p ∈ TL.wfin st := hp
    unfold TL.wfin at hp
    split at hp
    · exact .inr (.inl ⟨p, hp, hq⟩)
    · rcases List.mem_append.mp hp with h | h
      · exact .inr (.inl ⟨p, h, hq⟩)
      · rw [List.mem_singleton.mp h] at hq
        exact .inr (.inr hq)
  | c :: l, st, p, q, hp, hq => by
    rw [List.foldl_cons] at hp
    rcases wfin_mem l _ p q hp hq with h | ⟨w, h1, h2⟩ | h
    · exact .inl (List.mem_cons_of_mem _ h)
    · unfold TL.wstep at h1
      split at h1
      · split at h1
        · exact .inr (.inl ⟨w, h1, h2⟩)
        · rcases List.mem_append.mp h1 with h | h
          · exact .inr (.inl ⟨w, h, h2⟩)
          · rw [List.mem_singleton.mp h] at h2
            exact .inr (.inr h2)
      · exact .inr (.inl ⟨w, h1, h2⟩)
    · unfold TL.wstep at h
      split at h
      · split at h
        · exact .inr (.inr h)
        · cases h
      · rcases List.mem_append.mp h with h | h
        · exact .inr (.inr h)
        · rw [List.mem_singleton.mp h]
          exact .inl List.mem_cons_self
theorem sub_words {x a : Str} (h : a ∈ Txt.words x) : SubT a x := fun q hq => by
  have e : TL.tl a ∈ (Txt.words x).map TL.tl := List.mem_map.mpr ⟨a, h, rfl⟩
  rw [TL.words_tl] at e
  rcases wfin_mem _ _ _ q e hq with h | ⟨w, h1, _⟩ | h
  · exact h
  · cases h1
  · cases h
theorem spl_mem (S : List Nat) : ∀ (l : List Nat) (k : Nat) (acc p : List Nat) (q : Nat), p ∈ TL.spl S k acc l → q ∈ p → q ∈ l ∨ q ∈ acc
  | [], k, acc, p, q, hp, hq => by
    rw [TL.spl_nil, List.mem_singleton] at hp
    rw [hp] at hq
    exact .inr hq
  | c :: l, 0, acc, p, q, hp, hq => by
    cases h : TL.pre S (c :: l) with
    | true =>
      rw [TL.spl_hit h] at hp
      rcases List.mem_cons.mp hp with e | hp
      · rw [e] at hq; exact .inr hq
      · rcases spl_mem S l _ _ p q hp hq with h | h
        · exact .inl (List.mem_cons_of_mem _ h)
        · cases h
    | false =>
      rw [TL.spl_miss h] at hp
      rcases spl_mem S l _ _ p q hp hq with h | h
      · exact .inl (List.mem_cons_of_mem _ h)
      · rcases List.mem_append.mp h with h | h
        · exact .inr h
        · rw [List.mem_singleton.mp h]
          exact .inl List.mem_cons_self
  | c :: l, k + 1, acc, p, q, hp, hq => by
    rcases spl_mem S l k acc p q hp hq with h | h
    · exact .inl (List.mem_cons_of_mem _ h)
    · exact .inr h
theorem sub_split {x y a : Str} (hy : TL.tl y ≠ []) (hk : y.cps.all (· < 256) = true) (h : a ∈ Txt.split x y) : SubT a x := fun q hq => by
  have e : TL.tl a ∈ (Txt.split x y).map TL.tl := List.mem_map.mpr ⟨a, h, rfl⟩
  rw [TL.split_spl x y hy (TL.kind_ok hk)] at e
  rcases spl_mem _ _ _ _ _ q e hq with h | h
  · exact h
  · cases h
end Pl
/-! text PlWh -/
set_option Elab.async false
set_option linter.all false
set_option maxRecDepth 100000
set_option maxHeartbeats 4000000
set_option exponentiation.threshold 5000
/-! PlWh: while; slices of texts; x[i] = .. of an own list. -/
namespace Pl
open PySem PySem.Spec PyProof.Rows L2
theorem RepL.set {K : PySem.W.Frag} {M : List Addr} {H : Hp} {d : D} {v : V} (rd : Rep K M H d v) : ∀ {ds : List D} {vs : List V} {m : Nat}, RepL K M H ds vs → RepL K M H (ds.set m d) (vs.set m v)
  | [], [], _, _ => trivial
  | _ :: _, _ :: _, 0, h => ⟨rd, h.2⟩
  | _ :: _, _ :: _, m + 1, h => ⟨h.1, RepL.set rd h.2⟩
  | [], _ :: _, _, h => h.elim
  | _ :: _, [], _, h => h.elim
section
variable {K : PySem.W.Frag} {s c : Addr} {ρ : List Sl} {n n1 n2 n3 : Nat} {te ti : TE} {P : D → Prop}
/-- z[lo:hi] -/
theorem ev_slZ {to tu : TO} {z : Str} {lo hi : Option Int} (hz : z.length ≤ sizeLine) (h : EvE K s c te ρ n n1 (fun d => d = .str z)) (hl : EvO K s c to ρ n1 n2 lo) (hh : EvO K s c tu ρ n2 n3 hi) : EvE K s c (tSl (rSlAny K) te to tu) ρ n n3 (fun d => d = .str (cutS z lo hi)) := fun M0 H0 O σ H Q I k =>
  h M0 H0 O σ H _ I fun v H1 d g1 s1 r1 p1 => hl M0 H0 O σ H1 _ (I.next g1 s1) fun H2 g2 s2 => hh M0 H0 O σ H2 _ ((I.next g1 s1).next g2 s2) fun H3 g3 s3 => by
    subst p1
    have r1 : v = .str z := r1
    subst r1
    exact .inr (.inr ⟨z, rfl, hz, k (.str _) H3 (.str _) ((g1.trans g2).trans g3) s3 rfl rfl⟩)
/-- x[i] = e of an own list -/
theorem s_putL {i : Nat} {l : List D} {D : Pn} {j : Int} {m : Nat} (e : ρ[i]? = some (.ow l)) (h : EvE K s c te ρ n n1 P) (hi : EvE K s c ti ρ n1 n2 (fun d => d = .int j)) (hj : ixN l.length j = some m) (k : ∀ d, P d → D.nx (ρ.set i (.ow (l.set m d))) n2) :
    EvS K s c (tAsg te (gSub (tVar i) ti rSetL)) ρ n D := fun M0 H0 O σ H Dn I G =>
  h M0 H0 O σ H _ I fun v H1 d g s1 r1 p1 => by
    have I1 := I.next g s1
    obtain ⟨p, xs, hp, e2, hx, r⟩ := I1.sl.own e
    refine ⟨.ref p, e2, hi M0 H0 O σ H1 _ I1 fun u H2 d2 g2 s2 r2 p2 => ?_⟩
    subst p2
    have r2 : u = .int j := r2
    subst r2
    have J := I1.next g2 s2
    have hx2 : H2 p = some (.lst xs) := g2 p _ hx (.inl (not_two (I.fr p hp).2.1 (I.fr p hp).2.2))
    have rr := r.gr (g2.mono I.sub)
    have rd := r1.gr (g2.mono I.sub)
    refine ⟨p, xs, j, m, rfl, rfl, hx2, by rw [← r.length]; exact hj, ?_⟩
    exact G.nx O _ n2 σ _ (J.put e e2 hp (RepL.set rd rr)) (k d p1)
/-- -i -/
theorem ev_neg {i : Int} (h : EvE K s c te ρ n n1 (fun d => d = .int i)) : EvE K s c (tUn (rU fun i => .int (-i)) te) ρ n n1 (fun d => d = .int (-i)) := fun M0 H0 O σ H Q I k =>
  h M0 H0 O σ H _ I fun v H1 d g s1 r p => by
    subst p
    have r : v = .int i := r
    subst r
    exact ⟨i, rfl, k (.int (-i)) H1 (.int (-i)) g s1 rfl rfl⟩
theorem sz {z : Str} (h : z.length ≤ 5000) : z.length ≤ sizeLine := by have := @small_s z (by omega); omega
/-- while -/
theorem s_while {tt : TT} {tb : TS} {D : Pn} (Inv : Nat → List Sl → Nat → Prop) {m0 : Nat} (h0 : Inv m0 ρ n)
    (hs : ∀ m ρ' k, Inv m ρ' k → ∃ k1 T, EvT K s c tt ρ' k k1 T ∧ (T true → EvS K s c tb ρ' k1 { D with nx := fun ρ2 k2 => ∃ m', m' < m ∧ Inv m' ρ2 k2, ct := fun ρ2 k2 => ∃ m', m' < m ∧ Inv m' ρ2 k2, bk := D.nx }) ∧ (T false → D.nx ρ' k1)) :
    EvS K s c (tWhile tt tb) ρ n D := fun M0 H0 O σ H Dn I G => by
  refine ⟨fun m σ' H' => ∃ O' ρ' k, Ok K s c M0 H0 O' ρ' k σ' H' ∧ Inv m ρ' k, ⟨m0, O, ρ, n, I, h0⟩, ?_⟩
  rintro m σ' H' ⟨O', ρ', k, J, inv⟩
  obtain ⟨k1, T, et, h1, h2⟩ := hs m ρ' k inv
  refine et M0 H0 O' σ' H' _ J fun b H1 g s1 t => ?_
  have J1 := J.next g s1
  cases b with
  | true =>
    rw [if_pos rfl]
    refine ⟨fun σ2 H2 => ∃ m', m' < m ∧ ∃ O2 ρ2 k2, Ok K s c M0 H0 O2 ρ2 k2 σ2 H2 ∧ Inv m' ρ2 k2, fun σ2 H2 q => q, ?_⟩
    exact h1 t M0 H0 O' σ' H1 _ J1 ⟨fun O3 ρ3 m3 σ3 H3 J4 ⟨m', hm, q⟩ => ⟨m', hm, O3, ρ3, m3, J4, q⟩, G.rt, G.nx, fun O3 ρ3 m3 σ3 H3 J4 ⟨m', hm, q⟩ => ⟨m', hm, O3, ρ3, m3, J4, q⟩⟩
  | false =>
    rw [if_neg Bool.false_ne_true]
    exact G.nx O' ρ' k1 σ' H1 J1 (h2 t)
end
end Pl
/-! text PlBo -/
set_option Elab.async false
set_option linter.all false
set_option maxRecDepth 100000
set_option maxHeartbeats 4000000
/-! PlBo: x op y, both own instances of one class with a def for op. -/
namespace Pl
open PySem PySem.Spec PySem.Calls PySem.W PyProof.Rows
section
variable {prog : Program} {w : World} {A : Around} {E : Value → Shared → Prop} {s : Shared} {K : PySem.W.Frag} {x y C f : Addr} {ox oy : Obj} {od od' : Option Obj}
theorem bin_own {op : Operator} {Q : Value → Shared → Prop} (X : K.In s.heap) (I : InstAt s.heap x ox C od) (J : InstAt s.heap y oy C od') (hc : selfFirst K C = true)
    (hs : findIn K (.ref C) (PySem.dunder op.info.2) = some (some (.ref f))) (hf : isFn K (.ref f) = true)
    (h : wpAny (model prog w) A (call (.ref f) [.ref x, .ref y]) (PySem.W.CmpBack Q) E s) : wpAny (model prog w) A (binaryOp op (.ref x) (.ref y)) Q E s := by
  obtain ⟨cd, rest, hcd, hm⟩ := ksp_first hc
  rcases hi : op.info with ⟨sym, nm'⟩
  rw [hi] at hs
  dsimp only at hs
  have one := ksp_try X I hs hf h
  obtain ⟨hh, g, d, tt, os⟩ := s
  have L1 : Looks (model prog w) hh (typeOf (.ref x)) (.ref C) := I.type
  have L2 : Looks (model prog w) hh (typeOf (.ref y)) (.ref C) := J.type
  have L3 : Looks (model prog w) hh (fillsNumberSlot (.ref C) nm') true := fills_K X hcd hm hs
  simp only [binaryOp, hi]
  refine wpAny_holding (wpAny_bind ?_)
  unfold binaryOp1
  refine wpAny_bind (L1.at (wpAny_bind (L2.at (wpAny_bind (L3.at ?_)))))
  simp only [beq_self_eq_true, if_true]
  ksp_lk
  refine wpAny_mono one (fun r s' hr' => ?_) fun _ _ e => e
  obtain ⟨v, rfl, hq⟩ := hr'
  ksp_lk
  exact hq
end
end Pl
/-! text PlBo2 -/
set_option Elab.async false
set_option linter.all false
set_option maxRecDepth 100000
set_option maxHeartbeats 4000000
/-! PlBo2: x op y of two own instances of one class, whose def may raise (what is wished of the error hangs on the slots). -/
namespace Pl
open PySem PySem.Spec PyProof.Rows L2
def tBinS (C : Addr) (sp : Sp) (E : L2.St → XK) (ta tb : TE) : TE := fun σ H Q => ta σ H fun x H1 => tb σ H1 fun y H2 => ∃ a dx fs b dy gs, x = .ref a ∧ H2 a = some (.ins C dx fs) ∧ y = .ref b ∧ H2 b = some (.ins C dy gs) ∧
  sp [x, y] H2 (fun v H3 => ∃ p, v = .ref p ∧ Q (.ref p) H3) (E σ)
section
variable {X : Cx} {CX' : CXT} {k : Nat} {f C : Addr} {fd : FuncData} {ps : List Str} {sp : Sp} {E : L2.St → XK} {ea eb : Expr} {op : Operator} {pos : Pos} {ta tb : TE}
theorem pe_binS (ha : PE X ea ta) (hb : PE X eb tb) (F : FnOk X.prog X.w X.K X.mg X.base CX' k f fd ps sp) (room : Room k X.A) (first : PySem.W.selfFirst X.K C = true) (has : PySem.W.findIn X.K (.ref C) (PySem.dunder op.info.2) = some (some (.ref f))) (hf : PySem.W.isFn X.K (.ref f) = true)
    (bnd : Binds X.K fd ps []) (out : ∀ σ, PassesAt CX' X σ (E σ)) : PE X (.BinOp ea op eb pos) (tBinS C sp E ta tb) := by
  refine ⟨fun pins st σ G Q J h => ?_⟩
  refine wpAny_BinOp (binT ha hb J h fun v u s2 x y G2 J2 rx ry z => ?_)
  obtain ⟨a, dx, fs, b, dy, gs, rfl, ia, rfl, ib, wish⟩ := z
  obtain rfl : v = .ref a := rx
  obtain rfl : u = .ref b := ry
  obtain ⟨mA, Oa, _⟩ := ins_get J2.hok ia
  obtain ⟨oda, insta, _⟩ := Oa.look
  obtain ⟨mB, Ob, _⟩ := ins_get J2.hok ib
  obtain ⟨odb, instb, _⟩ := Ob.look
  refine bin_own J2.kIn insta instb first has hf (wpAny_mono (wpAny_call (run_at (us := [.ref a, .ref b]) (vs := [.ref a, .ref b]) F room bnd (out σ) J2 (.cons rfl (.cons rfl .nil)) wish)) (fun r s3 z => ?_) fun _ _ z => z)
  obtain ⟨w3, G3, J3, r3, p, rfl, q⟩ := z
  obtain rfl : r = .ref p := r3
  exact ⟨.ref p, G3, J3, rfl, q⟩
end
end Pl
/-! text PlLn -/
set_option Elab.async false
set_option linter.all false
set_option maxRecDepth 100000
set_option maxHeartbeats 4000000
/-! PlLn: != of a list and one of another length, whatever stands in them. -/
namespace Pl
open PySem PySem.Spec PyProof.Rows L2
def rNeLen (K : PySem.W.Frag) : R2 := fun x y H Q => ∃ a b xs ys, x = .ref a ∧ y = .ref b ∧ SqL K H a xs ∧ SqL K H b ys ∧ xs.length ≠ ys.length ∧ Q (.bl true) H
theorem op_neLen {X : Cx} (hu : X.A.units + 64 < cLine) : OpR X (compareOp .NotEq) (rNeLen X.K) := by
  intro pins s σ H x y v u Q I rx ry h
  obtain ⟨a, b, xs, ys, rfl, rfl, ha, hb, hl, q⟩ := h
  obtain rfl : v = .ref a := rx
  obtain rfl : u = .ref b := ry
  obtain ⟨us, r1, p1, _⟩ := I.list ha
  obtain ⟨ws, r2, p2, _⟩ := I.list hb
  have hsz : (us.toArray.size != ws.toArray.size) = true := by
    rw [List.size_toArray, List.size_toArray, ← r1.length, ← r2.length]
    simp [hl]
  obtain ⟨⟨cls, dd, data, sl⟩, ho, hc, n, hd⟩ := id p1.isList
  obtain ⟨⟨cls2, dd2, data2, sl2⟩, ho2, hc2, n2, hd2⟩ := id p2.isList
  simp only at hc hd hc2 hd2
  subst hc hd hc2 hd2
  have ta : s.TypeIs (.ref a) "list" := ⟨_, ho, rfl⟩
  have tb : s.TypeIs (.ref b) "list" := ⟨_, ho2, rfl⟩
  show wpAny (model X.prog X.w) X.A (richCompare .NotEq (.ref a) (.ref b)) (EP X pins σ Q) X.xe s
  exact wpAny_richCompare_same_room (op := .NotEq) ta tb F.slot_list_ne (call_meets F.slot_list_ne ta F.entry_list_ne (F.args_list_ne_2 _ _) (SeqAt.list_ne_lengthsAt a b us.toArray ws.toArray n n2 dd dd2 sl sl2 hsz)
    ⟨ho, ho2, show Value.bool true ≠ Value.notImplemented ∧ EP X pins σ Q (.bool true) s from ⟨(fun x => nomatch x), .bl true, H, I, rfl, q⟩⟩) (by omega)
end Pl
/-! text PlPu -/
set_option Elab.async false
set_option linter.all false
set_option maxRecDepth 100000
set_option maxHeartbeats 4000000
set_option exponentiation.threshold 5000
/-! PlPu: x[i] = .. with a drawn i; instances from arguments that are told by a predicate; calls and operators that can't raise here; len by an own __len__. -/
namespace Pl
open PySem PySem.Spec PyProof.Rows L2
theorem takes_no {X : Cx} : Takes X fun _ _ _ _ => False := fun _ _ ⟨_, _, _, _, _, _, _, _, _, _, _, _, _, _, _, _, z⟩ => z.elim
section
variable {K : PySem.W.Frag} {s c : Addr} {ρ : List Sl} {n n1 n2 : Nat} {te ti : TE} {t : TA} {P PI : D → Prop} {A : List D → Prop}
/-- x[i] = e of an own list, i told by a predicate -/
theorem s_putP {i : Nat} {l : List D} {D : Pn} (e : ρ[i]? = some (.ow l)) (h : EvE K s c te ρ n n1 P) (hi : EvE K s c ti ρ n1 n2 PI) (k : ∀ d, P d → ∀ x, PI x → ∃ (j : Int) (m : Nat), x = .int j ∧ ixN l.length j = some m ∧ D.nx (ρ.set i (.ow (l.set m d))) n2) :
    EvS K s c (tAsg te (gSub (tVar i) ti rSetL)) ρ n D := fun M0 H0 O σ H Dn I G =>
  h M0 H0 O σ H _ I fun v H1 d g s1 r1 p1 => by
    have I1 := I.next g s1
    obtain ⟨p, xs, hp, e2, hx, r⟩ := I1.sl.own e
    refine ⟨.ref p, e2, hi M0 H0 O σ H1 _ I1 fun u H2 d2 g2 s2 r2 p2 => ?_⟩
    obtain ⟨j, m, rfl, hj, nx⟩ := k d p1 d2 p2
    have r2 : u = .int j := r2
    subst r2
    have J := I1.next g2 s2
    have hx2 : H2 p = some (.lst xs) := g2 p _ hx (.inl (not_two (I.fr p hp).2.1 (I.fr p hp).2.2))
    have rr := r.gr (g2.mono I.sub)
    have rd := r1.gr (g2.mono I.sub)
    refine ⟨p, xs, j, m, rfl, rfl, hx2, by rw [← r.length]; exact hj, ?_⟩
    exact G.nx O _ n2 σ _ (J.put e e2 hp (RepL.set rd rr)) nx
section
variable {C : Addr} {ks : List Str} {pre : Addr → Addr → List D → Prop} {val : List D → List D → Prop} {bad : List D → Addr → Str → D → Prop}
theorem ev_makeP {E : XK} (ha : EvA K s c t ρ n n1 A) (hn : n1 ≤ 2 ^ 40) (hp : ∀ l, A l → pre s c l) (hb : ∀ l, A l → ∀ CE nm e, ¬ bad l CE nm e) :
    EvE K s c (tMake C (PrC K C ks pre val bad) [] E t) ρ n n1 (fun d => ∃ l fs, A l ∧ val l fs ∧ d = .ins C ks fs) := fun M0 H0 O σ H Q I k =>
  ha M0 H0 O σ H _ I fun vs H1 l g1 s1 rl e => by
    intro x dx nx nd ne
    rw [List.append_nil]
    exact prc_at (I.next g1 s1) hn rl (hp l e) nx nd ne (fun m H' hv g sr r => k (.ref x) H' _ (g1.trans g) sr r ⟨l, m, e, hv, rfl⟩) fun CE nm e2 _ _ _ z => (hb l e CE nm e2 z).elim
theorem ev_makeStarP {E : L2.St → XK} (ha : EvA K s c t ρ n n1 A) (hn : n1 ≤ 2 ^ 40) (few : ∀ l, A l → l.length ≤ sizeLine) (hp : ∀ l, A l → pre s c [.tup l]) (hb : ∀ l, A l → ∀ CE nm e, ¬ bad [.tup l] CE nm e) :
    EvE K s c (tMakeS C (spStar1 (PrC K C ks pre val bad)) E t) ρ n n1 (fun d => ∃ l fs, A l ∧ val [.tup l] fs ∧ d = .ins C ks fs) := fun M0 H0 O σ H Q I k =>
  ha M0 H0 O σ H _ I fun vs H1 l g1 s1 rl e => by
    intro x dx nx nd ne
    exact star_at (Q := fun v H' => Q v H') (I.next g1 s1) hn (few l e) rl (hp l e) nx nd ne (fun m H' hv g sr r => k (.ref x) H' _ (g1.trans g) sr r ⟨l, m, e, hv, rfl⟩) fun CE nm e2 _ _ _ z => (hb l e CE nm e2 z).elim
end
section
variable {k : Nat} {pre : Addr → Addr → List D → Prop} {val : List D → D → Prop} {bad : List D → Addr → Str → D → Prop}
/-- a call of a def of PrF that can't raise here -/
theorem ev_callF {E : L2.St → XK} {ds : List D} (ha : EvA K s c t ρ n n1 (fun l => l = ds)) (hn : n1 + k ≤ 2 ^ 40) (hp : pre s c ds) (hb : ∀ CE nm e, ¬ bad ds CE nm e) :
    EvE K s c (tCallS (PrF K pre k val bad) E t) ρ n (n1 + k) (fun d => val ds d) := fun M0 H0 O σ H Q I q =>
  ha M0 H0 O σ H _ I fun vs H1 l g1 s1 rl e => by
    subst e
    exact prf_at (I.next g1 s1) hn rl hp (fun v H' d g sr r hv => q v H' d (g1.trans g) sr r hv) fun CE nm e2 _ _ _ z => (hb CE nm e2 z).elim
/-- x op y by an own operator that can't raise here -/
theorem ev_binF {C : Addr} {E : L2.St → XK} {ta tb : TE} {ks ls : List Str} {fs gs : List D} (ha : EvE K s c ta ρ n n1 (fun d => d = .ins C ks fs)) (hb : EvE K s c tb ρ n1 n2 (fun d => d = .ins C ls gs)) (hn : n2 + k ≤ 2 ^ 40) (hp : pre s c [.ins C ks fs, .ins C ls gs]) (bo : ∀ CE nm e, ¬ bad [.ins C ks fs, .ins C ls gs] CE nm e)
    (ins : ∀ d, val [.ins C ks fs, .ins C ls gs] d → ∃ C' ms hs, d = .ins C' ms hs) : EvE K s c (tBinS C (PrF K pre k val bad) E ta tb) ρ n (n2 + k) (fun d => val [.ins C ks fs, .ins C ls gs] d) := fun M0 H0 O σ H Q I q =>
  ha M0 H0 O σ H _ I fun v H1 d1 g1 s1 r1 e1 => hb M0 H0 O σ H1 _ (I.next g1 s1) fun u H2 d2 g2 s2 r2 e2 => by
    subst e1
    subst e2
    have J := (I.next g1 s1).next g2 s2
    have q1 := r1.gr (g2.mono I.sub)
    have q10 := q1
    have q20 := r2
    obtain ⟨a1, dx1, fs1, rfl, _, i1, _, _⟩ := q1
    obtain ⟨a2, dx2, fs2, rfl, _, i2, _, _⟩ := r2
    refine ⟨a1, dx1, fs1, a2, dx2, fs2, rfl, i1, rfl, i2, ?_⟩
    refine prf_at (ds := [.ins C ks fs, .ins C ls gs]) J hn ⟨q10, q20, trivial⟩ hp (fun v H' d g sr r hv => ?_) fun CE nm e2 _ _ _ z => (bo CE nm e2 z).elim
    obtain ⟨C', ms, hs, rfl⟩ := ins d hv
    have r0 := r
    obtain ⟨p, dp, fp, rfl, _, _, _, _⟩ := r
    exact ⟨p, rfl, q (.ref p) H' _ ((g1.trans g2).trans g) sr r0 hv⟩
end
end
theorem rk_neLen {K : PySem.W.Frag} {s c : Addr} {l m : List D} (h : l.length ≠ m.length) : RK K s c (rNeLen K) (.lst l) (.lst m) (.bl true) := fun M n v w H Q hm ht hs rx ry k => by
  obtain ⟨a, xs, rfl, ma, ea, ra⟩ := rx
  obtain ⟨b, ys, rfl, mb, eb, rb⟩ := ry
  exact ⟨a, b, xs, ys, rfl, rfl, .inl (.inl ea), .inl (.inl eb), by rw [← ra.length, ← rb.length]; exact h, k (.bl true) H (Gr.refl _ _) hs rfl⟩
section
theorem len_ownK {prog : Program} {w : World} {A : Around} {E : Value → Shared → Prop} {s : Shared} {K : PySem.W.Frag} {x C f : Addr} {ox : Obj} {od : Option Obj} {Q : Value → Shared → Prop} (X : K.In s.heap) (I : PySem.W.InstAt s.heap x ox C od) (hs : PySem.W.findIn K (.ref C) "__len__" = some (some (.ref f))) (hf : PySem.W.isFn K (.ref f) = true)
    (h : wpAny (model prog w) A.in1 (call (.ref f) [.ref x]) (fun r s' => ∃ n u, r = .int n u ∧ 0 ≤ n ∧ n < 2 ^ 63 ∧ Q (.int n s'.toks) { s' with toks := s'.toks + 1 }) E s) : wpAny (model prog w) A (call (.builtin "len") [.ref x]) Q E s := by
  refine Calls.call_function_entry kind_len plain_len entry_len (args_len1 _) ?_
  unfold Builtin.«len»
  refine wpAny_bind (m := oneArg "len" _) (wpAny_pure ?_)
  refine wpAny_bind (m := callSpecial? (.ref x) (Str.ofString "__len__")) (PySem.W.special_fn X I hs (beq_iff_eq.mp hf) (wpAny_mono h (fun r s' hr => ?_) fun _ _ y => y))
  obtain ⟨n, u, rfl, h0, h1, hq⟩ := hr
  refine wpAny_bind (wpAny_holding (wpAny_pure ?_))
  refine wpAny_bind (wpAny_letGo ?_)
  show wpAny _ _ (if n < 0 then _ else _) _ _ _
  rw [if_neg (by omega)]
  show wpAny _ _ (if n ≥ 2 ^ 63 then _ else _) _ _ _
  rw [if_neg (by omega)]
  exact wpAny_bind (wpAny_mkInt (wpAny_pure ⟨_, rfl, hq⟩))
/-- len(x), x an own instance -/
def rLenI (C : Addr) (sp : Sp) : List V → Hp → VK → Prop := fun xs H Q => ∃ a dx fs, xs = [.ref a] ∧ H a = some (.ins C dx fs) ∧ sp xs H (fun v H' => ∃ z : Int, v = .int z ∧ 0 ≤ z ∧ z < 2 ^ 63 ∧ Q (.int z) H') E0
theorem call_lenI {X : Cx} {k : Nat} {f C : Addr} {fd : FuncData} {ps : List Str} {sp : Sp} (F : FnOk X.prog X.w X.K X.mg X.base CX0 k f fd ps sp) (room : Room (k + 1) X.A) (hs : PySem.W.findIn X.K (.ref C) "__len__" = some (some (.ref f))) (hf : PySem.W.isFn X.K (.ref f) = true) (hb : Binds X.K fd ps []) : CallR X (.builtin "len") (rLenI C sp) := by
  intro pins st σ H xs us Q J r h
  obtain ⟨a, dx, fs, rfl, ha, q⟩ := h
  obtain ⟨u, rfl, ru⟩ := vals1 r
  obtain rfl : u = .ref a := ru
  obtain ⟨mA, O, _⟩ := ins_get J.hok ha
  obtain ⟨od, inst, _⟩ := O.look
  refine len_ownK J.kIn inst hs hf (wpAny_mono (run_in1 (vs := [V.ref a]) F room.in1 hb J J.env0.in1 (.cons rfl .nil) q) (fun r s2 z => ?_) fun _ _ z => z)
  obtain ⟨w2, H2, J2, r2, x, rfl, h0, h1, q2⟩ := z
  obtain ⟨t, rfl⟩ := r2
  exact ⟨x, t, rfl, h0, h1, .int x, H2, J2.tok _, ⟨_, rfl⟩, q2⟩
theorem ev_lenI {K : PySem.W.Frag} {s c : Addr} {ρ : List Sl} {n n1 : Nat} {ta : TE} {C : Addr} {ks : List Str} {l : List D} {z : Nat} {pre : Addr → Addr → List D → Prop} {post : Addr → Addr → List D → D → Prop} (h : EvE K s c ta ρ n n1 (fun x => x = .ins C ks l)) (hn : n1 ≤ 2 ^ 40) (hp : pre s c [.ins C ks l]) (hz : z < 2 ^ 62) (hq : ∀ d, post s c [.ins C ks l] d → d = .int z) :
    EvE K s c (tCB (rLenI C (Pr K pre 0 post)) (tCons ta tNil)) ρ n n1 (fun x => x = .int z) := fun M0 H0 O σ H Q J k =>
  h M0 H0 O σ H _ J fun v H1 x g1 s1 r p => by
    subst p
    have J1 := J.next g1 s1
    have r0 := r
    obtain ⟨a, dx, fs, rfl, _, i1, _, _⟩ := r
    refine ⟨a, dx, fs, rfl, i1, s, c, O ++ M0, n1, [.ins C ks l], List.mem_append_right _ J.ms.1, List.mem_append_right _ J.ms.2, J1.thereA, s1, hn, ⟨r0, trivial⟩, hp, fun u H' d g sr r2 q => ?_⟩
    have := hq d q
    subst this
    have r2 : u = .int z := r2
    subst r2
    exact ⟨z, rfl, by omega, by omega, k (.int z) H' (.int z) (g1.trans g) sr rfl rfl⟩
end
end Pl
/-! text PlPar -/
set_option Elab.async false
set_option linter.all false
set_option maxRecDepth 100000
set_option maxHeartbeats 4000000
/-! PlPar: a, b = x, y over data. -/
namespace Pl
open PySem PySem.Spec PyProof.Rows L2
theorem s_par {K : PySem.W.Frag} {s c : Addr} {ρ : List Sl} {n n1 : Nat} {t : TA} {i j : Nat} {PL : List D → Prop} {D : Pn} (ha : EvA K s c t ρ n n1 PL) (oi : isOw ρ[i]? = false) (oj : ∀ d, isOw (ρ.set i (.va d))[j]? = false)
    (k : ∀ l, PL l → ∃ d e, l = [d, e] ∧ D.nx ((ρ.set i (.va d)).set j (.va e)) n1) : EvS K s c (tPar i j t) ρ n D := fun M0 H0 O σ H Dn I G =>
  ha M0 H0 O σ H _ I fun vs H1 l g s1 rl pl => by
    obtain ⟨d, e, rfl, nx⟩ := k l pl
    obtain ⟨v, w, rfl, r1, r2⟩ := rl.inv2
    refine ⟨v, w, rfl, ?_⟩
    exact eg_name oi M0 H0 O n1 σ H1 v (fun σ2 H2 => gName j w σ2 H2 Dn.nx) (I.next g s1) r1 fun σ2 J2 _ => eg_name (oj d) M0 H0 O n1 σ2 H1 w _ J2 r2 fun σ3 J3 _ => G.nx O _ n1 σ3 H1 J3 nx
/-- len(x) of an own instance that is told by a predicate -/
theorem ev_lenP {K : PySem.W.Frag} {s c : Addr} {ρ : List Sl} {n n1 : Nat} {ta : TE} {C : Addr} {m : Nat} {P1 : D → Prop} {pre : Addr → Addr → List D → Prop} {post : Addr → Addr → List D → D → Prop} (h : EvE K s c ta ρ n n1 P1) (hn : n1 ≤ 2 ^ 40) (hm : m < 2 ^ 62) (hx : ∀ d, P1 d → (∃ ks l, d = .ins C ks l) ∧ pre s c [d] ∧ ∀ z, post s c [d] z → z = .int m) :
    EvE K s c (tCB (rLenI C (Pr K pre 0 post)) (tCons ta tNil)) ρ n n1 (fun x => x = .int m) := fun M0 H0 O σ H Q J k =>
  h M0 H0 O σ H _ J fun v H1 x g1 s1 r p => by
    obtain ⟨⟨ks, l, rfl⟩, hp, hq⟩ := hx x p
    have J1 := J.next g1 s1
    have r0 := r
    obtain ⟨a, dx, fs, rfl, _, i1, _, _⟩ := r
    refine ⟨a, dx, fs, rfl, i1, s, c, O ++ M0, n1, [.ins C ks l], List.mem_append_right _ J.ms.1, List.mem_append_right _ J.ms.2, J1.thereA, s1, hn, ⟨r0, trivial⟩, hp, fun u H' d g sr r2 q => ?_⟩
    have := hq d q
    subst this
    have r2 : u = .int m := r2
    subst r2
    exact ⟨m, rfl, by omega, by omega, k (.int m) H' (.int m) (g1.trans g) sr rfl rfl⟩
end Pl
/-! text K02u -/
set_option Elab.async false
set_option linter.all false
set_option maxRecDepth 100000
set_option maxHeartbeats 4000000
set_option exponentiation.threshold 5000
namespace K02
open PySem PySem.Spec PyProof.Rows L2 Pl PlS
theorem ordD_twice (l : List D) : ordD (ordD l) = ordD l := by
  have t := PySem.W.sortLe_total (PyProof.Rows.listOrd PyProof.Rows.itemOrd) false (fun d : D => PySem.W.keyToks (py d))
  exact List.mergeSort_of_pairwise (List.pairwise_mergeSort (fun a b c h k => t.trans a b c h k) (fun a b => by
    rcases t.total a b with h | h
    · show (PySem.W.sortLe (PyProof.Rows.listOrd PyProof.Rows.itemOrd) false (fun d : D => PySem.W.keyToks (py d)) a b || _) = true
      rw [h]
      rfl
    · show (_ || PySem.W.sortLe (PyProof.Rows.listOrd PyProof.Rows.itemOrd) false (fun d : D => PySem.W.keyToks (py d)) b a) = true
      rw [h, Bool.or_true]) l)
theorem sortA_twice (as : List (Str × List Str)) : sortA (sortA as) = sortA as := by
  have e : (sortA (sortA as)).map dAtom = (sortA as).map dAtom := by rw [← sortA_of, ← sortA_of, ordD_twice]
  exact as_inj e
theorem qI_sort (CQ : Addr) (hd : List Str) (as : List (Str × List Str)) : qI CQ (hd, sortA as) = qI CQ (hd, as) := by
  show D.ins CQ ksQ (qL hd (sortA as)) = D.ins CQ ksQ (qL hd as)
  unfold qL
  rw [sortA_twice]
  have e : usort ((sortA as).flatMap (·.2)) = usort (as.flatMap (·.2)) := vars_perm (sortA_perm as)
  rw [e]
abbrev s_q_image : Stmt := inCls 14 5
theorem sc_q_image : FnScope ["self", "names", "count", "head", "atoms"] ["self", "names"] (defScope s_q_image) := ⟨rfl, rfl, rfl, by decide +kernel, rfl, by decide +kernel, by decide +kernel⟩
theorem tameQ {hd : List Str} {as : List (Str × List Str)} (ok : okQ hd as) : (tame (.tup (dStrs hd)) = true ∧ dp (.tup (dStrs hd)) ≤ 60) ∧ tame (.lst (as.map dAtom)) = true ∧ dp (.lst (as.map dAtom)) ≤ 60 := by
  have sdp : ∀ vs : List Str, dp (.tup (dStrs vs)) ≤ 1 := fun vs => (dp_seq (k := 0) fun d hd => by
    obtain ⟨z, rfl, _⟩ := strs_mem hd
    exact Nat.le_refl _).2
  have at2 : ∀ a : Str × List Str, dp (dAtom a) ≤ 2 := fun a => (dp_seq (k := 1) fun d hd => by
    rcases List.mem_cons.mp hd with rfl | hd
    · exact Nat.zero_le _
    · rw [List.mem_singleton.mp hd]; exact sdp a.2).2
  refine ⟨tame_names ok.1 (by have := ok.2.1; omega), tame_lstOf (fun d hd => ?_) (by rw [List.length_map]; have := ok.2.2.2.1; omega), Nat.le_trans (dp_seq (k := 2) fun d hd => ?_).1 (by decide)⟩
  · obtain ⟨a, ha, rfl⟩ := List.mem_map.mp hd
    exact (atom_tame (ok.2.2.2.2 a ha).1 (ok.2.2.2.2 a ha).2.2.1 (ok.2.2.2.2 a ha).2.2.2).1
  · obtain ⟨a, ha, rfl⟩ := List.mem_map.mp hd
    exact at2 a
theorem tameQt {as : List (Str × List Str)} {hd : List Str} (ok : okQ hd as) : tame (.tup (as.map dAtom)) = true ∧ dp (.tup (as.map dAtom)) ≤ 60 := by
  have sdp : ∀ vs : List Str, dp (.tup (dStrs vs)) ≤ 1 := fun vs => (dp_seq (k := 0) fun d hd => by
    obtain ⟨z, rfl, _⟩ := strs_mem hd
    exact Nat.le_refl _).2
  have at2 : ∀ a : Str × List Str, dp (dAtom a) ≤ 2 := fun a => (dp_seq (k := 1) fun d hd => by
    rcases List.mem_cons.mp hd with rfl | hd
    · exact Nat.zero_le _
    · rw [List.mem_singleton.mp hd]; exact sdp a.2).2
  refine ⟨tame_tupOf (fun d hd => ?_) (by rw [List.length_map]; have := ok.2.2.2.1; omega), Nat.le_trans (dp_seq (k := 2) fun d hd => ?_).2 (by decide)⟩
  · obtain ⟨a, ha, rfl⟩ := List.mem_map.mp hd
    exact (atom_tame (ok.2.2.2.2 a ha).1 (ok.2.2.2.2 a ha).2.2.1 (ok.2.2.2.2 a ha).2.2.2).1
  · obtain ⟨a, ha, rfl⟩ := List.mem_map.mp hd
    exact at2 a
theorem errD_seq {x : D} {l : List D} : errD x (.tup l) = errD x (.lst l) := rfl
/-- what the top has written of InvalidMap and of image -/
structure ITxt (K : PySem.W.Frag) (mg : Str → Option Value) (CQ CIM fi : Addr) (di : FuncData) : Prop where
  gM : mg "InvalidMap" = some (.ref CIM)
  qM : PySem.W.excIn K CIM [.type "ValueError", .type "Exception", .type "BaseException", .type "object"] "ValueError.__new__" = true
  kM : PySem.W.keepIn K (.ref CIM) = true
  bM : PySem.W.subIn K (.ref CIM) (.type "BaseException") = some true
  tM : PySem.W.typeIn K (.ref CIM) = some (.type "type")
  mi : Meth K CQ "image" fi
  Fi : Fun K "image" "Query.image" s_q_image fi di
  bi : Binds K di ["self", "names"] []
def preIm (CQ : Addr) (s c : Addr) (ds : List D) : Prop := ∃ q y, ds = [qI CQ q, y] ∧ okV q.1 q.2 ∧ tame y = true ∧ dp y ≤ 60
def valIm (CQ : Addr) (ds : List D) (d : D) : Prop := ∃ q ns, ds = [qI CQ q, .tup (dStrs ns)] ∧ ns.length = (varsA q.2).length ∧ (∀ v ∈ ns, isName v) ∧ d = qI CQ (imgQ q ns)
def badIm (CQ CIM : Addr) (ds : List D) (C : Addr) : Prop := ∃ q y, ds = [qI CQ q, y] ∧ namesB ((varsA q.2).length : Int) ((varsA q.2).length : Int) y = false ∧ C = CIM
section
variable {P : Program} {w : World} {K : PySem.W.Frag} {mg : Str → Option Value} {base : Heap} {A : Adr} {CQ CIM fQ CE fE fi rh ra rv rp gh ga gv gp : Addr} {dQ dE dh da dv dpl di : FuncData}
/-- Query(x, y) of a valid head and atoms -/
theorem ev_queryV {s c : Addr} {ρ : List Sl} {n n1 : Nat} {t : TA} {E : XK} {hd : List Str} {as : List (Str × List Str)} {y : D} (h : EvA K s c t ρ n n1 (fun l => l = [.tup (dStrs hd), y])) (hy : y = .lst (as.map dAtom) ∨ y = .tup (as.map dAtom)) (hn : n1 ≤ 2 ^ 40) (ok : okV hd as) :
    EvE K s c (tMake CQ (PrC K CQ ksQ preQ valQ (badQ CE)) [] E t) ρ n n1 (fun d => d = qI CQ (hd, as)) := by
  have sy : seqD y = some (as.map dAtom) := by rcases hy with rfl | rfl <;> rfl
  have ty : tame y = true ∧ dp y ≤ 60 := by
    rcases hy with rfl | rfl
    · exact (tameQ ok.1).2
    · exact tameQt ok.1
  have no0 : errD (.tup (dStrs hd)) y = .non := by
    rcases hy with rfl | rfl
    · exact (err_iff _ _).mpr ok
    · rw [errD_seq]; exact (err_iff _ _).mpr ok
  refine (ev_makeC h hn ⟨_, _, rfl, (tameQ ok.1).1, ty⟩ fun CE' nm e hb => ?_).imp fun d h => ?_
  · obtain ⟨x, y', q, no, _⟩ := hb
    cases q
    exact no no0
  · obtain ⟨l, hv, rfl⟩ := h
    obtain ⟨x, y', hd', as', e, no, e1, e2, rfl⟩ := hv
    cases e
    have e3 := str_inj (D.tup.inj e1)
    rw [sy] at e2
    have e4 := as_inj (Option.some.inj e2)
    rw [← e3, ← e4]
    rfl
theorem ok_q_image (T : Txt A K mg) (U : QTxt K mg CQ fQ CE fE dQ dE) (V : PTxt K mg CQ rh ra rv rp gh ga gv gp dh da dv dpl) (W : ITxt K mg CQ CIM fi di) : FnOk P w K mg base (L2.CX P w) 7 fi di ["self", "names"] (PrX K (preIm CQ) 0 (valIm CQ) (badIm CQ CIM)) := by
  have G__renamed := ok__renamed (P := P) (w := w) (base := base) T U V
  have G_is_tuple_of_names := ok_is_tuple_of_names (P := P) (w := w) (base := base) T
  refine W.Fi.okX sc_q_image (fun vs H Q E h => prx_len h fun s c ds hp => ?_) (fun cdv A' outer st H vs Q E hr h => have hw : _ := hr.units; ⟨_, (pss_cons (ps_set (i := 2) sc_q_image.nd rfl (by first | exact Or.inl rfl | exact Or.inr rfl) (pe_callB (k_len K) (by rfl) T.m_len (by decide +kernel) (pa_cons (k_fld K (pv 0) rfl) pa_nil)))
      (pss_cons (ps_if (pt_not (pt_val (pe_call G_is_tuple_of_names (hr.mono (by decide)) (by rfl) T.m_is_tuple_of_names T.F_is_tuple_of_names.kp T.b_is_tuple_of_names .nil pass0 (pa_cons (pv 1) (pa_cons (pv 2) (pa_cons (pv 2) pa_nil)))))) (pss_one (L2.ps_raise rfl (L2.takes_of rfl rfl rfl rfl) (pmk_own PySem.F.excBase_ValueError W.qM W.gM W.kM (raises_own W.bM W.tM) rfl))) pss_nil)
      (pss_cons (ps_asg (pe_call G__renamed (hr.mono (by decide)) (by rfl) T.m__renamed T.F__renamed.kp T.b__renamed .nil pass0 (pa_cons (pv 0) (pa_cons (pv 1) pa_nil))) (k_pgtup K (n := 2) rfl (pgs_cons (pg_name (i := 3) sc_q_image.nd rfl (by first | exact Or.inl rfl | exact Or.inr rfl)) (pgs_cons (pg_name (i := 4) sc_q_image.nd rfl (by first | exact Or.inl rfl | exact Or.inr rfl)) pgs_nil))))
      (pss_one (ps_ret (pe_make (E := fun _ _ _ => False) U.kQ (ok_q_init T U) (hr.mono (by decide)) (by rfl) U.gQ U.bQ .nil pass_no (pa_cons (pv 3) (pa_cons (pv 4) pa_nil)))))))), body_okE h fun s c n ds hn hp => ?_⟩)
  · obtain ⟨q, y, rfl, _⟩ := hp
    rfl
  · obtain ⟨q, y, rfl, ok, ty⟩ := hp
    refine se_seq (N := fun ρ' m => n = m ∧ ρ' = [.va (qI CQ q), .va y, .va (.int (varsA q.2).length), .no, .no]) (EvS.e (s_set (n1 := n) (ev_callK (ea_one (ev_fldI (ks := ksQ) (l := qL q.1 q.2) (ev_var rfl) U.cQ U.nV rfl)) (ck_len rfl)) rfl fun d e => ⟨rfl, by rw [e, strs_len]; rfl⟩)) fun ρ1 n1 h1 => ?_
    obtain ⟨rfl, rfl⟩ := h1
    refine se_seq (N := fun ρ' m => n = m ∧ ρ' = [.va (qI CQ q), .va y, .va (.int (varsA q.2).length), .no, .no] ∧ namesB ((varsA q.2).length : Int) ((varsA q.2).length : Int) y = true) (se_if (b := !namesB ((varsA q.2).length : Int) ((varsA q.2).length : Int) y) (et_notK (et_K (ev_defK (ea_c (ev_var rfl) (ea_c (ev_var rfl) (ea_one (ev_var rfl)))) hn ⟨y, _, _, rfl, ty.1⟩ fun d h => ?_))) (fun e => se_raise ⟨Nat.le_refl _, q, y, rfl, by simpa using e, rfl⟩) fun e => EvS.e (s_next ⟨rfl, rfl, by simpa using e⟩)) fun ρ1 n1 h1 => ?_
    · obtain ⟨y', lo, hi, e, rfl⟩ := h
      cases e
      rfl
    obtain ⟨rfl, rfl, nb⟩ := h1
    obtain ⟨ns, rfl, l1, l2, nm⟩ := names_is nb
    have len : ns.length = (varsA q.2).length := by omega
    have oki := img_okV ok len nm
    have okis := okV_perm oki (sortA_perm _)
    refine se_seq (N := fun ρ' m => n = m ∧ ρ' = [.va (qI CQ q), .va (.tup (dStrs ns)), .va (.int (varsA q.2).length), .va (.tup (dStrs (imgQ q ns).1)), .va (.tup ((sortA (imgQ q ns).2).map dAtom))]) (EvS.e (s_asg (ev_defK (z := .tup [.tup (dStrs (imgQ q ns).1), .tup ((sortA (imgQ q ns).2).map dAtom)]) (ea_c (ev_var rfl) (ea_one (ev_var rfl))) hn ⟨q, ns, rfl, ok, len, nm⟩ fun d h => ?_) fun z e => ?_)) fun ρ1 n1 h1 => ?_
    · obtain ⟨q', ns', e, rfl⟩ := h
      injection e with e1 e
      injection e with e2 _
      injection e2 with e2
      have e3 := qI_inj e1
      have e4 : varsA q.2 = varsA q'.2 := by rw [← vars_perm (sortA_perm q.2), ← vars_perm (sortA_perm q'.2), e3.2]
      have e5 : imgQ q' ns' = imgQ q ns := by
        unfold imgQ
        rw [e3.1, e4, e3.2, str_inj e2]
      rw [e5]
    · subst e
      exact ⟨_, _, eg_tup (egs_cons (eg_name (j := 3) rfl) (egs_cons (eg_name (j := 4) rfl) egs_nil)) rfl, rfl, rfl⟩
    obtain ⟨rfl, rfl⟩ := h1
    refine EvS.e (s_ret (ev_queryV (hd := (imgQ q ns).1) (as := sortA (imgQ q ns).2) (ea_c (ev_var rfl) (ea_one (ev_var rfl))) (.inr rfl) hn okis) fun d e => ⟨Nat.le_refl _, q, ns, rfl, len, nm, ?_⟩)
    rw [e, qI_sort]
end

end K02
/-! text PlMe -/
set_option Elab.async false
set_option linter.all false
set_option maxRecDepth 100000
set_option maxHeartbeats 4000000
set_option exponentiation.threshold 5000
/-! PlMe: o.m(..), m a method that may raise; text * int; xs[::-1]; l.index(text). -/
namespace Pl
open PySem PySem.Spec PyProof.Rows L2
/-- o.m(..), what is wished of errors hangs on the slots -/
def tMethE (C : Addr) (m : Str) (sp : Sp) (E : L2.St → XK) (ta : TE) (t : TA) : TE := fun σ H Q => ta σ H fun x H1 => ∃ a dx fs, x = .ref a ∧ H1 a = some (.ins C dx fs) ∧ fs.lookup m = none ∧ t σ H1 fun vs H2 => sp (x :: vs) H2 Q (E σ)
section
variable {X : Cx} {CX' : CXT} {k : Nat} {f C : Addr} {sp : Sp} {E : L2.St → XK} {m : Str} {fd : FuncData} {ps : List Str} {o e : Expr} {es : List Expr} {apos pos : Pos} {ta : TE} {t : TA}
theorem pe_methE {pl : Sem Bool} (he : PE X o ta) (c : Cls X.K C) (hm : Meth X.K C m f) (F : FnOk X.prog X.w X.K X.mg X.base CX' k f fd ps sp) (room : Room k X.A) (bnd : Binds X.K fd ps []) (out : ∀ σ, PassesAt CX' X σ (E σ)) (ha : PA X (e :: es) t)
    (hst : starEach (e :: es) X.env = (false, eval e X.env) :: starEach es X.env := by rfl) (hpl : (backTo pos (starEach es X.env)).any (·.1) = false := by rfl)
    (ht : eval (.Call (.Attribute o m apos) (e :: es) [] pos) X.env = (do
      let ov ← eval o X.env
      standAt apos.atName
      let (f, first) ← holding [ov] (getMethod ov m pl)
      callWith pos f first (backTo pos (starEach (e :: es) X.env)) (backToKw pos (keywordEach [] X.env))) := by rfl) :
    PE X (.Call (.Attribute o m apos) (e :: es) [] pos) (tMethE C m sp E ta t) := by
  refine ⟨fun pins s σ H Q I h => ?_⟩
  refine PySem.W.methodCall_KW (pl := pl) (thn (he.run pins s σ H _ I h) fun u s1 z => ?_) ht
  obtain ⟨x, H1, I1, rx, a, dx, fs, ex, ea, l, q⟩ := z
  subst ex
  obtain rfl : u = Value.ref a := rx
  refine getmeth_ok I1 ea c hm l ?_
  refine PySem.W.callWith_K (first := [.ref a]) (h₀ := X.base) I.ok.mod.kin hm.kp (thn (ha.run pos pins s1 σ H1 _ I1 q) fun us s2 z => ?_) hst hpl
  obtain ⟨vs, H2, I2, r, q2⟩ := z
  exact ⟨I2.kIn, wpAny_call (run_at (us := .ref a :: us) (vs := .ref a :: vs) F room bnd (out σ) I2 (.cons rfl r) q2)⟩
theorem fold_size (x : Array Nat) : ∀ (n : Nat) (z : Array Nat), ((List.replicate n x).foldl (· ++ ·) z).size = z.size + n * x.size
  | 0, z => by simp
  | n + 1, z => by
    rw [List.replicate_succ, List.foldl_cons, fold_size x n, Array.size_append, Nat.add_mul, Nat.one_mul]
    omega
theorem fold_mem (x : Array Nat) (q : Nat) : ∀ (n : Nat) (z : Array Nat), q ∈ ((List.replicate n x).foldl (· ++ ·) z).toList → q ∈ z.toList ∨ q ∈ x.toList
  | 0, z, h => .inl h
  | n + 1, z, h => by
    rw [List.replicate_succ, List.foldl_cons] at h
    rcases fold_mem x q n _ h with h | h
    · rw [Array.toList_append] at h
      exact List.mem_append.mp h
    · exact .inr h
/-- text * int: a text of its signs -/
def rMulS : R2 := fun x y H Q => ∃ a k, x = .str a ∧ y = .int k ∧ 0 ≤ k ∧ k ≤ 1000 ∧ a.length ≤ 1000 ∧ ∀ z : Str, z.length ≤ a.length * k.toNat → (∀ q ∈ z.cps.toList, q ∈ a.cps.toList) → Q (.str z) H
theorem op_mulS : OpR X (binaryOp .Mult) rMulS := by
  intro pins s σ H x y v u Q I rx ry h
  obtain ⟨a, k, rfl, rfl, g0, g1, gl, q⟩ := h
  obtain ⟨t, rfl⟩ := rx
  obtain ⟨t', rfl⟩ := ry
  refine P.mul_str (by rw [decide_eq_false (by omega), decide_eq_false (by omega)] <;> rfl) (fun h1 _ => ?_) (fun h1 _ => ?_) ?_
  · have e : (1000 : Int) ≤ (2 ^ 63 - 1) / k := by
      have hk : 0 < k := by omega
      exact (Int.le_ediv_iff_mul_le hk).mpr (by omega)
    omega
  · unfold Builtin.Str.tooLong
    have sl := sizeLine_eq
    have : a.length * k.toNat ≤ 1000 * 1000 := Nat.mul_le_mul gl (by omega)
    exact decide_eq_false (by omega)
  · by_cases h1 : k < 1
    · rw [if_pos h1]
      exact ⟨by decide, ⟨.str _, H, I.tok _, ⟨_, rfl⟩, q _ (Nat.zero_le _) fun q hq => by cases hq⟩⟩
    · rw [if_neg h1]
      by_cases h2 : (k == 1 || a.length == 0) = true
      · rw [if_pos h2]
        refine ⟨.str a, H, I, ⟨t, rfl⟩, q _ ?_ fun q hq => hq⟩
        rw [Bool.or_eq_true, beq_iff_eq, beq_iff_eq] at h2
        rcases h2 with h2 | h2
        · rw [h2]
          exact Nat.le_of_eq (Nat.mul_one _).symm
        · rw [h2]
          exact Nat.zero_le _
      · rw [if_neg h2]
        dsimp only [Made.post]
        have sz : ((List.replicate k.toNat a.cps).foldl (· ++ ·) #[]).size = k.toNat * a.cps.size := by
          rw [fold_size]
          exact Nat.zero_add _
        refine ⟨?_, ⟨.str _, H, I.tok _, ⟨_, rfl⟩, q _ ?_ fun q hq => ?_⟩⟩
        · show ((List.replicate k.toNat a.cps).foldl (· ++ ·) #[]).size ≤ sizeLine
          have sl := sizeLine_eq
          have : k.toNat * a.cps.size ≤ 1000 * 1000 := Nat.mul_le_mul (by omega) gl
          omega
        · show ((List.replicate k.toNat a.cps).foldl (· ++ ·) #[]).size ≤ a.cps.size * k.toNat
          rw [sz, Nat.mul_comm]
          exact Nat.le_refl _
        · rcases fold_mem a.cps q k.toNat #[] hq with h | h
          · cases h
          · exact h
end
section
variable {X : Cx} {K : PySem.W.Frag}
def rMulT (K : PySem.W.Frag) : R2 := fun x y H Q => rMulB K x y H Q ∨ rMulS x y H Q
theorem k_mulT (h : X.K = K := by rfl) : OpR X (binaryOp .Mult) (rMulT K) := by subst h; exact (k_mulB).or op_mulS
theorem k_revL {e : Expr} {te : TE} {k : Nat} {p1 p2 p3 pos : Pos} (he : PE X e te) (h : X.K = K := by rfl) : PE X (.Subscript e (.Slice none none (some (.UnaryOp .USub (.Constant (.int 1) k p1) p2)) p3) pos) (tRevL K te) := by subst h; exact pe_revL he
theorem k_index (h : X.K = K := by rfl) : MtR X "list.index" (rIndex K) := by subst h; exact mt_index
end
section
variable {K : PySem.W.Frag} {s c : Addr} {ρ : List Sl} {n n1 n2 : Nat} {te ta tb : TE} {E : XK} {t : TA}
theorem lookup_no : ∀ {fs : List (Str × V)} {ks : List Str} {m : Str}, fs.map (·.1) = ks → m ∉ ks → fs.lookup m = none
  | [], _, _, _, _ => rfl
  | f :: fs, _, m, h, no => by
    subst h
    rw [List.map_cons, List.mem_cons, not_or] at no
    have e : (m == f.1) = false := beq_eq_false_iff_ne.mpr no.1
    rw [List.lookup_cons, e]
    exact lookup_no rfl no.2
/-- o.m(..) of a method of PrX where it can't raise -/
theorem ev_methX {C : Addr} {m : Str} {ks : List Str} {l : List D} {k : Nat} {pre : Addr → Addr → List D → Prop} {val : List D → D → Prop} {bad : List D → Addr → Prop} {Y : L2.St → XK} {ds : List D} {P : D → Prop} (h : EvE K s c te ρ n n1 (fun x => x = .ins C ks l)) (no : m ∉ ks) (ha : EvA K s c t ρ n1 n2 (fun x => x = ds)) (hn : n2 + k ≤ 2 ^ 40) (hp : pre s c (.ins C ks l :: ds))
    (good : ∀ d, val (.ins C ks l :: ds) d → P d) (never : ∀ CE, ¬ bad (.ins C ks l :: ds) CE) : EvE K s c (tMethE C m (PrX K pre k val bad) Y te t) ρ n (n2 + k) P := fun M0 H0 O σ H Q I kk =>
  h M0 H0 O σ H _ I fun v H1 x g1 s1 r1 p => by
    subst p
    have r0 := r1
    obtain ⟨a, dx, fs, rfl, ma, e, hk, rl⟩ := r1
    refine ⟨a, dx, fs, rfl, e, lookup_no hk no, ha M0 H0 O σ H1 _ (I.next g1 s1) fun vs H2 ds' g2 s2 r2 e2 => ?_⟩
    subst e2
    have J := (I.next g1 s1).next g2 s2
    exact ⟨s, c, O ++ M0, n2, .ins C ks l :: ds', List.mem_append_right _ I.ms.1, List.mem_append_right _ I.ms.2, J.thereA, s2, hn, ⟨r0.gr (g2.mono I.sub), r2⟩, hp, fun u H3 d g3 s3 r3 q => kk u H3 d ((g1.trans g2).trans g3) s3 r3 (good d q), fun CE H3 _ _ hb => (never CE hb).elim⟩
/-- text * int -/
theorem ev_mulS {z : Str} {k : Int} (ha : EvE K s c ta ρ n n1 (fun d => d = .str z)) (hb : EvE K s c tb ρ n1 n2 (fun d => d = .int k)) (h0 : 0 ≤ k) (h1 : k ≤ 1000) (hz : z.length ≤ 1000) : EvE K s c (tOp (rMulT K) ta tb) ρ n n2 (fun d => ∃ y : Str, d = .str y ∧ y.length ≤ z.length * k.toNat ∧ ∀ q ∈ y.cps.toList, q ∈ z.cps.toList) := fun M0 H0 O σ H Q I kk =>
  ha M0 H0 O σ H _ I fun v H1 d g1 s1 r1 p1 => hb M0 H0 O σ H1 _ (I.next g1 s1) fun w H2 e g2 s2 r2 p2 => by
    subst p1
    subst p2
    have r1 : v = .str z := r1
    have r2 : w = .int k := r2
    subst r1
    subst r2
    exact .inr ⟨z, k, rfl, rfl, h0, h1, hz, fun y y1 y2 => kk (.str y) H2 (.str y) (g1.trans g2) s2 rfl ⟨y, rfl, y1, y2⟩⟩
theorem rk_mulT {x y z : D} (h : RK K s c (rMulB K) x y z) : RK K s c (rMulT K) x y z := rk_or1 h
theorem RepL.rev {M : List Addr} {H : Hp} : ∀ {l : List D} {xs : List V}, RepL K M H l xs → RepL K M H l.reverse xs.reverse
  | [], [], _ => trivial
  | d :: l, x :: xs, h => by
    rw [List.reverse_cons, List.reverse_cons]
    exact RepL.app (RepL.rev h.2) ⟨h.1, trivial⟩
  | [], _ :: _, h => h.elim
  | _ :: _, [], h => h.elim
/-- the place of a text -/
theorem mk_index {vs : List Str} {t : Str} (ht : t ∈ vs) : MK K s c "list" (rIndex K) (.lst (dStrs vs)) [.str t] (.int (vs.idxOf t : Nat)) := ⟨ty_lst, fun M n v ws H Q hm hh hs rx r k => by
  obtain ⟨a, xs, rfl, ma, ea, rl⟩ := rx
  obtain ⟨w, rfl, rw'⟩ := r.inv1
  have rw' : w = .str t := rw'
  subst rw'
  have ex := dStrs_rep rl
  subst ex
  have lt : vs.idxOf t < vs.length := List.idxOf_lt_length_of_mem ht
  refine ⟨a, _, .str t, vs.idxOf t, .str t, rfl, rfl, SqL.of ea, rfl, List.all_eq_true.mpr fun x hx => ?_, ?_, ?_, fun m z hm hz => ?_, k _ H (Gr.refl _ _) hs rfl⟩
  · obtain ⟨y, _, rfl⟩ := List.mem_map.mp hx
    rfl
  · rw [List.getElem?_map, List.getElem?_eq_getElem lt, List.getElem_idxOf lt]
    rfl
  · show (t == t) = true
    exact beq_self_eq_true t
  · rw [List.getElem?_map] at hz
    cases q : vs[m]? with
    | none => rw [q] at hz; cases hz
    | some y =>
      rw [q] at hz
      cases hz
      obtain ⟨hl, e⟩ := List.getElem?_eq_some_iff.mp q
      have h2 := List.not_of_lt_findIdx (p := fun x => x == t) (xs := vs) hm
      rw [e] at h2
      exact h2⟩
/-- xs[::-1] -/
theorem ev_revL {l : List D} (h : EvE K s c te ρ n n1 (fun d => d = .lst l)) : EvE K s c (tRevL K te) ρ n n1 (fun d => d = .lst l.reverse) := fun M0 H0 O σ H Q I k =>
  h M0 H0 O σ H _ I fun v H1 d g1 s1 r1 e => by
    subst e
    obtain ⟨a, xs, rfl, ma, ea, rl⟩ := r1
    refine ⟨a, xs, rfl, SqL.of ea, fun p hp => ?_⟩
    refine k (.ref p) _ (.lst l.reverse) (g1.trans (Gr.new hp)) (s1.new hp) ⟨p, _, rfl, (I.next g1 s1).new_out hp, upd_same, ?_⟩ rfl
    exact (RepL.rev rl).gr (Gr.new hp)
end
end Pl
/-! text K02w -/
set_option Elab.async false
set_option linter.all false
set_option maxRecDepth 100000
set_option maxHeartbeats 4000000
set_option exponentiation.threshold 5000
namespace K02
open PySem PySem.Spec PyProof.Rows L2 Pl PlS
theorem k_isx {X : Cx} {K : PySem.W.Frag} (h : X.K = K := by rfl) : CallR X (.builtin "isinstance") (fun xs H Q => rIsX K xs H Q ∨ rIsiA K xs H Q) := by subst h; exact call_isX.or k_isi
/-- what the top has written of InvalidMap as an error that is held -/
structure STxt (K : PySem.W.Frag) (mg : Str → Option Value) (CIM CM : Addr) : Prop where
  gE : mg "MarkError" = some (.ref CM)
  exm : PySem.W.exmOne K (.ref CIM) (.ref CM) = some true
  eC : ExcC K CIM
  one1 : PySem.W.kitOne K (.ref CIM) (.ref CIM) = some true
  one2 : PySem.W.kitOne K (.ref CIM) (.type "ValueError") = some true
  one0 : PySem.W.kitOne K (.type "NoneType") (.ref CIM) = some false
  m_ValueError : mg "ValueError" = none
def preRd (CQ : Addr) (s c : Addr) (ds : List D) : Prop := ∃ q y, ds = [qI CQ q, y] ∧ okV q.1 q.2 ∧ tame y = true ∧ dp y ≤ 60
def postRd (CQ : Addr) (s c : Addr) (ds : List D) (z : D) : Prop := ∃ q y, ds = [qI CQ q, y] ∧ z = .bl (!namesB ((varsA q.2).length : Int) ((varsA q.2).length : Int) y)
def preNm (s c : Addr) (ds : List D) : Prop := ∃ vs ns y ws, ds = [.lst (dStrs vs), .tup (dStrs ns), y] ∧ seqD y = some (dStrs ws) ∧ (∀ v ∈ ws, v ∈ vs) ∧ vs.length = ns.length ∧ ws.length ≤ 1000
def postNm (s c : Addr) (ds : List D) (z : D) : Prop := ∃ vs ns y ws, ds = [.lst (dStrs vs), .tup (dStrs ns), y] ∧ seqD y = some (dStrs ws) ∧ z = .tup (dStrs (ws.map (subS vs ns)))
def valSh (s c : Addr) (ds l' : List D) : Prop := ∃ l, ds = [.obj s, .lst l] ∧ l'.Perm l
theorem at_nat {l : List D} {i : Nat} {d : D} (h : l[i]? = some d) : atI l ((i : Nat) : Int) = some d := by
  have il := (List.getElem?_eq_some_iff.mp h).1
  unfold atI ixN
  rw [if_pos (by omega), if_pos (by omega)]
  rw [Int.toNat_natCast]
  exact h
theorem at_sub : ∀ {vs ns : List Str} {t : Str}, vs.length = ns.length → t ∈ vs → (dStrs ns)[vs.idxOf t]? = some (.str (subS vs ns t))
  | [], _, _, _, h => by cases h
  | v :: vs, [], t, l, _ => by cases l
  | v :: vs, n :: ns, t, l, h => by
    show (dStrs (n :: ns))[(v :: vs).idxOf t]? = some (.str (if v = t then n else subS vs ns t))
    rw [List.idxOf_cons]
    by_cases e : v = t
    · rw [if_pos e, e, beq_self_eq_true]
      rfl
    · rw [if_neg e, show (v == t) = false from beq_eq_false_iff_ne.mpr e]
      have ht : t ∈ vs := by
        rcases List.mem_cons.mp h with q | q
        · exact absurd q.symm e
        · exact q
      exact at_sub (vs := vs) (ns := ns) (by simpa using l) ht
section
variable {P : Program} {w : World} {K : PySem.W.Frag} {mg : Str → Option Value} {base : Heap} {A : Adr} {CQ CIM CM fQ CE fE fi rh ra rv rp gh ga gv gp : Addr} {dQ dE dh da dv dpl di : FuncData}
theorem ok__law_shuffleN (T : Txt A K mg) : FnOk P w K mg base CX0 2 A.f__law_shuffle A.fd__law_shuffle ["source", "values"] (PrNl K preShuf 60 valSh) := by
  have G__law_draw := ok__law_draw (P := P) (w := w) (base := base) T
  refine T.F__law_shuffle.ok sc__law_shuffle (fun vs H Q E h => prnl_len h fun s c ds hp => ?_) (fun cdv A' outer st H vs Q E hr h => have hw : _ := hr.units; ⟨_, (pss_cons (ps_set (i := 2) sc__law_shuffle.nd rfl (by first | exact Or.inl rfl | exact Or.inr rfl) (pe_lst pa_nil))
      (pss_cons (ps_for PassesOwn.never rfl (k_pilist K (pv 1)) (pg_name (i := 3) sc__law_shuffle.nd rfl (by first | exact Or.inl rfl | exact Or.inr rfl)) (pss_one (ps_expr (k_bm K PySem.F.plainAttrs_list PySem.F.slot_list_insert PySem.F.type_list_insert mt_insert (pv 2) (pa_cons (pe_call G__law_draw (hr.mono (by decide)) (by rfl) T.m__law_draw T.F__law_draw.kp T.b__law_draw .nil pass0 (pa_cons (pv 0) (pa_cons (pe_op (k_add K) (pe_callB (k_len K) (by rfl) T.m_len (by decide +kernel) (pa_cons (pv 2) pa_nil)) pe_int) pa_nil))) (pa_cons (pv 3) pa_nil))))))
      (pss_one (ps_ret (pv 2))))), body_okN h fun s c n ds hn hp => ?_⟩)
  · obtain ⟨l, rfl, _⟩ := hp
    rfl
  · obtain ⟨l, rfl, hl⟩ := hp
    refine sn_seq (N := fun ρ' m => n = m ∧ ρ' = [.va (.obj s), .va (.lst l), .ow [], .no]) (s_own (en_lst ea_nil fun x e => by rw [e]; exact Nat.zero_le _) rfl (by exact (by decide : (2 : Nat) < 4)) fun x e => ⟨rfl, by rw [e]; rfl⟩) fun ρ1 n1 h1 => ?_
    obtain ⟨rfl, rfl⟩ := h1
    refine sn_seq (N := fun ρ' m => m ≤ n + 60 ∧ ∃ acc y, ρ' = [.va (.obj s), .va (.lst l), .ow acc, y] ∧ acc.Perm l) ?_ fun ρ1 n1 h1 => ?_
    · refine s_for (ei_list (PL := fun ds => ds = l) (ev_var rfl) fun d e => ⟨l, e, rfl⟩) (fun ds i ρ' m => m ≤ n + i ∧ ∃ acc y, ρ' = [.va (.obj s), .va (.lst l), .ow acc, y] ∧ isOw (some y) = false ∧ acc.Perm (l.take i)) (fun ds e => ⟨Nat.le_refl _, [], .no, rfl, rfl, by rw [List.take_zero]⟩) (fun ds e i d ρ' m hi inv => ?_) (fun ds e ρ' m inv => ?_)
      · obtain ⟨hm, acc, y, rfl, hy, pm⟩ := inv
        rw [e] at hi
        have hil := (List.getElem?_eq_some_iff.mp hi).1
        have al : acc.length ≤ 60 := by rw [pm.length_eq, List.length_take]; omega
        refine ⟨_, _, eg_name (j := 3) hy, ?_⟩
        refine s_insert (l := acc) rfl (ev_draw (ev_var rfl) (ev_thaw (i := 2) rfl (ev_opK (ev_callK (ea_one (ev_var rfl)) (ck_len rfl)) ev_int rk_add) fun d e => by rw [e]; rfl) (by omega) (by omega) (by omega)) (fun d h => ?_) (ev_var rfl) (by omega) fun k d' h e => ?_
        · obtain ⟨k, rfl, k0, k1⟩ := h
          exact ⟨k, rfl, k0, by omega⟩
        · obtain ⟨k', e2, k0, k1⟩ := h
          cases e2
          refine ⟨by omega, _, _, rfl, rfl, ?_⟩
          rw [List.take_add_one, hi, e]
          refine List.Perm.trans ?_ (pm.append_right [d])
          have h1 : (acc.take k.toNat ++ [d] ++ acc.drop k.toNat).Perm (acc.take k.toNat ++ acc.drop k.toNat ++ [d]) := by
            rw [List.append_assoc, List.append_assoc]
            exact (List.Perm.refl _).append List.perm_append_comm
          rw [List.take_append_drop] at h1
          exact h1
      · obtain ⟨hm, acc, y, rfl, hy, pm⟩ := inv
        rw [e, List.take_length] at pm
        exact ⟨by rw [e] at hm; omega, acc, y, rfl, pm⟩
    · obtain ⟨hm, acc, y, rfl, pm⟩ := h1
      exact sn_ret (i := 2) rfl ⟨hm, l, rfl, pm⟩
theorem ok__law_named (T : Txt A K mg) : FnOk P w K mg base CX0 1 A.f__law_named A.fd__law_named ["names", "leads", "some"] (Pr K preNm 0 postNm) := by
  refine T.F__law_named.ok sc__law_named (fun vs H Q E h => pr_len h fun s c ds hp => ?_) (fun cdv A' outer st H vs Q E hr h => have hw : _ := hr.units; ⟨_, (pss_one (ps_ret (pe_callTy (k_tuple K) (by rfl) T.m_tuple (by decide +kernel) (pa_cons (pe_lc (own := [("name", 3)]) rfl sc__law_named.nd (k_piseq (K := K) (pv 2)) (blkOk_by (N := ["names", "leads", "some", "name"]) (sc := defScope s__law_named) (by decide +kernel)) (fun _ _ _ _ _ => (pg_name (i := 3) sc__law_named.nd rfl (by first | exact Or.inl rfl | exact Or.inr rfl))) (fun _ _ _ _ _ => pts_nil) (fun _ _ _ _ _ => (pe_ix (k_ix K) (pv 1) (k_bm K PySem.F.plainAttrs_list PySem.F.slot_list_index PySem.F.type_list_index (k_index (K := K)) (pv 0) (pa_cons (pv 3) pa_nil)) (fun _ _ => rfl)))) pa_nil)))), body_ok h fun s c n ds hn hp => ?_⟩)
  · obtain ⟨vs, ns, y, ws, rfl, _⟩ := hp
    rfl
  · obtain ⟨vs, ns, y, ws, rfl, sy, hv, len, few⟩ := hp
    refine s_ret (n1 := n) (P := fun d => d = .tup (dStrs (ws.map (subS vs ns)))) (EvE.imp (ev_callK (z := .tup ((dStrs ws).map fun d => match d with | .str t => D.str (subS vs ns t) | _ => .non)) (ea_one (EvN.evK (en_mapK (L := dStrs ws) (fun d => match d with | .str t => D.str (subS vs ns t) | _ => .non) (ei_seq (ev_var rfl) sy) rfl (by rw [strs_len]; omega) fun i d hi => ?_))) (ck_tuple rfl)) fun d e => ?_) fun d e => ⟨Nat.le_refl _, vs, ns, y, ws, rfl, sy, e⟩
    · obtain ⟨t, rfl, ht⟩ := strs_mem (List.mem_of_getElem? hi)
      refine ⟨_, _, eg_name (j := 3) rfl, fun j hj => hj, ev_opK (ev_var rfl) (ev_methK (ev_var rfl) (ea_one (ev_var rfl)) (mk_index (hv t ht))) (rk_ixD rfl ?_)⟩
      exact at_nat (at_sub len (hv t ht))
    · rw [e]
      congr 1
      unfold dStrs
      rw [List.map_map, List.map_map]
      rfl
theorem ok__law_raised (T : Txt A K mg) (U : QTxt K mg CQ fQ CE fE dQ dE) (V : PTxt K mg CQ rh ra rv rp gh ga gv gp dh da dv dpl) (W : ITxt K mg CQ CIM fi di) (S : STxt K mg CIM CM) : FnOk P w K mg base CX0 8 A.f__law_raised A.fd__law_raised ["query", "value"] (Pr K (preRd CQ) 0 (postRd CQ)) := by
  have G_image := ok_q_image (P := P) (w := w) (base := base) T U V W
  refine T.F__law_raised.ok sc__law_raised (fun vs H Q E h => pr_len h fun s c ds hp => ?_) (fun cdv A' outer st H vs Q E hr h => ⟨_, (pss_cons (ps_set (i := 2) sc__law_raised.nd rfl (by first | exact Or.inl rfl | exact Or.inr rfl) pe_non)
      (pss_cons (ps_try_hold (i := 3) rfl rfl rfl sc__law_raised.nd rfl rfl ⟨rfl, by decide, .inl S.gE⟩ (tb := fun W => tDrop (tMethE CQ "image" (PrX K (preIm CQ) 0 (valIm CQ) (badIm CQ CIM)) (WE W) (tVar 0) (tCons (tVar 1) tNil)))
        (fun Wz pn xe tk _ => pss_one (ps_expr (pe_methE (pv 0) U.cQ W.mi G_image (hr.mono (by decide)) W.bi (fun σ => passAt tk σ) (pa_cons (pv 1) pa_nil))))
        (fun a oe cls dd pn hz hf => pss_one (ps_set (i := 2) sc__law_raised.nd rfl (by first | exact Or.inl rfl | exact Or.inr rfl) (pv 3))))
      (pss_one (ps_ret (pe_and (pe_callB (k_isx (K := K)) (by rfl) T.m_isinstance (by decide +kernel) (pa_cons (pv 2) (pa_cons (pe_glob (v := .ref CIM) rfl W.gM rfl) pa_nil))) (pe_one (pe_callB (k_isx (K := K)) (by rfl) T.m_isinstance (by decide +kernel) (pa_cons (pv 2) (pa_cons (pe_bltn (v := .ty "ValueError") (u := .type "ValueError") (by rfl) S.m_ValueError (by decide +kernel) rfl) pa_nil))))))))), ?_⟩)
  · obtain ⟨q, y, rfl, _⟩ := hp
    rfl
  obtain ⟨s, c, M, n, ds, hs, hc, ht, src, hn, rl, ⟨q, y, rfl, ok, ty⟩, kk⟩ := h
  obtain ⟨vx, vy, rfl, rx, ry⟩ := rl.inv2
  have rx0 := rx
  obtain ⟨a1, dx1, fs1, rfl, ma1, e1, hk1, rl1⟩ := rx
  refine ⟨.ref a1, rfl, a1, dx1, fs1, rfl, e1, lookup_no hk1 (by decide), vy, rfl, s, c, M, n, [qI CQ q, y], hs, hc, ht, src, hn, ⟨rx0, ry, trivial⟩, ⟨q, y, rfl, ok, ty⟩, fun v H2 d g2 s2 r2 hv => ?_, fun C H2 g2 s2 hb => ?_⟩
  · obtain ⟨q', ns, e, len, nm, rfl⟩ := hv
    injection e with e3 e
    injection e with e4 _
    subst e4
    have e5 : varsA q.2 = varsA q'.2 := by rw [← vars_perm (sortA_perm q.2), ← vars_perm (sortA_perm q'.2), (qI_inj e3).2]
    rw [← e5] at len
    have nb : namesB ((varsA q.2).length : Int) ((varsA q.2).length : Int) (.tup (dStrs ns)) = true := namesB_of nm (by omega) (by omega)
    refine ⟨.non, rfl, .inr (.inl ⟨.non, .ref CIM, _, _, false, rfl, .own CIM, .base .non, S.one0, false, rfl, ?_⟩)⟩
    exact kk (.bl false) H2 (.bl false) g2 s2 rfl ⟨q, _, rfl, by rw [nb]; rfl⟩
  · obtain ⟨q', y', e, nb, rfl⟩ := hb
    injection e with e3 e
    injection e with e4 _
    subst e4
    have e5 : varsA q.2 = varsA q'.2 := by rw [← vars_perm (sortA_perm q.2), ← vars_perm (sortA_perm q'.2), (qI_inj e3).2]
    rw [← e5] at nb
    refine ⟨S.exm, fun a ha => ⟨.ref a, rfl, ?_⟩⟩
    have at_ : upd H2 a (Xv (.ref C) none a) a = some (Xv (.ref C) none a) := upd_same
    refine ⟨.ref a, rfl, .inl ⟨a, C, none, .ref C, _, true, rfl, .own C, at_, (fun _ e => nomatch e), S.eC, S.one1, true, rfl, ?_⟩⟩
    refine ⟨.ref a, rfl, .inl ⟨a, C, none, .ty "ValueError", _, true, rfl, .ty "ValueError", at_, (fun _ e => nomatch e), S.eC, S.one2, ?_⟩⟩
    exact kk (.bl true) _ (.bl true) (g2.trans (Gr.new ha)) (s2.new ha) rfl ⟨q, y, rfl, by rw [nb]; rfl⟩
end

end K02
/-! text PsA -/
set_option Elab.async false
set_option linter.all false
set_option maxRecDepth 100000
set_option maxHeartbeats 4000000
/-! PsA: sets whose items are nested tuples (NestedKey): how one is looked for and put in. -/
namespace Ps
open PySem PySem.Spec PyProof.Rows L2 PlS
section
variable {P : Program} {w : World}
theorem flat_cls {n : Nat} {v : Value} (h : ∀ a, v ≠ .ref a) : ofAClassStatement n v = pure false := by
  cases v with
  | ref a => exact absurd rfl (h a)
  | _ => cases n <;> rfl
mutual
theorem noCls : ∀ (k : NestedKey) (v : Value) (n : Nat) (st : Shared), NestedIs st.heap k v → k.depth ≤ n → ∀ (B : Around) (Fx : Value → Shared → Prop) (Z : Bool → Shared → Prop), Z false st → wpAny (model P w) B (ofAClassStatement n v) Z Fx st
  | .none, _, _, _, x, _, B, Fx, Z, z => by cases x; rw [flat_cls (by intro a e; cases e)]; exact wpAny_pure z
  | .num _, _, _, _, x, _, B, Fx, Z, z => by cases x <;> (rw [flat_cls (by intro a e; cases e)]; exact wpAny_pure z)
  | .text _, _, _, _, x, _, B, Fx, Z, z => by cases x; rw [flat_cls (by intro a e; cases e)]; exact wpAny_pure z
  | .tup ks, _, n, st, x, hn, B, Fx, Z, z => by
    cases x with
    | @tup a o vs m _ hg hc hd hk =>
      simp only [NestedKey.depth] at hn
      cases n with
      | zero => omega
      | succ n =>
        have ty : st.TypeIs (.ref a) "tuple" := ⟨o, hg, hc⟩
        have is : (("tuple" : String) == "tuple") = true := by decide
        unfold ofAClassStatement
        refine wpAny_bind (wpAny_typeOf ty ?_)
        dsimp only
        simp only [is, if_true, Bool.not_true, Bool.false_eq_true, if_false]
        try refine wpAny_bind (wpAny_pure ?_)
        try simp only [Bool.not_true, Bool.false_eq_true, if_false]
        show wpAny _ _ (seqItems? (.ref a) >>= _) _ _ st
        refine wpAny_bind (wpAny_seqItems hg hd (wpAny_bind ?_))
        show wpAny _ _ (forIn vs _ _) _ _ st
        rw [← Array.forIn_toList]
        refine wpAny_forIn_list _ (fun l r u => r.1 = Option.none ∧ u = st ∧ ∀ y ∈ l, y ∈ vs.toList) _ (fun y l r u h => ?_) (fun r u h => ?_) _ _ ⟨rfl, rfl, fun y hy => hy⟩
        · obtain ⟨h1, rfl, h3⟩ := h
          refine wpAny_bind (noClss ks _ n u hk (by omega) y (h3 y List.mem_cons_self) _ _ _ ?_)
          simp only [Bool.false_eq_true, if_false]
          exact wpAny_pure ⟨rfl, rfl, fun c hc' => h3 c (List.mem_cons_of_mem _ hc')⟩
        · obtain ⟨r1, r2⟩ := r
          obtain ⟨h1, rfl, _⟩ := h
          simp only at h1
          subst h1
          exact wpAny_pure z
theorem noClss : ∀ (ks : List NestedKey) (vs : List Value) (n : Nat) (st : Shared), NestedAll st.heap ks vs → NestedKey.depthAll ks ≤ n → ∀ v ∈ vs, ∀ (B : Around) (Fx : Value → Shared → Prop) (Z : Bool → Shared → Prop), Z false st → wpAny (model P w) B (ofAClassStatement n v) Z Fx st
  | [], _, _, _, x, _, v, hv, _, _, _, _ => by cases x; cases hv
  | k :: ks, _, n, st, x, hn, v, hv, B, Fx, Z, z => by
    cases x with
    | cons x1 x2 =>
      simp only [NestedKey.depthAll] at hn
      rcases List.mem_cons.mp hv with e | hv
      · rw [e]; exact noCls k _ n st x1 (by omega) B Fx Z z
      · exact noClss ks _ n st x2 (by omega) v hv B Fx Z z
end
theorem flat_hash {n : Nat} {k : NestedKey} {v : Value} {h : Heap} (x : NestedIs h k v) (nt : ∀ ks, k ≠ .tup ks) : ∃ b, hashByValue n v = pure b := by
  cases x with
  | none => exact ⟨true, by cases n <;> rfl⟩
  | bool _ => exact ⟨true, by cases n <;> rfl⟩
  | int _ _ => exact ⟨true, by cases n <;> rfl⟩
  | text _ _ => exact ⟨false, by cases n <;> rfl⟩
  | tup _ _ _ _ => exact absurd rfl (nt _)
mutual
theorem byHash : ∀ (k : NestedKey) (v : Value) (n : Nat) (st : Shared), NestedIs st.heap k v → k.depth ≤ n → ∀ (B : Around) (Fx : Value → Shared → Prop) (Z : Bool → Shared → Prop), (∀ b, Z b st) → wpAny (model P w) B (hashByValue n v) Z Fx st
  | .none, _, _, _, x, _, B, Fx, Z, z => by obtain ⟨b, e⟩ := flat_hash x (by intro ks q; cases q); rw [e]; exact wpAny_pure (z b)
  | .num _, _, _, _, x, _, B, Fx, Z, z => by obtain ⟨b, e⟩ := flat_hash x (by intro ks q; cases q); rw [e]; exact wpAny_pure (z b)
  | .text _, _, _, _, x, _, B, Fx, Z, z => by obtain ⟨b, e⟩ := flat_hash x (by intro ks q; cases q); rw [e]; exact wpAny_pure (z b)
  | .tup ks, _, n, st, x, hn, B, Fx, Z, z => by
    cases x with
    | @tup a o vs m _ hg hc hd hk =>
      simp only [NestedKey.depth] at hn
      cases n with
      | zero => omega
      | succ n =>
        have ty : st.TypeIs (.ref a) "tuple" := ⟨o, hg, hc⟩
        unfold hashByValue
        refine wpAny_bind (wpAny_specialOf ty F.slot_tuple_hash.lookup ?_)
        show wpAny _ _ (seqItems? (.ref a) >>= _) _ _ st
        refine wpAny_bind (wpAny_seqItems hg hd (wpAny_bind ?_))
        show wpAny _ _ (forIn vs _ _) _ _ st
        rw [← Array.forIn_toList]
        refine wpAny_forIn_list _ (fun l r u => r.1 = Option.none ∧ u = st ∧ ∀ y ∈ l, y ∈ vs.toList) _ (fun y l r u h => ?_) (fun r u h => ?_) _ _ ⟨rfl, rfl, fun y hy => hy⟩
        · obtain ⟨h1, rfl, h3⟩ := h
          refine wpAny_bind (byHashs ks _ n u hk (by omega) y (h3 y List.mem_cons_self) _ _ _ fun b => ?_)
          cases b with
          | true =>
            simp only [Bool.not_true, Bool.false_eq_true, if_false]
            exact wpAny_pure ⟨rfl, rfl, fun c hc' => h3 c (List.mem_cons_of_mem _ hc')⟩
          | false =>
            simp only [Bool.not_false, if_true]
            first
              | exact wpAny_pure (wpAny_pure (z false))
              | exact wpAny_pure (wpAny_pure (wpAny_pure (z false)))
        · obtain ⟨r1, r2⟩ := r
          obtain ⟨h1, rfl, _⟩ := h
          simp only at h1
          subst h1
          exact wpAny_pure (z true)
theorem byHashs : ∀ (ks : List NestedKey) (vs : List Value) (n : Nat) (st : Shared), NestedAll st.heap ks vs → NestedKey.depthAll ks ≤ n → ∀ v ∈ vs, ∀ (B : Around) (Fx : Value → Shared → Prop) (Z : Bool → Shared → Prop), (∀ b, Z b st) → wpAny (model P w) B (hashByValue n v) Z Fx st
  | [], _, _, _, x, _, v, hv, _, _, _, _ => by cases x; cases hv
  | k :: ks, _, n, st, x, hn, v, hv, B, Fx, Z, z => by
    cases x with
    | cons x1 x2 =>
      simp only [NestedKey.depthAll] at hn
      rcases List.mem_cons.mp hv with e | hv
      · rw [e]; exact byHash k _ n st x1 (by omega) B Fx Z z
      · exact byHashs ks _ n st x2 (by omega) v hv B Fx Z z
end
end
end Ps
/-! text PsB -/
set_option Elab.async false
set_option linter.all false
set_option maxRecDepth 100000
set_option maxHeartbeats 8000000
/-! PsB: sets of nested tuples: the search for one, a larger table, putting one in. -/
namespace Ps
open PySem PySem.Spec PyProof.Rows L2 PlS
section
variable {P : Program} {w : World} {A : Around} {E : Value → Shared → Prop} {s : Shared}
/-- the tuple at b is the key k, of a depth that the model asks in full -/
def At (h : Heap) (k : NestedKey) (b : Addr) : Prop := NestedIs h k (.ref b) ∧ k.depth ≤ 8
theorem At.stay {h h' : Heap} {k : NestedKey} {b : Addr} (x : At h k b) (go : ∀ c o vs n, h.get? c = some o → o.data = .seq vs n → h'.get? c = some o) : At h' k b := ⟨NestedIs.at go k _ x.1, x.2⟩
theorem At.off {h h' : Heap} {k : NestedKey} {a b : Addr} {o : Obj} {es : Array (Int × Value)} {ep : Nat} {t : SetTable} (x : At h k b) (ho : h.get? a = some o) (hd : o.data = .set es ep t) (same : Heap.SameBut a h h') : At h' k b :=
  x.stay fun c u vs n e q => (same.2 c fun z => by
    subst z
    rw [ho] at e
    cases e
    rw [hd] at q
    cases q).trans e
theorem unseen {k : NestedKey} {b : Addr} {Z : Bool → Shared → Prop} (x : At s.heap k b) {ys : List Value} (hy : ∀ y ∈ ys, ∃ j c, y = Value.ref c ∧ At s.heap j c) (z : Z false s) : wpAny (model P w) A (searchCouldBeSeen (.ref b) ys) Z E s := by
  unfold searchCouldBeSeen
  refine wpAny_bind (wpAny_forIn_list _ (fun l r u => r.1 = Option.none ∧ u = s ∧ ∀ y ∈ l, ∃ j c, y = Value.ref c ∧ At s.heap j c) _ (fun y l r u h => ?_) (fun r u h => ?_) _ _ ⟨rfl, rfl, hy⟩)
  · obtain ⟨h1, rfl, h3⟩ := h
    obtain ⟨j, c, rfl, xc⟩ := h3 y List.mem_cons_self
    have more : ∀ y ∈ l, ∃ j c, y = Value.ref c ∧ At u.heap j c := fun v hv => h3 v (List.mem_cons_of_mem _ hv)
    dsimp only
    by_cases very : (b == c || (carriedByValue (.ref b) && carriedByValue (.ref c))) = true
    · exact wp_if_pos very (wpAny_pure ⟨rfl, rfl, more⟩)
    · refine wp_if_neg very (wpAny_bind (quiet_key k _ 8 u x.1 x.2 _ _ _ ?_))
      simp only [Bool.not_true, Bool.false_eq_true, if_false]
      refine wpAny_bind (quiet_key j _ 8 u xc.1 xc.2 _ _ _ ?_)
      simp only [Bool.not_true, Bool.false_eq_true, if_false]
      refine wpAny_bind (noCls k _ 8 u x.1 x.2 _ _ _ ?_)
      simp only [Bool.false_eq_true, if_false]
      refine wpAny_bind (noCls j _ 8 u xc.1 xc.2 _ _ _ ?_)
      simp only [Bool.false_eq_true, if_false]
      exact wpAny_pure ⟨rfl, rfl, more⟩
  · obtain ⟨r1, r2⟩ := r
    obtain ⟨h1, rfl, _⟩ := h
    simp only at h1
    subst h1
    exact wpAny_pure z
/-- the rows of a set's payload for its items -/
def rows (w : World) (L : List (Addr × NestedKey)) : List (Int × Value) := L.map fun p => (p.2.hash w, .ref p.1)
theorem rows_len (L : List (Addr × NestedKey)) : (rows w L).length = L.length := List.length_map _
def hashL (w : World) (L : List (Addr × NestedKey)) : List Int := L.map fun p => p.2.hash w
structure SetN (w : World) (h : Heap) (a : Addr) (L : List (Addr × NestedKey)) (es : Array (Int × Value)) (ep : Nat) (t : SetTable) : Prop where
  at_ : ∃ o, h.get? a = some o ∧ o.ExactSet ∧ o.data = .set es ep t
  rows : es.toList = rows w L
  tab : TabOk t (hashL w L)
  once : (L.map (·.2)).Nodup
  item : ∀ p ∈ L, At h p.2 p.1
  led : w.params.followText "set-order" = true ∨ t.led = true
  room : L.length * 5 < t.mask * 3
  few : L.length < 64
theorem size_of {L : List (Addr × NestedKey)} {es : Array (Int × Value)} (h : es.toList = rows w L) : es.size = L.length := by
  rw [← Array.length_toList, h, rows_len]
theorem entry_of {L : List (Addr × NestedKey)} {es : Array (Int × Value)} (h : es.toList = rows w L) {i : Nat} {p : Addr × NestedKey} (e : L[i]? = some p) : es[i]? = some (p.2.hash w, .ref p.1) := by
  rw [← Array.getElem?_toList, h]
  unfold rows
  rw [List.getElem?_map, e]
  rfl
theorem fits_of {L : List (Addr × NestedKey)} {es : Array (Int × Value)} {t : SetTable} (h : es.toList = rows w L) (T : TabOk t (hashL w L)) (le : L.length ≤ t.mask) : t.fits es.size = true := by
  have q := T.sz
  unfold hashL at q
  rw [List.length_map] at q
  have z := size_of h
  unfold SetTable.fits SetTable.fill
  rw [T.dm, Bool.and_eq_true, beq_iff_eq, decide_eq_true_eq]
  refine ⟨by omega, ?_⟩
  show t.place.size + 0 ≤ t.mask
  omega
variable {a : Addr} {L : List (Addr × NestedKey)} {es : Array (Int × Value)} {ep : Nat} {t : SetTable}
theorem SetN.fits {h : Heap} (R : SetN w h a L es ep t) : t.fits es.size = true := fits_of R.rows R.tab (by have := R.room; omega)
theorem keeps_way {m : Nat} {g : Int} (c : Nat) : (nth m (runAt m (SetTable.bits g % (m + 1)) (SetTable.bits g)) c).dummy = none := by
  have step : ∀ (n : Nat) (p : SetTable.Probe), p.dummy = none → (nth m p n).dummy = none := fun n => by
    induction n with
    | zero => exact fun p h => h
    | succ n ih =>
      intro p h
      refine ih (adv m p) ?_
      unfold adv
      split <;> exact h
  exact step c _ rfl
/-- where the c-th look for the hash g stands -/
abbrev look (m : Nat) (g : Int) (c : Nat) : SetTable.Probe := nth m (runAt m (SetTable.bits g % (m + 1)) (SetTable.bits g)) c
theorem look_add (m : Nat) (g : Int) (c q : Nat) : nth m (look m g c) q = look m g (c + q) := (nth_add m c _ q).symm
/-- from the c-th look on -/
theorem seek (R : SetN w s.heap a L es ep t) {x : Addr} {k : NestedKey} (hx : At s.heap k x) (hu : A.units + 8 < cLine) {g : Int} (eg : g = k.hash w) {N : Nat} (small : N < 10 * SetTable.turns t.mask) (free : way t.mask g N ∉ t.place.toList)
    (taken : ∀ c, c < N → way t.mask g c ∈ t.place.toList) {Z : SetFound → Shared → Prop} (yes : k ∈ L.map (·.2) → Z (.there none) s) (no : k ∉ L.map (·.2) → Z (.free (way t.mask g N) false) s) :
    ∀ (f c : Nat) (start : Option SetTable.Probe), start.getD (t.probeStart g) = look t.mask g c → c ≤ N → N - c < f → (∀ (i : Nat) p, L[i]? = some p → p.2 = k → ∃ d, c ≤ d ∧ d < N ∧ t.place.toList[i]? = some (way t.mask g d)) →
      wpAny (model P w) A (setSearchFrom a (.ref x) g true f start) Z E s := by
  intro f
  induction f with
  | zero => exact fun c _ _ _ lt _ => absurd lt (Nat.not_lt_zero _)
  | succ f ih =>
    intro c start st le lt ahead
    obtain ⟨o, ho, ex, hd⟩ := R.at_
    have mo := mask_odd R.tab.mok
    have stays : ¬ t.gaveWay = true := by
      unfold SetTable.gaveWay
      rw [mo]
      decide
    rw [setSearchFrom_succ]
    refine wpAny_bind (wpAny_setState_of ho hd R.fits ?_)
    dsimp only
    refine wp_if_neg stays ?_
    try refine wpAny_bind (wpAny_pure ?_)
    have jAt : ∀ q, (nth t.mask (look t.mask g c) q).j = way t.mask g (c + q) := fun q => congrArg SetTable.Probe.j (look_add t.mask g c q)
    have stop : c + (N - c) = N := by omega
    have two := go_spec t R.tab.ris R.tab.dm (fun i => (es[i]?.map (·.1)).getD 0) g (10 * SetTable.turns t.mask) (N - c) (look t.mask g c) (keeps_way c) (by omega) (fun q hq => by rw [jAt]; exact taken _ (by omega)) (by rw [jAt, stop]; exact free)
    have hashIs : ∀ (i : Nat) p, L[i]? = some p → (es[i]?.map (·.1)).getD 0 = p.2.hash w := fun i p e => by
      rw [entry_of R.rows e]
      rfl
    rcases two with ⟨q, i, hq, hi, hh, before, probe⟩ | ⟨none_, probe⟩
    · rw [jAt] at hi
      have il : i < L.length := by
        have h1 := (List.getElem?_eq_some_iff.mp hi).1
        have h2 := R.tab.sz
        unfold hashL at h2
        rw [Array.length_toList] at h1
        rw [List.length_map] at h2
        omega
      obtain ⟨p, ep⟩ : ∃ p, L[i]? = some p := ⟨_, List.getElem?_eq_getElem il⟩
      have pm := List.mem_of_getElem? ep
      have met : t.probe (fun i => (es[i]?.map (·.1)).getD 0) g (start.getD (t.probeStart g)) = some (.candidate (way t.mask g (c + q)) i (look t.mask g (c + (q + 1)))) := by
        rw [st, ← jAt, ← look_add]
        exact probe
      rw [met]
      dsimp only
      have live : t.slot (way t.mask g (c + q)) = .live i := slot_live R.tab.ris hi
      have onward : wpAny (model P w) A (searchRest a (.ref x) g true f es t (way t.mask g (c + q)) i (look t.mask g (c + (q + 1)))) Z E s := by
        unfold searchRest
        rw [entry_of R.rows ep]
        dsimp only
        refine wpAny_bind (wpAny_holding ((nestedKind P w).eqBool hu (R.item p pm) hx ?_))
        refine wpAny_bind (wpAny_setState_of ho hd R.fits ?_)
        dsimp only
        by_cases same : p.2 = k
        · exact wp_if_pos (by simp [same]) (wpAny_pure (yes (List.mem_map.mpr ⟨p, pm, same⟩)))
        · refine wp_if_neg (by simp [same]) ?_
          try refine wpAny_bind (wpAny_pure ?_)
          rw [sameMem]
          dsimp only
          simp only [if_true, live, entry_of R.rows ep]
          refine wpAny_bind (wpAny_isSame_ref_self (wpAny_bind (wpAny_pure ?_)))
          simp only [if_true]
          refine wp_if_neg (by simp [same]) ?_
          refine ih (c + (q + 1)) _ rfl (by omega) (by omega) fun i0 p0 e0 k0 => ?_
          obtain ⟨d, d1, d2, d3⟩ := ahead i0 p0 e0 k0
          refine ⟨d, ?_, d2, d3⟩
          have h0 : (es[i0]?.map (·.1)).getD 0 = g := by rw [hashIs i0 p0 e0, k0, eg]
          rcases Nat.lt_trichotomy d (c + q) with z | z | z
          · exact absurd h0 (before (d - c) i0 (by omega) (by rw [jAt, show c + (d - c) = d by omega]; exact d3))
          · rw [z] at d3
            have l2 := slot_live R.tab.ris d3
            rw [live] at l2
            injection l2 with l2
            rw [← l2, ep] at e0
            cases e0
            exact absurd k0 same
          · omega
      by_cases led : t.led = true
      · refine wp_if_neg (by simp [led]) ?_
        try refine wpAny_bind (wpAny_pure ?_)
        exact onward
      · refine wp_if_pos (by simp [led]) (wpAny_bind (unseen hx (fun y hy => ?_) ?_))
        · obtain ⟨e, he, rfl⟩ := List.mem_map.mp hy
          have he1 : e ∈ es ∧ e.1 = g := by simpa using he
          have he2 : e ∈ es.toList := by simpa using he1.1
          rw [R.rows] at he2
          obtain ⟨p2, hp2, rfl⟩ := List.mem_map.mp he2
          exact ⟨p2.2, p2.1, rfl, R.item p2 hp2⟩
        · refine wp_if_neg (by decide) ?_
          try refine wpAny_bind (wpAny_pure ?_)
          exact onward
    · have met : t.probe (fun i => (es[i]?.map (·.1)).getD 0) g (start.getD (t.probeStart g)) = some (.empty (way t.mask g N) none) := by
        have e2 : way t.mask g N = (nth t.mask (look t.mask g c) (N - c)).j := by rw [jAt, stop]
        rw [st, e2]
        exact probe
      rw [met]
      dsimp only
      refine wpAny_pure (no fun hm => ?_)
      obtain ⟨p0, m0, k0⟩ := List.mem_map.mp hm
      obtain ⟨i0, e0⟩ := List.mem_iff_getElem?.mp m0
      obtain ⟨d, d1, d2, d3⟩ := ahead i0 p0 e0 k0
      exact none_ (d - c) i0 (by omega) (by rw [jAt, show c + (d - c) = d by omega]; exact d3) (by rw [hashIs i0 p0 e0, k0, eg])
theorem seek_all (R : SetN w s.heap a L es ep t) {x : Addr} {k : NestedKey} (hx : At s.heap k x) (hu : A.units + 8 < cLine) {Z : SetFound → Shared → Prop} (yes : k ∈ L.map (·.2) → Z (.there none) s)
    (no : ∀ N, k ∉ L.map (·.2) → way t.mask (k.hash w) N ∉ t.place.toList → (∀ c, c < N → way t.mask (k.hash w) c ∈ t.place.toList) → Z (.free (way t.mask (k.hash w) N) false) s) : wpAny (model P w) A (setSearch a (.ref x) (k.hash w) true) Z E s := by
  have room := R.room
  have len : (hashL w L).length = L.length := List.length_map _
  obtain ⟨N, n1, n2, n3⟩ := R.tab.first (by rw [len]; omega) (k.hash w)
  have big : N < 100000 := by
    have : 10 * SetTable.turns t.mask ≤ 1420 := by
      unfold SetTable.turns
      rcases R.tab.mok with e | e | e <;> omega
    omega
  unfold setSearch
  refine seek R hx hu rfl n1 n2 n3 yes (fun z => no N z n2 n3) 100000 0 none rfl (Nat.zero_le _) (by omega) fun i p e q => ?_
  have hi : (hashL w L)[i]? = some (k.hash w) := by
    unfold hashL
    rw [List.getElem?_map, e, ← q]
    rfl
  have il : i < t.place.toList.length := by
    have h1 := (List.getElem?_eq_some_iff.mp e).1
    have h2 := R.tab.sz
    rw [len] at h2
    rw [Array.length_toList, h2]
    exact h1
  obtain ⟨c, c1, c2⟩ := R.tab.before n2 hi (List.getElem?_eq_getElem il)
  exact ⟨c, Nat.zero_le _, c1, by rw [List.getElem?_eq_getElem il, c2]⟩
/-- the items in the order of a table that is laid anew -/
theorem in_order (he : es.toList = rows w L) (order : Array Nat) (hp : order.toList.Perm (List.range L.length)) : ∃ M, (order.filterMap (es[·]?)).toList = rows w M ∧ M.Perm L ∧ hashL w M = order.toList.map fun i => (es.map (·.1)).getD i 0 := by
  have key : ∀ l : List Nat, (∀ i ∈ l, i < L.length) → l.filterMap (fun i => es[i]?) = rows w (l.filterMap (fun i => L[i]?)) ∧ hashL w (l.filterMap (fun i => L[i]?)) = l.map fun i => (es.map (·.1)).getD i 0 := fun l => by
    induction l with
    | nil => exact fun _ => ⟨rfl, rfl⟩
    | cons i l ih =>
      intro hl
      have hi := hl i List.mem_cons_self
      have ei := List.getElem?_eq_getElem hi
      have ee := entry_of he ei
      obtain ⟨h1, h2⟩ := ih fun j hj => hl j (List.mem_cons_of_mem _ hj)
      refine ⟨?_, ?_⟩
      · rw [List.filterMap_cons_some ee, List.filterMap_cons_some ei, h1]
        rfl
      · rw [List.filterMap_cons_some ei, List.map_cons, ← h2]
        have : (es.map (·.1)).getD i 0 = (L[i]).2.hash w := by simp [Array.getD_eq_getD_getElem?, ee]
        rw [this]
        rfl
  obtain ⟨h1, h2⟩ := key order.toList fun i hi => List.mem_range.mp (hp.mem_iff.mp hi)
  refine ⟨order.toList.filterMap (fun i => L[i]?), by first | (rw [Array.toList_filterMap]; exact h1) | simpa using h1, ?_, h2⟩
  refine (hp.filterMap _).trans ?_
  have whole : ∀ n, n ≤ L.length → (List.range n).filterMap (fun i => L[i]?) = L.take n := fun n => by
    induction n with
    | zero => exact fun _ => rfl
    | succ n ih =>
      intro hn
      have lt : n < L.length := hn
      have e1 := List.getElem?_eq_getElem lt
      rw [List.range_succ, List.filterMap_append, ih (Nat.le_of_lt lt), List.take_succ, e1, List.filterMap_cons_some e1]
      rfl
  rw [whole L.length (Nat.le_refl _), List.take_length]
/-- a larger table -/
theorem grow {o : Obj} (ho : s.heap.get? a = some o) (ex : o.ExactSet) (hd : o.data = .set es ep t) (he : es.toList = rows w L) (T : TabOk t (hashL w L)) (le : L.length ≤ t.mask) (once : (L.map (·.2)).Nodup) (item : ∀ p ∈ L, At s.heap p.2 p.1)
    (led : w.params.followText "set-order" = true ∨ t.led = true) (few : L.length < 64) {wanted m : Nat} (hw : SetTable.sizeAbove wanted - 1 = m) (mok : MaskOk m) (line : SetTable.sizeAbove wanted ≤ 128) (room : L.length * 5 < m * 3) {Z : Unit → Shared → Prop}
    (z : ∀ h' M es' ep' t', Heap.SameBut a s.heap h' → SetN w h' a M es' ep' t' → M.Perm L → Z () { s with heap := h' }) : wpAny (model P w) A (setRelay a wanted) Z E s := by
  have sz := size_of he
  obtain ⟨t', order, e, hp, T', em, el, _, _⟩ := relaid_ok t (hs := es.map (·.1)) (wanted := wanted) hw mok (by rw [Array.size_map, sz]; omega)
  rw [Array.size_map, sz] at hp
  obtain ⟨M, r1, r2, r3⟩ := in_order he order hp
  rw [← r3] at T'
  have sz2 : (order.filterMap (es[·]?)).size = es.size := by rw [size_of r1, r2.length_eq, sz]
  rw [setRelay_eq]
  refine wpAny_bind (wpAny_setState_of ho hd (fits_of he T le) ?_)
  dsimp only
  refine wp_if_neg (by rw [sizeLine_eq]; omega) ?_
  try refine wpAny_bind (wpAny_pure ?_)
  rw [e]
  dsimp only
  refine wpAny_bind (wp_if_neg (by rw [sz2]; simp) ?_)
  try refine wpAny_bind (wpAny_pure ?_)
  refine wpAny_pure ?_
  dsimp only
  have sb : Heap.SameBut a s.heap (s.heap.update a (Obj.putSet (order.filterMap (es[·]?)) t')) := Heap.SameBut.update ..
  refine wpAny_storeSet_of ho hd (z _ M (order.filterMap (es[·]?)) (ep + 1) t' sb ⟨⟨_, store_at ho hd, ⟨ex.1, ex.2.1, ex.2.2⟩, rfl⟩, r1, T', (r2.map (·.2)).nodup_iff.mpr once, fun p h => (item p (r2.mem_iff.mp h)).off ho hd sb, by rw [el]; exact led, by rw [r2.length_eq, em]; exact room, by rw [r2.length_eq]; exact few⟩ r2) (by rw [sz2, sz, sizeLine_eq]; omega)
/-- what adding does behind the search -/
def stored (a : Addr) (es : Array (Int × Value)) (t : SetTable) (n : Nat) : Sem Bool := do
  storeSet a es t
  if !false && t.tooFull then setRelay a (SetTable.grown n)
  return true
theorem put (R : SetN w s.heap a L es ep t) {x : Addr} {k : NestedKey} (hx : At s.heap k x) (hu : A.units + 8 < cLine) (few : L.length + 1 < 64) {Z : Bool → Shared → Prop}
    (z : ∀ b h' M es' ep' t', Heap.SameBut a s.heap h' → SetN w h' a M es' ep' t' → (k ∈ L.map (·.2) → M = L) → (k ∉ L.map (·.2) → M.Perm ((x, k) :: L)) → Z b { s with heap := h' }) : wpAny (model P w) A (setAddHashed a (.ref x) (k.hash w)) Z E s := by
  obtain ⟨o, ho, ex, hd⟩ := R.at_
  have sz := size_of R.rows
  have room := R.room
  unfold setAddHashed
  refine wpAny_holding ?_
  rw [show (100000 : Nat) = 99999 + 1 from rfl, setAddHashedIn_succ]
  refine wpAny_bind (wpAny_setState_of ho hd R.fits ?_)
  dsimp only
  refine wp_if_neg (by simp [byScan, Value.scannable]) ?_
  try refine wpAny_bind (wpAny_pure ?_)
  refine wpAny_bind (seek_all R hx hu (fun hm => ?_) fun N hm hN taken => ?_)
  · dsimp only
    exact wpAny_pure (z false s.heap L es ep t (Heap.SameBut.refl a s.heap) R (fun _ => rfl) fun q => absurd hm q)
  · dsimp only
    refine wpAny_bind (wpAny_setState_of ho hd R.fits ?_)
    dsimp only
    obtain ⟨q1, q2, q3, q4, q5, q6, q7, q8, q9⟩ := R.tab.put hN taken
    generalize t.put (way t.mask (k.hash w) N) = pt at q1 q3 q4 q5 q6 q7 q8 q9 ⊢
    obtain ⟨t1, p⟩ := pt
    dsimp only at q1 q3 q4 q5 q6 q7 q8 q9 ⊢
    subst q1
    have len : (hashL w L).length = L.length := List.length_map _
    generalize epp : SetTable.below t.place (way t.mask (k.hash w) N) = p at q2 q3 ⊢
    have pm : (L.take p ++ (x, k) :: L.drop p).Perm ((x, k) :: L) := by
      have h : (L.take p ++ (x, k) :: L.drop p).Perm ((x, k) :: (L.take p ++ L.drop p)) := List.perm_middle
      rw [List.take_append_drop] at h
      exact h
    have ins : (SetTable.insertAt es p (k.hash w, Value.ref x)).toList = rows w (L.take p ++ (x, k) :: L.drop p) := by
      rw [SetTable.toList_insertAt, R.rows]
      unfold rows
      rw [List.map_append, List.map_cons, List.map_take, List.map_drop]
    have hs : hashL w (L.take p ++ (x, k) :: L.drop p) = (hashL w L).take p ++ k.hash w :: (hashL w L).drop p := by
      unfold hashL
      rw [List.map_append, List.map_cons, List.map_take, List.map_drop]
    rw [← hs] at q3
    generalize L.take p ++ (x, k) :: L.drop p = L1 at pm ins hs q3
    have len1 : L1.length = L.length + 1 := pm.length_eq
    generalize SetTable.insertAt es p (k.hash w, Value.ref x) = es1 at ins ⊢
    have sz1 := size_of ins
    have once : (L1.map (·.2)).Nodup := (pm.map (·.2)).nodup_iff.mpr (by rw [List.map_cons]; exact List.nodup_cons.mpr ⟨hm, R.once⟩)
    -- what is stored, plain or not
    have after : ∀ t2 : SetTable, t2.place = t1.place → t2.dummies = t1.dummies → t2.mask = t1.mask → t2.led = t1.led → wpAny (model P w) A (stored a es1 t2 (es.size + 1)) Z E s := fun t2 e1 e2 e3 e4 => by
      unfold stored
      have T2 : TabOk t2 (hashL w L1) := ⟨by rw [e1]; exact q3.ris, by rw [e2]; exact q3.dm, by rw [e1]; exact q3.sz, by rw [e3]; exact q3.mok, by rw [e1, e3]; exact q3.bd, by rw [e1, e3]; exact q3.reach⟩
      have led2 : w.params.followText "set-order" = true ∨ t2.led = true := by rw [e4, q5]; exact R.led
      have m2 : t2.mask = t.mask := e3.trans q4
      have fill2 : t2.fill = L.length + 1 := by
        have h1 := T2.sz
        unfold hashL at h1
        rw [List.length_map, len1] at h1
        unfold SetTable.fill
        rw [T2.dm, h1]
        rfl
      refine wpAny_bind (wpAny_storeSet_of ho hd ?_ (by rw [sz1, len1, sizeLine_eq]; omega))
      have sb : Heap.SameBut a s.heap (s.heap.update a (Obj.putSet es1 t2)) := Heap.SameBut.update ..
      have ho1 := store_at (es' := es1) (t' := t2) ho hd
      generalize s.heap.update a (Obj.putSet es1 t2) = h1 at sb ho1 ⊢
      have item1 : ∀ p ∈ L1, At h1 p.2 p.1 := fun p hp => by
        rcases List.mem_cons.mp (pm.mem_iff.mp hp) with e | hp
        · rw [e]; exact hx.off ho hd sb
        · exact (R.item p hp).off ho hd sb
      by_cases full : t2.tooFull = true
      · have f2 := full
        unfold SetTable.tooFull at f2
        rw [decide_eq_true_eq, fill2] at f2
        have which : (t.mask = 7 ∧ L.length = 4) ∨ (t.mask = 31 ∧ L.length = 18) := by
          rcases R.tab.mok with e | e | e
          · left; rw [m2, e] at f2; rw [e] at room; exact ⟨e, by omega⟩
          · right; rw [m2, e] at f2; rw [e] at room; exact ⟨e, by omega⟩
          · exfalso; rw [m2, e] at f2; omega
        have next : ∀ m, SetTable.sizeAbove (SetTable.grown (L.length + 1)) - 1 = m → MaskOk m → SetTable.sizeAbove (SetTable.grown (L.length + 1)) ≤ 128 → (L.length + 1) * 5 < m * 3 →
            wpAny (model P w) A (setRelay a (SetTable.grown (L.length + 1))) (fun _ s' => wpAny (model P w) A (pure true) Z E s') E { s with heap := h1 } := fun m a1 a2 a3 a4 =>
          grow (s := { s with heap := h1 }) ho1 ⟨ex.1, ex.2.1, ex.2.2⟩ rfl ins T2 (by rw [len1, m2]; rcases which with ⟨e, e2⟩ | ⟨e, e2⟩ <;> omega) once item1 led2 (by rw [len1]; exact few) a1 a2 a3 (by rw [len1]; exact a4) fun h2 M es2 ep2 t3 sb2 R2 pm2 =>
            wpAny_pure (z true h2 M es2 ep2 t3 (sb.trans sb2) R2 (fun q => absurd q hm) fun _ => pm2.trans pm)
        rw [sz]
        first
          | (refine wpAny_bind ?_; refine wp_if_pos (by simp [full]) ?_)
          | (refine wp_if_pos (by simp [full]) ?_; refine wpAny_bind ?_)
        rcases which with ⟨_, e2⟩ | ⟨_, e2⟩
        · exact next 31 (by rw [e2, size_20]) (.inr (.inl rfl)) (by rw [e2, size_20]; decide) (by omega)
        · exact next 127 (by rw [e2, size_76]) (.inr (.inr rfl)) (by rw [e2, size_76]; decide) (by omega)
      · have f2 := full
        unfold SetTable.tooFull at f2
        rw [decide_eq_true_eq, fill2] at f2
        first
          | refine wp_if_neg (by simp [full]) ?_
          | (refine wpAny_bind ?_; refine wp_if_neg (by simp [full]) ?_; refine wpAny_pure ?_)
        exact wpAny_pure (z true h1 L1 es1 (ep + 1) t2 sb ⟨⟨_, ho1, ⟨ex.1, ex.2.1, ex.2.2⟩, rfl⟩, ins, T2, once, item1, led2, by rw [len1]; omega, by rw [len1]; exact few⟩ (fun q => absurd q hm) fun _ => pm)
    have tail : ∀ b : Bool, wpAny (model P w) A (stored a es1 (if b = true then t1 else { t1 with plain := false }) (es.size + 1)) Z E s := fun b => by
      cases b with
      | true => exact after t1 rfl rfl rfl rfl
      | false => exact after { t1 with plain := false } rfl rfl rfl rfl
    by_cases pl : t1.plain = true
    · first
        | (refine wpAny_bind ?_; refine wp_if_pos pl ?_; refine byHash k _ 8 s hx.1 hx.2 _ _ _ fun b => ?_)
        | refine wp_if_pos pl (wpAny_bind (byHash k _ 8 s hx.1 hx.2 _ _ _ fun b => ?_))
      exact tail b
    · first
        | (refine wpAny_bind ?_; refine wp_if_neg pl ?_; refine wpAny_pure ?_)
        | refine wp_if_neg pl (wpAny_bind (wpAny_pure ?_))
      exact tail true
end
end Ps
/-! text PsC -/
set_option Elab.async false
set_option linter.all false
set_option maxRecDepth 100000
set_option maxHeartbeats 4000000
/-! PsC: set(a list of nested tuples). -/
namespace Ps
open PySem PySem.Spec PyProof.Rows L2 PlS PySem.Froz
/-- the set at S has of the items ks the first i, each key once -/
def Has (w : World) (h : Heap) (S : Addr) (ks : List (Addr × NestedKey)) (i : Nat) : Prop := ∃ L es ep t, SetN w h S L es ep t ∧ (∀ p ∈ L, p ∈ ks.take i) ∧ (∀ p ∈ ks.take i, p.2 ∈ L.map (·.2)) ∧ L.length ≤ i
theorem SetN.keep {w : World} {h h' : Heap} {S : Addr} {L : List (Addr × NestedKey)} {es : Array (Int × Value)} {ep : Nat} {t : SetTable} (R : SetN w h S L es ep t) (k : ∀ o, h.get? S = some o → h'.get? S = some o) (it : ∀ p ∈ L, At h' p.2 p.1) : SetN w h' S L es ep t := by
  obtain ⟨⟨o, e, r⟩, h2, h3, h4, h5, h6, h7, h8⟩ := R
  exact ⟨⟨o, k o e, r⟩, h2, h3, h4, it, h6, h7, h8⟩
theorem fresh_ok {w : World} {h : Heap} {S : Addr} (e : h.get? S = some (blank w)) : SetN w h S [] #[] 0 (.fresh 0 0 (!w.params.followText "set-order")) := by
  refine ⟨⟨_, e, ⟨rfl, rfl, rfl⟩, rfl⟩, rfl, ⟨List.Pairwise.nil, rfl, rfl, .inl rfl, fun x hx => ?_, fun i h j hi => ?_⟩, List.nodup_nil, fun p hp => (by cases hp), ?_, by show 0 * 5 < 7 * 3; decide, by exact (by decide : (0 : Nat) < 64)⟩
  · exact absurd hx (List.not_mem_nil)
  · simp [hashL] at hi
  · cases q : w.params.followText "set-order" with
    | true => exact .inl rfl
    | false => exact .inr rfl
section
variable {P : Program} {w : World} {A : Around} {R : Result → Shared → Prop} {I : Addr} {fp wr : List Addr} {G : Array GenState → Array GenState → Prop} {n : Nat} {Pv : Nat → Value → Prop} {St : Nat → Shared → Prop} {h0 : Heap}
theorem fillN (W : WalksS P w A.in1 I fp wr G n Pv St) (S : Addr) (hS : S ∉ fp) (ks : List (Addr × NestedKey)) (hn : n = ks.length) (hv : ∀ i v, Pv i v → ∃ p, ks[i]? = some p ∧ v = .ref p.1) (few : n < 63) (hu : A.in1.units + 8 < cLine)
    (old : ∀ b o, h0.get? b = some o → b ∉ wr ∧ b ≠ S) (its : ∀ p ∈ ks, At h0 p.2 p.1) :
    ∀ (k i : Nat) (s : Shared), n = i + k → St i s → (∀ b o, h0.get? b = some o → s.heap.get? b = some o) → Has w s.heap S ks i →
      (∀ s', Moved (S :: wr) G s s' → (∀ b o, h0.get? b = some o → s'.heap.get? b = some o) → Has w s'.heap S ks n → R (.ok (.ret .none)) s') → codeAny (model P w) A (.builtin "set.update.loop" ⟨[.ref S, .ref I], []⟩) R s := by
  have nw : S ∉ wr := fun z => hS (W.sub _ z)
  have up : ∀ b, b ∈ wr → b ∈ S :: wr := fun b hb => List.mem_cons_of_mem _ hb
  have itAt : ∀ {h : Heap}, (∀ b o, h0.get? b = some o → h.get? b = some o) → ∀ p ∈ ks, At h p.2 p.1 := fun kp p hp => (its p hp).stay fun c o vs n e _ => kp c o e
  intro k
  induction k with
  | zero =>
    intro i s hk st kp hs go
    have hi : i = n := hk.symm
    subst hi
    refine codeAny_builtin F.entry_set_update_loop ?_; rw [Around.under_plainId F.plain_set_update_loop _]
    refine wpAny_bind (W.done s _ _ st fun s' mv => wpAny_pure (go s' (mv.mono up) (fun b o e => mv.heap b o (old b o e).1 (kp b o e)) ?_))
    obtain ⟨L, es, ep, t, r, h1, h2, h3⟩ := hs
    exact ⟨L, es, ep, t, r.keep (fun o e => mv.heap S o nw e) (fun p hp => itAt (fun b o e => mv.heap b o (old b o e).1 (kp b o e)) p (List.mem_of_mem_take (h1 p hp))), h1, h2, h3⟩
  | succ k ih =>
    intro i s hk st kp hs go
    refine codeAny_builtin F.entry_set_update_loop ?_; rw [Around.under_plainId F.plain_set_update_loop _]
    refine wpAny_bind (W.item i s _ _ (by omega) st fun v s' pv st' mv => ?_)
    obtain ⟨p, hp, rfl⟩ := hv i v pv
    have pm := List.mem_of_getElem? hp
    have kp1 : ∀ b o, h0.get? b = some o → s'.heap.get? b = some o := fun b o e => mv.heap b o (old b o e).1 (kp b o e)
    obtain ⟨L, es, ep, t, r, h1, h2, h3⟩ := hs
    have r1 : SetN w s'.heap S L es ep t := r.keep (fun o e => mv.heap S o nw e) fun q hq => itAt kp1 q (List.mem_of_mem_take (h1 q hq))
    have xp := itAt kp1 p pm
    show wpAny _ A.in1 (holding [Value.ref p.1] (setAdd S (.ref p.1)) >>= _) _ _ s'
    refine wpAny_bind (wpAny_holding ?_); unfold setAdd
    refine wpAny_holding (wpAny_bind (pyHash_key p.2 _ _ _ _ xp.1 (by have := xp.2; omega) ?_))
    refine put (s := { s' with toks := s'.toks + p.2.draws }) (x := p.1) r1 xp hu (by omega) fun b h' M es' ep' t' sb R2 same more => ?_
    have kp2 : ∀ b o, h0.get? b = some o → h'.get? b = some o := fun b o e => (sb.2 b (old b o e).2).trans (kp1 b o e)
    have tk : ks.take (i + 1) = ks.take i ++ [p] := by rw [List.take_add_one, hp]; rfl
    have ok2 : Has w h' S ks (i + 1) := by
      by_cases hm : p.2 ∈ L.map (·.2)
      · obtain rfl := same hm
        refine ⟨M, es', ep', t', R2, fun q hq => ?_, fun q hq => ?_, by omega⟩
        · rw [tk]; exact List.mem_append_left _ (h1 q hq)
        · rw [tk] at hq
          rcases List.mem_append.mp hq with hq | hq
          · exact h2 q hq
          · rw [List.mem_singleton.mp hq]; exact hm
      · have pmM := more hm
        refine ⟨M, es', ep', t', R2, fun q hq => ?_, fun q hq => ?_, by have := pmM.length_eq; rw [List.length_cons] at this; omega⟩
        · rw [tk]
          rcases List.mem_cons.mp (pmM.mem_iff.mp hq) with e | hq
          · rw [e]; exact List.mem_append_right _ (List.mem_singleton.mpr rfl)
          · exact List.mem_append_left _ (h1 q hq)
        · rw [tk] at hq
          refine ((pmM.map (·.2)).mem_iff).mpr ?_
          rw [List.map_cons]
          rcases List.mem_append.mp hq with hq | hq
          · exact List.mem_cons_of_mem _ (h2 q hq)
          · rw [List.mem_singleton.mp hq]; exact List.mem_cons_self
    have far : ∀ b, b ∈ fp → b ≠ S := fun b hb z => hS (by rw [← z]; exact hb)
    refine wpAny_pure ⟨plainId_quiet F.plain_set_update_loop _, ih (i + 1) _ (by omega) (W.frame _ s' _ _ st' (Nat.le_add_right _ _) fun b hb o e => (sb.2 b (far b hb)).trans e) kp2 ok2 fun s2 mv2 kp3 ok3 => go s2 (Moved.trans W.gtrans ((mv.mono up).then_heap (Nat.le_add_right _ _) fun b o hb e => ?_) mv2) kp3 ok3⟩
    exact (sb.2 b fun z => hb (by rw [z]; exact List.mem_cons_self)).trans e
end
section
variable {P : Program} {w : World} {A : Around} {E : Value → Shared → Prop} {s : Shared}
/-- set(a list of nested tuples) -/
theorem makeN {l : Addr} {items : Array Value} {ks : List (Addr × NestedKey)} {Q : Value → Shared → Prop} (hh : A.handled = none) (hl : s.heap.IsList l items) (hi : items.toList = ks.map fun p => Value.ref p.1) (its : ∀ p ∈ ks, At s.heap p.2 p.1) (few : items.size < 63) (hu : A.units + 20 < cLine)
    (k : ∀ (h' : Heap) (tk : Nat), Has w h' s.heap.objs.size ks ks.length → (∀ b o, s.heap.get? b = some o → h'.get? b = some o) → Q (.ref s.heap.objs.size) { s with heap := h', toks := tk }) :
    wpAny (model P w) A (call (.type "set") [.ref l]) Q E s := by
  have C := F.called_set
  obtain ⟨c, tl, hmro⟩ := C.mro; have hmade := C.made; have hsub := C.sub
  refine wpAny_call (codeAny_of_tree ?_); show wpAny _ _ (callAny (.type "set") _) _ _ _
  refine wpAny_pure ⟨Code.quiet_builtin _ (by decide +kernel), codeAny_builtin F.entry_type_call ?_⟩; rw [Around.under_plain (weight_type_call_type "set" [.ref l] []) rfl]
  have h1 := C.notType; have h2 := C.canCreate; have hct := F.typeCall_set_1 (.ref l)
  repeat (any_goals (first | assumption | wp_step))
  refine codeAny_mono (code_set_led1 (.ref l) (E := E) (Q₁ := fun o s₁ => o = .ref s.heap.objs.size ∧ s₁ = { s with heap := s.heap.push (blank w) }) ⟨rfl, rfl⟩) fun r s₁ hr => ?_
  rcases r with e | fl
  · exact hr
  cases fl with
  | ret obj =>
    obtain ⟨rfl, rfl⟩ := hr
    have at0 : (s.heap.push (blank w)).get? s.heap.objs.size = some (blank w) := Heap.get?_push_size _ rfl
    have hT : Shared.TypeIs { s with heap := s.heap.push (blank w) } (.ref s.heap.objs.size) "set" := ⟨_, at0, rfl⟩
    have hli := C.init.lookup; have hbi := C.init.bind (.ref s.heap.objs.size)
    repeat (any_goals (first | assumption | wp_step))
    refine codeAny_mono (codeAny_call_builtin (R := wants (fun r s₂ => r = .none ∧ ∃ h' tk, s₂ = { s with heap := h', toks := tk } ∧ Has w h' s.heap.objs.size ks ks.length ∧ (∀ b o, s.heap.get? b = some o → h'.get? b = some o)) E) C.init.plain F.entry_set_init (check_set_init_1 hT ?_)) fun r₂ s₂ hr₂ => ?_
    · obtain ⟨⟨oc, od, odt, osl⟩, hol, hcl, nl, hdl⟩ := hl
      cases hcl; cases hdl
      have hol' := Heap.get?_push_of_some (blank w) hol
      have hsls := F.sub_list_set; have hslf := F.sub_list_frozenset
      have hne : (Value.type "list" == Value.type "dict") = false := by decide
      have isl : (s.heap.push (blank w)).IsList l items := ⟨_, hol', rfl, nl, rfl⟩
      unfold Builtin.«set.__init__» noKeywords Builtin.Frozenset.updateFrom
      generalize hPI : pyIter = PI
      wp_walk
      subst hPI
      refine wpAny_pyIter_list isl (wpAny_bind (wpAny_runValue ?_))
      have lt : l < s.heap.objs.size := Heap.lt_size hol
      have h3 : A.in1.in1.in1.handled = none := by simp [hh]
      have sz : (s.heap.push (blank w)).objs.size = s.heap.objs.size + 1 := Heap.size_push ..
      have ap : l ≠ (s.heap.push (blank w)).objs.size := by rw [sz]; exact Nat.ne_of_lt (Nat.lt_succ_of_lt lt)
      have out : s.heap.objs.size ∉ [(s.heap.push (blank w)).objs.size, l] := by
        rw [sz]; intro z
        rcases List.mem_cons.mp z with z | z
        · exact Nat.succ_ne_self _ z.symm
        · exact Nat.ne_of_gt lt (List.mem_singleton.mp z)
      have len : items.size = ks.length := by rw [← Array.length_toList, hi, List.length_map]
      have in2 : ∀ b o, s.heap.get? b = some o → ∀ o2 o3, ((s.heap.push o2).push o3).get? b = some o := fun b o e o2 o3 => Heap.get?_push_of_some _ (Heap.get?_push_of_some _ e)
      refine fillN (h0 := s.heap) ((Walks.list h3 _ l ap items).toS) s.heap.objs.size out ks len (fun i v hv => ?_) few (by show A.units + 1 + 1 + 1 + 8 < cLine; omega) (fun b o e => ⟨fun z => ?_, Nat.ne_of_lt (Heap.lt_size e)⟩) its items.size 0 _ (Nat.zero_add _).symm ⟨⟨_, Heap.get?_push_size _ rfl, rfl, rfl⟩, isl.push _⟩ (fun b o e => in2 b o e _ _) ⟨[], _, _, _, fresh_ok (Heap.get?_push_of_some _ at0), fun p hp => (by cases hp), fun p hp => (by simp at hp), Nat.le_refl _⟩ fun s' mv kp ok => ?_
      · have hv : items[i]? = some v := hv
        rw [← Array.getElem?_toList, hi, List.getElem?_map] at hv
        cases e : ks[i]? with
        | none => rw [e] at hv; cases hv
        | some p =>
          rw [e] at hv
          cases hv
          exact ⟨p, rfl, rfl⟩
      · have below := Heap.lt_size e
        rw [List.mem_singleton.mp z, sz] at below
        exact absurd below (Nat.not_lt.mpr (Nat.le_succ _))
      · obtain ⟨h', g', d', tk', os'⟩ := s'
        cases (show g' = s.gens from mv.gens); cases (show d' = s.drawn from mv.drawn); cases (show os' = s.os from mv.os)
        rw [len] at ok
        exact wpAny_pure (wpAny_pure ⟨rfl, h', tk', rfl, ok, kp⟩)
    · rcases r₂ with e | fl₂
      · exact hr₂
      cases fl₂ with
      | ret r =>
        obtain ⟨rfl, h', tk, rfl, ok, kp⟩ := hr₂
        repeat (any_goals (first | assumption | wp_step))
        exact k _ _ ok kp
      | _ => exact hr₂.elim
  | _ => exact hr.elim
end
end Ps
/-! text PsD -/
set_option Elab.async false
set_option linter.all false
set_option maxRecDepth 100000
set_option maxHeartbeats 4000000
/-! PsD: sets of nested tuples as objects of the layer: set(a list), sorted(a set). -/
namespace Ps
open PySem PySem.Spec PyProof.Rows L2 PlS PySem.Froz
mutual
/-- the key that data is -/
def keyP : PyData → NestedKey
  | .bool b => .num (if b = true then 1 else 0)
  | .int i => .num i
  | .str x => .text x
  | .tuple xs => .tup (keysP xs)
  | .none => .none
  | .list _ => .none
  | .dict _ => .none
def keysP : List PyData → List NestedKey
  | [] => []
  | x :: xs => keyP x :: keysP xs
end
mutual
/-- data that may be a key: texts, ints, None, tuples of such -/
def hab : PyData → Bool
  | .none => true
  | .int _ => true
  | .str _ => true
  | .tuple xs => habs xs
  | .bool _ => false
  | .list _ => false
  | .dict _ => false
def habs : List PyData → Bool
  | [] => true
  | x :: xs => hab x && habs xs
end
mutual
theorem key_inj : ∀ a b : PyData, hab a = true → hab b = true → keyP a = keyP b → a = b
  | .none, b, _, hb, e => by cases b <;> simp_all [keyP, hab]
  | .int i, b, _, hb, e => by cases b <;> simp_all [keyP, hab]
  | .str x, b, _, hb, e => by cases b <;> simp_all [keyP, hab]
  | .tuple xs, b, ha, hb, e => by
    cases b with
    | tuple ys =>
      simp only [keyP, NestedKey.tup.injEq] at e
      rw [keys_inj xs ys ha hb e]
    | _ => simp_all [keyP, hab]
  | .bool _, _, ha, _, _ => by cases ha
  | .list _, _, ha, _, _ => by cases ha
  | .dict _, _, ha, _, _ => by cases ha
theorem keys_inj : ∀ a b : List PyData, habs a = true → habs b = true → keysP a = keysP b → a = b
  | [], [], _, _, _ => rfl
  | [], _ :: _, _, _, e => by cases e
  | _ :: _, [], _, _, e => by cases e
  | x :: xs, y :: ys, ha, hb, e => by
    simp only [habs, Bool.and_eq_true] at ha hb
    simp only [keysP, List.cons.injEq] at e
    rw [key_inj x y ha.1 hb.1 e.1, keys_inj xs ys ha.2 hb.2 e.2]
end
mutual
theorem key_depth : ∀ d : PyData, (keyP d).depth ≤ d.depth
  | .none => Nat.zero_le _
  | .bool _ => Nat.zero_le _
  | .int _ => Nat.zero_le _
  | .str _ => Nat.zero_le _
  | .list _ => Nat.zero_le _
  | .dict _ => Nat.zero_le _
  | .tuple xs => Nat.succ_le_succ (keys_depth xs)
theorem keys_depth : ∀ ds : List PyData, NestedKey.depthAll (keysP ds) ≤ PyData.depthAll ds
  | [] => Nat.le_refl _
  | x :: xs => by
    have h1 := key_depth x
    have h2 := keys_depth xs
    show max (keyP x).depth (NestedKey.depthAll (keysP xs)) ≤ max x.depth (PyData.depthAll xs)
    omega
end
mutual
theorem nested_of {h : Heap} : ∀ (d : PyData) (v : Value) (as : List Addr), Reads h v d as → hab d = true → NestedIs h (keyP d) v
  | .none, _, _, r, _ => by cases r; exact .none
  | .bool _, _, _, _, k => by cases k
  | .int i, _, _, r, _ => by cases r; exact .int _ _
  | .str x, _, _, r, _ => by cases r; exact .text _ _
  | .list _, _, _, _, k => by cases k
  | .dict _, _, _, _, k => by cases k
  | .tuple xs, _, _, r, k => by
    cases r with
    | tuple h1 h2 h3 h4 => exact .tup h1 h2 h3 (nesteds_of xs _ _ h4 k)
theorem nesteds_of {h : Heap} : ∀ (ds : List PyData) (vs : List Value) (as : List Addr), ReadsAll h vs ds as → habs ds = true → NestedAll h (keysP ds) vs
  | [], _, _, r, _ => by cases r; exact .nil
  | d :: ds, _, _, r, k => by
    simp only [habs, Bool.and_eq_true] at k
    cases r with
    | cons h1 h2 => exact .cons (nested_of d _ _ h1 k.1) (nesteds_of ds _ _ h2 k.2)
end
/-- a set's payload without its items -/
structure SetM (w : World) (h : Heap) (a : Addr) (L : List (Addr × NestedKey)) (es : Array (Int × Value)) (ep : Nat) (t : SetTable) : Prop where
  at_ : ∃ o, h.get? a = some o ∧ o.ExactSet ∧ o.data = .set es ep t
  rows : es.toList = rows w L
  tab : TabOk t (hashL w L)
  once : (L.map (·.2)).Nodup
  led : w.params.followText "set-order" = true ∨ t.led = true
  room : L.length * 5 < t.mask * 3
  few : L.length < 64
theorem SetN.bare {w : World} {h : Heap} {a : Addr} {L : List (Addr × NestedKey)} {es : Array (Int × Value)} {ep : Nat} {t : SetTable} (R : SetN w h a L es ep t) : SetM w h a L es ep t := ⟨R.at_, R.rows, R.tab, R.once, R.led, R.room, R.few⟩
theorem SetM.full {w : World} {h : Heap} {a : Addr} {L : List (Addr × NestedKey)} {es : Array (Int × Value)} {ep : Nat} {t : SetTable} (R : SetM w h a L es ep t) (it : ∀ p ∈ L, At h p.2 p.1) : SetN w h a L es ep t := ⟨R.at_, R.rows, R.tab, R.once, it, R.led, R.room, R.few⟩
/-- the items of a set: where they stand, and what they are -/
abbrev Its := List (Addr × PyData)
def Its.keys (M : Its) : List (Addr × NestedKey) := M.map fun p => (p.1, keyP p.2)
def SetO (w : World) (a : Addr) (M : Its) : HO := .ext fun h => ∃ es ep t, SetM w h a M.keys es ep t
theorem setO_new {P : Program} {w : World} {H : Hp} {h : Heap} {a : Addr} {M : Its} (R : ∃ es ep t, SetM w h a M.keys es ep t) : ObjOk P w H h a (SetO w a M) := by
  obtain ⟨es, ep, t, R⟩ := R
  obtain ⟨o, e, _⟩ := R.at_
  refine ⟨⟨es, ep, t, R⟩, ⟨o, e⟩, fun h1 h2 p k => ?_⟩
  obtain ⟨es, ep, t, ⟨o, e, r⟩, h2', h3, h4, h6, h7, h8⟩ := p
  exact ⟨es, ep, t, ⟨o, k _ e, r⟩, h2', h3, h4, h6, h7, h8⟩
mutual
theorem reads_lt {h : Heap} : ∀ (d : PyData) (v : Value) (as : List Addr), Reads h v d as → ∀ b ∈ as, b < h.objs.size
  | .none, _, _, r, b, hb => by cases r; cases hb
  | .bool _, _, _, r, b, hb => by cases r; cases hb
  | .int _, _, _, r, b, hb => by cases r; cases hb
  | .str _, _, _, r, b, hb => by cases r; cases hb
  | .tuple xs, _, _, r, b, hb => by
    cases r with
    | tuple h1 h2 h3 h4 => exact readss_lt xs _ _ h4 b hb
  | .list xs, _, _, r, b, hb => by
    cases r with
    | list h1 h2 h3 h4 =>
      rcases List.mem_cons.mp hb with e | hb
      · rw [e]; exact Heap.lt_size h1
      · exact readss_lt xs _ _ h4 b hb
  | .dict kvs, _, _, r, b, hb => by
    cases r with
    | dict h1 h2 h3 h4 h5 =>
      rcases List.mem_append.mp hb with hb | hb
      · rcases List.mem_cons.mp hb with e | hb
        · rw [e]; exact Heap.lt_size h1
        · exact readsk_lt kvs _ _ h4 b hb
      · exact readsv_lt kvs _ _ h5 b hb
theorem readss_lt {h : Heap} : ∀ (ds : List PyData) (vs : List Value) (as : List Addr), ReadsAll h vs ds as → ∀ b ∈ as, b < h.objs.size
  | [], _, _, r, b, hb => by cases r; cases hb
  | d :: ds, _, _, r, b, hb => by
    cases r with
    | cons h1 h2 =>
      rcases List.mem_append.mp hb with hb | hb
      · exact reads_lt d _ _ h1 b hb
      · exact readss_lt ds _ _ h2 b hb
theorem readsk_lt {h : Heap} : ∀ (ds : List (PyData × PyData)) (vs : List Value) (as : List Addr), ReadsAll h vs (ds.map (·.1)) as → ∀ b ∈ as, b < h.objs.size
  | [], _, _, r, b, hb => by cases r; cases hb
  | (k, v) :: ds, _, _, r, b, hb => by
    cases r with
    | cons h1 h2 =>
      rcases List.mem_append.mp hb with hb | hb
      · exact reads_lt k _ _ h1 b hb
      · exact readsk_lt ds _ _ h2 b hb
theorem readsv_lt {h : Heap} : ∀ (ds : List (PyData × PyData)) (vs : List Value) (as : List Addr), ReadsAll h vs (ds.map (·.2)) as → ∀ b ∈ as, b < h.objs.size
  | [], _, _, r, b, hb => by cases r; cases hb
  | (k, v) :: ds, _, _, r, b, hb => by
    cases r with
    | cons h1 h2 =>
      rcases List.mem_append.mp hb with hb | hb
      · exact reads_lt v _ _ h1 b hb
      · exact readsv_lt ds _ _ h2 b hb
end
section
variable {X : Cx}
/-- a new object p in a later state -/
theorem later_ok {pins : List (Addr × Obj)} {σ : L2.St} {H : Hp} {s s' : Shared} (I : Inv X pins σ H s) {p : Addr} {xs : List V} (kp : ∀ b o, s.heap.get? b = some o → s'.heap.get? b = some o) (eg : s'.gens = s.gens) (eo : s'.os = s.os) (hz : s.heap.objs.size ≤ p) (fr : H p = none)
    (ok : xs.length ≤ sizeLine ∧ ∃ out c, Vals xs out ∧ s'.heap.get? p = some (seqObj "list" out.toArray c)) : Inv X pins σ (upd H p (.lst xs)) s' := by
  have es : s' = { s with heap := s'.heap, gens := s'.gens, drawn := s'.drawn, toks := s'.toks } := by
    cases s'; cases eo; rfl
  obtain ⟨len, out, c, vo, ho⟩ := ok
  rw [es]
  exact I.step (h' := s'.heap) (g' := s'.gens) (d' := s'.drawn) (t' := s'.toks) (ch := []) (fun _ z => nomatch z) (fun b o _ _ _ e n => kp b o e) (fun b o _ _ _ e n => ⟨o.slots, kp b o e⟩) (fun b o _ e n => by rw [upd_ne (fun z => absurd (Heap.lt_size e) (by rw [z]; exact Nat.not_lt_of_le hz))]; exact n) (fun b o _ e => ⟨o, kp b o e⟩) (fun b xs e => by rw [upd_ne (ne_of_none e fr)]; exact e) (fun b o u e => by rw [upd_ne (ne_of_none e fr)]; exact e) (fun b ps e => ⟨#[], by rw [upd_ne (ne_of_none e fr), e]; simp⟩)
    (fun m hm => by
      obtain ⟨o, es, ep, e, r⟩ := hm
      exact ⟨o, es, ep, kp _ _ e, r⟩) (I.hok.laid kp hz ⟨len, out, c, vo, ho⟩) (by rw [eg]; exact I.bare)
theorem item_at {pins : List (Addr × Obj)} {σ : L2.St} {H : Hp} {s : Shared} (I : Inv X pins σ H s) {b : Addr} {d : PyData} (dp : Dp X.K H (.ref b) d) (hd : hab d = true) (small : d.depth ≤ 8) : At s.heap (keyP d) b := by
  obtain ⟨as, r⟩ := Dp.reads I d (.ref b) (.ref b) dp rfl
  exact ⟨nested_of d _ _ r hd, Nat.le_trans (key_depth d) small⟩
/-- set(a list of nested tuples): of the items some, each once, and all that there are -/
def rMakeN (w : World) (K : PySem.W.Frag) : List V → Hp → VK → Prop := fun xs H Q => ∃ (a : Addr) (zs : Its), xs = [.ref a] ∧ SqL K H a (zs.map fun z => V.ref z.1) ∧ (∀ z ∈ zs, Dp K H (.ref z.1) z.2 ∧ hab z.2 = true ∧ z.2.depth ≤ 8) ∧ zs.length < 63 ∧
  ∀ (p : Addr) (M : Its), H p = none → (∀ z ∈ M, z ∈ zs) → (∀ z ∈ zs, z.2 ∈ M.map (·.2)) → (M.map (·.2)).Nodup → Q (.ref p) (upd H p (SetO w p M))
theorem call_makeN (hc : X.calm = true) (hu : X.A.units + 20 < cLine) (K : PySem.W.Frag) (hK : X.K = K := by rfl) : CallR X (.type "set") (rMakeN X.w K) := by
  subst hK
  intro pins s σ H xs us Q I r h
  obtain ⟨a, zs, rfl, hs, hz, few, q⟩ := h
  obtain ⟨its, rv, hl, _⟩ := I.list hs
  rw [Vals.ref1 r]
  have ln := rv.length
  rw [List.length_map] at ln
  have items : its = (Its.keys zs).map fun p => Value.ref p.1 := by
    have refs : ∀ {zs : Its} {us : List Value}, Vals (zs.map fun z => V.ref z.1) us → us = zs.map fun z => Value.ref z.1 := fun {zs} => by
      induction zs with
      | nil => intro us r; cases r; rfl
      | cons z zs ih =>
        intro us r
        cases r with
        | cons r1 r2 =>
          rw [ih r2]
          cases r1
          rfl
    rw [refs rv]
    unfold Its.keys
    rw [List.map_map]
    rfl
  have memk : ∀ {M : Its} {p : Addr × NestedKey}, p ∈ M.keys → ∃ z ∈ M, p = (z.1, keyP z.2) := fun {M} {p} hp => by
    obtain ⟨z, hz, rfl⟩ := List.mem_map.mp hp
    exact ⟨z, hz, rfl⟩
  have lenk : (Its.keys zs).length = zs.length := List.length_map _
  refine makeN (I.ok.hd hc) hl.isList items (fun p hp => ?_) (by rw [List.size_toArray, ← ln]; exact few) hu fun h' tk ok kp => ?_
  · obtain ⟨z, hz', rfl⟩ := memk hp
    obtain ⟨h1, h2, h3⟩ := hz z hz'
    exact item_at I h1 h2 h3
  obtain ⟨L, es, ep, t, R, sub, all, _⟩ := ok
  rw [List.take_length] at sub all
  -- the items that the set has, with what they are
  have back : ∀ L : List (Addr × NestedKey), (∀ p ∈ L, p ∈ Its.keys zs) → ∃ M : Its, M.keys = L ∧ ∀ z ∈ M, z ∈ zs := fun L => by
    induction L with
    | nil => exact fun _ => ⟨[], rfl, fun z h => by cases h⟩
    | cons p L ih =>
      intro h
      obtain ⟨M, e, hM⟩ := ih fun p' h' => h p' (List.mem_cons_of_mem _ h')
      obtain ⟨z, hz', rfl⟩ := memk (h p List.mem_cons_self)
      refine ⟨z :: M, by rw [← e]; rfl, fun y hy => ?_⟩
      rcases List.mem_cons.mp hy with rfl | hy
      · exact hz'
      · exact hM y hy
  obtain ⟨M, rfl, hM⟩ := back L sub
  have nd : (M.map (·.2)).Nodup := by
    have n1 := R.once
    have e : (M.keys).map (·.2) = (M.map (·.2)).map keyP := by
      unfold Its.keys
      rw [List.map_map, List.map_map]
      rfl
    rw [e] at n1
    exact List.Pairwise.of_map keyP (fun _ _ ne e => ne (congrArg keyP e)) n1
  refine ⟨.ref _, upd H s.heap.objs.size (SetO X.w s.heap.objs.size M), I.laid (t' := tk) kp (Nat.le_refl _) (setO_new ⟨es, ep, t, R.bare⟩), rfl, q _ M (I.hok.fresh (Nat.le_refl _)) hM (fun z hz' => ?_) nd⟩
  obtain ⟨p, hp, e⟩ := List.mem_map.mp (all (z.1, keyP z.2) (List.mem_map.mpr ⟨z, hz', rfl⟩))
  obtain ⟨y, hy, rfl⟩ := memk hp
  have e : keyP y.2 = keyP z.2 := e
  exact List.mem_map.mpr ⟨y, hy, key_inj _ _ (hz y (hM y hy)).2.1 (hz z hz').2.1 e⟩
/-- sorted(a set of nested tuples) -/
def rSortN (w : World) (K : PySem.W.Frag) : List V → Hp → VK → Prop := fun xs H Q => ∃ (a : Addr) (M : Its), xs = [.ref a] ∧ H a = some (SetO w a M) ∧ (∀ z ∈ M, Dp K H (.ref z.1) z.2) ∧ PySem.W.AllAlike (M.map (·.2)) ∧ PySem.W.Sortable (M.map (·.2)) ∧ (∀ z ∈ M, PySem.W.alike z.2 z.2 = true ∧ z.2.depth ≤ 64) ∧
  ∀ (p : Addr) (M' : Its), H p = none → M'.Perm M → Q (.ref p) (upd H p (.lst ((M'.mergeSort (PySem.W.dataLe false (·.2))).map fun z => V.ref z.1)))
theorem call_sortN (hc : X.calm = true) (hu : X.A.units + 70 < cLine) (K : PySem.W.Frag) (hK : X.K = K := by rfl) : CallR X (.builtin "sorted") (rSortN X.w K) := by
  subst hK
  intro pins s σ H xs us Q I r h
  obtain ⟨a, M, rfl, hs, hd, al, so, dp, q⟩ := h
  rw [Vals.ref1 r]
  obtain ⟨es, ep, t, R⟩ := (I.hok a _ hs).1
  have len : M.keys.length = M.length := List.length_map _
  have few := R.few
  rw [len] at few
  have line : es.size < scanBound := by
    rw [size_of R.rows, len]
    exact Nat.lt_trans few (by decide)
  obtain ⟨o, ho, ex, hdat⟩ := R.at_
  refine Calls.call_function_entry kind_sorted plain_sorted entry_sorted (args_sorted1 _) ?_; unfold Builtin.«sorted»
  refine wpAny_bind (m := checkCount "sorted" 1 1 _) (wpAny_pure (wpAny_bind (collect_set (A := X.A.in1) (I.ok.hd hc) ⟨o, ho, ex.1, hdat⟩ (fits_of R.rows R.tab (by have := R.room; omega)) line R.tab.ris R.led fun s1 vs k1 z1 g1 o1 pm => ?_)))
  -- the values, with what they are
  have vals : es.toList.map (·.2) = M.map fun z => Value.ref z.1 := by
    rw [R.rows]
    unfold rows Its.keys
    rw [List.map_map, List.map_map]
    rfl
  rw [vals] at pm
  obtain ⟨M', pM, eM⟩ := perm_lift (fun z : Addr × PyData => Value.ref z.1) pm M rfl
  subst eM
  have lenv : (M'.map fun z => Value.ref z.1).length = M.length := by rw [List.length_map]; exact pM.length_eq
  have each : PySem.W.EachIs (fun u z => RelV (.ref z.1) u) (M'.map fun z : Addr × PyData => Value.ref z.1) M' := by
    have go : ∀ N : Its, PySem.W.EachIs (fun u z => RelV (.ref z.1) u) (N.map fun z : Addr × PyData => Value.ref z.1) N := fun N => by
      induction N with
      | nil => exact .nil
      | cons z N ih => exact .cons rfl ih
    exact go M'
  have read : ∀ z ∈ M, ∃ as, Reads s.heap (.ref z.1) z.2 as := fun z hz => Dp.reads I z.2 (.ref z.1) (.ref z.1) (hd z hz) rfl
  refine wpAny_bind (wpAny_newList ?_ (Nat.le_trans (Nat.le_of_lt (by rw [lenv]; exact few)) (by decide)))
  have at0 : (s1.heap.push (seqObj "list" (M'.map fun z => Value.ref z.1).toArray 0)).get? s1.heap.objs.size = some (seqObj "list" (M'.map fun z => Value.ref z.1).toArray 0) := Heap.get?_push_size _ rfl
  have up : ∀ b o, s.heap.get? b = some o → (s1.heap.push (seqObj "list" (M'.map fun z => Value.ref z.1).toArray 0)).get? b = some o := fun b o e => Heap.get?_push_of_some _ (k1 b o e)
  refine wpAny_bind (wpAny_holding (PySem.W.list_sort_data (A := X.A.in1) (R := fun u z => RelV (.ref z.1) u) (enc := fun z : Addr × PyData => z.2) at0 each ?_ (fun d hd d' hd' => al d ((pM.map (·.2)).mem_iff.mp hd) d' ((pM.map (·.2)).mem_iff.mp hd')) (so.imp (fun h d hd => h d ((pM.map (·.2)).mem_iff.mp hd)) fun h d hd => h d ((pM.map (·.2)).mem_iff.mp hd)) (by rw [pM.length_eq]; exact Nat.le_trans (Nat.le_of_lt few) (by decide)) (fun z hz => by have := (dp z (pM.mem_iff.mp hz)).2; show X.A.units + 1 + 1 + z.2.depth < cLine; omega) fun out ho2 eo => ?_))
  · have go : ∀ N : Its, (∀ z ∈ N, z ∈ M) → PySem.W.EachIs (fun v b => ∃ as, Reads (s1.heap.push (seqObj "list" (M'.map fun z => Value.ref z.1).toArray 0)) v b.2 as ∧ s1.heap.objs.size ∉ as) (N.map fun z : Addr × PyData => Value.ref z.1) N := fun N => by
      induction N with
      | nil => exact fun _ => .nil
      | cons z N ih =>
        intro h
        obtain ⟨as, r⟩ := read z (h z List.mem_cons_self)
        refine .cons ⟨as, Reads.keeps up r, fun hin => ?_⟩ (ih fun y hy => h y (List.mem_cons_of_mem _ hy))
        exact absurd (Nat.lt_of_lt_of_le (reads_lt _ _ _ r _ hin) z1) (Nat.lt_irrefl _)
    exact go M' fun z hz => pM.mem_iff.mp hz
  · obtain ⟨c, hcc⟩ := sortedHeap_at (vs := M'.map fun z => Value.ref z.1) (out := out.toArray) at0
    have fr := I.hok.fresh z1
    refine wpAny_pure ⟨_, rfl, .ref s1.heap.objs.size, upd H s1.heap.objs.size (.lst ((M'.mergeSort (PySem.W.dataLe false (·.2))).map fun z => V.ref z.1)), ?_, rfl, q _ M' fr pM⟩
    have kp : ∀ b o, s.heap.get? b = some o → (sortedHeap (s1.heap.push (seqObj "list" (M'.map fun z => Value.ref z.1).toArray 0)) s1.heap.objs.size (M'.map fun z => Value.ref z.1) out.toArray).get? b = some o := fun b o e => by
      have q1 := k1 b o e
      have lt := Heap.lt_size q1
      refine (sortedHeap_old (Nat.ne_of_lt lt) ?_).trans (Heap.get?_push_of_some _ q1)
      rw [Heap.size_push]
      exact Nat.lt_succ_of_lt lt
    have back : Vals ((M'.mergeSort (PySem.W.dataLe false (·.2))).map fun z => V.ref z.1) out := by
      have go : ∀ {N : Its} {us : List Value}, PySem.W.EachIs (fun u z => RelV (.ref z.1) u) us N → Vals (N.map fun z => V.ref z.1) us := fun {N} => by
        induction N with
        | nil => intro us h; cases h; exact .nil
        | cons z N ih => intro us h; cases h with | cons h1 h2 => exact .cons h1 (ih h2)
      exact go eo
    have size : ((M'.mergeSort (PySem.W.dataLe false (·.2))).map fun z => V.ref z.1).length ≤ sizeLine := by
      rw [List.length_map, List.length_mergeSort, pM.length_eq]
      exact Nat.le_trans (Nat.le_of_lt few) (by decide)
    exact later_ok I (s' := { s1 with heap := sortedHeap (s1.heap.push (seqObj "list" (M'.map fun z => Value.ref z.1).toArray 0)) s1.heap.objs.size (M'.map fun z => Value.ref z.1) out.toArray }) kp g1 o1 z1 fr ⟨size, out, c, back, hcc⟩
end
end Ps
/-! text PsE -/
set_option Elab.async false
set_option linter.all false
set_option maxRecDepth 100000
set_option maxHeartbeats 4000000
set_option exponentiation.threshold 5000
/-! PsE: sorted(set(l)) over data: l a list of tuples that may be keys. -/
namespace Pl
open PySem PySem.Spec PyProof.Rows L2 Ps
mutual
theorem py_inj : ∀ a b : D, plain a = true → plain b = true → py a = py b → a = b
  | .non, b, _, hb, e => by cases b <;> first | rfl | (cases hb; done) | (simp [py] at e; done)
  | .bl x, b, _, hb, e => by cases b <;> first | (simp [py] at e; done) | (cases hb; done) | (simp only [py, PyData.bool.injEq] at e; rw [e])
  | .int x, b, _, hb, e => by cases b <;> first | (simp [py] at e; done) | (cases hb; done) | (simp only [py, PyData.int.injEq] at e; rw [e])
  | .str x, b, _, hb, e => by cases b <;> first | (simp [py] at e; done) | (cases hb; done) | (simp only [py, PyData.str.injEq] at e; rw [e])
  | .tup l, b, ha, hb, e => by
    cases b with
    | tup m =>
      simp only [py, PyData.tuple.injEq] at e
      rw [pyL_inj l m ha hb e]
    | obj _ => cases hb
    | ins _ _ _ => cases hb
    | dct _ _ => cases hb
    | _ => simp [py] at e
  | .lst l, b, ha, hb, e => by
    cases b with
    | lst m =>
      simp only [py, PyData.list.injEq] at e
      rw [pyL_inj l m ha hb e]
    | obj _ => cases hb
    | ins _ _ _ => cases hb
    | dct _ _ => cases hb
    | _ => simp [py] at e
  | .obj _, _, ha, _, _ => by cases ha
  | .ins _ _ _, _, ha, _, _ => by cases ha
  | .dct _ _, _, ha, _, _ => by cases ha
theorem pyL_inj : ∀ a b : List D, plainL a = true → plainL b = true → pyL a = pyL b → a = b
  | [], [], _, _, _ => rfl
  | [], _ :: _, _, _, e => by cases e
  | _ :: _, [], _, _, e => by cases e
  | x :: a, y :: b, ha, hb, e => by
    have ha : (plain x && plainL a) = true := ha
    have hb : (plain y && plainL b) = true := hb
    rw [Bool.and_eq_true] at ha hb
    simp only [pyL, List.cons.injEq] at e
    rw [py_inj x y ha.1 hb.1 e.1, pyL_inj a b ha.2 hb.2 e.2]
end
theorem plain_mem {l : List D} (h : plainL l = true) : ∀ d ∈ l, plain d = true := by
  induction l with
  | nil => exact fun d hd => by cases hd
  | cons x l ih =>
    intro d hd
    have h' : (plain x && plainL l) = true := h
    rw [Bool.and_eq_true] at h'
    rcases List.mem_cons.mp hd with rfl | hd
    · exact h'.1
    · exact ih h'.2 d hd
theorem tup_pairs {K : PySem.W.Frag} {M : List Addr} {H : Hp} : ∀ {l : List D} {xs : List V}, RepL K M H l xs → (∀ d ∈ l, ∃ ys, d = .tup ys) → ∃ us : List (Addr × D), l = us.map (·.2) ∧ xs = us.map (fun u => V.ref u.1) ∧ ∀ u ∈ us, Rep K M H u.2 (.ref u.1)
  | [], [], _, _ => ⟨[], rfl, rfl, fun u h => by cases h⟩
  | d :: l, x :: xs, r, h => by
    obtain ⟨us, e1, e2, hu⟩ := tup_pairs r.2 fun d hd => h d (List.mem_cons_of_mem _ hd)
    obtain ⟨ys, rfl⟩ := h d List.mem_cons_self
    have r1 := r.1
    obtain ⟨a, zs, rfl, r2⟩ := r1
    refine ⟨(a, .tup ys) :: us, by rw [e1]; rfl, by rw [e2]; rfl, fun u hm => ?_⟩
    rcases List.mem_cons.mp hm with rfl | hm
    · exact r.1
    · exact hu u hm
  | [], _ :: _, r, _ => r.elim
  | _ :: _, [], r, _ => r.elim
/-- es: the items of l, each once, in order -/
def SetOf (l es : List D) : Prop := es.Nodup ∧ (∀ x, x ∈ es ↔ x ∈ l) ∧ ∃ m, es = ordD m
theorem back_map {α β : Type} (f : α → β) : ∀ (M : List β) (l : List α), (∀ z ∈ M, z ∈ l.map f) → ∃ m : List α, M = m.map f ∧ ∀ x ∈ m, x ∈ l
  | [], _, _ => ⟨[], rfl, fun x h => by cases h⟩
  | z :: M, l, h => by
    obtain ⟨m, e, hm⟩ := back_map f M l fun y hy => h y (List.mem_cons_of_mem _ hy)
    obtain ⟨x, hx, rfl⟩ := List.mem_map.mp (h z List.mem_cons_self)
    refine ⟨x :: m, by rw [e]; rfl, fun y hy => ?_⟩
    rcases List.mem_cons.mp hy with rfl | hy
    · exact hx
    · exact hm y hy
section
variable {K : PySem.W.Frag} {s c : Addr} {ρ : List Sl} {n n1 : Nat} {te : TE}
theorem ev_sortsetN {w : World} {l : List D} (h : EvE K s c te ρ n n1 (fun d => d = .lst l)) (pl : plainL l = true) (hl : ∀ d ∈ l, (∃ ys, d = .tup ys) ∧ hab (py d) = true ∧ (py d).depth ≤ 8) (al : PySem.W.AllAlike (l.map py)) (so : PySem.W.Sortable (l.map py)) (few : l.length < 63) :
    EvE K s c (tCB (rSortN w K) (tCons (tCB (rMakeN w K) (tCons te tNil)) tNil)) ρ n n1 (fun d => ∃ es, d = .lst es ∧ SetOf l es) := fun M0 H0 O σ H Q I k =>
  h M0 H0 O σ H _ I fun v H1 d g1 s1 r1 p1 => by
    subst p1
    obtain ⟨a, xs, rfl, ma, ea, rl⟩ := r1
    have J := I.next g1 s1
    obtain ⟨us, rfl, rfl, hu⟩ := tup_pairs rl fun d hd => (hl d hd).1
    have pm := plain_mem pl
    let f : Addr × D → Addr × PyData := fun u => (u.1, py u.2)
    have inD : ∀ u ∈ us, u.2 ∈ us.map (·.2) := fun u hu' => List.mem_map.mpr ⟨u, hu', rfl⟩
    have dpOf : ∀ {H' : Hp}, Gr (O ++ M0) H1 H' → ∀ u ∈ us, Dp K H' (.ref u.1) (py u.2) := fun g u hu' => rep_dp ((hu u hu').gr g) (pm u.2 (inD u hu'))
    refine ⟨a, us.map f, rfl, by rw [List.map_map]; exact SqL.of ea, fun z hz => ?_, by rw [List.length_map] at few ⊢; exact few, fun p M hp sub all nd => ?_⟩
    · obtain ⟨u, hu', rfl⟩ := List.mem_map.mp hz
      exact ⟨dpOf (Gr.refl _ _) u hu', (hl u.2 (inD u hu')).2.1, (hl u.2 (inD u hu')).2.2⟩
    obtain ⟨m, rfl, hm⟩ := back_map f M us sub
    have e2 : (m.map f).map (·.2) = (m.map (·.2)).map py := by rw [List.map_map, List.map_map]; rfl
    have subP : ∀ d, d ∈ (m.map (·.2)).map py → d ∈ (us.map (·.2)).map py := fun d hd => by
      obtain ⟨x, hx, rfl⟩ := List.mem_map.mp hd
      obtain ⟨u, hu', rfl⟩ := List.mem_map.mp hx
      exact List.mem_map.mpr ⟨u.2, inD u (hm u hu'), rfl⟩
    have gp : Gr (O ++ M0) H1 (upd H1 p (SetO w p (m.map f))) := Gr.new hp
    refine ⟨p, m.map f, rfl, upd_same, fun z hz => ?_, ?_, ?_, fun z hz => ?_, fun q M' hq pM => ?_⟩
    · obtain ⟨u, hu', rfl⟩ := List.mem_map.mp hz
      exact dpOf gp u (hm u hu')
    · rw [e2]
      exact fun d hd d' hd' => al d (subP d hd) d' (subP d' hd')
    · rw [e2]
      exact so.imp (fun h d hd => h d (subP d hd)) fun h d hd => h d (subP d hd)
    · obtain ⟨u, hu', rfl⟩ := List.mem_map.mp hz
      have h1 := inD u (hm u hu')
      exact ⟨al _ (List.mem_map.mpr ⟨_, h1, rfl⟩) _ (List.mem_map.mpr ⟨_, h1, rfl⟩), by have := (hl u.2 h1).2.2; show (py u.2).depth ≤ 64; omega⟩
    · obtain ⟨m', pm', rfl⟩ := perm_lift f pM m rfl
      have m1 : (m'.map f).mergeSort (PySem.W.dataLe false (·.2)) = (m'.mergeSort (PySem.W.dataLe false (fun u => py u.2))).map f := (List.map_mergeSort (f := f) (r := PySem.W.dataLe false (fun u : Addr × D => py u.2)) (s := PySem.W.dataLe false (fun z : Addr × PyData => z.2)) (fun _ _ _ _ => rfl)).symm
      have m2 : ordD (m'.map (·.2)) = (m'.mergeSort (PySem.W.dataLe false (fun u => py u.2))).map (·.2) := (List.map_mergeSort (f := fun u : Addr × D => u.2) (r := PySem.W.dataLe false (fun u : Addr × D => py u.2)) (s := PySem.W.dataLe false py) (fun _ _ _ _ => rfl)).symm
      have gq : Gr (O ++ M0) (upd H1 p (SetO w p (m.map f))) (upd (upd H1 p (SetO w p (m.map f))) q (.lst (((m'.map f).mergeSort (PySem.W.dataLe false (·.2))).map fun z => V.ref z.1))) := Gr.new hq
      refine k (.ref q) _ (.lst (ordD (m'.map (·.2)))) (g1.trans ((Gr.new hp).trans (Gr.new hq))) ((s1.new hp).new hq) ⟨q, _, rfl, fun z => ?_, upd_same, ?_⟩ ⟨_, rfl, ?_, fun x => ?_, _, rfl⟩
      · obtain ⟨o, e⟩ := J.thereA q z
        have : upd H1 p (SetO w p (m.map f)) q = some o := by rw [upd_ne (ne_of_none e hp)]; exact e
        rw [hq] at this
        cases this
      · have lists : ((m'.map f).mergeSort (PySem.W.dataLe false (·.2))).map (fun z => V.ref z.1) = (m'.mergeSort (PySem.W.dataLe false (fun u => py u.2))).map (fun u => V.ref u.1) := by
          rw [m1, List.map_map]
          rfl
        have each : ∀ (ts : List (Addr × D)), (∀ t ∈ ts, t ∈ us) → RepL K (O ++ M0) (upd (upd H1 p (SetO w p (m.map f))) q (.lst (((m'.map f).mergeSort (PySem.W.dataLe false (·.2))).map fun z => V.ref z.1))) (ts.map (·.2)) (ts.map fun u => V.ref u.1) := fun ts => by
          induction ts with
          | nil => exact fun _ => trivial
          | cons t ts ih => exact fun h => ⟨(hu t (h t List.mem_cons_self)).gr (gp.trans gq), ih fun y hy => h y (List.mem_cons_of_mem _ hy)⟩
        have t := each (m'.mergeSort (PySem.W.dataLe false (fun u => py u.2))) fun t ht => hm t (pm'.mem_iff.mp ((List.mergeSort_perm _ _).mem_iff.mp ht))
        rw [m2]
        rw [← lists] at t
        exact t
      · refine ((ordD_perm _).nodup_iff).mpr ?_
        refine ((pm'.map (·.2)).nodup_iff).mpr ?_
        rw [e2] at nd
        exact List.Pairwise.of_map py (fun _ _ ne e => ne (congrArg py e)) nd
      · rw [(ordD_perm _).mem_iff, (pm'.map (·.2)).mem_iff]
        refine ⟨fun hx => ?_, fun hx => ?_⟩
        · obtain ⟨u, hu', rfl⟩ := List.mem_map.mp hx
          exact inD u (hm u hu')
        · obtain ⟨u, hu', rfl⟩ := List.mem_map.mp hx
          have := all (f u) (List.mem_map.mpr ⟨u, hu', rfl⟩)
          rw [e2] at this
          obtain ⟨d, hd, e⟩ := List.mem_map.mp this
          have pd : plain d = true := by
            obtain ⟨y, hy, rfl⟩ := List.mem_map.mp hd
            exact pm y.2 (inD y (hm y hy))
          have e : py d = py u.2 := e
          rw [← py_inj d u.2 pd (pm u.2 (inD u hu')) e]
          exact hd
end
end Pl
/-! text PlUq -/
set_option Elab.async false
set_option linter.all false
set_option maxRecDepth 100000
set_option maxHeartbeats 4000000
set_option exponentiation.threshold 5000
/-! PlUq: sorting alike data depends on the items only, not on their order. -/
namespace Pl
open PySem PySem.Spec PyProof.Rows L2
theorem eqv_of_toks {x y : PyData} (h : PySem.W.alike x y = true) (e : PySem.W.keyToks x = PySem.W.keyToks y) : PyData.eqv x y = true := by
  cases q : PyData.eqv x y with
  | true => rfl
  | false =>
    have h2 := (PySem.W.toks_eqv x y h).2 q [] [.inl 0]
    rw [e, lex_irrefl] at h2
    have h3 := PySem.W.lex_pre (PySem.W.keyToks y) [] [.inl 0]
    rw [h3] at h2
    cases h2
theorem rank_toks {x y : D} (h1 : PySem.W.dataLe false py x y = true) (h2 : PySem.W.dataLe false py y x = true) : PySem.W.keyToks (py x) = PySem.W.keyToks (py y) := by
  have h1 : (!(PyProof.Rows.listOrd itemOrd).blt (PySem.W.keyToks (py y)) (PySem.W.keyToks (py x))) = true := h1
  have h2 : (!(PyProof.Rows.listOrd itemOrd).blt (PySem.W.keyToks (py x)) (PySem.W.keyToks (py y))) = true := h2
  rw [Bool.not_eq_true'] at h1 h2
  exact (PyProof.Rows.listOrd itemOrd).total _ _ h2 h1
theorem ordD_uniq {l m : List D} (p : l.Perm m) (anti : ∀ x ∈ l, ∀ y ∈ l, PySem.W.keyToks (py x) = PySem.W.keyToks (py y) → x = y) : ordD l = ordD m := by
  have t := PySem.W.sortLe_total (PyProof.Rows.listOrd PyProof.Rows.itemOrd) false (fun d : D => PySem.W.keyToks (py d))
  refine List.Perm.eq_of_pairwise (le := fun a b => PySem.W.dataLe false py a b = true) (fun a b ha hb h1 h2 => anti a ((ordD_perm l).mem_iff.mp ha) b (p.mem_iff.mpr ((ordD_perm m).mem_iff.mp hb)) (rank_toks h1 h2)) (PySem.W.sort_pairwise t l) (PySem.W.sort_pairwise t m) ?_
  exact ((ordD_perm l).trans p).trans (ordD_perm m).symm
end Pl
/-! text K02x -/
set_option Elab.async false
set_option linter.all false
set_option maxRecDepth 100000
set_option maxHeartbeats 4000000
set_option exponentiation.threshold 5000
namespace K02
open PySem PySem.Spec PyProof.Rows L2 Pl PlS
theorem passAt_no {X : Cx} {σ : L2.St} : PassesAt (L2.CX X.prog X.w) X σ (fun _ _ _ => False) := fun pins H s e s' I c => pass_no pins σ H s e s' I c
theorem atom_anti {as bs : List (Str × List Str)} : ∀ x ∈ as.map dAtom, ∀ y ∈ as.map dAtom, PySem.W.keyToks (py x) = PySem.W.keyToks (py y) → x = y := fun x hx y hy e => by
  have al := alike_atoms as (py x) (List.mem_map.mpr ⟨x, hx, rfl⟩) (py y) (List.mem_map.mpr ⟨y, hy, rfl⟩)
  have q := eqv_of_toks al e
  obtain ⟨a, ha, rfl⟩ := List.mem_map.mp hx
  obtain ⟨b, hb, rfl⟩ := List.mem_map.mp hy
  have h := eqv_atoms [a] [b]
  have h2 : PyData.eqvAll (pyL ([a].map dAtom)) (pyL ([b].map dAtom)) = (PyData.eqv (py (dAtom a)) (py (dAtom b)) && true) := rfl
  rw [h2, q] at h
  have h3 := of_decide_eq_true h.symm
  rw [List.singleton_inj.mp h3]
theorem sortA_congr {as bs : List (Str × List Str)} (p : as.Perm bs) : sortA as = sortA bs := by
  have e := ordD_uniq (p.map dAtom) (atom_anti (bs := bs))
  rw [sortA_of, sortA_of] at e
  exact as_inj e
theorem qI_perm {CQ : Addr} {hd : List Str} {as bs : List (Str × List Str)} (p : as.Perm bs) : qI CQ (hd, as) = qI CQ (hd, bs) := by
  rw [← qI_sort CQ hd as, sortA_congr p, qI_sort]
theorem cutD_mem {l : List D} {lo hi : Option Int} {d : D} (h : d ∈ Pl.cutD l lo hi) : d ∈ l := List.mem_of_mem_drop (List.mem_of_mem_take h)
theorem cutD_len {l : List D} {lo hi : Option Int} : (Pl.cutD l lo hi).length ≤ l.length := by
  unfold Pl.cutD
  rw [List.length_take, List.length_drop]
  omega
theorem cut_from {l : List D} {k : Nat} : Pl.cutD l (some (k : Int)) none = l.drop k := by
  unfold Pl.cutD
  rw [HT.sIx_none, HT.sIx_nat]
  by_cases h : k ≤ l.length
  · rw [Nat.min_eq_left h]
    exact List.take_of_length_le (by rw [List.length_drop]; exact Nat.le_refl _)
  · rw [Nat.min_eq_right (by omega), List.drop_eq_nil_of_le (Nat.le_refl _), List.drop_eq_nil_of_le (by omega), List.take_nil]
/-- what image must refuse -/
def GB (m : Nat) (d : D) : Prop := tame d = true ∧ dp d ≤ 60 ∧ namesB (m : Int) (m : Int) d = false
theorem gb_tup {m : Nat} {l : List D} (ht : ∀ d ∈ l, tame d = true ∧ dp d ≤ 2) (hl : l.length ≤ 100) (b : l.length ≠ m ∨ ∃ d ∈ l, nameB d = false) : GB m (.tup l) := by
  refine ⟨tame_tupOf (fun d hd => (ht d hd).1) (by omega), Nat.le_trans (dp_seq (k := 2) fun d hd => (ht d hd).2).2 (by decide), ?_⟩
  show (decide ((m : Int) ≤ (l.length : Int)) && decide ((l.length : Int) ≤ (m : Int)) && l.all nameB) = false
  rcases b with b | ⟨d, hd, hb⟩
  · have : ¬ ((m : Int) ≤ (l.length : Int) ∧ (l.length : Int) ≤ (m : Int)) := by omega
    rw [← Bool.decide_and, decide_eq_false this, Bool.false_and]
  · have : l.all nameB = false := by
      rw [List.all_eq_false]
      exact ⟨d, hd, by rw [hb]; exact Bool.false_ne_true⟩
    rw [this, Bool.and_false]
theorem gb_app {m : Nat} {a b : List D} (ha : ∀ d ∈ a, tame d = true ∧ dp d ≤ 2) (hb : ∀ d ∈ b, tame d = true ∧ dp d ≤ 2) (la : a.length ≤ 20) (lb : b.length ≤ 20) (x : ∃ d ∈ a ++ b, nameB d = false) : GB m (.tup (a ++ b)) :=
  gb_tup (fun d hd => (List.mem_append.mp hd).elim (ha d) (hb d)) (by rw [List.length_append]; omega) (.inr x)
theorem tame_one {x : D} (h : tame x = true ∧ dp x ≤ 2) : ∀ d ∈ [x], tame d = true ∧ dp d ≤ 2 := fun d hd => by rw [List.mem_singleton.mp hd]; exact h
theorem imgA_perm {vs ns : List Str} {as bs : List (Str × List Str)} (p : as.Perm bs) : (imgA vs ns as).Perm (imgA vs ns bs) := p.map _
theorem post_eq {CQ s c : Addr} {p q : List Str × List (Str × List Str)} {b : Bool} (e : eqQ p q = b) : ∀ z, postEq CQ s c [.ins CQ ksQ (qL p.1 p.2), qI CQ q] z → z = .bl b := fun z h => by
  obtain ⟨p', o, e1, h⟩ := h
  injection e1 with e1 e2
  injection e2 with e2 _
  have e1 : qI CQ p = qI CQ p' := e1
  rcases h with ⟨ht, _⟩ | ⟨q', eq, rfl⟩
  · rw [← e2] at ht
    cases ht
  · rw [← e2] at eq
    have e3 := qI_inj e1
    have e4 := qI_inj eq
    rw [← e]
    unfold eqQ
    rw [e3.1, e3.2, e4.1, e4.2]
section
variable {K : PySem.W.Frag} {s c CQ CIM : Addr} {ρ : List Sl} {n n1 n2 n3 : Nat} {te tf tg : TE}
/-- query.image(names) of a valid tuple -/
theorem ev_img {Y : L2.St → XK} {q : List Str × List (Str × List Str)} {ns : List Str} (h : EvE K s c te ρ n n1 (fun d => d = qI CQ q)) (ha : EvE K s c tf ρ n1 n2 (fun d => d = .tup (dStrs ns))) (hn : n2 ≤ 2 ^ 40) (ok : okV q.1 q.2) (len : ns.length = (varsA q.2).length) (nm : ∀ v ∈ ns, isName v) :
    EvE K s c (tMethE CQ "image" (PrX K (preIm CQ) 0 (valIm CQ) (badIm CQ CIM)) Y te (tCons tf tNil)) ρ n n2 (fun d => d = qI CQ (imgQ q ns)) := by
  have few : ns.length ≤ 5 := by rw [len]; exact ok.2.2.2
  refine ev_methX (ks := ksQ) (l := qL q.1 q.2) (k := 0) h (by decide) (ea_one ha) hn ⟨q, _, rfl, ok, tame_names nm (by omega)⟩ (fun d hv => ?_) fun CE hb => ?_
  · obtain ⟨q', ns', e, _, _, rfl⟩ := hv
    injection e with e1 e
    injection e with e2 _
    injection e2 with e2
    have e1 : qI CQ q = qI CQ q' := e1
    have e3 := qI_inj e1
    have e4 : varsA q.2 = varsA q'.2 := by rw [← vars_perm (sortA_perm q.2), ← vars_perm (sortA_perm q'.2), e3.2]
    unfold imgQ
    rw [e3.1, e4, e3.2, str_inj e2]
  · obtain ⟨q', y, e, nb, _⟩ := hb
    injection e with e1 e
    injection e with e2 _
    have e1 : qI CQ q = qI CQ q' := e1
    have e4 : varsA q.2 = varsA q'.2 := by rw [← vars_perm (sortA_perm q.2), ← vars_perm (sortA_perm q'.2), (qI_inj e1).2]
    rw [← e2, ← e4, namesB_of nm (by omega) (by omega)] at nb
    cases nb
theorem ev_nm {vs ns : List Str} {y : D} {ws : List Str} (h : EvE K s c te ρ n n1 (fun d => d = .lst (dStrs vs))) (h2 : EvE K s c tf ρ n1 n2 (fun d => d = .tup (dStrs ns))) (h3 : EvE K s c tg ρ n2 n3 (fun d => d = y)) (hn : n3 ≤ 2 ^ 40) (sy : seqD y = some (dStrs ws)) (hv : ∀ v ∈ ws, v ∈ vs) (len : vs.length = ns.length) (few : ws.length ≤ 1000) :
    EvE K s c (tCall (Pr K preNm 0 postNm) [] E0 (tCons te (tCons tf (tCons tg tNil)))) ρ n n3 (fun d => d = .tup (dStrs (ws.map (subS vs ns)))) :=
  ev_defK (ea_c h (ea_c h2 (ea_one h3))) hn ⟨vs, ns, y, ws, rfl, sy, hv, len, few⟩ fun d h => by
    obtain ⟨vs', ns', y', ws', e, sy', rfl⟩ := h
    injection e with e1 e
    injection e with e2 e
    injection e with e3 _
    injection e1 with e1
    injection e2 with e2
    rw [← e3, sy] at sy'
    rw [str_inj e1, str_inj e2, str_inj (Option.some.inj sy')]
/-- p != q, equal queries -/
theorem ev_neqQ {mg : Str → Option Value} {fq fs : Addr} {dq dstr : FuncData} {b : Bool} {p q : List Str × List (Str × List Str)} (Y : MTxt K mg CQ fq fs dq dstr) (h : EvE K s c te ρ n n1 (fun d => d = qI CQ p)) (h2 : EvE K s c tf ρ n1 n2 (fun d => d = qI CQ q)) (hn : n2 ≤ 2 ^ 40) (op : okQ p.1 p.2) (oq : okQ q.1 q.2) (e : eqQ p q = b) :
    EvE K s c (tOp (rNeI K CQ (Pr K (preEq CQ) 0 (postEq CQ))) te tf) ρ n n2 (fun d => d = .bl (!b)) :=
  ev_neI (ks := ksQ) (l := qL p.1 p.2) (y := qI CQ q) Y.ic h h2 hn (.inr ⟨_, _, rfl⟩) ⟨p, _, rfl, op, .inr ⟨q, rfl, oq⟩⟩ (post_eq e)
end
/-- what the law puts in the place of names -/
def litN : List D := [.str (Str.ofString ""), .str (Str.ofString "A"), .str (Str.ofString "aB"), .str (Str.ofString "a1"), .str (Str.ofString "a_b"), .str (Str.ofString "a b"), .str (Str.ofString "ninechars"), .non, .int 7, .lst [.str (Str.ofString "a")], .bl true, .str (Str.ofString "a{"), .str (Str.ofString "a`"), .str (Str.ofString "a
")]
theorem lit_all : ∀ d ∈ litN, tame d = true ∧ dp d ≤ 2 ∧ nameB d = false := by decide +kernel
def preIH (CQ : Addr) (s c : Addr) (ds : List D) : Prop := ∃ hd as, ds = [.obj s, qI CQ (hd, as), .tup (dStrs hd), .lst (as.map dAtom), .lst (dStrs (varsA as))] ∧ okV hd as
def postIH (s c : Addr) (ds : List D) (z : D) : Prop := z = .bl true
def poolL (M : List Str) (wd : Str) : List Str := M ++ [Str.ofString "new", Str.ofString "x", Str.ofString "y", wd]
section
variable {P : Program} {w : World} {K : PySem.W.Frag} {mg : Str → Option Value} {base : Heap} {A : Adr} {CQ CIM CM fQ CE fE fi rh ra rv rp gh ga gv gp fq fs : Addr} {dQ dE dh da dv dpl di dq dstr : FuncData}
theorem ok__law_image_holds (T : Txt A K mg) (U : QTxt K mg CQ fQ CE fE dQ dE) (V : PTxt K mg CQ rh ra rv rp gh ga gv gp dh da dv dpl) (W : ITxt K mg CQ CIM fi di) (S : STxt K mg CIM CM) (Y : MTxt K mg CQ fq fs dq dstr) : FnOk P w K mg base CX0 9 A.f__law_image_holds A.fd__law_image_holds ["source", "query", "first", "parts", "met"] (Pr K (preIH CQ) 100 postIH) := by
  have G_image := ok_q_image (P := P) (w := w) (base := base) T U V W
  have G_head := ok_q_head (P := P) (w := w) (base := base) T U V
  have G_atoms := ok_q_atoms (P := P) (w := w) (base := base) T U V
  have G__law_named := ok__law_named (P := P) (w := w) (base := base) T
  have G__law_raised := ok__law_raised (P := P) (w := w) (base := base) T U V W S
  have G__law_pick := ok__law_pick (P := P) (w := w) (base := base) T
  have G__law_word := ok__law_word (P := P) (w := w) (base := base) T
  refine T.F__law_image_holds.ok sc__law_image_holds (fun vs H Q E h => pr_len h fun s c ds hp => ?_) (fun cdv A' outer st H vs Q E hr h => have hw : _ := hr.units; ⟨_, (pss_cons (ps_set (i := 5) sc__law_image_holds.nd rfl (by first | exact Or.inl rfl | exact Or.inr rfl) (pe_op (k_add K) (pv 4) (pe_lst (pa_cons pe_str (pa_cons pe_str (pa_cons pe_str (pa_cons (pe_call G__law_word (hr.mono (by decide)) (by rfl) T.m__law_word T.F__law_word.kp T.b__law_word .nil pass0 (pa_cons (pv 0) (pa_cons pe_int pa_nil))) pa_nil)))))))
      (pss_cons (ps_set (i := 6) sc__law_image_holds.nd rfl (by first | exact Or.inl rfl | exact Or.inr rfl) (pe_callTy (k_tuple K) (by rfl) T.m_tuple (by decide +kernel) (pa_cons (pe_lc (own := [("name", 7)]) rfl sc__law_image_holds.nd (k_pilist K (pv 4)) (blkOk_by (N := ["source", "query", "first", "parts", "met", "pool", "leads", "name", "due", "table", "names", "found", "bad", "value"]) (sc := defScope s__law_image_holds) (by decide +kernel)) (fun _ _ _ _ _ => (pg_name (i := 7) sc__law_image_holds.nd rfl (by first | exact Or.inl rfl | exact Or.inr rfl))) (fun _ _ _ _ _ => pts_nil) (fun _ _ _ _ _ => (pe_call G__law_pick (hr.mono (by decide)) (by rfl) T.m__law_pick T.F__law_pick.kp T.b__law_pick .nil pass0 (pa_cons (pv 0) (pa_cons (pv 5) pa_nil))))) pa_nil)))
      (pss_cons (ps_set (i := 8) sc__law_image_holds.nd rfl (by first | exact Or.inl rfl | exact Or.inr rfl) (pe_make (E := fun _ _ _ => False) U.kQ (ok_q_init T U) (hr.mono (by decide)) (by rfl) U.gQ U.bQ .nil pass_no (pa_cons (pe_call G__law_named (hr.mono (by decide)) (by rfl) T.m__law_named T.F__law_named.kp T.b__law_named .nil pass0 (pa_cons (pv 4) (pa_cons (pv 6) (pa_cons (pv 2) pa_nil)))) (pa_cons (pe_lc (own := [("table", 9), ("names", 10)]) rfl sc__law_image_holds.nd (k_pilist K (pv 3)) (blkOk_by (N := ["source", "query", "first", "parts", "met", "pool", "leads", "name", "due", "table", "names", "found", "bad", "value"]) (sc := defScope s__law_image_holds) (by decide +kernel)) (fun _ _ _ _ _ => (k_pgtup K (n := 2) rfl (pgs_cons (pg_name (i := 9) sc__law_image_holds.nd rfl (by first | exact Or.inl rfl | exact Or.inr rfl)) (pgs_cons (pg_name (i := 10) sc__law_image_holds.nd rfl (by first | exact Or.inl rfl | exact Or.inr rfl)) pgs_nil)))) (fun _ _ _ _ _ => pts_nil) (fun _ _ _ _ _ => (pe_tup (pa_cons (pv 9) (pa_cons (pe_call G__law_named (hr.mono (by decide)) (by rfl) T.m__law_named T.F__law_named.kp T.b__law_named .nil pass0 (pa_cons (pv 4) (pa_cons (pv 6) (pa_cons (pv 10) pa_nil)))) pa_nil))))) pa_nil))))
      (pss_cons (ps_if (PW.pt (pw_or (pt_cmpR (op_neI (ok_q_eq T U Y) (hr.mono (by decide)) Y.aq Y.nq Y.ic.hm Y.iq Y.bq) (pe_methE (E := fun _ _ _ _ => False) (pv 1) U.cQ W.mi G_image (hr.mono (by decide)) W.bi (fun _ => passAt_no) (pa_cons (pv 6) pa_nil)) (pv 8) (nomark _)) (pw_or1 (pt_cmpR (op_neI (ok_q_eq T U Y) (hr.mono (by decide)) Y.aq Y.nq Y.ic.hm Y.iq Y.bq) (pe_methE (E := fun _ _ _ _ => False) (pv 1) U.cQ W.mi G_image (hr.mono (by decide)) W.bi (fun _ => passAt_no) (pa_cons (pe_callTy (k_tuple K) (by rfl) T.m_tuple (by decide +kernel) (pa_cons (pv 4) pa_nil)) pa_nil)) (pv 1) (nomark _))))) (pss_one (ps_ret pe_bl)) pss_nil)
      (pss_cons (ps_set (i := 11) sc__law_image_holds.nd rfl (by first | exact Or.inl rfl | exact Or.inr rfl) (pe_methE (E := fun _ _ _ _ => False) (pv 1) U.cQ W.mi G_image (hr.mono (by decide)) W.bi (fun _ => passAt_no) (pa_cons (pv 6) pa_nil)))
      (pss_cons (ps_if (PW.pt (pw_or (pt_cmpR (k_neA hw) (pe_prop (pv 11) U.cQ V.rh G_head (hr.mono (by decide)) V.bh .nil pass0 rfl) (pe_prop (pv 8) U.cQ V.rh G_head (hr.mono (by decide)) V.bh .nil pass0 rfl) (nomark _)) (pw_or1 (pt_cmpR (k_neA hw) (pe_prop (pv 11) U.cQ V.ra G_atoms (hr.mono (by decide)) V.ba .nil pass0 rfl) (pe_prop (pv 8) U.cQ V.ra G_atoms (hr.mono (by decide)) V.ba .nil pass0 rfl) (nomark _))))) (pss_one (ps_ret pe_bl)) pss_nil)
      (pss_cons (ps_set (i := 12) sc__law_image_holds.nd rfl (by first | exact Or.inl rfl | exact Or.inr rfl) (pe_lst (pa_cons pe_non (pa_cons (pe_callTy (k_list K) (by rfl) T.m_list (by decide +kernel) (pa_cons (pv 6) pa_nil)) (pa_cons (pe_op (k_add K) (pv 6) (pe_tup (pa_cons pe_str pa_nil))) (pa_cons (pe_slice (k_sl K) (pv 6) (po_some pe_int) po_none) (pa_cons (pe_op (k_add K) (pe_slice (k_sl K) (pv 6) po_none (po_some (pe_un un_neg pe_int))) (pe_tup (pa_cons pe_str pa_nil))) (pa_cons (pe_op (k_add K) (pe_slice (k_sl K) (pv 6) po_none (po_some (pe_un un_neg pe_int))) (pe_tup (pa_cons pe_non pa_nil))) pa_nil))))))))
      (pss_cons (ps_set (i := 12) sc__law_image_holds.nd rfl (by first | exact Or.inl rfl | exact Or.inr rfl) (pe_op (k_add K) (pv 12) (pe_lst (pa_cons (pe_op (k_mulT (K := K)) pe_str (pe_callB (k_len K) (by rfl) T.m_len (by decide +kernel) (pa_cons (pv 4) pa_nil))) (pa_cons pe_int (pa_cons (pe_op (k_add K) (pe_slice (k_sl K) (pv 6) po_none (po_some (pe_un un_neg pe_int))) (pe_tup (pa_cons (pe_lst (pa_cons pe_str pa_nil)) pa_nil))) pa_nil))))))
      (pss_cons (ps_for PassesOwn.never rfl (k_pilist K (pe_lst (pa_cons pe_str (pa_cons pe_str (pa_cons pe_str (pa_cons pe_str (pa_cons pe_str (pa_cons pe_str (pa_cons pe_str (pa_cons pe_non (pa_cons pe_int (pa_cons (pe_lst (pa_cons pe_str pa_nil)) (pa_cons pe_bl (pa_cons pe_str (pa_cons pe_str (pa_cons pe_str pa_nil)))))))))))))))) (pg_name (i := 7) sc__law_image_holds.nd rfl (by first | exact Or.inl rfl | exact Or.inr rfl)) (pss_one (ps_set (i := 12) sc__law_image_holds.nd rfl (by first | exact Or.inl rfl | exact Or.inr rfl) (pe_op (k_add K) (pv 12) (pe_lst (pa_cons (pe_op (k_add K) (pe_slice (k_sl K) (pv 6) po_none (po_some (pe_un un_neg pe_int))) (pe_tup (pa_cons (pv 7) pa_nil))) (pa_cons (pe_op (k_add K) (pe_tup (pa_cons (pv 7) pa_nil)) (pe_slice (k_sl K) (pv 6) (po_some pe_int) po_none)) (pa_cons (pe_op (k_add K) (pe_op (k_add K) (pe_slice (k_sl K) (pv 6) po_none (po_some pe_int)) (pe_tup (pa_cons (pv 7) pa_nil))) (pe_slice (k_sl K) (pv 6) (po_some pe_int) po_none)) pa_nil))))))))
      (pss_one (ps_ret (pe_cmpR (k_eqA hw) (pe_lc (own := [("value", 13)]) rfl sc__law_image_holds.nd (k_pilist K (pv 12)) (blkOk_by (N := ["source", "query", "first", "parts", "met", "pool", "leads", "name", "due", "table", "names", "found", "bad", "value"]) (sc := defScope s__law_image_holds) (by decide +kernel)) (fun _ _ _ _ _ => (pg_name (i := 13) sc__law_image_holds.nd rfl (by first | exact Or.inl rfl | exact Or.inr rfl))) (fun _ _ _ _ _ => (pts_one (pt_not (pt_val (pe_call G__law_raised (hr.mono (by decide)) (by rfl) T.m__law_raised T.F__law_raised.kp T.b__law_raised .nil pass0 (pa_cons (pv 1) (pa_cons (pv 13) pa_nil))))))) (fun _ _ _ _ _ => (pv 13))) (pe_lst pa_nil) (nomark _))))))))))))), body_ok h fun s c n ds hn hp => ?_⟩)
  · obtain ⟨hd, as, rfl, _⟩ := hp
    rfl
  obtain ⟨hd, as, rfl, ok⟩ := hp
  have nmV : ∀ v ∈ varsA as, isName v := fun v hv => by
    obtain ⟨a, ha, h⟩ := in_vars.mp hv
    exact (ok.1.2.2.2.2 a ha).2.2.2 v h
  have m5 : (varsA as).length ≤ 5 := ok.2.2.2
  have m1 : 1 ≤ (varsA as).length := by
    obtain ⟨a, ha⟩ := List.exists_mem_of_length_pos (l := as) ok.1.2.2.1
    obtain ⟨v, hv⟩ := List.exists_mem_of_length_pos (l := a.2) (ok.1.2.2.2.2 a ha).2.1
    exact List.length_pos_of_mem (in_vars.mpr ⟨a, ha, hv⟩)
  generalize hM : varsA as = M at *
  refine s_seq (N := fun ρ' m => m = n + 60 ∧ ∃ wd, isName wd ∧ ρ' = [.va (.obj s), .va (qI CQ (hd, as)), .va (.tup (dStrs hd)), .va (.lst (as.map dAtom)), .va (.lst (dStrs M)), .va (.lst (dStrs (poolL M wd))), .no, .no, .no, .no, .no, .no, .no, .no]) (s_set (P := fun d => ∃ wd, d = .lst (dStrs (poolL M wd)) ∧ isName wd) (ev_opP (ev_var rfl) (ev_lst (PL := fun l => ∃ wd, l = dStrs [Str.ofString "new", Str.ofString "x", Str.ofString "y", wd] ∧ isName wd) (EvA.imp (ea_cons ev_str (ea_cons ev_str (ea_cons ev_str (ea_cons (ev_word 6 (ev_var rfl) ev_int (by omega) (by decide)) ea_nil)))) fun l h => ?_) fun l h => ?_) fun x y e1 e2 => ?_) rfl fun d h => ?_) fun ρ1 n1 h1 => ?_
  · obtain ⟨d1, r1, rfl, rfl, d2, r2, rfl, rfl, d3, r3, rfl, rfl, d4, r4, rfl, ⟨z, rfl, h1, h2⟩, rfl⟩ := h
    exact ⟨z, rfl, by omega, by omega, h2⟩
  · obtain ⟨wd, rfl, _⟩ := h
    exact (by decide : (4 : Nat) ≤ 1000)
  · obtain ⟨l, rfl, wd, rfl, iw⟩ := e2
    subst e1
    refine ⟨_, rk_addL (by rw [strs_len, strs_len]; show M.length + 4 ≤ 2000; omega), wd, ?_, iw⟩
    unfold poolL dStrs
    rw [List.map_append]
  · obtain ⟨wd, rfl, iw⟩ := h
    exact ⟨rfl, wd, iw, rfl⟩
  obtain ⟨rfl, wd, iw, rfl⟩ := h1
  have pin : ∀ v ∈ poolL M wd, isName v := fun v hv => by
    rcases List.mem_append.mp hv with h | h
    · exact nmV v h
    · simp only [List.mem_cons, List.not_mem_nil, or_false] at h
      rcases h with rfl | rfl | rfl | rfl
      · exact name_of _ (by decide +kernel)
      · exact name_of _ (by decide +kernel)
      · exact name_of _ (by decide +kernel)
      · exact iw
  have pl : (poolL M wd).length ≤ 9 := by
    unfold poolL
    rw [List.length_append]
    show M.length + 4 ≤ 9
    omega
  refine s_seq (N := fun ρ' m => m = n + 65 ∧ ∃ ls, ls.length = M.length ∧ (∀ v ∈ ls, isName v) ∧ ρ' = [.va (.obj s), .va (qI CQ (hd, as)), .va (.tup (dStrs hd)), .va (.lst (as.map dAtom)), .va (.lst (dStrs M)), .va (.lst (dStrs (poolL M wd))), .va (.tup (dStrs ls)), .no, .no, .no, .no, .no, .no, .no]) (s_set (P := fun d => ∃ ls, d = .tup (dStrs ls) ∧ ls.length = M.length ∧ ∀ v ∈ ls, isName v) (ev_callP (A := fun l => ∃ ls, l = [.lst (dStrs ls)] ∧ ls.length = M.length ∧ ∀ v ∈ ls, isName v) (EvA.imp (ea_cons (EvN.ev (en_lc (n2 := n + 65) (ei_list (PL := fun ds => ds = dStrs M) (ev_var rfl) fun d e => ⟨_, e, rfl⟩) rfl
      (fun ds i acc m => acc.length = i ∧ m = n + 60 + i ∧ ∃ ls : List Str, acc = dStrs ls ∧ ∀ v ∈ ls, isName v) (fun ds e => ⟨by rw [e, strs_len]; omega, rfl, rfl, [], rfl, fun v hv => by cases hv⟩) (fun ds e i d acc m hi ha inv => ?_) fun ds e acc m inv => by rw [e, strs_len] at inv; omega)) ea_nil) fun l h => ?_) fun l h => ?_) rfl fun d h => ?_) fun ρ1 n1 h1 => ?_
  · obtain ⟨rfl, rfl, ls, rfl, nl⟩ := inv
    rw [e] at hi
    have il := (List.getElem?_eq_some_iff.mp hi).1
    rw [strs_len, strs_len] at il
    have q0 := strs_len ls
    refine ⟨_, _, _, _, eg_name (j := 7) rfl, fun j hj => hj, et_yes, fun _ => ⟨_, _, ev_pick (l := dStrs (poolL M wd)) (ev_var rfl) (ev_var rfl) (by omega) rfl (fun z => ?_) (by rw [strs_len]; omega), fun y hy => ?_⟩, fun z => by cases z⟩
    · have h1 := congrArg List.length z
      rw [strs_len] at h1
      unfold poolL at h1
      rw [List.length_append] at h1
      cases h1
    · obtain ⟨t, rfl, ht⟩ := strs_mem hy
      refine ⟨by rw [List.length_append]; rfl, by omega, ls ++ [t], by unfold dStrs; rw [List.map_append]; rfl, fun v hv => ?_⟩
      rcases List.mem_append.mp hv with h | h
      · exact nl v h
      · rw [List.mem_singleton.mp h]
        exact pin t ht
  · obtain ⟨d, r, rfl, ⟨l', rfl, ds, e, m, inv⟩, rfl⟩ := h
    obtain ⟨q1, q2, ls, rfl, nl⟩ := inv
    rw [e, strs_len, strs_len] at q1
    exact ⟨ls, rfl, q1, nl⟩
  · obtain ⟨ls, rfl, q1, nl⟩ := h
    exact ⟨_, ck_tuple rfl, ls, rfl, q1, nl⟩
  · obtain ⟨ls, rfl, q1, nl⟩ := h
    exact ⟨rfl, ls, q1, nl, rfl⟩
  obtain ⟨rfl, ls, ll, nl, rfl⟩ := h1
  have oki : okV (imgQ (hd, as) ls).1 (imgQ (hd, as) ls).2 := img_okV ok (by rw [hM]; exact ll) nl
  have eI : imgQ (hd, as) ls = (hd.map (subS M ls), imgA M ls (sortA as)) := by unfold imgQ; rw [hM]
  rw [eI] at oki
  have okd : okV (hd.map (subS M ls)) (imgA M ls as) := okV_perm oki (imgA_perm (sortA_perm as).symm)
  have inA : ∀ a ∈ as, ∀ v ∈ a.2, v ∈ M := fun a ha v hv => by rw [← hM]; exact in_vars.mpr ⟨a, ha, hv⟩
  have inH : ∀ v ∈ hd, v ∈ M := fun v hv => by rw [← hM]; exact (usort_mem v _).mpr (ok.2.2.1 v hv)
  have h3 := ok.1.2.1
  have h6 := ok.1.2.2.2.1
  refine s_seq (N := fun ρ' m => m = n + 65 ∧ ρ' = [.va (.obj s), .va (qI CQ (hd, as)), .va (.tup (dStrs hd)), .va (.lst (as.map dAtom)), .va (.lst (dStrs M)), .va (.lst (dStrs (poolL M wd))), .va (.tup (dStrs ls)), .no, .va (qI CQ (hd.map (subS M ls), imgA M ls as)), .no, .no, .no, .no, .no]) (s_set (ev_queryV (hd := hd.map (subS M ls)) (as := imgA M ls as) (y := .lst ((imgA M ls as).map dAtom)) (ea_c (ev_nm (ev_var rfl) (ev_var rfl) (ev_var rfl) (by omega) rfl inH ll.symm (by omega)) (ea_one (EvE.imp (EvN.evK (en_mapK (L := as.map dAtom) (fun d => dAtom ((unD d).1, (unD d).2.map (subS M ls))) (ei_list (ev_var rfl) fun d e => ⟨_, e, rfl⟩) rfl (by rw [List.length_map]; omega) fun i d hi => ?_)) fun d e => ?_))) (.inl rfl) (by omega) okd) rfl fun d e => ⟨rfl, by rw [e]; rfl⟩) fun ρ1 n1 h1 => ?_
  · rw [List.getElem?_map] at hi
    cases z : as[i]? with
    | none => rw [z] at hi; cases hi
    | some a =>
      rw [z] at hi
      cases hi
      have ha := List.mem_of_getElem? z
      refine ⟨_, _, eg_tup (egs_cons (eg_name (j := 9) rfl) (egs_cons (eg_name (j := 10) rfl) egs_nil)) rfl, fun j hj => hj, ?_⟩
      rw [unD_of]
      exact ev_tupE (ea_c (ev_var rfl) (ea_one (ev_nm (ev_var rfl) (ev_var rfl) (ev_var rfl) (by omega) rfl (inA a ha) ll.symm (by have := (ok.1.2.2.2.2 a ha).2.2.1; omega)))) (by exact (by decide : (2 : Nat) ≤ 1000))
  · rw [e]
    congr 1
    unfold imgA
    rw [List.map_map, List.map_map]
    refine List.map_congr_left fun a ha => ?_
    show dAtom ((unD (dAtom a)).1, (unD (dAtom a)).2.map (subS M ls)) = _
    rw [unD_of]
    rfl
  obtain ⟨rfl, rfl⟩ := h1
  have sE : sortA (imgA M ls (sortA as)) = sortA (imgA M ls as) := sortA_congr (imgA_perm (sortA_perm as))
  have idS : ∀ {vs : List Str} {t : Str}, subS vs vs t = t := fun {vs t} => by
    induction vs with
    | nil => rfl
    | cons v vs ih =>
      show (if v = t then v else subS vs vs t) = t
      by_cases e : v = t
      · rw [if_pos e, e]
      · rw [if_neg e, ih]
  have eM : imgQ (hd, as) M = (hd, sortA as) := by
    unfold imgQ imgA
    rw [hM]
    have e0 : ∀ l : List Str, l.map (subS M M) = l := fun l => (List.map_congr_left (g := id) (fun v _ => (idS : subS M M v = v))).trans (List.map_id l)
    have e1 : hd.map (subS M M) = hd := e0 hd
    have e2 : ((sortA as).map fun a => (a.1, a.2.map (subS M M))) = sortA as := (List.map_congr_left (g := id) (fun a _ => by rw [e0]; rfl)).trans (List.map_id _)
    show (hd.map (subS M M), (sortA as).map fun a => (a.1, a.2.map (subS M M))) = _
    rw [e1, e2]
  have q1 : eqQ (imgQ (hd, as) ls) (hd.map (subS M ls), imgA M ls as) = true := by
    unfold eqQ
    rw [eI]
    show (decide (hd.map (subS M ls) = hd.map (subS M ls)) && decide (sortA (imgA M ls (sortA as)) = sortA (imgA M ls as))) = true
    rw [sE, decide_eq_true rfl, decide_eq_true rfl]
    rfl
  have q2 : eqQ (imgQ (hd, as) M) (hd, as) = true := by
    unfold eqQ
    rw [eM]
    show (decide (hd = hd) && decide (sortA (sortA as) = sortA as)) = true
    rw [sortA_twice, decide_eq_true rfl, decide_eq_true rfl]
    rfl
  have okM : okV (imgQ (hd, as) M).1 (imgQ (hd, as) M).2 := img_okV ok (by rw [hM]) nmV
  refine s_seq (N := fun ρ' m => m = n + 65 ∧ ρ' = [.va (.obj s), .va (qI CQ (hd, as)), .va (.tup (dStrs hd)), .va (.lst (as.map dAtom)), .va (.lst (dStrs M)), .va (.lst (dStrs (poolL M wd))), .va (.tup (dStrs ls)), .no, .va (qI CQ (hd.map (subS M ls), imgA M ls as)), .no, .no, .no, .no, .no]) (s_ifK (b := false) (et_orK (a := !true) (b := !true) (et_K (ev_neqQ Y (ev_img (ev_var rfl) (ev_var rfl) (by omega) ok (by rw [hM]; exact ll) nl) (ev_var rfl) (by omega) (by rw [eI]; exact oki.1) okd.1 q1)) fun _ => et_K (ev_neqQ Y (ev_img (ev_var rfl) (ev_callK (ea_one (ev_var rfl)) (ck_tuple rfl)) (by omega) ok (by rw [hM]) nmV) (ev_var rfl) (by omega) okM.1 ok.1 q2)) (fun e => by cases e) fun _ => s_next ⟨rfl, rfl⟩) fun ρ1 n1 h1 => ?_
  obtain ⟨rfl, rfl⟩ := h1
  refine s_seq (N := fun ρ' m => m = n + 65 ∧ ρ' = [.va (.obj s), .va (qI CQ (hd, as)), .va (.tup (dStrs hd)), .va (.lst (as.map dAtom)), .va (.lst (dStrs M)), .va (.lst (dStrs (poolL M wd))), .va (.tup (dStrs ls)), .no, .va (qI CQ (hd.map (subS M ls), imgA M ls as)), .no, .no, .va (qI CQ (hd.map (subS M ls), imgA M ls (sortA as))), .no, .no]) (s_set (ev_img (ev_var rfl) (ev_var rfl) (by omega) ok (by rw [hM]; exact ll) nl) rfl fun d e => ⟨rfl, by rw [e, eI]; rfl⟩) fun ρ1 n1 h1 => ?_
  obtain ⟨rfl, rfl⟩ := h1
  have same : ∀ {x : D}, tame x = true → dp x ≤ 61 → RK K s c (rNeA K) x x (.bl false) := fun {x} t l => by
    have := rk_neD (K := K) (s := s) (c := c) (plain_of t) (plain_of t) (shaped_of t (by omega)) (shaped_of t (by omega))
    rw [SeqAt.eqv_refl _ (SeqAt.canLay_of_shaped (shaped_of t (by omega)))] at this
    exact this
  have tH := tame_names okd.1.1 (by have := okd.1.2.1; omega)
  have okds := okV_perm okd (sortA_perm _)
  have tA := (tame_atoms okds.1.2.2.2.2 (by have := okds.1.2.2.2.1; omega)).1
  refine s_seq (N := fun ρ' m => m = n + 65 ∧ ρ' = [.va (.obj s), .va (qI CQ (hd, as)), .va (.tup (dStrs hd)), .va (.lst (as.map dAtom)), .va (.lst (dStrs M)), .va (.lst (dStrs (poolL M wd))), .va (.tup (dStrs ls)), .no, .va (qI CQ (hd.map (subS M ls), imgA M ls as)), .no, .no, .va (qI CQ (hd.map (subS M ls), imgA M ls (sortA as))), .no, .no]) (s_ifK (b := false) (et_orK (a := false) (b := false) (et_K (ev_opK (ev_qHead (q := (hd.map (subS M ls), imgA M ls (sortA as))) (ev_var rfl) (by omega)) (ev_qHead (q := (hd.map (subS M ls), imgA M ls as)) (ev_var rfl) (by omega)) (same tH.1 (Nat.le_trans tH.2 (by decide))))) fun _ => et_K (ev_opK (ev_qAtoms (q := (hd.map (subS M ls), imgA M ls (sortA as))) (ev_var rfl) (by omega)) (ev_qAtoms (q := (hd.map (subS M ls), imgA M ls as)) (ev_var rfl) (by omega)) (by rw [sE]; exact same tA.1 tA.2))) (fun e => by cases e) fun _ => s_next ⟨rfl, rfl⟩) fun ρ1 n1 h1 => ?_
  obtain ⟨rfl, rfl⟩ := h1
  have lsl := strs_len ls
  have tL : ∀ {lo hi : Option Int}, ∀ d ∈ Pl.cutD (dStrs ls) lo hi, tame d = true ∧ dp d ≤ 2 := fun {lo hi} d hd => by
    obtain ⟨z, rfl, hz⟩ := strs_mem (cutD_mem hd)
    exact ⟨(name_tame (nl z hz)).1, Nat.zero_le _⟩
  have tL0 : ∀ d ∈ dStrs ls, tame d = true ∧ dp d ≤ 2 := fun d hd => by
    obtain ⟨z, rfl, hz⟩ := strs_mem hd
    exact ⟨(name_tame (nl z hz)).1, Nat.zero_le _⟩
  have cl : ∀ {lo hi : Option Int}, (Pl.cutD (dStrs ls) lo hi).length ≤ 20 := fun {lo hi} => Nat.le_trans cutD_len (by omega)
  have tupE : ∀ {ta : TA} {ρ : List Sl} {m m1 : Nat} {x : D}, EvA K s c ta ρ m m1 (fun l => l = [x]) → EvE K s c (tTup ta) ρ m m1 (fun d => d = .tup [x]) := fun h => ev_tupE h (by exact (by decide : (1 : Nat) ≤ 1000))
  have mone : EvO K s c (tPart (tUn (rU fun i => .int (-i)) (tC (.int 1)))) = EvO K s c (tPart (tUn (rU fun i => .int (-i)) (tC (.int 1)))) := rfl
  refine s_seq (N := fun ρ' m => m = n + 65 ∧ ∃ L : List D, L.length ≤ 6 ∧ (∀ d ∈ L, GB M.length d) ∧ ρ' = [.va (.obj s), .va (qI CQ (hd, as)), .va (.tup (dStrs hd)), .va (.lst (as.map dAtom)), .va (.lst (dStrs M)), .va (.lst (dStrs (poolL M wd))), .va (.tup (dStrs ls)), .no, .va (qI CQ (hd.map (subS M ls), imgA M ls as)), .no, .no, .va (qI CQ (hd.map (subS M ls), imgA M ls (sortA as))), .va (.lst L), .no]) (s_set (ev_lstE (l := [.non, .lst (dStrs ls), .tup (dStrs ls ++ [.str (Str.ofString "x")]), .tup (Pl.cutD (dStrs ls) (some 1) none), .tup (Pl.cutD (dStrs ls) none (some (-1)) ++ [.str (Str.ofString "A")]), .tup (Pl.cutD (dStrs ls) none (some (-1)) ++ [.non])]) (ea_c ev_non (ea_c (ev_callK (ea_one (ev_var rfl)) (ck_list rfl)) (ea_c (ev_opK (ev_var rfl) (tupE (ea_one ev_str)) (rk_addT (by show (dStrs ls).length + 1 ≤ 2000; omega))) (ea_c (ev_slT (ev_var rfl) (eo_some ev_int) eo_none) (ea_c (ev_opK (ev_slT (ev_var rfl) eo_none (eo_some (ev_neg ev_int))) (tupE (ea_one ev_str)) (rk_addT (by have := @cl none (some (-1)); show (Pl.cutD (dStrs ls) none (some (-1))).length + 1 ≤ 2000; omega))) (ea_one (ev_opK (ev_slT (ev_var rfl) eo_none (eo_some (ev_neg ev_int))) (tupE (ea_one ev_non)) (rk_addT (by have := @cl none (some (-1)); show (Pl.cutD (dStrs ls) none (some (-1))).length + 1 ≤ 2000; omega))))))))) (by exact (by decide : (6 : Nat) ≤ 1000))) rfl fun d e => ?_) fun ρ1 n1 h1 => ?_
  · subst e
    refine ⟨rfl, _, Nat.le_refl _, ?_, rfl⟩
    have gx : tame (.str (Str.ofString "x")) = true ∧ dp (.str (Str.ofString "x")) ≤ 2 := ⟨by decide +kernel, Nat.zero_le _⟩
    have gA : tame (.str (Str.ofString "A")) = true ∧ dp (.str (Str.ofString "A")) ≤ 2 := ⟨by decide +kernel, Nat.zero_le _⟩
    have gN : tame .non = true ∧ dp .non ≤ 2 := ⟨rfl, Nat.zero_le _⟩
    simp only [List.forall_mem_cons]
    refine ⟨⟨rfl, Nat.zero_le _, rfl⟩, ⟨tame_lstOf (fun d hd => (tL0 d hd).1) (by omega), Nat.le_trans (dp_seq (k := 2) fun d hd => (tL0 d hd).2).1 (by decide), rfl⟩, gb_tup (fun d hd => (List.mem_append.mp hd).elim (tL0 d) (tame_one gx d)) (by rw [List.length_append]; show (dStrs ls).length + 1 ≤ 100; omega) (.inl (by rw [List.length_append]; show (dStrs ls).length + 1 ≠ M.length; omega)), gb_tup tL (by have := @cl (some 1) none; omega) (.inl ?_), gb_app tL (tame_one gA) cl (by exact (by decide : (1 : Nat) ≤ 20)) ⟨_, List.mem_append_right _ List.mem_cons_self, by decide +kernel⟩, gb_app tL (tame_one gN) cl (by exact (by decide : (1 : Nat) ≤ 20)) ⟨_, List.mem_append_right _ List.mem_cons_self, rfl⟩, fun d h => by cases h⟩
    have e1 := cut_from (l := dStrs ls) (k := 1)
    rw [show ((1 : Nat) : Int) = 1 from rfl] at e1
    rw [e1, List.length_drop]
    omega
  obtain ⟨rfl, L, L6, gL, rfl⟩ := h1
  refine s_seq (N := fun ρ' m => m = n + 65 ∧ ∃ L : List D, L.length ≤ 9 ∧ (∀ d ∈ L, GB M.length d) ∧ ρ' = [.va (.obj s), .va (qI CQ (hd, as)), .va (.tup (dStrs hd)), .va (.lst (as.map dAtom)), .va (.lst (dStrs M)), .va (.lst (dStrs (poolL M wd))), .va (.tup (dStrs ls)), .no, .va (qI CQ (hd.map (subS M ls), imgA M ls as)), .no, .no, .va (qI CQ (hd.map (subS M ls), imgA M ls (sortA as))), .va (.lst L), .no]) (s_set (P := fun d => ∃ L2 : List D, d = .lst (L ++ L2) ∧ L2.length = 3 ∧ ∀ d ∈ L2, GB M.length d) (ev_opP (ev_var rfl) (ev_lst (PL := fun l => l.length = 3 ∧ ∀ d ∈ l, GB M.length d) (EvA.imp (ea_cons (ev_mulS (z := Str.ofString "x") (k := ((dStrs M).length : Int)) ev_str (ev_callK (ea_one (ev_var rfl)) (ck_len rfl)) (by omega) (by rw [strs_len]; omega) (by decide +kernel)) (ea_c ev_int (ea_one (ev_opK (ev_slT (ev_var rfl) eo_none (eo_some (ev_neg ev_int))) (tupE (ea_one (ev_lstE (l := [.str (Str.ofString "x")]) (ea_one ev_str) (by exact (by decide : (1 : Nat) ≤ 1000))))) (rk_addT (by have := @cl none (some (-1)); show (Pl.cutD (dStrs ls) none (some (-1))).length + 1 ≤ 2000; omega)))))) fun l h => ?_) fun l h => ?_) fun x y e1 e2 => ?_) rfl fun d h => ?_) fun ρ1 n1 h1 => ?_
  · obtain ⟨d, r, rfl, ⟨y, rfl, y1, y2⟩, rfl⟩ := h
    refine ⟨rfl, ?_⟩
    have gl : tame (.lst [.str (Str.ofString "x")]) = true ∧ dp (.lst [.str (Str.ofString "x")]) ≤ 2 := ⟨by decide +kernel, by decide +kernel⟩
    have x1 : (Str.ofString "x").length = 1 := by decide +kernel
    have sx : PyData.strOk (Str.ofString "x") = true := by decide +kernel
    simp only [List.forall_mem_cons]
    refine ⟨⟨?_, Nat.zero_le _, rfl⟩, ⟨rfl, Nat.zero_le _, rfl⟩, gb_app tL (tame_one gl) cl (by exact (by decide : (1 : Nat) ≤ 20)) ⟨_, List.mem_append_right _ List.mem_cons_self, rfl⟩, fun d h => by cases h⟩
    show (decide (y.length ≤ 5000) && PyData.strOk y) = true
    rw [Bool.and_eq_true, decide_eq_true_eq]
    refine ⟨?_, ?_⟩
    · rw [x1, Nat.one_mul, strs_len] at y1
      omega
    · unfold PyData.strOk at sx ⊢
      rw [← Array.all_toList, List.all_eq_true] at sx ⊢
      exact fun q hq => sx q (y2 q hq)
  · omega
  · obtain ⟨l, rfl, l3, gl⟩ := e2
    subst e1
    exact ⟨_, rk_addL (by omega), l, rfl, l3, gl⟩
  · obtain ⟨L2, rfl, l3, gl⟩ := h
    exact ⟨rfl, L ++ L2, by rw [List.length_append]; omega, fun d hd => (List.mem_append.mp hd).elim (gL d) (gl d), rfl⟩
  obtain ⟨rfl, L, L9, gL, rfl⟩ := h1
  refine s_seq (N := fun ρ' m => m = n + 65 ∧ ∃ (L : List D) (y : Sl), L.length ≤ 51 ∧ (∀ d ∈ L, GB M.length d) ∧ ρ' = [.va (.obj s), .va (qI CQ (hd, as)), .va (.tup (dStrs hd)), .va (.lst (as.map dAtom)), .va (.lst (dStrs M)), .va (.lst (dStrs (poolL M wd))), .va (.tup (dStrs ls)), y, .va (qI CQ (hd.map (subS M ls), imgA M ls as)), .no, .no, .va (qI CQ (hd.map (subS M ls), imgA M ls (sortA as))), .va (.lst L), .no]) (s_for (ei_list (PL := fun ds => ds = litN) (ev_lstE (l := litN) (ea_c ev_str (ea_c ev_str (ea_c ev_str (ea_c ev_str (ea_c ev_str (ea_c ev_str (ea_c ev_str (ea_c ev_non (ea_c ev_int (ea_c (ev_lstE (l := [.str (Str.ofString "a")]) (ea_one ev_str) (by exact (by decide : (1 : Nat) ≤ 1000))) (ea_c ev_bl (ea_c ev_str (ea_c ev_str (ea_one ev_str)))))))))))))) (by exact (by decide : (14 : Nat) ≤ 1000))) fun d e => ⟨_, e, rfl⟩)
      (fun ds i ρ' m => m = n + 65 ∧ ∃ (L : List D) (y : Sl), isOw (some y) = false ∧ L.length ≤ 9 + 3 * i ∧ (∀ d ∈ L, GB M.length d) ∧ ρ' = [.va (.obj s), .va (qI CQ (hd, as)), .va (.tup (dStrs hd)), .va (.lst (as.map dAtom)), .va (.lst (dStrs M)), .va (.lst (dStrs (poolL M wd))), .va (.tup (dStrs ls)), y, .va (qI CQ (hd.map (subS M ls), imgA M ls as)), .no, .no, .va (qI CQ (hd.map (subS M ls), imgA M ls (sortA as))), .va (.lst L), .no]) (fun ds e => ⟨rfl, L, .no, rfl, L9, gL, rfl⟩) (fun ds e i d ρ' m hi inv => ?_) (fun ds e ρ' m inv => ?_)) fun ρ1 n1 h1 => ?_
  · obtain ⟨rfl, L, y, oy, lL, gL, rfl⟩ := inv
    rw [e] at hi
    have il := (List.getElem?_eq_some_iff.mp hi).1
    have il : i < 14 := il
    have gd := lit_all d (List.mem_of_getElem? hi)
    have gd1 : tame d = true ∧ dp d ≤ 2 := ⟨gd.1, gd.2.1⟩
    have nc : ∀ {a : List D}, a.length ≤ 20 → a.length + [d].length ≤ 2000 := fun h => by show _ + 1 ≤ 2000; omega
    refine ⟨_, _, eg_name (j := 7) oy, s_set (ev_opK (ev_var rfl) (ev_lstE (ea_c (ev_opK (ev_slT (ev_var rfl) eo_none (eo_some (ev_neg ev_int))) (tupE (ea_one (ev_var rfl))) (rk_addT (nc cl))) (ea_c (ev_opK (tupE (ea_one (ev_var rfl))) (ev_slT (ev_var rfl) (eo_some ev_int) eo_none) (rk_addT (by have := @cl (some 1) none; show 1 + _ ≤ 2000; omega))) (ea_one (ev_opK (ev_opK (ev_slT (ev_var rfl) eo_none (eo_some ev_int)) (tupE (ea_one (ev_var rfl))) (rk_addT (nc cl))) (ev_slT (ev_var rfl) (eo_some ev_int) eo_none) (rk_addT (by have := @cl none (some 1); have := @cl (some 2) none; rw [List.length_append]; show _ + 1 + _ ≤ 2000; omega)))))) (by exact (by decide : (3 : Nat) ≤ 1000))) (rk_addL (by show _ + 3 ≤ 2000; omega))) rfl fun d' e' => ?_⟩
    subst e'
    refine ⟨rfl, _, _, rfl, ?_, ?_, rfl⟩
    · rw [List.length_append]
      show _ + 3 ≤ _
      omega
    · intro x hx
      rcases List.mem_append.mp hx with hx | hx
      · exact gL x hx
      · rcases List.mem_cons.mp hx with rfl | hx
        · exact gb_app tL (tame_one gd1) cl (by exact (by decide : (1 : Nat) ≤ 20)) ⟨d, List.mem_append_right _ List.mem_cons_self, gd.2.2⟩
        rcases List.mem_cons.mp hx with rfl | hx
        · exact gb_app (tame_one gd1) tL (by exact (by decide : (1 : Nat) ≤ 20)) cl ⟨d, List.mem_append_left _ List.mem_cons_self, gd.2.2⟩
        obtain rfl := List.mem_singleton.mp hx
        refine gb_tup (fun x hx => ?_) ?_ (.inr ⟨d, List.mem_append_left _ (List.mem_append_right _ List.mem_cons_self), gd.2.2⟩)
        · rcases List.mem_append.mp hx with hx | hx
          · rcases List.mem_append.mp hx with hx | hx
            · exact tL x hx
            · exact tame_one gd1 x hx
          · exact tL x hx
        · have := @cl none (some 1)
          have := @cl (some 2) none
          rw [List.length_append, List.length_append]
          show _ + 1 + _ ≤ 100
          omega
  · obtain ⟨rfl, L, y, _, lL, gL, rfl⟩ := inv
    rw [e] at lL
    exact ⟨rfl, L, y, lL, gL, rfl⟩
  obtain ⟨rfl, L, y, lL, gL, rfl⟩ := h1
  refine s_ret (ev_opK (x := .lst []) (y := .lst []) (z := .bl true) (EvE.imp (EvN.evK (en_lcK (L := L) id (fun d => !!namesB ((varsA as).length : Int) ((varsA as).length : Int) d) (ei_list (ev_var rfl) fun d e => ⟨_, e, rfl⟩) rfl (by omega) fun i d hi => ?_)) fun d e => ?_) (ev_lstE (l := []) ea_nil (Nat.zero_le _)) ?_) fun d e => ⟨by omega, e⟩
  · refine ⟨_, _, eg_name (j := 13) rfl, fun j hj => hj, et_notK (et_BK (ev_defK (ea_c (ev_var rfl) (ea_one (ev_var rfl))) (by omega) ⟨(hd, as), d, rfl, ok, (gL d (List.mem_of_getElem? hi)).1, (gL d (List.mem_of_getElem? hi)).2.1⟩ fun z h => ?_)), fun _ => ev_var rfl⟩
    obtain ⟨q', y', e, rfl⟩ := h
    injection e with e1 e
    injection e with e2 _
    have e4 : varsA as = varsA q'.2 := by rw [← vars_perm (sortA_perm as), ← vars_perm (sortA_perm q'.2), (qI_inj e1).2]
    rw [← e4, ← e2]
  · rw [e]
    have : L.filter (fun d => !!namesB ((varsA as).length : Int) ((varsA as).length : Int) d) = [] := List.filter_eq_nil_iff.mpr fun d hd => by
      rw [hM, (gL d hd).2.2]
      exact Bool.false_ne_true
    rw [this]
    rfl
  · exact rk_eqD (x := .lst []) (y := .lst []) rfl rfl rfl rfl
end
end K02
/-! text K02y -/
set_option Elab.async false
set_option linter.all false
set_option maxRecDepth 100000
set_option maxHeartbeats 4000000
set_option exponentiation.threshold 5000
namespace K02
open PySem PySem.Spec PyProof.Rows L2 Pl PlS
/-! ### the tables and their numbers of places, as sorted pairs -/
def pD (p : Str × Int) : D := .tup [.str p.1, .int p.2]
def dP (a : Str × List Str) : D := .tup [.str a.1, .int (a.2.length : Int)]
theorem put_same {c : Str → Int} {acc : List (Str × Int)} {k : Str} (hc : ∀ p ∈ acc, p.2 = c p.1) (h : k ∈ acc.map (·.1)) : putS acc k (c k) = acc := by
  unfold putS
  obtain ⟨p, hp, e⟩ := List.mem_map.mp h
  rw [if_pos (List.any_eq_true.mpr ⟨p, hp, by rw [decide_eq_true_eq]; exact e⟩)]
  refine (List.map_congr_left (g := id) fun q hq => ?_).trans (List.map_id _)
  by_cases e2 : q.1 = k
  · rw [if_pos e2, ← e2, ← hc q hq]
    rfl
  · rw [if_neg e2]
    rfl
theorem put_new {acc : List (Str × Int)} {k : Str} {v : Int} (h : k ∉ acc.map (·.1)) : putS acc k v = acc ++ [(k, v)] := by
  unfold putS
  rw [if_neg]
  intro e
  obtain ⟨p, hp, e2⟩ := List.any_eq_true.mp e
  rw [decide_eq_true_eq] at e2
  exact h (List.mem_map.mpr ⟨p, hp, e2⟩)
theorem fold_pairs (c : Str → Int) : ∀ (bs : List (Str × List Str)) (acc : List (Str × Int)) (pre : List Str), (acc.map (·.1)).Nodup → (acc.map (·.1)).Sublist pre → (∀ p ∈ acc, p.2 = c p.1) → (∀ t ∈ pre, t ∈ acc.map (·.1)) → (∀ a ∈ bs, (a.2.length : Int) = c a.1) →
    ((bs.foldl (fun ps a => putS ps a.1 (a.2.length : Int)) acc).map (·.1)).Nodup ∧ ((bs.foldl (fun ps a => putS ps a.1 (a.2.length : Int)) acc).map (·.1)).Sublist (pre ++ bs.map (·.1)) ∧ (∀ p ∈ bs.foldl (fun ps a => putS ps a.1 (a.2.length : Int)) acc, p.2 = c p.1) ∧ ∀ t ∈ pre ++ bs.map (·.1), t ∈ (bs.foldl (fun ps a => putS ps a.1 (a.2.length : Int)) acc).map (·.1)
  | [], acc, pre, h1, h2, h3, h4, _ => by
    rw [List.map_nil, List.append_nil]
    exact ⟨h1, h2, h3, h4⟩
  | b :: bs, acc, pre, h1, h2, h3, h4, h5 => by
    have eb := h5 b List.mem_cons_self
    rw [List.foldl_cons, List.map_cons, show pre ++ b.1 :: bs.map (·.1) = (pre ++ [b.1]) ++ bs.map (·.1) by rw [List.append_assoc]; rfl]
    by_cases hb : b.1 ∈ acc.map (·.1)
    · rw [eb, put_same h3 hb]
      refine fold_pairs c bs acc (pre ++ [b.1]) h1 (h2.trans (List.sublist_append_left _ _)) h3 (fun t ht => ?_) fun a ha => h5 a (List.mem_cons_of_mem _ ha)
      rcases List.mem_append.mp ht with ht | ht
      · exact h4 t ht
      · rw [List.mem_singleton.mp ht]
        exact hb
    · rw [put_new hb]
      refine fold_pairs c bs (acc ++ [(b.1, (b.2.length : Int))]) (pre ++ [b.1]) ?_ ?_ (fun p hp => ?_) (fun t ht => ?_) fun a ha => h5 a (List.mem_cons_of_mem _ ha)
      · rw [List.map_append, List.nodup_append]
        refine ⟨h1, by simp, fun x hx y hy e => ?_⟩
        rw [e, List.mem_singleton.mp hy] at hx
        exact hb hx
      · rw [List.map_append]
        exact h2.append (List.Sublist.refl _)
      · rcases List.mem_append.mp hp with hp | hp
        · exact h3 p hp
        · rw [List.mem_singleton.mp hp]
          exact eb
      · rw [List.map_append]
        rcases List.mem_append.mp ht with ht | ht
        · exact List.mem_append_left _ (h4 t ht)
        · exact List.mem_append_right _ ht
theorem plA_eq (as : List (Str × List Str)) : plA as = as.foldl (fun ps a => putS ps a.1 (a.2.length : Int)) [] := by
  unfold plA fillS
  rw [List.foldl_map]
  congr 1
  funext ps a
  show putS ps (unD (dAtom a)).1 ((unD (dAtom a)).2.length : Int) = _
  rw [unD_of]
/-- how many places a table has -/
def cntT (as : List (Str × List Str)) (t : Str) : Int := match as.find? (fun a => decide (a.1 = t)) with | some a => (a.2.length : Int) | none => 0
theorem cnt_of {as : List (Str × List Str)} (ok : ∀ a ∈ as, ∀ b ∈ as, a.1 = b.1 → a.2.length = b.2.length) {a : Str × List Str} (ha : a ∈ as) : (a.2.length : Int) = cntT as a.1 := by
  unfold cntT
  cases q : as.find? (fun b => decide (b.1 = a.1)) with
  | none =>
    have := List.find?_eq_none.mp q a ha
    simp at this
  | some b =>
    have h1 := List.mem_of_find?_eq_some q
    have h2 := List.find?_some q
    rw [decide_eq_true_eq] at h2
    show (a.2.length : Int) = (b.2.length : Int)
    rw [ok b h1 a ha h2]
theorem le_fst {x y : Str} (ne : x ≠ y) (l m : List D) : PySem.W.dataLe false py (.tup (.str x :: l)) (.tup (.str y :: m)) = !PyProof.Rows.lexLt itemOrd [.inr y.cps.toList] [.inr x.cps.toList] := by
  show (!PyProof.Rows.lexLt itemOrd (.inl 1 :: ([.inr y.cps.toList] ++ PySem.W.keyToksAll (pyL m))) (.inl 1 :: ([.inr x.cps.toList] ++ PySem.W.keyToksAll (pyL l)))) = _
  have ne2 : (Sum.inr y.cps.toList : Int ⊕ List Nat) ≠ .inr x.cps.toList := fun e => ne (PySem.W.str_of_cps (Sum.inr.inj e)).symm
  rw [lex_self (O := itemOrd)]
  rw [show ([.inr y.cps.toList] ++ PySem.W.keyToksAll (pyL m) : List (Int ⊕ List Nat)) = .inr y.cps.toList :: PySem.W.keyToksAll (pyL m) from rfl, show ([.inr x.cps.toList] ++ PySem.W.keyToksAll (pyL l) : List (Int ⊕ List Nat)) = .inr x.cps.toList :: PySem.W.keyToksAll (pyL l) from rfl, PySem.W.lex_atom ne2]
theorem pair_anti {l : List (Str × Int)} : ∀ x ∈ l.map pD, ∀ y ∈ l.map pD, PySem.W.keyToks (py x) = PySem.W.keyToks (py y) → x = y := fun x hx y hy e => by
  obtain ⟨a, ha, rfl⟩ := List.mem_map.mp hx
  obtain ⟨b, hb, rfl⟩ := List.mem_map.mp hy
  have q := eqv_of_toks (x := py (pD a)) (y := py (pD b)) (by rfl) e
  have q : ((a.1 == b.1) && ((a.2 == b.2) && true)) = true := q
  rw [Bool.and_true, Bool.and_eq_true, beq_iff_eq, beq_iff_eq] at q
  unfold pD
  rw [q.1, q.2]
/-- the pairs that the law makes are the items of places -/
theorem pairs_eq {as : List (Str × List Str)} {es : List D} (ok : ∀ a ∈ as, ∀ b ∈ as, a.1 = b.1 → a.2.length = b.2.length) (h : SetOf (as.map dP) es) : es = (plA (sortA as)).map pD := by
  obtain ⟨nd, mem, m, em⟩ := h
  have inS : ∀ a, a ∈ sortA as ↔ a ∈ as := fun a => (sortA_perm as).mem_iff
  obtain ⟨k1, k2, k3, k4⟩ := fold_pairs (cntT as) (sortA as) [] [] List.nodup_nil (List.Sublist.refl _) (fun p h => by cases h) (fun t h => by cases h) fun a ha => cnt_of ok ((inS a).mp ha)
  rw [← plA_eq] at k1 k2 k3 k4
  rw [List.nil_append] at k2 k4
  have memP : ∀ x, x ∈ (plA (sortA as)).map pD ↔ x ∈ as.map dP := fun x => by
    constructor
    · intro hx
      obtain ⟨p, hp, rfl⟩ := List.mem_map.mp hx
      obtain ⟨a, ha, e⟩ := List.mem_map.mp (k2.subset (List.mem_map.mpr ⟨p, hp, rfl⟩))
      refine List.mem_map.mpr ⟨a, (inS a).mp ha, ?_⟩
      unfold dP pD
      rw [k3 p hp, ← e, cnt_of ok ((inS a).mp ha)]
    · intro hx
      obtain ⟨a, ha, rfl⟩ := List.mem_map.mp hx
      obtain ⟨p, hp, e⟩ := List.mem_map.mp (k4 a.1 (List.mem_map.mpr ⟨a, (inS a).mpr ha, rfl⟩))
      refine List.mem_map.mpr ⟨p, hp, ?_⟩
      unfold dP pD
      rw [k3 p hp, e, cnt_of ok ha]
  have ndP : ((plA (sortA as)).map pD).Nodup := by
    have : ((plA (sortA as)).map (·.1)).Nodup := k1
    unfold List.Nodup at this ⊢
    rw [List.pairwise_map] at this ⊢
    refine this.imp fun {p q} h e => h ?_
    have e : D.tup [.str p.1, .int p.2] = .tup [.str q.1, .int q.2] := e
    injection e with e
    injection e with e _
    injection e
  have t := PySem.W.sortLe_total (PyProof.Rows.listOrd PyProof.Rows.itemOrd) false (fun d : D => PySem.W.keyToks (py d))
  have sA : ((sortA as).map dAtom).Pairwise (fun a b => PySem.W.dataLe false py a b = true) := by
    rw [← sortA_of]
    exact PySem.W.sort_pairwise t _
  have sT : ((sortA as).map (·.1)).Pairwise (fun x y => x = y ∨ (!PyProof.Rows.lexLt itemOrd [.inr y.cps.toList] [.inr x.cps.toList]) = true) := by
    rw [List.pairwise_map] at sA ⊢
    refine sA.imp fun {a b} h => ?_
    by_cases e : a.1 = b.1
    · exact .inl e
    · refine .inr ?_
      rw [← le_fst e [.tup (dStrs a.2)] [.tup (dStrs b.2)]]
      exact h
  have sK := sT.sublist k2
  have sP : ((plA (sortA as)).map pD).Pairwise (fun a b => PySem.W.dataLe false py a b = true) := by
    have both := List.Pairwise.and k1 sK
    rw [List.pairwise_map] at both ⊢
    refine both.imp fun {p q} h => ?_
    rcases h.2 with e | h2
    · exact absurd e h.1
    · show PySem.W.dataLe false py (.tup [.str p.1, .int p.2]) (.tup [.str q.1, .int q.2]) = true
      rw [le_fst h.1]
      exact h2
  have sE : es.Pairwise (fun a b => PySem.W.dataLe false py a b = true) := by
    rw [em]
    exact PySem.W.sort_pairwise t _
  have pm : es.Perm ((plA (sortA as)).map pD) := (List.perm_ext_iff_of_nodup nd ndP).mpr fun x => by rw [mem, memP]
  exact List.Perm.eq_of_pairwise (le := fun a b => PySem.W.dataLe false py a b = true) (fun a b ha hb h1 h2 => pair_anti a (pm.mem_iff.mp ha) b hb (rank_toks h1 h2)) sE sP pm
end K02
/-! text K02o -/
set_option Elab.async false
set_option linter.all false
set_option maxRecDepth 100000
set_option maxHeartbeats 4000000
set_option exponentiation.threshold 5000
namespace K02
open PySem PySem.Spec PyProof.Rows L2 Pl PlS

/-- of the script at a: a new source -/
def spSrc (K : PySem.W.Frag) : Sp := fun vs H Q _ => ∃ a, ∃ ns : List Int, vs = [.ref a] ∧ SqL K H a (ns.map V.int) ∧ ∀ s c H', H s = none → H c = none → (∀ b o, H b = some o → H' b = some o) → Src s c 0 H' → Q (.ref s) H'
theorem dp_ints {K : PySem.W.Frag} {H : Hp} : ∀ qs : List Int, DpAll K H (qs.map V.int) (qs.map PyData.int)
  | [] => .nil
  | q :: qs => .cons (.int q) (dp_ints qs)
theorem lay_ints : ∀ qs : List Int, PyData.canLayAll0 (qs.map PyData.int) = true ∧ PyData.depthAll (qs.map PyData.int) = 0
  | [] => ⟨rfl, rfl⟩
  | q :: qs => by
    obtain ⟨h1, h2⟩ := lay_ints qs
    refine ⟨?_, ?_⟩
    · show (true && PyData.canLayAll0 (qs.map PyData.int)) = true
      rw [h1]
      rfl
    · show max 0 (PyData.depthAll (qs.map PyData.int)) = 0
      rw [h2]
      rfl
theorem shaped_ints (qs : List Int) : SeqAt.shaped (.list (qs.map PyData.int)) = true := by
  obtain ⟨h1, h2⟩ := lay_ints qs
  show (PyData.canLayAll0 (qs.map PyData.int) && decide (PyData.depthAll (qs.map PyData.int) + 1 ≤ 64)) = true
  rw [h1, h2]
  rfl
theorem cut_ints (ns : List Int) : cutV (ns.map V.int) none (some 63) = (ns.take 63).map V.int := by
  unfold cutV
  rw [HT.sIx_none, show ((63 : Int)) = ((63 : Nat) : Int) from rfl, HT.sIx_nat, List.drop_zero, Nat.sub_zero, List.length_map, List.map_take]
  by_cases q : 63 ≤ ns.length
  · rw [Nat.min_eq_left q]
  · rw [Nat.min_eq_right (by omega), List.take_of_length_le (by rw [List.length_map]; omega), List.take_of_length_le (by rw [List.length_map]; omega)]
def MX : Int := (10 ^ (60 : Int).toNat) ^ (20 : Int).toNat
theorem mx_pos : 0 < MX := by decide +kernel
theorem mx_small : MX.natAbs < 2 ^ 4000 := by decide +kernel
theorem wd_mx (x : Int) : Wd (x % MX) := by
  have h1 := Int.emod_nonneg x (Int.ne_of_gt mx_pos)
  have h2 := Int.emod_lt_of_pos x mx_pos
  have h3 := mx_small
  unfold Wd
  omega
theorem wd_small {x : Int} (h : (if x < 0 then -x else x) < 10 ^ (18 : Int).toNat) : Wd x := by
  have e : (10 : Int) ^ (18 : Int).toNat = 1000000000000000000 := by decide
  rw [e] at h
  have : x.natAbs < 2 ^ 60 := by
    have e2 : (2 : Nat) ^ 60 = 1152921504606846976 := by decide
    split at h <;> omega
  exact wd_of this (by decide)
section
variable {P : Program} {w : World} {K : PySem.W.Frag} {mg : Str → Option Value} {base : Heap} {A : Adr}
theorem ok__law_source (T : Txt A K mg) : FnOk P w K mg base CX0 1 A.f__law_source A.fd__law_source ["script"] (spSrc K) := by
  refine T.F__law_source.ok sc__law_source (fun vs H Q E h => ?_) (fun cdv A' outer st H vs Q E hr h => have hw : _ := hr.units; ⟨_, (pss_cons (ps_set (i := 1) sc__law_source.nd rfl (by first | exact Or.inl rfl | exact Or.inr rfl) (pe_slice (k_sl K) (pv 0) po_none (po_some pe_int)))
      (pss_cons (ps_for PassesOwn.never rfl (pi_range1 rfl T.m_range (pa_cons (pe_callB (k_len K) (by rfl) T.m_len (by decide +kernel) (pa_cons (pv 1) pa_nil)) pa_nil)) (pg_name (i := 2) sc__law_source.nd rfl (by first | exact Or.inl rfl | exact Or.inr rfl)) (pss_one (ps_if (pt_cmpR op_ge (pe_callB call_abs (by rfl) T.m_abs (by decide +kernel) (pa_cons (pe_ix (k_ix K) (pv 1) (pv 2) (fun _ _ => rfl)) pa_nil)) (pe_op op_powW pe_int pe_int) (nomark _)) (pss_one (ps_asg (pe_op op_mod (pe_callTy call_int1 (by rfl) T.m_int (by decide +kernel) (pa_cons (pe_ix (k_ix K) (pv 1) (pv 2) (fun _ _ => rfl)) pa_nil)) (pe_op op_powW (pe_op op_powW pe_int pe_int) pe_int)) (pg_sub (pv 1) (pv 2) set_list))) pss_nil)))
      (pss_cons (ps_if (pt_cmpR (k_eqA hw) (pv 1) (pe_lst pa_nil) (nomark _)) (pss_one (ps_set (i := 1) sc__law_source.nd rfl (by first | exact Or.inl rfl | exact Or.inr rfl) (pe_lst (pa_cons pe_int pa_nil)))) pss_nil)
      (pss_one (ps_ret (pe_lst (pa_cons (pv 1) (pa_cons pe_int pa_nil)))))))), ?_⟩)
  · obtain ⟨a, ns, rfl, _⟩ := h
    rfl
  · obtain ⟨a, ns, rfl, hs, q⟩ := h
    refine ⟨.ref a, rfl, 63, rfl, .inl ⟨a, _, rfl, hs, fun p hp => ?_⟩⟩
    rw [cut_ints]
    have old : ∀ {o : HO} b u, H b = some u → upd H p o b = some u := fun {o} b u e => by
      rw [upd_ne (ne_of_none e hp)]
      exact e
    have len63 : (ns.take 63).length ≤ 63 := by rw [List.length_take]; omega
    generalize hL : (ns.take 63).length = L at len63
    refine ⟨.ref p, rfl, .inl ⟨p, _, rfl, .inl (SqL.of upd_same), ((ns.take 63).map V.int).length, rfl, by omega, by rw [List.length_map, hL]; omega, ?_⟩⟩
    rw [List.length_map, hL, Int.toNat_natCast]
    refine ⟨fun i m σ' H' => ∃ (qs : List Int) (y : Option V), σ' = [some (.ref a), some (.ref p), y] ∧ H' = upd H p (.lst (qs.map V.int)) ∧ qs.length = L ∧ (∀ j, j < i → ∀ x, qs[j]? = some x → Wd x) ∧ i ≤ L ∧ m = L - i, ⟨L, ns.take 63, none, rfl, rfl, hL, fun j hj => absurd hj (Nat.not_lt_zero j), Nat.zero_le _, rfl⟩, ?_⟩
    rintro i m σ' H' ⟨qs, y, rfl, rfl, hl, hw', hi, rfl⟩
    by_cases hlt : i < L
    · refine .inr ⟨hlt, fun σ2 H2 => ∃ (qs : List Int) (y : Option V), σ2 = [some (.ref a), some (.ref p), y] ∧ H2 = upd H p (.lst (qs.map V.int)) ∧ qs.length = L ∧ (∀ j, j < i + 1 → ∀ x, qs[j]? = some x → Wd x), fun σ2 H2 z => ?_, fun v H2 yl => ?_⟩
      · obtain ⟨qs, y, rfl, rfl, h1, h2⟩ := z
        exact ⟨L - (i + 1), by omega, qs, y, rfl, rfl, h1, h2, hlt, rfl⟩
      · obtain ⟨rfl, rfl⟩ := yl
        obtain ⟨x, hx⟩ : ∃ x, qs[i]? = some x := ⟨qs[i], List.getElem?_eq_getElem (by omega)⟩
        have hxV : (qs.map V.int)[i]? = some (.int x) := by rw [List.getElem?_map, hx]; rfl
        have at_ : atI (qs.map V.int) (0 + (i : Nat)) = some (.int x) := by rw [Int.zero_add]; exact atI_nat hxV
        have rdC : SqL K (upd H p (.lst (qs.map V.int))) p (qs.map V.int) := SqL.of upd_same
        refine ⟨.ref p, rfl, .int (0 + (i : Nat)), rfl, .inl ⟨p, _, _, .int x, rfl, rfl, rdC, at_, x, rfl, 10, 18, rfl, rfl, ⟨by decide, by decide +kernel⟩, _, _, rfl, rfl, _, rfl, ite2 (fun h => ?_) fun h => ?_⟩⟩
        · refine ⟨.ref p, rfl, .int (0 + (i : Nat)), rfl, .inl ⟨p, _, _, .int x, rfl, rfl, rdC, at_, .inl ⟨x, rfl, 10, 60, rfl, rfl, ⟨by decide, by decide +kernel⟩, _, 20, rfl, rfl, ⟨by decide, by decide +kernel⟩, x, MX, rfl, rfl, mx_pos, .ref p, rfl, .int (0 + (i : Nat)), rfl, p, _, _, i, rfl, rfl, upd_same, ?_, ?_⟩⟩⟩
          · rw [Int.zero_add]
            unfold ixN
            rw [List.length_map, hl, if_pos (by omega), if_pos (by omega)]
            rfl
          · refine ⟨qs.set i (x % MX), _, rfl, ?_, by rw [List.length_set]; exact hl, fun j hj z hz => ?_⟩
            · rw [List.map_set]
              funext b
              by_cases e : b = p
              · rw [e, upd_same, upd_same]
              · rw [upd_ne e, upd_ne e, upd_ne e]
            · by_cases e : i = j
              · subst e
                rw [List.getElem?_set_self (by omega)] at hz
                cases hz
                exact wd_mx x
              · rw [List.getElem?_set_ne e] at hz
                exact hw' j (by omega) z hz
        · refine ⟨qs, _, rfl, rfl, hl, fun j hj z hz => ?_⟩
          by_cases e : j = i
          · subst e
            rw [hx] at hz
            cases hz
            exact wd_small (Int.not_le.mp fun z => h (decide_eq_true z))
          · exact hw' j (by omega) z hz
    · have e : i = L := by omega
      subst e
      refine .inl ⟨Nat.le_refl _, ?_⟩
      have wide : ∀ x ∈ qs, Wd x := fun x hx => by
        obtain ⟨j, hj⟩ := List.getElem?_of_mem hx
        have := (List.getElem?_eq_some_iff.mp hj).1
        exact hw' j (by omega) x hj
      refine ⟨.ref p, rfl, Nat.zero_le _, fun r hr => ?_⟩
      have rp : r ≠ p := fun z => by rw [z, upd_same] at hr; cases hr
      have r0 : H r = none := by rw [upd_ne rp] at hr; exact hr
      refine .inl ⟨.list (qs.map PyData.int), .list [], .lst (SqL.of (by rw [upd_ne (Ne.symm rp)]; exact upd_same)) (dp_ints qs), .lst (SqL.of upd_same) .nil, shaped_ints qs, rfl, _, rfl, ite2 (fun h => ?_) fun h => ?_⟩
      · refine ⟨by decide, fun c hc => ?_⟩
        have cr : c ≠ r := fun z => by rw [z, upd_same] at hc; cases hc
        have cp : c ≠ p := fun z => by rw [z, upd_ne (Ne.symm rp), upd_same] at hc; cases hc
        have c0 : H c = none := by rw [upd_ne cr, upd_ne cp] at hc; exact hc
        refine ⟨.ref c, rfl, by show 2 ≤ sizeLine; decide, fun s hs' => ?_⟩
        have sc : s ≠ c := fun z => by rw [z, upd_same] at hs'; cases hs'
        have sr : s ≠ r := fun z => by rw [z, upd_ne (Ne.symm cr), upd_same] at hs'; cases hs'
        have sp : s ≠ p := fun z => by rw [z, upd_ne (Ne.symm cp), upd_ne (Ne.symm rp), upd_same] at hs'; cases hs'
        have s0 : H s = none := by rw [upd_ne sc, upd_ne sr, upd_ne sp] at hs'; exact hs'
        refine q s c _ s0 c0 (fun b o e => ?_) ⟨sc, 0, [0], upd_same, by rw [upd_ne (Ne.symm sc)]; exact upd_same, by simp, by decide, fun x hx => ?_, Int.le_refl _, Int.le_refl _⟩
        · rw [upd_ne (ne_of_none e s0), upd_ne (ne_of_none e c0), upd_ne (ne_of_none e r0), upd_ne (ne_of_none e hp)]
          exact e
        · rw [List.mem_singleton.mp hx]
          exact wd_of (k := 1) (by decide) (by decide)
      · refine ⟨.ref p, rfl, by show 2 ≤ sizeLine; decide, fun s hs' => ?_⟩
        have sr : s ≠ r := fun z => by rw [z, upd_same] at hs'; cases hs'
        have sp : s ≠ p := fun z => by rw [z, upd_ne (Ne.symm rp), upd_same] at hs'; cases hs'
        have s0 : H s = none := by rw [upd_ne sr, upd_ne sp] at hs'; exact hs'
        refine q s p _ s0 hp (fun b o e => ?_) ⟨sp, 0, qs, upd_same, by rw [upd_ne (Ne.symm sp), upd_ne (Ne.symm rp)]; exact upd_same, fun z => ?_, by omega, wide, Int.le_refl _, Int.le_refl _⟩
        · rw [upd_ne (ne_of_none e s0), upd_ne (ne_of_none e r0), upd_ne (ne_of_none e hp)]
          exact e
        · rw [z] at h
          exact absurd h (by decide)
end

end K02
/-! text PlSd -/
set_option Elab.async false
set_option linter.all false
set_option maxRecDepth 100000
set_option maxHeartbeats 4000000
/-! PlSd: f()["key"] = v, where f() is a new dict that nothing else holds. -/
namespace Pl
open PySem PySem.Spec PyProof.Rows L2
theorem s_putNew {K : PySem.W.Frag} {s c : Addr} {ρ : List Sl} {n n1 n2 : Nat} {tv te : TE} {t : Str} {i : Int} {ps : List (Str × Int)} {D : Pn} (hv : EvE K s c tv ρ n n1 (fun d => d = .int i)) (h : EvDk K s c te ρ n1 n2 (fun x => x = ps)) (few : ps.length ≤ 1000) (k : D.nx ρ n2) : EvS K s c (tAsg tv (gSub te (tC (.str t)) rSetD)) ρ n D := fun M0 H0 O σ H Dn I G =>
  hv M0 H0 O σ H _ I fun v H1 d g1 s1 r1 e1 => by
    subst e1
    have r1 : v = .int i := r1
    subst r1
    refine h M0 H0 O σ H1 _ (I.next g1 s1) fun p H2 qs hp g2 s2 ep eq => ?_
    subst eq
    have J := I.next g1 s1
    have out := J.new_out hp
    have ne : ∀ x ∈ [s, c], p ≠ x := fun x hx z => out (J.sub _ (by rw [z]; exact hx))
    refine ⟨p, _, rfl, DPut.k (k := .inr t) (v := .int i) ep (small1000 (by rw [List.length_map]; exact few)), ?_⟩
    exact G.nx O ρ n2 σ _ (J.next (g2.put hp) (s2.put (ne s List.mem_cons_self) (ne c (List.mem_cons_of_mem _ List.mem_cons_self)))) k
end Pl
/-! text K02z -/
set_option Elab.async false
set_option linter.all false
set_option maxRecDepth 100000
set_option maxHeartbeats 4000000
set_option exponentiation.threshold 5000
namespace K02
open PySem PySem.Spec PyProof.Rows L2 Pl PlS
theorem slt_ne {a b : Str} (h : SLt a b) : a ≠ b := fun e => by
  rw [e] at h
  exact absurd h (slt_irrefl b)
theorem nodup_fst : ∀ {ps : List (Str × Nat)} {a : Str} {m n : Nat}, (ps.map (·.1)).Nodup → (a, m) ∈ ps → (a, n) ∈ ps → m = n
  | [], _, _, _, _, h, _ => by cases h
  | p :: ps, a, m, n, nd, h1, h2 => by
    rw [List.map_cons, List.nodup_cons] at nd
    rcases List.mem_cons.mp h1 with e1 | h1
    · rcases List.mem_cons.mp h2 with e2 | h2
      · rw [← e1] at e2
        exact (Prod.mk.inj e2).2.symm
      · exact absurd (List.mem_map.mpr ⟨_, h2, by rw [← e1]⟩) nd.1
    · rcases List.mem_cons.mp h2 with e2 | h2
      · exact absurd (List.mem_map.mpr ⟨_, h1, by rw [← e2]⟩) nd.1
      · exact nodup_fst nd.2 h1 h2
/-- a head and atoms as the law makes them -/
theorem parts_of {s c : Addr} {ps : List (Str × Nat)} {j k : Nat} {z : D} (shp : shapesOk ps) (h : postParts s c [.obj s, .lst (ps.map dShape), .int j, .int k] z) (hj : j ≤ 6) (hk : k ≤ 3) :
    ∃ (hd : List Str) (as : List (Str × List Str)), z = .tup [.tup (dStrs hd), .lst (as.map dAtom)] ∧ okV hd as := by
  obtain ⟨ps', most, width, e, as, hd, vs, rfl, ha, ane, al, hv, v5, hw, hh⟩ := h
  injection e with _ e
  injection e with q1 e
  injection e with q2 e
  injection e with q3 _
  injection q1 with q1
  injection q2 with q2
  injection q3 with q3
  have q1 := shape_inj q1
  subst q1
  have names : ∀ a ∈ as, ∀ v ∈ a.2, isName v := fun a h v hv' => hv v ((ha a h).2 v hv')
  refine ⟨hd, as, rfl, ⟨fun v h => ?_, by omega, List.length_pos_iff.mpr ane, by omega, fun a h => ?_⟩, fun a h1 b h2 e => ?_, fun v h => ?_, ?_⟩
  · obtain ⟨a, h1, h2⟩ := hh v h
    exact names a h1 v h2
  · obtain ⟨h2, h3, h4⟩ := atom_size shp ha h
    exact ⟨h2, h3, h4, names a h⟩
  · have m1 := (ha a h1).1
    have m2 := (ha b h2).1
    rw [← e] at m2
    exact nodup_fst shp.2 m1 m2
  · obtain ⟨a, h1, h2⟩ := hh v h
    exact List.mem_flatMap.mpr ⟨a, h1, h2⟩
  · refine Nat.le_trans (PySem.length_le_of_nodup_of_subset _ vs ((usort_asc _).imp slt_ne) fun v hv' => ?_) v5
    obtain ⟨a, h1, h2⟩ := List.mem_flatMap.mp ((usort_mem v _).mp hv')
    exact (ha a h1).2 v h2
theorem flat3 (l : List D) : (List.replicate (3 : Int).toNat l).flatten = l ++ (l ++ l) := by
  show l ++ (l ++ (l ++ [])) = l ++ (l ++ l)
  rw [List.append_nil]
theorem strs3 (M : List Str) : Pl.cutD ((List.replicate (3 : Int).toNat (dStrs M)).flatten) none (some 3) = dStrs ((M ++ (M ++ M)).take 3) := by
  have e := cut_pre (l := (List.replicate (3 : Int).toNat (dStrs M)).flatten) (k := 3)
  rw [show ((3 : Nat) : Int) = 3 from rfl] at e
  rw [e, flat3, strs_app, strs_app]
  unfold dStrs
  rw [List.map_take]
theorem okV_more {hd : List Str} {as : List (Str × List Str)} (ok : okV hd as) (l : as.length < 6) : okV hd (as ++ as.take 1) := by
  have mem : ∀ a, a ∈ as ++ as.take 1 ↔ a ∈ as := fun a => by
    rw [List.mem_append]
    exact ⟨fun h => h.elim id List.mem_of_mem_take, .inl⟩
  have fm : ∀ z : Str, z ∈ (as ++ as.take 1).flatMap (·.2) ↔ z ∈ as.flatMap (·.2) := fun z => by
    rw [List.mem_flatMap, List.mem_flatMap]
    exact ⟨fun ⟨a, ha, hz⟩ => ⟨a, (mem a).mp ha, hz⟩, fun ⟨a, ha, hz⟩ => ⟨a, (mem a).mpr ha, hz⟩⟩
  have e : usort ((as ++ as.take 1).flatMap (·.2)) = usort (as.flatMap (·.2)) := asc_uniq (usort_asc _) (usort_asc _) fun z => by rw [usort_mem, usort_mem, fm]
  have t1 : (as.take 1).length ≤ 1 := by rw [List.length_take]; omega
  refine ⟨⟨ok.1.1, ok.1.2.1, ?_, ?_, fun a ha => ok.1.2.2.2.2 a ((mem a).mp ha)⟩, fun a ha b hb => ok.2.1 a ((mem a).mp ha) b ((mem b).mp hb), fun z hz => (fm z).mpr (ok.2.2.1 z hz), by rw [e]; exact ok.2.2.2⟩
  · rw [List.length_append]
    have := ok.1.2.2.1
    omega
  · rw [List.length_append]
    omega
theorem okV_head {hd hd' : List Str} {as : List (Str × List Str)} (ok : okV hd as) (l : hd'.length ≤ 3) (h : ∀ v ∈ hd', v ∈ varsA as) : okV hd' as := by
  have h2 : ∀ v ∈ hd', v ∈ as.flatMap (·.2) := fun v hv => (usort_mem v _).mp (h v hv)
  refine ⟨⟨fun v hv => ?_, l, ok.1.2.2.1, ok.1.2.2.2.1, ok.1.2.2.2.2⟩, ok.2.1, h2, ok.2.2.2⟩
  obtain ⟨a, ha, hz⟩ := List.mem_flatMap.mp (h2 v hv)
  exact (ok.1.2.2.2.2 a ha).2.2.2 v hz
theorem eqQ_len {p q : List Str × List (Str × List Str)} (h : p.1.length ≠ q.1.length ∨ p.2.length ≠ q.2.length) : eqQ p q = false := by
  unfold eqQ
  rcases h with h | h
  · rw [decide_eq_false fun e => h (by rw [e]), Bool.false_and]
  · rw [decide_eq_false (p := sortA p.2 = sortA q.2) fun e => h (by rw [← (sortA_perm p.2).length_eq, ← (sortA_perm q.2).length_eq, e]), Bool.and_false]
theorem eqQ_perm {hd : List Str} {as bs : List (Str × List Str)} (p : as.Perm bs) : eqQ (hd, as) (hd, bs) = true := by
  unfold eqQ
  rw [decide_eq_true rfl, decide_eq_true (sortA_congr p)]
  rfl
section
variable {K : PySem.W.Frag} {s c CQ : Addr} {ρ : List Sl} {n n1 n2 : Nat} {te tf : TE}
/-- p == q -/
theorem ev_eqqQ {mg : Str → Option Value} {fq fs : Addr} {dq dstr : FuncData} {b : Bool} {p q : List Str × List (Str × List Str)} (Y : MTxt K mg CQ fq fs dq dstr) (h : EvE K s c te ρ n n1 (fun d => d = qI CQ p)) (h2 : EvE K s c tf ρ n1 n2 (fun d => d = qI CQ q)) (hn : n2 ≤ 2 ^ 40) (op : okQ p.1 p.2) (oq : okQ q.1 q.2) (e : eqQ p q = b) :
    EvE K s c (tOp (rEqI K CQ (Pr K (preEq CQ) 0 (postEq CQ))) te tf) ρ n n2 (fun d => d = .bl b) :=
  ev_eqI (ks := ksQ) (l := qL p.1 p.2) (y := qI CQ q) Y.ic h h2 hn (.inr ⟨_, _, rfl⟩) ⟨p, _, rfl, op, .inr ⟨q, rfl, oq⟩⟩ (post_eq e)
theorem post_no {p : List Str × List (Str × List Str)} {d : D} (hd : topD d = true) : ∀ z, postEq CQ s c [.ins CQ ksQ (qL p.1 p.2), d] z → z = .bl false := fun z h => by
  obtain ⟨p', o, e1, h⟩ := h
  injection e1 with e1 e2
  injection e2 with e2 _
  rcases h with ⟨_, rfl⟩ | ⟨q', eq, rfl⟩
  · rfl
  · rw [← e2] at eq
    rw [eq] at hd
    cases hd
/-- p == x, x no query -/
theorem ev_eqNo {mg : Str → Option Value} {fq fs : Addr} {dq dstr : FuncData} {p : List Str × List (Str × List Str)} {d : D} (Y : MTxt K mg CQ fq fs dq dstr) (h : EvE K s c te ρ n n1 (fun d => d = qI CQ p)) (h2 : EvE K s c tf ρ n1 n2 (fun x => x = d)) (hn : n2 ≤ 2 ^ 40) (op : okQ p.1 p.2) (hd : topD d = true) :
    EvE K s c (tOp (rEqI K CQ (Pr K (preEq CQ) 0 (postEq CQ))) te tf) ρ n n2 (fun d => d = .bl false) :=
  ev_eqI (ks := ksQ) (l := qL p.1 p.2) (y := d) Y.ic h h2 hn (.inl hd) ⟨p, _, rfl, op, .inl hd⟩ (post_no hd)
theorem ev_neNo {mg : Str → Option Value} {fq fs : Addr} {dq dstr : FuncData} {p : List Str × List (Str × List Str)} {d : D} (Y : MTxt K mg CQ fq fs dq dstr) (h : EvE K s c te ρ n n1 (fun d => d = qI CQ p)) (h2 : EvE K s c tf ρ n1 n2 (fun x => x = d)) (hn : n2 ≤ 2 ^ 40) (op : okQ p.1 p.2) (hd : topD d = true) :
    EvE K s c (tOp (rNeI K CQ (Pr K (preEq CQ) 0 (postEq CQ))) te tf) ρ n n2 (fun d => d = .bl (!false)) :=
  ev_neI (ks := ksQ) (l := qL p.1 p.2) (y := d) Y.ic h h2 hn (.inl hd) ⟨p, _, rfl, op, .inl hd⟩ (post_no hd)
end
theorem tame_dP {as : List (Str × List Str)} {a : Str × List Str} (h : isName a.1) : tame (dP a) = true ∧ dp (dP a) ≤ 2 := by
  refine ⟨tame_tupOf (fun d hd => ?_) (by exact (by decide : (2 : Nat) ≤ 1000)), Nat.le_trans (dp_seq (k := 0) fun d hd => ?_).2 (by decide)⟩
  · rcases List.mem_cons.mp hd with rfl | hd
    · exact (name_tame h).1
    · rw [List.mem_singleton.mp hd]
      rfl
  · rcases List.mem_cons.mp hd with rfl | hd
    · exact Nat.le_refl _
    · rw [List.mem_singleton.mp hd]
      exact Nat.le_refl _
theorem flat_atoms : ∀ as : List (Str × List Str), flatL (as.map dAtom) = true
  | [] => rfl
  | a :: as => by
    show (flat (dAtom a) && flatL (as.map dAtom)) = true
    rw [flat_atom, flat_atoms as]
    rfl
theorem flat_q (hd : List Str) (as : List (Str × List Str)) : flatL (qL hd as) = true := by
  show (flatL (dStrs hd) && (flatL ((sortA as).map dAtom) && (flatL (dStrs (usort (as.flatMap (·.2)))) && true))) = true
  rw [flat_strs, flat_atoms, flat_strs]
  rfl
def spLaw (K : PySem.W.Frag) : Sp := fun vs H Q _ => ∃ a, ∃ ns : List Int, vs = [.ref a] ∧ SqL K H a (ns.map V.int) ∧ ∀ H', Q (.bl true) H'
section
variable {P : Program} {w : World} {K : PySem.W.Frag} {mg : Str → Option Value} {base : Heap} {A : Adr} {CQ CIM CM fQ CE fE fi rh ra rv rp gh ga gv gp fq fs : Addr} {dQ dE dh da dv dpl di dq dstr : FuncData}
theorem runs_law (T : Txt A K mg) (U : QTxt K mg CQ fQ CE fE dQ dE) (V : PTxt K mg CQ rh ra rv rp gh ga gv gp dh da dv dpl) (W : ITxt K mg CQ CIM fi di) (S : STxt K mg CIM CM) (Y : MTxt K mg CQ fq fs dq dstr) (room : Room 13 callerA) : RunsAt P w K mg base callerA A.f_law A.fd_law ["script"] (spLaw K) := by
  have G_head := ok_q_head (P := P) (w := w) (base := base) T U V
  have G_atoms := ok_q_atoms (P := P) (w := w) (base := base) T U V
  have G_vars := ok_q_vars (P := P) (w := w) (base := base) T U V
  have G_places := ok_q_places (P := P) (w := w) (base := base) T U V
  have G__law_image_holds := ok__law_image_holds (P := P) (w := w) (base := base) T U V W S Y
  have G__law_shuffle := ok__law_shuffleN (P := P) (w := w) (base := base) T
  have G__law_parts := ok__law_parts (P := P) (w := w) (base := base) T
  have G__law_draw := ok__law_draw (P := P) (w := w) (base := base) T
  have G__law_shapes := ok__law_shapes (P := P) (w := w) (base := base) T
  have G__law_source := ok__law_source (P := P) (w := w) (base := base) T
  refine runs_at (k := 12) T.F_law sc_law room (fun vs H Q E h => ?_) (fun cdv st H vs Q hr h => have hw : _ := hr.units; have hs70 : _ := (by have := hr.un; omega : (callerA.deeper (envOfC "law" (defScope s_law) st.heap.objs.size A.f_law cdv)).units + 70 < cLine); ⟨_, (pss_cons (ps_set (i := 1) sc_law.nd rfl (by first | exact Or.inl rfl | exact Or.inr rfl) (pe_call G__law_source (hr.mono (by decide)) (by rfl) T.m__law_source T.F__law_source.kp T.b__law_source .nil pass0 (pa_cons (pv 0) pa_nil)))
      (pss_cons (ps_for PassesOwn.never rfl (pi_range1 rfl T.m_range (pa_cons pe_int pa_nil)) (pg_name (i := 2) sc_law.nd rfl (by first | exact Or.inl rfl | exact Or.inr rfl)) (pss_cons (ps_set (i := 3) sc_law.nd rfl (by first | exact Or.inl rfl | exact Or.inr rfl) (pe_call G__law_shapes (hr.mono (by decide)) (by rfl) T.m__law_shapes T.F__law_shapes.kp T.b__law_shapes .nil pass0 (pa_cons (pv 1) pa_nil)))
      (pss_cons (ps_asg (pe_call G__law_parts (hr.mono (by decide)) (by rfl) T.m__law_parts T.F__law_parts.kp T.b__law_parts .nil pass0 (pa_cons (pv 1) (pa_cons (pv 3) (pa_cons pe_int (pa_cons (pe_call G__law_draw (hr.mono (by decide)) (by rfl) T.m__law_draw T.F__law_draw.kp T.b__law_draw .nil pass0 (pa_cons (pv 1) (pa_cons pe_int pa_nil))) pa_nil))))) (k_pgtup K (n := 2) rfl (pgs_cons (pg_name (i := 4) sc_law.nd rfl (by first | exact Or.inl rfl | exact Or.inr rfl)) (pgs_cons (pg_name (i := 5) sc_law.nd rfl (by first | exact Or.inl rfl | exact Or.inr rfl)) pgs_nil))))
      (pss_cons (ps_set (i := 6) sc_law.nd rfl (by first | exact Or.inl rfl | exact Or.inr rfl) (pe_call G__law_shuffle (hr.mono (by decide)) (by rfl) T.m__law_shuffle T.F__law_shuffle.kp T.b__law_shuffle .nil pass0 (pa_cons (pv 1) (pa_cons (pv 5) pa_nil))))
      (pss_cons (ps_set (i := 7) sc_law.nd rfl (by first | exact Or.inl rfl | exact Or.inr rfl) (pe_make (E := fun _ _ _ => False) U.kQ (ok_q_init T U) (hr.mono (by decide)) (by rfl) U.gQ U.bQ .nil pass_no (pa_cons (pv 4) (pa_cons (pv 6) pa_nil))))
      (pss_cons (ps_expr (k_bm K PySem.F.plainAttrs_list PySem.F.slot_list_append PySem.F.type_list_append mt_append (pv 6) (pa_cons pe_non pa_nil)))
      (pss_cons (ps_set (i := 8) sc_law.nd rfl (by first | exact Or.inl rfl | exact Or.inr rfl) (pe_lst pa_nil))
      (pss_cons (ps_for PassesOwn.never rfl (k_pilist K (pv 5)) (k_pgtup K (n := 2) rfl (pgs_cons (pg_name (i := 9) sc_law.nd rfl (by first | exact Or.inl rfl | exact Or.inr rfl)) (pgs_cons (pg_name (i := 10) sc_law.nd rfl (by first | exact Or.inl rfl | exact Or.inr rfl)) pgs_nil))) (pss_one (ps_set (i := 8) sc_law.nd rfl (by first | exact Or.inl rfl | exact Or.inr rfl) (pe_callB (call_sortT rfl) (by rfl) T.m_sorted (by decide +kernel) (pa_cons (pe_callTy (call_make rfl K) (by rfl) T.m_set (by decide +kernel) (pa_cons (pe_op (k_add K) (pv 8) (pe_callTy (k_list K) (by rfl) T.m_list (by decide +kernel) (pa_cons (pv 10) pa_nil))) pa_nil)) pa_nil)))))
      (pss_cons (ps_asg pe_int (pg_sub (pe_prop (pv 7) U.cQ V.rp G_places (hr.mono (by decide)) V.bp .nil pass0 rfl) pe_str (set_dict (Nat.lt_of_le_of_lt (Nat.add_le_add_left (by decide) _) hw))))
      (pss_cons (ps_set (i := 11) sc_law.nd rfl (by first | exact Or.inl rfl | exact Or.inr rfl) (pe_callB (Ps.call_sortN rfl hs70 K) (by rfl) T.m_sorted (by decide +kernel) (pa_cons (pe_callTy (Ps.call_makeN rfl (Nat.lt_of_le_of_lt (Nat.add_le_add_left (by decide) _) hw) K) (by rfl) T.m_set (by decide +kernel) (pa_cons (pe_lc (own := [("table", 9), ("names", 10)]) rfl sc_law.nd (k_pilist K (pv 5)) (blkOk_by (N := ["script", "source", "repeat", "shapes", "first", "parts", "raw", "query", "met", "table", "names", "pairs", "other"]) (sc := defScope s_law) (by decide +kernel)) (fun _ _ _ _ _ => (k_pgtup K (n := 2) rfl (pgs_cons (pg_name (i := 9) sc_law.nd rfl (by first | exact Or.inl rfl | exact Or.inr rfl)) (pgs_cons (pg_name (i := 10) sc_law.nd rfl (by first | exact Or.inl rfl | exact Or.inr rfl)) pgs_nil)))) (fun _ _ _ _ _ => pts_nil) (fun _ _ _ _ _ => (pe_tup (pa_cons (pv 9) (pa_cons (pe_callB (k_len K) (by rfl) T.m_len (by decide +kernel) (pa_cons (pv 10) pa_nil)) pa_nil))))) pa_nil)) pa_nil)))
      (pss_cons (ps_if (PW.pt (pw_or (pt_cmpR (k_neA hw) (pe_prop (pv 7) U.cQ V.rh G_head (hr.mono (by decide)) V.bh .nil pass0 rfl) (pv 4) (nomark _)) (pw_or (pt_cmpR (k_neA hw) (pe_prop (pv 7) U.cQ V.ra G_atoms (hr.mono (by decide)) V.ba .nil pass0 rfl) (pe_callTy (k_tuple K) (by rfl) T.m_tuple (by decide +kernel) (pa_cons (pe_callB (k_sortD (K := K) hs70) (by rfl) T.m_sorted (by decide +kernel) (pa_cons (pv 5) pa_nil)) pa_nil)) (nomark _)) (pw_or1 (pt_cmpR (k_neA hw) (pe_prop (pv 7) U.cQ V.rv G_vars (hr.mono (by decide)) V.bv .nil pass0 rfl) (pe_callTy (k_tuple K) (by rfl) T.m_tuple (by decide +kernel) (pa_cons (pv 8) pa_nil)) (nomark _)))))) (pss_one (ps_ret pe_bl)) pss_nil)
      (pss_cons (ps_if (PW.pt (pw_or (pt_cmpR (k_neA hw) (LiI.pe_listItems rfl (pe_prop (pv 7) U.cQ V.rp G_places (hr.mono (by decide)) V.bp .nil pass0 rfl) (by rfl) T.m_list (by decide +kernel)) (pv 11) (nomark _)) (pw_or1 (pt_not (pt_val (pe_call G__law_image_holds (hr.mono (by decide)) (by rfl) T.m__law_image_holds T.F__law_image_holds.kp T.b__law_image_holds .nil pass0 (pa_cons (pv 1) (pa_cons (pv 7) (pa_cons (pv 4) (pa_cons (pv 5) (pa_cons (pv 8) pa_nil))))))))))) (pss_one (ps_ret pe_bl)) pss_nil)
      (pss_cons (ps_if (PW.pt (pw_or (pt_cmpR (op_neI (ok_q_eq T U Y) (hr.mono (by decide)) Y.aq Y.nq Y.ic.hm Y.iq Y.bq) (pv 7) (pe_make (E := fun _ _ _ => False) U.kQ (ok_q_init T U) (hr.mono (by decide)) (by rfl) U.gQ U.bQ .nil pass_no (pa_cons (pv 4) (pa_cons (pe_callTy (k_tuple K) (by rfl) T.m_tuple (by decide +kernel) (pa_cons (k_revL (K := K) (pv 5)) pa_nil)) pa_nil))) (nomark _)) (pw_or1 (PW.pt (pw_and (pt_cmpR op_lt (pe_callB (k_len K) (by rfl) T.m_len (by decide +kernel) (pa_cons (pv 5) pa_nil)) pe_int (nomark _)) (pw_and1 (pt_cmpR (op_eqI (ok_q_eq T U Y) (hr.mono (by decide)) Y.aq Y.iq Y.bq) (pv 7) (pe_make (E := fun _ _ _ => False) U.kQ (ok_q_init T U) (hr.mono (by decide)) (by rfl) U.gQ U.bQ .nil pass_no (pa_cons (pv 4) (pa_cons (pe_op (k_add K) (pv 5) (pe_slice (k_sl K) (pv 5) po_none (po_some pe_int))) pa_nil))) (nomark _)))))))) (pss_one (ps_ret pe_bl)) pss_nil)
      (pss_cons (ps_if (PW.pt (pw_and (pt_cmpR (k_neA hw) (pv 4) (pe_tup pa_nil) (nomark _)) (pw_and1 (pt_cmpR (op_eqI (ok_q_eq T U Y) (hr.mono (by decide)) Y.aq Y.iq Y.bq) (pv 7) (pe_make (E := fun _ _ _ => False) U.kQ (ok_q_init T U) (hr.mono (by decide)) (by rfl) U.gQ U.bQ .nil pass_no (pa_cons (pe_slice (k_sl K) (pv 4) (po_some pe_int) po_none) (pa_cons (pv 5) pa_nil))) (nomark _))))) (pss_one (ps_ret pe_bl)) pss_nil)
      (pss_cons (ps_if (PW.pt (pw_and (pt_cmpR op_lt (pe_callB (k_len K) (by rfl) T.m_len (by decide +kernel) (pa_cons (pv 4) pa_nil)) pe_int (nomark _)) (pw_and1 (pt_cmpR (op_eqI (ok_q_eq T U Y) (hr.mono (by decide)) Y.aq Y.iq Y.bq) (pv 7) (pe_make (E := fun _ _ _ => False) U.kQ (ok_q_init T U) (hr.mono (by decide)) (by rfl) U.gQ U.bQ .nil pass_no (pa_cons (pe_callTy (k_tuple K) (by rfl) T.m_tuple (by decide +kernel) (pa_cons (pe_slice (k_sl K) (pe_op (k_mulB (K := K)) (pv 8) pe_int) po_none (po_some pe_int)) pa_nil)) (pa_cons (pv 5) pa_nil))) (nomark _))))) (pss_one (ps_ret pe_bl)) pss_nil)
      (pss_one (ps_for PassesOwn.never rfl (k_pilist K (pe_lst (pa_cons pe_non (pa_cons pe_int (pa_cons (pe_callTy (call_strI (ok_q_str T U Y) (hr.mono (by decide)) Y.as_ Y.is_ Y.bs) (by rfl) T.m_str (by decide +kernel) (pa_cons (pv 7) pa_nil)) (pa_cons (pe_tup (pa_cons (pe_prop (pv 7) U.cQ V.rh G_head (hr.mono (by decide)) V.bh .nil pass0 rfl) (pa_cons (pe_prop (pv 7) U.cQ V.ra G_atoms (hr.mono (by decide)) V.ba .nil pass0 rfl) pa_nil))) (pa_cons (pe_lst (pa_cons (pv 7) pa_nil)) pa_nil))))))) (pg_name (i := 12) sc_law.nd rfl (by first | exact Or.inl rfl | exact Or.inr rfl)) (pss_one (ps_if (PW.pt (pw_or (pt_cmpR (op_eqI (ok_q_eq T U Y) (hr.mono (by decide)) Y.aq Y.iq Y.bq) (pv 7) (pv 12) (nomark _)) (pw_or1 (pt_not (pt_cmpR (op_neI (ok_q_eq T U Y) (hr.mono (by decide)) Y.aq Y.nq Y.ic.hm Y.iq Y.bq) (pv 7) (pv 12) (nomark _)))))) (pss_one (ps_ret pe_bl)) pss_nil)))))))))))))))))))
      (pss_one (ps_ret pe_bl)))), ?_⟩)
  · obtain ⟨a, ns, rfl, _⟩ := h
    rfl
  · obtain ⟨a, ns, rfl, hS, q⟩ := h
    refine ⟨.ref a, rfl, a, ns, rfl, hS, fun s c H' hs hc keep src => ?_⟩
    have I0 : Ok K s c [s, c] H' [] [.va (.obj a), .no, .no, .no, .no, .no, .no, .no, .no, .no, .no, .no, .no] 0 (L2.start ["script", "source", "repeat", "shapes", "first", "parts", "raw", "query", "met", "table", "names", "pairs", "other"] [.ref a]) H' := ⟨⟨by simp, by simp⟩, fun b hb => by
      rcases List.mem_cons.mp hb with e | hb
      · exact .inl e
      · exact .inr (.inl (List.mem_singleton.mp hb)), src, Gr.refl _ _, fun o ho => by simp at ho, List.nodup_nil, ⟨rfl, trivial⟩⟩
    refine eg_name (K := K) (s := s) (c := c) (j := 1) (d := .obj s) rfl [s, c] H' [] 0 _ H' (.ref s) _ I0 rfl fun σ2 I _ => ?_
    dsimp only
    refine (?_ : EvS K s c _ [.va (.obj a), .va (.obj s), .no, .no, .no, .no, .no, .no, .no, .no, .no, .no, .no] 0 ⟨fun _ _ => False, fun d _ => d = .bl true, fun _ _ => False, fun _ _ => False⟩) [s, c] H' [] σ2 H' _ I ⟨fun _ _ _ _ _ _ z => z.elim, fun v H2 d n' _ _ r e => ?_, fun _ _ _ _ _ _ z => z.elim, fun _ _ _ _ _ _ z => z.elim⟩
    · refine s_seq (N := fun ρ' m => True) ?_ fun ρ1 n1 _ => s_ret ev_bl fun d e => e
      refine s_for (ei_rng1 (PL := fun ds => ds = dInts 0 8) (ea_one ev_int) fun l e => ⟨8, e, by decide, by decide, rfl⟩)
        (fun ds i ρ' m => m ≤ 1000 * i ∧ ∃ y2 y3 y4 y5 y6 y7 y8 y9 y10 y11 y12, ρ' = [.va (.obj a), .va (.obj s), y2, y3, y4, y5, y6, y7, y8, y9, y10, y11, y12] ∧ isOw (some y2) = false ∧ isOw (some y3) = false ∧ isOw (some y4) = false ∧ isOw (some y5) = false ∧ isOw (some y6) = false ∧ isOw (some y7) = false ∧ isOw (some y8) = false ∧ isOw (some y9) = false ∧ isOw (some y10) = false ∧ isOw (some y11) = false ∧ isOw (some y12) = false)
        (fun ds e => ⟨Nat.zero_le _, .no, .no, .no, .no, .no, .no, .no, .no, .no, .no, .no, rfl, rfl, rfl, rfl, rfl, rfl, rfl, rfl, rfl, rfl, rfl, rfl⟩) (fun ds e i d ρ' m hi inv => ?_) fun ds e ρ' m inv => trivial
      obtain ⟨hm, y2, y3, y4, y5, y6, y7, y8, y9, y10, y11, y12, rfl, o2, o3, o4, o5, o6, o7, o8, o9, o10, o11, o12⟩ := inv
      rw [e] at hi
      obtain ⟨il, rfl⟩ := ints_at' hi
      refine ⟨_, _, eg_name (j := 2) o2, ?_⟩
      -- shapes
      refine s_seq (N := fun ρ' u => u = m + 121 ∧ ∃ ps : List (Str × Nat), ρ' = [.va (.obj a), .va (.obj s), .va (.int (0 + (i : Nat))), .va (.lst (ps.map dShape)), y4, y5, y6, y7, y8, y9, y10, y11, y12] ∧ shapesOk ps ∧ ps ≠ [] ∧ ps.length ≤ 3)
        (s_set (P := fun d => ∃ l, l = [.obj s] ∧ postShapes s c l d) (ev_def (n1 := m) (k := 121) (pre := preShapes) (post := postShapes) (A := fun l => l = [.obj s]) (ea_one (ev_var rfl)) (by omega) fun x e => e) o3 fun d h => ?_) fun ρ1 n1 h1 => ?_
      · obtain ⟨_, _, ps, rfl, shp⟩ := h
        exact ⟨rfl, ps, rfl, shp⟩
      obtain ⟨rfl, ps, rfl, shp, pne, p3⟩ := h1
      -- first, parts
      refine s_seq (N := fun ρ' u => u = m + 346 ∧ ∃ hd as, ρ' = [.va (.obj a), .va (.obj s), .va (.int (0 + (i : Nat))), .va (.lst (ps.map dShape)), .va (.tup (dStrs hd)), .va (.lst (as.map dAtom)), y6, y7, y8, y9, y10, y11, y12] ∧ okV hd as)
        (s_asg (P := fun d => ∃ l, (∃ k : Nat, l = [.obj s, .lst (ps.map dShape), .int 6, .int k] ∧ k ≤ 3) ∧ postParts s c l d) (ev_def (n1 := m + 122) (k := 224) (pre := preParts) (post := postParts) (A := fun l => ∃ k : Nat, l = [.obj s, .lst (ps.map dShape), .int 6, .int k] ∧ k ≤ 3) (EvA.imp (ea_cons (ev_var rfl) (ea_cons (ev_var rfl) (ea_cons ev_int (ea_cons (ev_draw (ev_var rfl) ev_int (by omega) (by decide) (by decide)) ea_nil)))) fun l h => ?_) (by omega) fun l h => ?_) fun d h => ?_) fun ρ1 n1 h1 => ?_
      · obtain ⟨_, _, rfl, rfl, _, _, rfl, rfl, _, _, rfl, rfl, _, _, rfl, ⟨k, rfl, k0, k1⟩, rfl⟩ := h
        exact ⟨k.toNat, by rw [Int.toNat_of_nonneg k0], by omega⟩
      · obtain ⟨k, rfl, hk⟩ := h
        exact ⟨ps, 6, k, rfl, shp, pne, p3, by decide, by decide, hk⟩
      · obtain ⟨_, ⟨k, rfl, hk⟩, h⟩ := h
        obtain ⟨hd, as, rfl, h1⟩ := parts_of (j := 6) shp h (by decide) (by omega)
        exact ⟨_, _, eg_tup (egs_cons (eg_name (j := 4) o4) (egs_cons (eg_name (j := 5) o5) egs_nil)) rfl, rfl, hd, as, rfl, h1⟩
      obtain ⟨rfl, hd, as, rfl, ok⟩ := h1
      have bnd : m + 1000 ≤ 2 ^ 40 := by omega
      have h3 := ok.1.2.1
      have a1 := ok.1.2.2.1
      have a6 := ok.1.2.2.2.1
      -- raw
      refine s_seq (N := fun ρ' u => u = m + 406 ∧ ∃ bs : List (Str × List Str), bs.Perm as ∧ ρ' = [.va (.obj a), .va (.obj s), .va (.int (0 + (i : Nat))), .va (.lst (ps.map dShape)), .va (.tup (dStrs hd)), .va (.lst (as.map dAtom)), .ow (bs.map dAtom), y7, y8, y9, y10, y11, y12])
        (s_own (en_defN (k := 60) (ea_c (ev_var rfl) (ea_one (ev_var rfl))) (by omega) fun l e => ⟨as.map dAtom, e, by rw [List.length_map]; omega⟩) o6 (by exact (by decide : (6 : Nat) < 13)) fun l h => ?_) fun ρ1 n1 h1 => ?_
      · obtain ⟨_, rfl, l', e, pm⟩ := h
        injection e with _ e
        injection e with e _
        injection e with e
        subst e
        obtain ⟨bs, pb, rfl⟩ := perm_map dAtom pm as rfl
        exact ⟨rfl, bs, pb, rfl⟩
      obtain ⟨rfl, bs, pb, rfl⟩ := h1
      have okb := okV_perm ok pb
      -- query
      refine s_seq (N := fun ρ' u => u = m + 406 ∧ ρ' = [.va (.obj a), .va (.obj s), .va (.int (0 + (i : Nat))), .va (.lst (ps.map dShape)), .va (.tup (dStrs hd)), .va (.lst (as.map dAtom)), .ow (bs.map dAtom), .va (qI CQ (hd, as)), y8, y9, y10, y11, y12])
        (s_set (ev_thawI (i := 6) (l := bs.map dAtom) rfl (ev_queryV (hd := hd) (as := bs) (ea_c (ev_var rfl) (ea_one (ev_var rfl))) (.inl rfl) (by omega) okb) (fun d e => ⟨CQ, ksQ, qL hd bs, by rw [e]; rfl, flat_q hd bs⟩) (by exact (by decide : (6 : Nat) < 13))) o7 fun d e => ⟨rfl, by rw [e, qI_perm pb]; rfl⟩) fun ρ1 n1 h1 => ?_
      obtain ⟨rfl, rfl⟩ := h1
      -- raw.append(None)
      refine s_seq (N := fun ρ' u => u = m + 406 ∧ ρ' = [.va (.obj a), .va (.obj s), .va (.int (0 + (i : Nat))), .va (.lst (ps.map dShape)), .va (.tup (dStrs hd)), .va (.lst (as.map dAtom)), .ow (bs.map dAtom ++ [.non]), .va (qI CQ (hd, as)), y8, y9, y10, y11, y12])
        (s_append (i := 6) (l := bs.map dAtom) rfl ev_non (by rw [List.length_map, pb.length_eq]; omega) fun d e => ⟨rfl, by rw [e]; rfl⟩) fun ρ1 n1 h1 => ?_
      obtain ⟨rfl, rfl⟩ := h1
      refine s_freeze (i := 6) (l := bs.map dAtom ++ [.non]) rfl ?_
      refine (?_ : EvS K s c _ [.va (.obj a), .va (.obj s), .va (.int (0 + (i : Nat))), .va (.lst (ps.map dShape)), .va (.tup (dStrs hd)), .va (.lst (as.map dAtom)), .va (.lst (bs.map dAtom ++ [.non])), .va (qI CQ (hd, as)), y8, y9, y10, y11, y12] _ _)
      generalize bs.map dAtom ++ [.non] = rw_
      -- met
      refine s_seq (N := fun ρ' u => u = m + 406 ∧ ρ' = [.va (.obj a), .va (.obj s), .va (.int (0 + (i : Nat))), .va (.lst (ps.map dShape)), .va (.tup (dStrs hd)), .va (.lst (as.map dAtom)), .va (.lst rw_), .va (qI CQ (hd, as)), .va (.lst (dStrs [])), y9, y10, y11, y12])
        (s_set (ev_lstE (l := []) ea_nil (Nat.zero_le _)) o8 fun d e => ⟨rfl, by rw [e]; rfl⟩) fun ρ1 n1 h1 => ?_
      obtain ⟨rfl, rfl⟩ := h1
      refine s_seq (N := fun ρ' u => u = m + 406 ∧ ∃ y9 y10, isOw (some y9) = false ∧ isOw (some y10) = false ∧ ρ' = [.va (.obj a), .va (.obj s), .va (.int (0 + (i : Nat))), .va (.lst (ps.map dShape)), .va (.tup (dStrs hd)), .va (.lst (as.map dAtom)), .va (.lst rw_), .va (qI CQ (hd, as)), .va (.lst (dStrs (varsA as))), y9, y10, y11, y12])
        (s_for (ei_list (PL := fun ds => ds = as.map dAtom) (ev_var rfl) fun d e => ⟨_, e, rfl⟩)
          (fun ds j ρ' u => u = m + 406 ∧ ∃ ms y9 y10, isOw (some y9) = false ∧ isOw (some y10) = false ∧ ms = usort ((as.take j).flatMap (·.2)) ∧ ms.length ≤ 3 * j ∧ ρ' = [.va (.obj a), .va (.obj s), .va (.int (0 + (i : Nat))), .va (.lst (ps.map dShape)), .va (.tup (dStrs hd)), .va (.lst (as.map dAtom)), .va (.lst rw_), .va (qI CQ (hd, as)), .va (.lst (dStrs ms)), y9, y10, y11, y12])
          (fun ds e => ⟨rfl, [], y9, y10, o9, o10, rfl, Nat.zero_le _, rfl⟩) (fun ds e j d ρ' u hj inv => ?_) fun ds e ρ' u inv => ?_) fun ρ1 n1 h1 => ?_
      · obtain ⟨rfl, ms, y9, y10, o9, o10, em, lm, rfl⟩ := inv
        rw [e] at hj
        have jl := (List.getElem?_eq_some_iff.mp hj).1
        rw [List.length_map] at jl
        rw [List.getElem?_map] at hj
        cases z : as[j]? with
        | none => rw [z] at hj; cases hj
        | some b =>
          rw [z] at hj
          cases hj
          have hb := ok.1.2.2.2.2 b (List.mem_of_getElem? z)
          have b3 := hb.2.2.1
          refine ⟨_, _, eg_tup (egs_cons (eg_name (j := 9) o9) (egs_cons (eg_name (j := 10) o10) egs_nil)) rfl, ?_⟩
          refine s_set (P := fun d => d = .lst (dStrs (usort (ms ++ b.2)))) (ev_sortset (ys := ms ++ b.2) (ev_is (ev_opK (ev_var rfl) (ev_callK (ea_one (ev_var rfl)) (ck_list rfl)) (rk_addL (by rw [strs_len, strs_len]; omega))) (by rw [strs_app])) (by rw [List.length_append]; omega)) rfl fun d e => ?_
          have ul := usort_len (ms ++ b.2)
          rw [List.length_append] at ul
          refine ⟨rfl, usort (ms ++ b.2), .va (.str b.1), .va (.tup (dStrs b.2)), rfl, rfl, ?_, by omega, by rw [e]; rfl⟩
          rw [em, usort_app, List.take_add_one, z, List.flatMap_append]
          congr 2
          show b.2 = b.2 ++ []
          rw [List.append_nil]
      · obtain ⟨rfl, ms, y9, y10, o9, o10, em, lm, rfl⟩ := inv
        rw [e, List.length_map, List.take_length] at em
        exact ⟨rfl, y9, y10, o9, o10, by rw [em]; rfl⟩
      obtain ⟨rfl, y9, y10, o9, o10, rfl⟩ := h1
      have plen : (plA (sortA as)).length ≤ 6 := by
        have fl := fill_len (fun d => (unD d).1) (fun d => ((unD d).2.length : Int)) ((sortA as).map dAtom) []
        rw [List.length_map, (sortA_perm as).length_eq] at fl
        have e : (plA (sortA as)).length = (((sortA as).map dAtom).foldl (fun ps d => putS ps (unD d).1 ((unD d).2.length : Int)) []).length := rfl
        have e2 : ([] : List (Str × Int)).length = 0 := rfl
        omega
      have edP : ∀ {te : TE} {ρ : List Sl} {n1 n2 : Nat}, EvE K s c te ρ n1 n2 (fun d => d = qI CQ (hd, as)) → n2 ≤ 2 ^ 40 → EvDk K s c (tProp CQ (PrDk K (preGo CQ) (valPl CQ)) [] E0 te) ρ n1 n2 (fun x => x = plA (sortA as)) := fun h hn => ed_prop (ks := ksQ) (l := qL hd as) h hn ⟨(hd, as), rfl, ok.1⟩ fun qs hq => by
        obtain ⟨p, e, rfl⟩ := hq
        rw [(qI_inj (p := (hd, as)) (List.cons.inj e).1).2]
      -- query.places['zz'] = 9
      refine s_seq (N := fun ρ' u => u = m + 406 ∧ ρ' = [.va (.obj a), .va (.obj s), .va (.int (0 + (i : Nat))), .va (.lst (ps.map dShape)), .va (.tup (dStrs hd)), .va (.lst (as.map dAtom)), .va (.lst rw_), .va (qI CQ (hd, as)), .va (.lst (dStrs (varsA as))), y9, y10, y11, y12])
        (s_putNew ev_int (edP (ev_var rfl) (by omega)) (by omega) ⟨rfl, rfl⟩) fun ρ1 n1 h1 => ?_
      obtain ⟨rfl, rfl⟩ := h1
      -- pairs
      refine s_seq (N := fun ρ' u => u = m + 406 ∧ SetOf (as.map dP) ((plA (sortA as)).map pD) ∧ ρ' = [.va (.obj a), .va (.obj s), .va (.int (0 + (i : Nat))), .va (.lst (ps.map dShape)), .va (.tup (dStrs hd)), .va (.lst (as.map dAtom)), .va (.lst rw_), .va (qI CQ (hd, as)), .va (.lst (dStrs (varsA as))), y9, y10, .va (.lst ((plA (sortA as)).map pD)), y12])
        (s_set (ev_sortsetN (l := as.map dP) (EvE.imp (EvN.evK (en_mapK (L := as.map dAtom) (fun d => dP (unD d)) (ei_list (ev_var rfl) fun d e => ⟨_, e, rfl⟩) (by show (!isOw (some y9) && (!isOw (some y10) && true)) = true; rw [o9, o10]; rfl) (by rw [List.length_map]; omega) fun i d hi => ?_)) fun d e => ?_) ?_ (fun d hd' => ?_) (fun x hx y hy => ?_) (.inl fun x hx => ?_) (by rw [List.length_map]; omega)) o11 fun d h => ?_) fun ρ1 n1 h1 => ?_
      · rw [List.getElem?_map] at hi
        cases z : as[i]? with
        | none => rw [z] at hi; cases hi
        | some b =>
          rw [z] at hi
          cases hi
          refine ⟨_, _, eg_tup (egs_cons (eg_name (j := 9) rfl) (egs_cons (eg_name (j := 10) rfl) egs_nil)) rfl, fun j hj => hj, ?_⟩
          rw [unD_of]
          exact ev_tupE (ea_c (ev_var rfl) (ea_one (ev_is (ev_callK (ea_one (ev_var rfl)) (ck_len rfl)) (by rw [strs_len])))) (by exact (by decide : (2 : Nat) ≤ 1000))
      · rw [e, List.map_map]
        congr 1
        refine List.map_congr_left fun a ha => ?_
        show dP (unD (dAtom a)) = dP a
        rw [unD_of]
      · exact plainL_of fun d hd' => by
          obtain ⟨a, ha, rfl⟩ := List.mem_map.mp hd'
          exact rfl
      · obtain ⟨a, ha, rfl⟩ := List.mem_map.mp hd'
        exact ⟨⟨_, rfl⟩, rfl, by exact (by decide : (1 : Nat) ≤ 8)⟩
      · obtain ⟨x', hx', rfl⟩ := List.mem_map.mp hx
        obtain ⟨a, _, rfl⟩ := List.mem_map.mp hx'
        obtain ⟨y', hy', rfl⟩ := List.mem_map.mp hy
        obtain ⟨b, _, rfl⟩ := List.mem_map.mp hy'
        rfl
      · obtain ⟨x', hx', rfl⟩ := List.mem_map.mp hx
        obtain ⟨a, _, rfl⟩ := List.mem_map.mp hx'
        exact ⟨_, _, rfl⟩
      · obtain ⟨es, rfl, so⟩ := h
        have e := pairs_eq ok.2.1 so
        subst e
        exact ⟨rfl, so, rfl⟩
      obtain ⟨rfl, so, rfl⟩ := h1
      have same : ∀ {x : D}, tame x = true → dp x ≤ 61 → RK K s c (rNeA K) x x (.bl false) := fun {x} t l => by
        have := rk_neD (K := K) (s := s) (c := c) (plain_of t) (plain_of t) (shaped_of t (by omega)) (shaped_of t (by omega))
        rw [SeqAt.eqv_refl _ (SeqAt.canLay_of_shaped (shaped_of t (by omega)))] at this
        exact this
      have oks := okV_perm ok (sortA_perm as)
      have nmV : ∀ v ∈ varsA as, isName v := fun v hv => by
        obtain ⟨a, ha, h⟩ := in_vars.mp hv
        exact (ok.1.2.2.2.2 a ha).2.2.2 v h
      have m5 : (varsA as).length ≤ 5 := ok.2.2.2
      have m1 : 1 ≤ (varsA as).length := by
        obtain ⟨a, ha⟩ := List.exists_mem_of_length_pos (l := as) ok.1.2.2.1
        obtain ⟨v, hv⟩ := List.exists_mem_of_length_pos (l := a.2) (ok.1.2.2.2.2 a ha).2.1
        exact List.length_pos_of_mem (in_vars.mpr ⟨a, ha, hv⟩)
      have tH := tame_names ok.1.1 (by omega)
      have tV := tame_names nmV (by omega)
      have tA := (tame_atoms oks.1.2.2.2.2 (by have := oks.1.2.2.2.1; omega)).1
      -- head, atoms, variables
      refine s_seq (N := fun ρ' u => u = m + 406 ∧ ρ' = [.va (.obj a), .va (.obj s), .va (.int (0 + (i : Nat))), .va (.lst (ps.map dShape)), .va (.tup (dStrs hd)), .va (.lst (as.map dAtom)), .va (.lst rw_), .va (qI CQ (hd, as)), .va (.lst (dStrs (varsA as))), y9, y10, .va (.lst ((plA (sortA as)).map pD)), y12])
        (s_ifK (b := false || (false || false)) (et_orK (et_K (ev_opK (ev_qHead (q := (hd, as)) (ev_var rfl) (by omega)) (ev_var rfl) (same tH.1 (Nat.le_trans tH.2 (by decide))))) fun _ => et_orK (et_K (ev_opK (ev_qAtoms (q := (hd, as)) (ev_var rfl) (by omega)) (ev_callK (ea_one (ev_callK (ea_one (ev_var rfl)) (ck_sortA ok.1.2.2.2.2))) (ck_tuple rfl)) (same tA.1 tA.2))) fun _ => et_K (ev_opK (ev_qVars (q := (hd, as)) (ev_var rfl) (by omega)) (ev_callK (ea_one (ev_var rfl)) (ck_tuple rfl)) (same tV.1 (Nat.le_trans tV.2 (by decide))))) (fun e => by cases e) fun _ => s_next ⟨rfl, rfl⟩) fun ρ1 n1 h1 => ?_
      obtain ⟨rfl, rfl⟩ := h1
      have tP : tame (.lst ((plA (sortA as)).map pD)) = true ∧ dp (.lst ((plA (sortA as)).map pD)) ≤ 61 := by
        have one : ∀ d ∈ (plA (sortA as)).map pD, tame d = true ∧ dp d ≤ 2 := fun d hd' => by
          obtain ⟨a, ha, rfl⟩ := List.mem_map.mp ((so.2.1 d).mp hd')
          exact tame_dP (as := as) (ok.1.2.2.2.2 a ha).1
        exact ⟨tame_lstOf (fun d hd' => (one d hd').1) (by rw [List.length_map]; omega), Nat.le_trans (dp_seq (k := 2) fun d hd' => (one d hd').2).1 (by decide)⟩
      -- places, image
      refine s_seq (N := fun ρ' u => u = m + 506 ∧ ρ' = [.va (.obj a), .va (.obj s), .va (.int (0 + (i : Nat))), .va (.lst (ps.map dShape)), .va (.tup (dStrs hd)), .va (.lst (as.map dAtom)), .va (.lst rw_), .va (qI CQ (hd, as)), .va (.lst (dStrs (varsA as))), y9, y10, .va (.lst ((plA (sortA as)).map pD)), y12])
        (s_ifK (n1 := m + 506) (b := false) (EvT.imp (et_or (et_K (ev_opK (ev_listItems (edP (ev_var rfl) (by omega))) (ev_var rfl) (same tP.1 tP.2))) (fun _ => et_not (et_B (ev_def (n1 := m + 406) (k := 100) (pre := preIH CQ) (post := postIH) (A := fun l => l = [.obj s, qI CQ (hd, as), .tup (dStrs hd), .lst (as.map dAtom), .lst (dStrs (varsA as))]) (ea_c (ev_var rfl) (ea_c (ev_var rfl) (ea_c (ev_var rfl) (ea_c (ev_var rfl) (ea_one (ev_var rfl)))))) (by omega) fun l e => ⟨hd, as, e, ok⟩) fun d h => ?_)) (by omega)) fun b h => ?_) (fun e => by cases e) fun _ => s_next ⟨rfl, rfl⟩) fun ρ1 n1 h1 => ?_
      · obtain ⟨l, _, e⟩ := h
        exact ⟨true, e⟩
      · rcases h with ⟨e, _⟩ | ⟨_, l, _, e⟩
        · cases e
        · have e := D.bl.inj e
          cases b with
          | true => cases e
          | false => rfl
      obtain ⟨rfl, rfl⟩ := h1
      have asl : (as.map dAtom).length = as.length := List.length_map _
      -- queries with other atoms
      have cut1 : Pl.cutD (as.map dAtom) none (some 1) = (as.take 1).map dAtom := by
        have e := cut_pre (l := as.map dAtom) (k := 1)
        rw [show ((1 : Nat) : Int) = 1 from rfl] at e
        rw [e, List.map_take]
      refine s_seq (N := fun ρ' u => u = m + 506 ∧ ρ' = [.va (.obj a), .va (.obj s), .va (.int (0 + (i : Nat))), .va (.lst (ps.map dShape)), .va (.tup (dStrs hd)), .va (.lst (as.map dAtom)), .va (.lst rw_), .va (qI CQ (hd, as)), .va (.lst (dStrs (varsA as))), y9, y10, .va (.lst ((plA (sortA as)).map pD)), y12])
        (s_ifK (b := !true || (decide ((as.length : Int) < 6) && false)) (et_orK (et_K (ev_neqQ Y (q := (hd, as.reverse)) (ev_var rfl) (ev_queryV (hd := hd) (as := as.reverse) (y := .tup (as.reverse.map dAtom)) (ea_c (ev_var rfl) (ea_one (ev_is (ev_callK (ea_one (ev_revL (ev_var rfl))) (ck_tuple rfl)) (by rw [List.map_reverse])))) (.inr rfl) (by omega) (okV_perm ok (List.reverse_perm as))) (by omega) ok.1 (okV_perm ok (List.reverse_perm as)).1 (eqQ_perm (List.reverse_perm as).symm))) fun _ => et_andK (et_K (ev_is (ev_opK (ev_callK (ea_one (ev_var rfl)) (ck_len rfl)) ev_int rk_lt) (by rw [asl]))) fun e => et_K (ev_eqqQ Y (q := (hd, as ++ as.take 1)) (ev_var rfl) (ev_queryV (hd := hd) (as := as ++ as.take 1) (y := .lst ((as ++ as.take 1).map dAtom)) (ea_c (ev_var rfl) (ea_one (ev_is (ev_opK (ev_var rfl) (ev_slL (ev_var rfl) eo_none (eo_some ev_int)) (rk_addL (by rw [cut1, List.length_map, List.length_map, List.length_take]; omega))) (by rw [cut1, List.map_append])))) (.inl rfl) (by omega) (okV_more ok (by have := of_decide_eq_true e; omega))) (by omega) ok.1 (okV_more ok (by have := of_decide_eq_true e; omega)).1 (eqQ_len (.inr (by show as.length ≠ (as ++ as.take 1).length; rw [List.length_append, List.length_take]; omega))))) (fun e => by rw [Bool.and_false] at e; cases e) fun _ => s_next ⟨rfl, rfl⟩) fun ρ1 n1 h1 => ?_
      obtain ⟨rfl, rfl⟩ := h1
      -- another head
      have cutH : Pl.cutD (dStrs hd) (some 1) none = dStrs (hd.drop 1) := by
        have e := cut_from (l := dStrs hd) (k := 1)
        rw [show ((1 : Nat) : Int) = 1 from rfl] at e
        rw [e]
        unfold dStrs
        rw [List.map_drop]
      have okd := okV_head (hd' := hd.drop 1) ok (by rw [List.length_drop]; omega) fun v hv => (usort_mem v _).mpr (ok.2.2.1 v (List.mem_of_mem_drop hv))
      have neD := rk_neD (K := K) (s := s) (c := c) (x := .tup (dStrs hd)) (y := .tup []) (plain_of tH.1) rfl (shaped_of tH.1 (Nat.le_trans tH.2 (by decide))) rfl
      rw [show D.tup [] = .tup (dStrs []) from rfl, eqv_strsT] at neD
      refine s_seq (N := fun ρ' u => u = m + 506 ∧ ρ' = [.va (.obj a), .va (.obj s), .va (.int (0 + (i : Nat))), .va (.lst (ps.map dShape)), .va (.tup (dStrs hd)), .va (.lst (as.map dAtom)), .va (.lst rw_), .va (qI CQ (hd, as)), .va (.lst (dStrs (varsA as))), y9, y10, .va (.lst ((plA (sortA as)).map pD)), y12])
        (s_ifK (b := !decide (hd = []) && false) (et_andK (et_K (ev_opK (ev_var rfl) (ev_tupE (l := []) ea_nil (Nat.zero_le _)) neD)) fun e => et_K (ev_eqqQ Y (q := (hd.drop 1, as)) (ev_var rfl) (ev_queryV (hd := hd.drop 1) (as := as) (ea_c (ev_is (ev_slT (ev_var rfl) (eo_some ev_int) eo_none) (by rw [cutH])) (ea_one (ev_var rfl))) (.inl rfl) (by omega) okd) (by omega) ok.1 okd.1 (eqQ_len (.inl ?_)))) (fun e => by rw [Bool.and_false] at e; cases e) fun _ => s_next ⟨rfl, rfl⟩) fun ρ1 n1 h1 => ?_
      · show hd.length ≠ (hd.drop 1).length
        rw [List.length_drop]
        have h0 : hd ≠ [] := by simpa using e
        have := List.length_pos_iff.mpr h0
        omega
      obtain ⟨rfl, rfl⟩ := h1
      -- a head of three
      have l3 : ((varsA as ++ (varsA as ++ varsA as)).take 3).length = 3 := by rw [List.length_take, List.length_append, List.length_append]; omega
      have ok3 := okV_head (hd' := (varsA as ++ (varsA as ++ varsA as)).take 3) ok (by omega) fun v hv => by
        rcases List.mem_append.mp (List.mem_of_mem_take hv) with h | h
        · exact h
        · rcases List.mem_append.mp h with h | h <;> exact h
      have hdl : (dStrs hd).length = hd.length := strs_len hd
      refine s_seq (N := fun ρ' u => u = m + 506 ∧ ρ' = [.va (.obj a), .va (.obj s), .va (.int (0 + (i : Nat))), .va (.lst (ps.map dShape)), .va (.tup (dStrs hd)), .va (.lst (as.map dAtom)), .va (.lst rw_), .va (qI CQ (hd, as)), .va (.lst (dStrs (varsA as))), y9, y10, .va (.lst ((plA (sortA as)).map pD)), y12])
        (s_ifK (b := decide ((hd.length : Int) < 3) && false) (et_andK (et_K (ev_is (ev_opK (ev_callK (ea_one (ev_var rfl)) (ck_len rfl)) ev_int rk_lt) (by rw [hdl]))) fun e => et_K (ev_eqqQ Y (q := ((varsA as ++ (varsA as ++ varsA as)).take 3, as)) (ev_var rfl) (ev_queryV (hd := (varsA as ++ (varsA as ++ varsA as)).take 3) (as := as) (ea_c (ev_is (ev_callK (ea_one (ev_slL (ev_opK (ev_var rfl) ev_int (rk_timesL (l := dStrs (varsA as)) (k := 3) (by decide) (by decide) (by rw [strs_len]; omega))) eo_none (eo_some ev_int))) (ck_tuple rfl)) (by rw [strs3])) (ea_one (ev_var rfl))) (.inl rfl) (by omega) ok3) (by omega) ok.1 ok3.1 (eqQ_len (.inl ?_)))) (fun e => by rw [Bool.and_false] at e; cases e) fun _ => s_next ⟨rfl, rfl⟩) fun ρ1 n1 h1 => ?_
      · show hd.length ≠ ((varsA as ++ (varsA as ++ varsA as)).take 3).length
        rw [l3]
        have := of_decide_eq_true e
        omega
      obtain ⟨rfl, rfl⟩ := h1
      -- other things
      refine s_for (ei_list (PL := fun ds => ds = [.non, .int 0, .str (textQ hd (sortA as)), .tup [.tup (dStrs hd), .tup ((sortA as).map dAtom)], .lst [qI CQ (hd, as)]]) (ev_lstE (ea_c ev_non (ea_c ev_int (ea_c (ev_strI (ks := ksQ) (l := qL hd as) (z := textQ hd (sortA as)) (ev_var rfl) (by omega) ⟨(hd, as), rfl, ok.1⟩ fun d h => ?_) (ea_c (ev_tupE (ea_c (ev_qHead (q := (hd, as)) (ev_var rfl) (by omega)) (ea_one (ev_qAtoms (q := (hd, as)) (ev_var rfl) (by omega)))) (by exact (by decide : (2 : Nat) ≤ 1000))) (ea_one (ev_lstE (ea_one (ev_var rfl)) (by exact (by decide : (1 : Nat) ≤ 1000)))))))) (by exact (by decide : (5 : Nat) ≤ 1000))) fun d e => ⟨_, e, rfl⟩)
        (fun ds j ρ' u => u = m + 506 ∧ ∃ y12, isOw (some y12) = false ∧ ρ' = [.va (.obj a), .va (.obj s), .va (.int (0 + (i : Nat))), .va (.lst (ps.map dShape)), .va (.tup (dStrs hd)), .va (.lst (as.map dAtom)), .va (.lst rw_), .va (qI CQ (hd, as)), .va (.lst (dStrs (varsA as))), y9, y10, .va (.lst ((plA (sortA as)).map pD)), y12]) (fun ds e => ⟨rfl, y12, o12, rfl⟩) (fun ds e j d ρ' u hj inv => ?_) fun ds e ρ' u inv => ?_
      · obtain ⟨q, e, rfl⟩ := h
        have e5 := qI_inj (p := (hd, as)) (List.cons.inj e).1
        rw [← e5.1, ← e5.2]
      · obtain ⟨rfl, y12, o12, rfl⟩ := inv
        rw [e] at hj
        have top : topD d = true := by
          have hd' := List.mem_of_getElem? hj
          simp only [List.mem_cons, List.not_mem_nil, or_false] at hd'
          rcases hd' with rfl | rfl | rfl | rfl | rfl <;> rfl
        exact ⟨_, _, eg_name (j := 12) o12, s_ifK (b := false || !(!false)) (et_orK (et_K (ev_eqNo Y (p := (hd, as)) (ev_var rfl) (ev_var rfl) (by omega) ok.1 top)) fun _ => et_notK (et_K (ev_neNo Y (p := (hd, as)) (ev_var rfl) (ev_var rfl) (by omega) ok.1 top))) (fun e => by cases e) fun _ => s_next ⟨rfl, _, rfl, rfl⟩⟩
      · obtain ⟨rfl, y12, o12, rfl⟩ := inv
        exact ⟨by omega, _, _, _, _, _, _, _, _, _, _, _, rfl, rfl, rfl, rfl, rfl, rfl, rfl, rfl, o9, o10, rfl, o12⟩
    · obtain rfl := e
      have r : v = .bl true := r
      subst r
      exact q H2
end
end K02
/-! text K02E -/
set_option Elab.async false
set_option linter.all false
set_option maxRecDepth 100000
set_option maxHeartbeats 4000000
set_option exponentiation.threshold 5000
namespace K02
open PySem PySem.Spec PySem.Calls PySem.W PyProof.Rows L2 Pl PlS
theorem one_self {K : PySem.W.Frag} {v : Value} : PySem.W.kitOne K v v = some true := by
  unfold PySem.W.kitOne
  rw [if_pos (beq_self_eq_true v)]
theorem one_type {K : PySem.W.Frag} {C : Addr} {t : String} {b : Bool} (m : PySem.W.kitMeta t = true) (h : PySem.W.subIn K (.ref C) (.type t) = some b) : PySem.W.kitOne K (.ref C) (.type t) = some b := by
  show PySem.W.kitCls K (.ref C) (.type t) = some b
  show (if PySem.W.kitMeta t = true then PySem.W.subIn K (.ref C) (.type t) else none) = some b
  rw [if_pos m]
  exact h
theorem one_none {K : PySem.W.Frag} {C : Addr} (h1 : PySem.W.isClsIn K C = true) (h2 : PySem.W.typeIn K (.ref C) = some (.type "type")) (h : PySem.W.subIn K (.type "NoneType") (.ref C) = some false) : PySem.W.kitOne K (.type "NoneType") (.ref C) = some false := by
  show PySem.W.kitCls K (.type "NoneType") (.ref C) = some false
  have h1' : (PySem.W.clsIn K C).isSome = true := h1
  show (if ((PySem.W.clsIn K C).isSome && PySem.W.typeIn K (.ref C) == some (.type "type")) = true then PySem.W.subIn K (.type "NoneType") (.ref C) else none) = some false
  rw [h1', h2, if_pos (by rfl)]
  exact h
theorem one_own {K : PySem.W.Frag} {B C : Addr} (ne : (B == C) = false) (h1 : PySem.W.isClsIn K C = true) (h2 : PySem.W.typeIn K (.ref C) = some (.type "type")) (h : PySem.W.subIn K (.ref B) (.ref C) = some false) : PySem.W.kitOne K (.ref B) (.ref C) = some false := by
  have nv : (Value.ref B == Value.ref C) = false := by
    cases q : (Value.ref B == Value.ref C) with
    | false => rfl
    | true =>
      have e := Value.ref.inj (beq_iff_eq.mp q)
      rw [e, beq_self_eq_true] at ne
      cases ne
  unfold PySem.W.kitOne
  rw [if_neg (by rw [nv]; exact Bool.false_ne_true)]
  have h1' : (PySem.W.clsIn K C).isSome = true := h1
  show (if ((PySem.W.clsIn K C).isSome && PySem.W.typeIn K (.ref C) == some (.type "type")) = true then PySem.W.subIn K (.ref B) (.ref C) else none) = some false
  rw [h1', h2, if_pos (by rfl)]
  exact h
theorem all_mk {P : Program} {w : World} {K : PySem.W.Frag} {h : Heap} {mg : Str → Option Value} {fa CQ CE CIM CM f_is_name f_is_tuple_of_names f__query_error f__is_atom f__different_variables f_moved_head f_moved_atoms f__renamed f__replaced f__law_source f__law_draw f__law_pick f__law_shuffle f__law_word f__law_shapes f__law_atoms f__law_variables f__law_parts f__law_raised f__law_named f__law_image_holds f_law f_iqi f_qi f_qq f_qs f_qm f_qh f_qa f_qv f_qp p_qh p_qa p_qv p_qp : Addr} {od_is_name an_is_name od_is_tuple_of_names an_is_tuple_of_names od__query_error an__query_error od__is_atom an__is_atom od__different_variables an__different_variables od_moved_head an_moved_head od_moved_atoms an_moved_atoms od__renamed an__renamed od__replaced an__replaced od__law_source an__law_source od__law_draw an__law_draw od__law_pick an__law_pick od__law_shuffle an__law_shuffle od__law_word an__law_word od__law_shapes an__law_shapes od__law_atoms an__law_atoms od__law_variables an__law_variables od__law_parts an__law_parts od__law_raised an__law_raised od__law_named an__law_named od__law_image_holds an__law_image_holds od_law an_law od_iqi an_iqi od_qi an_qi od_qq an_qq od_qs an_qs od_qm an_qm od_qh an_qh od_qa an_qa od_qv an_qv od_qp an_qp : Option Addr} {sl_is_name sl_is_tuple_of_names sl__query_error sl__is_atom sl__different_variables sl_moved_head sl_moved_atoms sl__renamed sl__replaced sl__law_source sl__law_draw sl__law_pick sl__law_shuffle sl__law_word sl__law_shapes sl__law_atoms sl__law_variables sl__law_parts sl__law_raised sl__law_named sl__law_image_holds sl_law sl_iqi sl_qi sl_qq sl_qs sl_qm sl_qh sl_qa sl_qv sl_qp : Array (Option Value)} {oc_is_name kV_is_name dc_is_name pm_is_name cd_is_name ct_is_name oc_is_tuple_of_names kV_is_tuple_of_names dc_is_tuple_of_names pm_is_tuple_of_names cd_is_tuple_of_names ct_is_tuple_of_names oc__query_error kV__query_error dc__query_error pm__query_error cd__query_error ct__query_error oc__is_atom kV__is_atom dc__is_atom pm__is_atom cd__is_atom ct__is_atom oc__different_variables kV__different_variables dc__different_variables pm__different_variables cd__different_variables ct__different_variables oc_moved_head kV_moved_head dc_moved_head pm_moved_head cd_moved_head ct_moved_head oc_moved_atoms kV_moved_atoms dc_moved_atoms pm_moved_atoms cd_moved_atoms ct_moved_atoms oc__renamed kV__renamed dc__renamed pm__renamed cd__renamed ct__renamed oc__replaced kV__replaced dc__replaced pm__replaced cd__replaced ct__replaced oc__law_source kV__law_source dc__law_source pm__law_source cd__law_source ct__law_source oc__law_draw kV__law_draw dc__law_draw pm__law_draw cd__law_draw ct__law_draw oc__law_pick kV__law_pick dc__law_pick pm__law_pick cd__law_pick ct__law_pick oc__law_shuffle kV__law_shuffle dc__law_shuffle pm__law_shuffle cd__law_shuffle ct__law_shuffle oc__law_word kV__law_word dc__law_word pm__law_word cd__law_word ct__law_word oc__law_shapes kV__law_shapes dc__law_shapes pm__law_shapes cd__law_shapes ct__law_shapes oc__law_atoms kV__law_atoms dc__law_atoms pm__law_atoms cd__law_atoms ct__law_atoms oc__law_variables kV__law_variables dc__law_variables pm__law_variables cd__law_variables ct__law_variables oc__law_parts kV__law_parts dc__law_parts pm__law_parts cd__law_parts ct__law_parts oc__law_raised kV__law_raised dc__law_raised pm__law_raised cd__law_raised ct__law_raised oc__law_named kV__law_named dc__law_named pm__law_named cd__law_named ct__law_named oc__law_image_holds kV__law_image_holds dc__law_image_holds pm__law_image_holds cd__law_image_holds ct__law_image_holds oc_law kV_law dc_law pm_law cd_law ct_law oc_iqi kV_iqi dc_iqi pm_iqi cd_iqi ct_iqi oc_qi kV_qi dc_qi pm_qi cd_qi ct_qi oc_qq kV_qq dc_qq pm_qq cd_qq ct_qq oc_qs kV_qs dc_qs pm_qs cd_qs ct_qs oc_qm kV_qm dc_qm pm_qm cd_qm ct_qm oc_qh kV_qh dc_qh pm_qh cd_qh ct_qh oc_qa kV_qa dc_qa pm_qa cd_qa ct_qa oc_qv kV_qv dc_qv pm_qv cd_qv ct_qv oc_qp kV_qp dc_qp pm_qp cd_qp ct_qp : Value} {t_LONGEST_NAME t_MOST_IN_HEAD t_MOST_ATOMS t_MOST_PLACES t_MOST_VARIABLES : Tok} {rest_qh rest_qa rest_qv rest_qp : List Value} {nmE qnE : Str} {NNE : Addr} {bsE : List Value} {snE : List Str} {subE : List Value} {abE : Bool} {colE : Option Bool} {ddE : Option Addr} {k0E k1E k2E k3E k5E : Option Value} (X : K.In h) (G : h.Ns mainGlobals mg) (hfa : mg "law" = some (.ref fa))
    (a_is_name : PySem.W.nsIn K mainGlobals "is_name" = some (some (.ref f_is_name)))
    (l_is_name : K.lookup f_is_name = some ⟨oc_is_name, od_is_name, .func (PySem.W.fnOf "is_name" "is_name" (defArgs s_is_name) (defBody s_is_name) (defScope s_is_name) .none kV_is_name dc_is_name pm_is_name an_is_name cd_is_name ct_is_name), sl_is_name⟩)
    (c_is_name : PySem.W.codeIn K cd_is_name "is_name" = true)
    (k_is_name : PySem.W.keepIn K (.ref f_is_name) = true)
    (a_is_tuple_of_names : PySem.W.nsIn K mainGlobals "is_tuple_of_names" = some (some (.ref f_is_tuple_of_names)))
    (l_is_tuple_of_names : K.lookup f_is_tuple_of_names = some ⟨oc_is_tuple_of_names, od_is_tuple_of_names, .func (PySem.W.fnOf "is_tuple_of_names" "is_tuple_of_names" (defArgs s_is_tuple_of_names) (defBody s_is_tuple_of_names) (defScope s_is_tuple_of_names) .none kV_is_tuple_of_names dc_is_tuple_of_names pm_is_tuple_of_names an_is_tuple_of_names cd_is_tuple_of_names ct_is_tuple_of_names), sl_is_tuple_of_names⟩)
    (c_is_tuple_of_names : PySem.W.codeIn K cd_is_tuple_of_names "is_tuple_of_names" = true)
    (k_is_tuple_of_names : PySem.W.keepIn K (.ref f_is_tuple_of_names) = true)
    (a__query_error : PySem.W.nsIn K mainGlobals "_query_error" = some (some (.ref f__query_error)))
    (l__query_error : K.lookup f__query_error = some ⟨oc__query_error, od__query_error, .func (PySem.W.fnOf "_query_error" "_query_error" (defArgs s__query_error) (defBody s__query_error) (defScope s__query_error) .none kV__query_error dc__query_error pm__query_error an__query_error cd__query_error ct__query_error), sl__query_error⟩)
    (c__query_error : PySem.W.codeIn K cd__query_error "_query_error" = true)
    (k__query_error : PySem.W.keepIn K (.ref f__query_error) = true)
    (a__is_atom : PySem.W.nsIn K mainGlobals "_is_atom" = some (some (.ref f__is_atom)))
    (l__is_atom : K.lookup f__is_atom = some ⟨oc__is_atom, od__is_atom, .func (PySem.W.fnOf "_is_atom" "_is_atom" (defArgs s__is_atom) (defBody s__is_atom) (defScope s__is_atom) .none kV__is_atom dc__is_atom pm__is_atom an__is_atom cd__is_atom ct__is_atom), sl__is_atom⟩)
    (c__is_atom : PySem.W.codeIn K cd__is_atom "_is_atom" = true)
    (k__is_atom : PySem.W.keepIn K (.ref f__is_atom) = true)
    (a__different_variables : PySem.W.nsIn K mainGlobals "_different_variables" = some (some (.ref f__different_variables)))
    (l__different_variables : K.lookup f__different_variables = some ⟨oc__different_variables, od__different_variables, .func (PySem.W.fnOf "_different_variables" "_different_variables" (defArgs s__different_variables) (defBody s__different_variables) (defScope s__different_variables) .none kV__different_variables dc__different_variables pm__different_variables an__different_variables cd__different_variables ct__different_variables), sl__different_variables⟩)
    (c__different_variables : PySem.W.codeIn K cd__different_variables "_different_variables" = true)
    (k__different_variables : PySem.W.keepIn K (.ref f__different_variables) = true)
    (a_moved_head : PySem.W.nsIn K mainGlobals "moved_head" = some (some (.ref f_moved_head)))
    (l_moved_head : K.lookup f_moved_head = some ⟨oc_moved_head, od_moved_head, .func (PySem.W.fnOf "moved_head" "moved_head" (defArgs s_moved_head) (defBody s_moved_head) (defScope s_moved_head) .none kV_moved_head dc_moved_head pm_moved_head an_moved_head cd_moved_head ct_moved_head), sl_moved_head⟩)
    (c_moved_head : PySem.W.codeIn K cd_moved_head "moved_head" = true)
    (k_moved_head : PySem.W.keepIn K (.ref f_moved_head) = true)
    (a_moved_atoms : PySem.W.nsIn K mainGlobals "moved_atoms" = some (some (.ref f_moved_atoms)))
    (l_moved_atoms : K.lookup f_moved_atoms = some ⟨oc_moved_atoms, od_moved_atoms, .func (PySem.W.fnOf "moved_atoms" "moved_atoms" (defArgs s_moved_atoms) (defBody s_moved_atoms) (defScope s_moved_atoms) .none kV_moved_atoms dc_moved_atoms pm_moved_atoms an_moved_atoms cd_moved_atoms ct_moved_atoms), sl_moved_atoms⟩)
    (c_moved_atoms : PySem.W.codeIn K cd_moved_atoms "moved_atoms" = true)
    (k_moved_atoms : PySem.W.keepIn K (.ref f_moved_atoms) = true)
    (a__renamed : PySem.W.nsIn K mainGlobals "_renamed" = some (some (.ref f__renamed)))
    (l__renamed : K.lookup f__renamed = some ⟨oc__renamed, od__renamed, .func (PySem.W.fnOf "_renamed" "_renamed" (defArgs s__renamed) (defBody s__renamed) (defScope s__renamed) .none kV__renamed dc__renamed pm__renamed an__renamed cd__renamed ct__renamed), sl__renamed⟩)
    (c__renamed : PySem.W.codeIn K cd__renamed "_renamed" = true)
    (k__renamed : PySem.W.keepIn K (.ref f__renamed) = true)
    (a__replaced : PySem.W.nsIn K mainGlobals "_replaced" = some (some (.ref f__replaced)))
    (l__replaced : K.lookup f__replaced = some ⟨oc__replaced, od__replaced, .func (PySem.W.fnOf "_replaced" "_replaced" (defArgs s__replaced) (defBody s__replaced) (defScope s__replaced) .none kV__replaced dc__replaced pm__replaced an__replaced cd__replaced ct__replaced), sl__replaced⟩)
    (c__replaced : PySem.W.codeIn K cd__replaced "_replaced" = true)
    (k__replaced : PySem.W.keepIn K (.ref f__replaced) = true)
    (a__law_source : PySem.W.nsIn K mainGlobals "_law_source" = some (some (.ref f__law_source)))
    (l__law_source : K.lookup f__law_source = some ⟨oc__law_source, od__law_source, .func (PySem.W.fnOf "_law_source" "_law_source" (defArgs s__law_source) (defBody s__law_source) (defScope s__law_source) .none kV__law_source dc__law_source pm__law_source an__law_source cd__law_source ct__law_source), sl__law_source⟩)
    (c__law_source : PySem.W.codeIn K cd__law_source "_law_source" = true)
    (k__law_source : PySem.W.keepIn K (.ref f__law_source) = true)
    (a__law_draw : PySem.W.nsIn K mainGlobals "_law_draw" = some (some (.ref f__law_draw)))
    (l__law_draw : K.lookup f__law_draw = some ⟨oc__law_draw, od__law_draw, .func (PySem.W.fnOf "_law_draw" "_law_draw" (defArgs s__law_draw) (defBody s__law_draw) (defScope s__law_draw) .none kV__law_draw dc__law_draw pm__law_draw an__law_draw cd__law_draw ct__law_draw), sl__law_draw⟩)
    (c__law_draw : PySem.W.codeIn K cd__law_draw "_law_draw" = true)
    (k__law_draw : PySem.W.keepIn K (.ref f__law_draw) = true)
    (a__law_pick : PySem.W.nsIn K mainGlobals "_law_pick" = some (some (.ref f__law_pick)))
    (l__law_pick : K.lookup f__law_pick = some ⟨oc__law_pick, od__law_pick, .func (PySem.W.fnOf "_law_pick" "_law_pick" (defArgs s__law_pick) (defBody s__law_pick) (defScope s__law_pick) .none kV__law_pick dc__law_pick pm__law_pick an__law_pick cd__law_pick ct__law_pick), sl__law_pick⟩)
    (c__law_pick : PySem.W.codeIn K cd__law_pick "_law_pick" = true)
    (k__law_pick : PySem.W.keepIn K (.ref f__law_pick) = true)
    (a__law_shuffle : PySem.W.nsIn K mainGlobals "_law_shuffle" = some (some (.ref f__law_shuffle)))
    (l__law_shuffle : K.lookup f__law_shuffle = some ⟨oc__law_shuffle, od__law_shuffle, .func (PySem.W.fnOf "_law_shuffle" "_law_shuffle" (defArgs s__law_shuffle) (defBody s__law_shuffle) (defScope s__law_shuffle) .none kV__law_shuffle dc__law_shuffle pm__law_shuffle an__law_shuffle cd__law_shuffle ct__law_shuffle), sl__law_shuffle⟩)
    (c__law_shuffle : PySem.W.codeIn K cd__law_shuffle "_law_shuffle" = true)
    (k__law_shuffle : PySem.W.keepIn K (.ref f__law_shuffle) = true)
    (a__law_word : PySem.W.nsIn K mainGlobals "_law_word" = some (some (.ref f__law_word)))
    (l__law_word : K.lookup f__law_word = some ⟨oc__law_word, od__law_word, .func (PySem.W.fnOf "_law_word" "_law_word" (defArgs s__law_word) (defBody s__law_word) (defScope s__law_word) .none kV__law_word dc__law_word pm__law_word an__law_word cd__law_word ct__law_word), sl__law_word⟩)
    (c__law_word : PySem.W.codeIn K cd__law_word "_law_word" = true)
    (k__law_word : PySem.W.keepIn K (.ref f__law_word) = true)
    (a__law_shapes : PySem.W.nsIn K mainGlobals "_law_shapes" = some (some (.ref f__law_shapes)))
    (l__law_shapes : K.lookup f__law_shapes = some ⟨oc__law_shapes, od__law_shapes, .func (PySem.W.fnOf "_law_shapes" "_law_shapes" (defArgs s__law_shapes) (defBody s__law_shapes) (defScope s__law_shapes) .none kV__law_shapes dc__law_shapes pm__law_shapes an__law_shapes cd__law_shapes ct__law_shapes), sl__law_shapes⟩)
    (c__law_shapes : PySem.W.codeIn K cd__law_shapes "_law_shapes" = true)
    (k__law_shapes : PySem.W.keepIn K (.ref f__law_shapes) = true)
    (a__law_atoms : PySem.W.nsIn K mainGlobals "_law_atoms" = some (some (.ref f__law_atoms)))
    (l__law_atoms : K.lookup f__law_atoms = some ⟨oc__law_atoms, od__law_atoms, .func (PySem.W.fnOf "_law_atoms" "_law_atoms" (defArgs s__law_atoms) (defBody s__law_atoms) (defScope s__law_atoms) .none kV__law_atoms dc__law_atoms pm__law_atoms an__law_atoms cd__law_atoms ct__law_atoms), sl__law_atoms⟩)
    (c__law_atoms : PySem.W.codeIn K cd__law_atoms "_law_atoms" = true)
    (k__law_atoms : PySem.W.keepIn K (.ref f__law_atoms) = true)
    (a__law_variables : PySem.W.nsIn K mainGlobals "_law_variables" = some (some (.ref f__law_variables)))
    (l__law_variables : K.lookup f__law_variables = some ⟨oc__law_variables, od__law_variables, .func (PySem.W.fnOf "_law_variables" "_law_variables" (defArgs s__law_variables) (defBody s__law_variables) (defScope s__law_variables) .none kV__law_variables dc__law_variables pm__law_variables an__law_variables cd__law_variables ct__law_variables), sl__law_variables⟩)
    (c__law_variables : PySem.W.codeIn K cd__law_variables "_law_variables" = true)
    (k__law_variables : PySem.W.keepIn K (.ref f__law_variables) = true)
    (a__law_parts : PySem.W.nsIn K mainGlobals "_law_parts" = some (some (.ref f__law_parts)))
    (l__law_parts : K.lookup f__law_parts = some ⟨oc__law_parts, od__law_parts, .func (PySem.W.fnOf "_law_parts" "_law_parts" (defArgs s__law_parts) (defBody s__law_parts) (defScope s__law_parts) .none kV__law_parts dc__law_parts pm__law_parts an__law_parts cd__law_parts ct__law_parts), sl__law_parts⟩)
    (c__law_parts : PySem.W.codeIn K cd__law_parts "_law_parts" = true)
    (k__law_parts : PySem.W.keepIn K (.ref f__law_parts) = true)
    (a__law_raised : PySem.W.nsIn K mainGlobals "_law_raised" = some (some (.ref f__law_raised)))
    (l__law_raised : K.lookup f__law_raised = some ⟨oc__law_raised, od__law_raised, .func (PySem.W.fnOf "_law_raised" "_law_raised" (defArgs s__law_raised) (defBody s__law_raised) (defScope s__law_raised) .none kV__law_raised dc__law_raised pm__law_raised an__law_raised cd__law_raised ct__law_raised), sl__law_raised⟩)
    (c__law_raised : PySem.W.codeIn K cd__law_raised "_law_raised" = true)
    (k__law_raised : PySem.W.keepIn K (.ref f__law_raised) = true)
    (a__law_named : PySem.W.nsIn K mainGlobals "_law_named" = some (some (.ref f__law_named)))
    (l__law_named : K.lookup f__law_named = some ⟨oc__law_named, od__law_named, .func (PySem.W.fnOf "_law_named" "_law_named" (defArgs s__law_named) (defBody s__law_named) (defScope s__law_named) .none kV__law_named dc__law_named pm__law_named an__law_named cd__law_named ct__law_named), sl__law_named⟩)
    (c__law_named : PySem.W.codeIn K cd__law_named "_law_named" = true)
    (k__law_named : PySem.W.keepIn K (.ref f__law_named) = true)
    (a__law_image_holds : PySem.W.nsIn K mainGlobals "_law_image_holds" = some (some (.ref f__law_image_holds)))
    (l__law_image_holds : K.lookup f__law_image_holds = some ⟨oc__law_image_holds, od__law_image_holds, .func (PySem.W.fnOf "_law_image_holds" "_law_image_holds" (defArgs s__law_image_holds) (defBody s__law_image_holds) (defScope s__law_image_holds) .none kV__law_image_holds dc__law_image_holds pm__law_image_holds an__law_image_holds cd__law_image_holds ct__law_image_holds), sl__law_image_holds⟩)
    (c__law_image_holds : PySem.W.codeIn K cd__law_image_holds "_law_image_holds" = true)
    (k__law_image_holds : PySem.W.keepIn K (.ref f__law_image_holds) = true)
    (a_law : PySem.W.nsIn K mainGlobals "law" = some (some (.ref f_law)))
    (l_law : K.lookup f_law = some ⟨oc_law, od_law, .func (PySem.W.fnOf "law" "law" (defArgs s_law) (defBody s_law) (defScope s_law) .none kV_law dc_law pm_law an_law cd_law ct_law), sl_law⟩)
    (c_law : PySem.W.codeIn K cd_law "law" = true)
    (k_law : PySem.W.keepIn K (.ref f_law) = true)
    (a_iqi : PySem.W.findIn K (.ref CE) "__init__" = some (some (.ref f_iqi)))
    (l_iqi : K.lookup f_iqi = some ⟨oc_iqi, od_iqi, .func (PySem.W.fnOf "__init__" "InvalidQuery.__init__" (defArgs s_iq_init) (defBody s_iq_init) (defScope s_iq_init) .none kV_iqi dc_iqi pm_iqi an_iqi cd_iqi ct_iqi), sl_iqi⟩)
    (c_iqi : PySem.W.codeIn K cd_iqi "InvalidQuery.__init__" = true)
    (k_iqi : PySem.W.keepIn K (.ref f_iqi) = true)
    (a_qi : PySem.W.findIn K (.ref CQ) "__init__" = some (some (.ref f_qi)))
    (l_qi : K.lookup f_qi = some ⟨oc_qi, od_qi, .func (PySem.W.fnOf "__init__" "Query.__init__" (defArgs s_q_init) (defBody s_q_init) (defScope s_q_init) .none kV_qi dc_qi pm_qi an_qi cd_qi ct_qi), sl_qi⟩)
    (c_qi : PySem.W.codeIn K cd_qi "Query.__init__" = true)
    (k_qi : PySem.W.keepIn K (.ref f_qi) = true)
    (a_qq : PySem.W.findIn K (.ref CQ) "__eq__" = some (some (.ref f_qq)))
    (l_qq : K.lookup f_qq = some ⟨oc_qq, od_qq, .func (PySem.W.fnOf "__eq__" "Query.__eq__" (defArgs s_q_eq) (defBody s_q_eq) (defScope s_q_eq) .none kV_qq dc_qq pm_qq an_qq cd_qq ct_qq), sl_qq⟩)
    (c_qq : PySem.W.codeIn K cd_qq "Query.__eq__" = true)
    (k_qq : PySem.W.keepIn K (.ref f_qq) = true)
    (a_qs : PySem.W.findIn K (.ref CQ) "__str__" = some (some (.ref f_qs)))
    (l_qs : K.lookup f_qs = some ⟨oc_qs, od_qs, .func (PySem.W.fnOf "__str__" "Query.__str__" (defArgs s_q_str) (defBody s_q_str) (defScope s_q_str) .none kV_qs dc_qs pm_qs an_qs cd_qs ct_qs), sl_qs⟩)
    (c_qs : PySem.W.codeIn K cd_qs "Query.__str__" = true)
    (k_qs : PySem.W.keepIn K (.ref f_qs) = true)
    (a_qm : PySem.W.findIn K (.ref CQ) "image" = some (some (.ref f_qm)))
    (l_qm : K.lookup f_qm = some ⟨oc_qm, od_qm, .func (PySem.W.fnOf "image" "Query.image" (defArgs s_q_image) (defBody s_q_image) (defScope s_q_image) .none kV_qm dc_qm pm_qm an_qm cd_qm ct_qm), sl_qm⟩)
    (c_qm : PySem.W.codeIn K cd_qm "Query.image" = true)
    (k_qm : PySem.W.keepIn K (.ref f_qm) = true)
    (a_qh : PySem.W.findIn K (.ref CQ) "head" = some (some (.ref p_qh)))
    (r_qh : PySem.W.recIn K p_qh "property" = some (.ref f_qh :: rest_qh))
    (g_qh : PySem.W.specialIn K (.ref p_qh) "__get__" = some (some (.builtin "property.__get__")))
    (t_qh : PySem.W.takesIn K (.ref p_qh) = some true)
    (l_qh : K.lookup f_qh = some ⟨oc_qh, od_qh, .func (PySem.W.fnOf "head" "Query.head" (defArgs s_q_head) (defBody s_q_head) (defScope s_q_head) .none kV_qh dc_qh pm_qh an_qh cd_qh ct_qh), sl_qh⟩)
    (c_qh : PySem.W.codeIn K cd_qh "Query.head" = true)
    (k_qh : PySem.W.keepIn K (.ref f_qh) = true)
    (a_qa : PySem.W.findIn K (.ref CQ) "atoms" = some (some (.ref p_qa)))
    (r_qa : PySem.W.recIn K p_qa "property" = some (.ref f_qa :: rest_qa))
    (g_qa : PySem.W.specialIn K (.ref p_qa) "__get__" = some (some (.builtin "property.__get__")))
    (t_qa : PySem.W.takesIn K (.ref p_qa) = some true)
    (l_qa : K.lookup f_qa = some ⟨oc_qa, od_qa, .func (PySem.W.fnOf "atoms" "Query.atoms" (defArgs s_q_atoms) (defBody s_q_atoms) (defScope s_q_atoms) .none kV_qa dc_qa pm_qa an_qa cd_qa ct_qa), sl_qa⟩)
    (c_qa : PySem.W.codeIn K cd_qa "Query.atoms" = true)
    (k_qa : PySem.W.keepIn K (.ref f_qa) = true)
    (a_qv : PySem.W.findIn K (.ref CQ) "variables" = some (some (.ref p_qv)))
    (r_qv : PySem.W.recIn K p_qv "property" = some (.ref f_qv :: rest_qv))
    (g_qv : PySem.W.specialIn K (.ref p_qv) "__get__" = some (some (.builtin "property.__get__")))
    (t_qv : PySem.W.takesIn K (.ref p_qv) = some true)
    (l_qv : K.lookup f_qv = some ⟨oc_qv, od_qv, .func (PySem.W.fnOf "variables" "Query.variables" (defArgs s_q_vars) (defBody s_q_vars) (defScope s_q_vars) .none kV_qv dc_qv pm_qv an_qv cd_qv ct_qv), sl_qv⟩)
    (c_qv : PySem.W.codeIn K cd_qv "Query.variables" = true)
    (k_qv : PySem.W.keepIn K (.ref f_qv) = true)
    (a_qp : PySem.W.findIn K (.ref CQ) "places" = some (some (.ref p_qp)))
    (r_qp : PySem.W.recIn K p_qp "property" = some (.ref f_qp :: rest_qp))
    (g_qp : PySem.W.specialIn K (.ref p_qp) "__get__" = some (some (.builtin "property.__get__")))
    (t_qp : PySem.W.takesIn K (.ref p_qp) = some true)
    (l_qp : K.lookup f_qp = some ⟨oc_qp, od_qp, .func (PySem.W.fnOf "places" "Query.places" (defArgs s_q_places) (defBody s_q_places) (defScope s_q_places) .none kV_qp dc_qp pm_qp an_qp cd_qp ct_qp), sl_qp⟩)
    (c_qp : PySem.W.codeIn K cd_qp "Query.places" = true)
    (k_qp : PySem.W.keepIn K (.ref f_qp) = true)
    (z_int : PySem.W.nsIn K mainGlobals "int" = some none)
    (z_len : PySem.W.nsIn K mainGlobals "len" = some none)
    (z_range : PySem.W.nsIn K mainGlobals "range" = some none)
    (z_tuple : PySem.W.nsIn K mainGlobals "tuple" = some none)
    (z_list : PySem.W.nsIn K mainGlobals "list" = some none)
    (z_set : PySem.W.nsIn K mainGlobals "set" = some none)
    (z_sorted : PySem.W.nsIn K mainGlobals "sorted" = some none)
    (z_isinstance : PySem.W.nsIn K mainGlobals "isinstance" = some none)
    (z_str : PySem.W.nsIn K mainGlobals "str" = some none)
    (z_abs : PySem.W.nsIn K mainGlobals "abs" = some none)
    (z_enumerate : PySem.W.nsIn K mainGlobals "enumerate" = some none)
    (z_all : PySem.W.nsIn K mainGlobals "all" = some none)
    (z_ValueError : PySem.W.nsIn K mainGlobals "ValueError" = some none)
    (z_dict : PySem.W.nsIn K mainGlobals "dict" = some none)
    (z_zip : PySem.W.nsIn K mainGlobals "zip" = some none)
    (n_LONGEST_NAME : PySem.W.nsIn K mainGlobals "LONGEST_NAME" = some (some (.int 8 t_LONGEST_NAME)))
    (n_MOST_IN_HEAD : PySem.W.nsIn K mainGlobals "MOST_IN_HEAD" = some (some (.int 3 t_MOST_IN_HEAD)))
    (n_MOST_ATOMS : PySem.W.nsIn K mainGlobals "MOST_ATOMS" = some (some (.int 6 t_MOST_ATOMS)))
    (n_MOST_PLACES : PySem.W.nsIn K mainGlobals "MOST_PLACES" = some (some (.int 3 t_MOST_PLACES)))
    (n_MOST_VARIABLES : PySem.W.nsIn K mainGlobals "MOST_VARIABLES" = some (some (.int 5 t_MOST_VARIABLES)))
    (gE : PySem.W.nsIn K mainGlobals "InvalidQuery" = some (some (.ref CE)))
    (gIM : PySem.W.nsIn K mainGlobals "InvalidMap" = some (some (.ref CIM)))
    (gM : PySem.W.nsIn K mainGlobals "MarkError" = some (some (.ref CM)))
    (gQ : PySem.W.nsIn K mainGlobals "Query" = some (some (.ref CQ)))
    (xE : K.lookup CE = some (excClassObj nmE qnE CE NNE bsE [.ref CM, .type "ValueError", .type "Exception", .type "BaseException", .type "object"] true snE subE abE colE ddE k0E k1E k2E k3E k5E "ValueError.__new__"))
    (saE : PySem.W.findIn K (.ref CE) "__setattr__" = some (some (.builtin "object.__setattr__")))
    (tIE : PySem.W.typeIn K (.ref f_iqi) = some (.type "function"))
    (nE : PySem.W.findIn K (.ref CE) "reason" = some none)
    (exE : PySem.W.subIn K (.ref CE) (.type "BaseException") = some true)
    (tyE : PySem.W.typeIn K (.ref CE) = some (.type "type"))
    (kE : PySem.W.keepIn K (.ref CE) = true)
    (exIM : PySem.W.subIn K (.ref CIM) (.type "BaseException") = some true)
    (tyIM : PySem.W.typeIn K (.ref CIM) = some (.type "type"))
    (kIM : PySem.W.keepIn K (.ref CIM) = true)
    (qIM : PySem.W.excIn K CIM [.type "ValueError", .type "Exception", .type "BaseException", .type "object"] "ValueError.__new__" = true)
    (hdIM : PySem.W.hasDictIn K CIM = true)
    (smIM : PySem.W.subIn K (.ref CIM) (.ref CM) = some true)
    (gaIM : PySem.W.findIn K (.ref CIM) "__getattribute__" = some (some (.builtin "BaseException.__getattribute__")))
    (ggIM : PySem.W.findIn K (.ref CIM) "__getattr__" = some none)
    (haIM : PySem.W.findIn K (.ref CIM) "__class__" = some (some (.builtin "object.__class__")))
    (hn : PySem.W.specialIn K (.builtin "object.__class__") "__get__" = some (some (.builtin "getset_descriptor.__get__")))
    (ht : PySem.W.takesIn K (.builtin "object.__class__") = some true)
    (hmIM : PySem.W.mroIn K CIM (.type "object") = some true)
    (svIM : PySem.W.subIn K (.ref CIM) (.type "ValueError") = some true)
    (icIM : PySem.W.isClsIn K CIM = true)
    (snIM_ : PySem.W.subIn K (.type "NoneType") (.ref CIM) = some false)
    (exM : PySem.W.subIn K (.ref CM) (.type "BaseException") = some true)
    (hdM : PySem.W.hasDictIn K CM = true)
    (tyM : PySem.W.typeIn K (.ref CM) = some (.type "type"))
    (mkQ : PySem.W.makesIn K CQ = true)
    (fnQ : PySem.W.isFn K (.ref f_qi) = true)
    (kQ : PySem.W.keepIn K (.ref CQ) = true)
    (pgQ : PySem.W.plainGet K CQ Str.empty = true)
    (hdQ : PySem.W.hasDictIn K CQ = true)
    (poQ : PySem.W.plainOver K CQ = true)
    (saQ : PySem.W.findIn K (.ref CQ) "__setattr__" = some (some (.builtin "object.__setattr__")))
    (nH : PySem.W.findIn K (.ref CQ) "_head" = some none)
    (nA : PySem.W.findIn K (.ref CQ) "_atoms" = some none)
    (nV : PySem.W.findIn K (.ref CQ) "_variables" = some none)
    (haQ : PySem.W.findIn K (.ref CQ) "__class__" = some (some (.builtin "object.__class__")))
    (hmQ : PySem.W.mroIn K CQ (.type "object") = some true)
    (icQ : PySem.W.isClsIn K CQ = true)
    (tyQ : PySem.W.typeIn K (.ref CQ) = some (.type "type"))
    (noQ_NoneType : PySem.W.subIn K (.type "NoneType") (.ref CQ) = some false)
    (noQ_bool : PySem.W.subIn K (.type "bool") (.ref CQ) = some false)
    (noQ_int : PySem.W.subIn K (.type "int") (.ref CQ) = some false)
    (noQ_str : PySem.W.subIn K (.type "str") (.ref CQ) = some false)
    (noQ_tuple : PySem.W.subIn K (.type "tuple") (.ref CQ) = some false)
    (noQ_list : PySem.W.subIn K (.type "list") (.ref CQ) = some false)
    (neQ : PySem.W.findIn K (.ref CQ) "__ne__" = some (some (.builtin "object.__ne__")))
    (fnqq : PySem.W.isFn K (.ref f_qq) = true)
    (fnqs : PySem.W.isFn K (.ref f_qs) = true)
    (fnqm : PySem.W.isFn K (.ref f_qm) = true) :
    ∃ fd : FuncData, (∀ (s : Shared) (u : Value), BindsTo s fd ⟨[u], []⟩ [("script", u)]) ∧ ∀ base : Heap, K.In base → base.Ns mainGlobals mg → RunsAt P w K mg base callerA fa fd ["script"] (spLaw K) := by
  have e := hfa.symm.trans (PySem.W.mg_of X G a_law)
  cases e
  have F_is_name := fun_mk (st := s_is_name) l_is_name c_is_name k_is_name
  have b_is_name := F_is_name.binds (ps := ["value"]) fun _ _ _ _ _ _ us hl => match us, hl with | [_], _ => rfl
  have F_is_tuple_of_names := fun_mk (st := s_is_tuple_of_names) l_is_tuple_of_names c_is_tuple_of_names k_is_tuple_of_names
  have b_is_tuple_of_names := F_is_tuple_of_names.binds (ps := ["value", "least", "most"]) fun _ _ _ _ _ _ us hl => match us, hl with | [_, _, _], _ => rfl
  have F__query_error := fun_mk (st := s__query_error) l__query_error c__query_error k__query_error
  have b__query_error := F__query_error.binds (ps := ["head", "atoms"]) fun _ _ _ _ _ _ us hl => match us, hl with | [_, _], _ => rfl
  have F__is_atom := fun_mk (st := s__is_atom) l__is_atom c__is_atom k__is_atom
  have b__is_atom := F__is_atom.binds (ps := ["value"]) fun _ _ _ _ _ _ us hl => match us, hl with | [_], _ => rfl
  have F__different_variables := fun_mk (st := s__different_variables) l__different_variables c__different_variables k__different_variables
  have b__different_variables := F__different_variables.binds (ps := ["atoms"]) fun _ _ _ _ _ _ us hl => match us, hl with | [_], _ => rfl
  have F_moved_head := fun_mk (st := s_moved_head) l_moved_head c_moved_head k_moved_head
  have b_moved_head := F_moved_head.binds (ps := ["query", "values"]) fun _ _ _ _ _ _ us hl => match us, hl with | [_, _], _ => rfl
  have F_moved_atoms := fun_mk (st := s_moved_atoms) l_moved_atoms c_moved_atoms k_moved_atoms
  have b_moved_atoms := F_moved_atoms.binds (ps := ["query", "values"]) fun _ _ _ _ _ _ us hl => match us, hl with | [_, _], _ => rfl
  have F__renamed := fun_mk (st := s__renamed) l__renamed c__renamed k__renamed
  have b__renamed := F__renamed.binds (ps := ["query", "names"]) fun _ _ _ _ _ _ us hl => match us, hl with | [_, _], _ => rfl
  have F__replaced := fun_mk (st := s__replaced) l__replaced c__replaced k__replaced
  have b__replaced := F__replaced.binds (ps := ["variables", "new"]) fun _ _ _ _ _ _ us hl => match us, hl with | [_, _], _ => rfl
  have F__law_source := fun_mk (st := s__law_source) l__law_source c__law_source k__law_source
  have b__law_source := F__law_source.binds (ps := ["script"]) fun _ _ _ _ _ _ us hl => match us, hl with | [_], _ => rfl
  have F__law_draw := fun_mk (st := s__law_draw) l__law_draw c__law_draw k__law_draw
  have b__law_draw := F__law_draw.binds (ps := ["source", "limit"]) fun _ _ _ _ _ _ us hl => match us, hl with | [_, _], _ => rfl
  have F__law_pick := fun_mk (st := s__law_pick) l__law_pick c__law_pick k__law_pick
  have b__law_pick := F__law_pick.binds (ps := ["source", "values"]) fun _ _ _ _ _ _ us hl => match us, hl with | [_, _], _ => rfl
  have F__law_shuffle := fun_mk (st := s__law_shuffle) l__law_shuffle c__law_shuffle k__law_shuffle
  have b__law_shuffle := F__law_shuffle.binds (ps := ["source", "values"]) fun _ _ _ _ _ _ us hl => match us, hl with | [_, _], _ => rfl
  have F__law_word := fun_mk (st := s__law_word) l__law_word c__law_word k__law_word
  have b__law_word := F__law_word.binds (ps := ["source", "size"]) fun _ _ _ _ _ _ us hl => match us, hl with | [_, _], _ => rfl
  have F__law_shapes := fun_mk (st := s__law_shapes) l__law_shapes c__law_shapes k__law_shapes
  have b__law_shapes := F__law_shapes.binds (ps := ["source"]) fun _ _ _ _ _ _ us hl => match us, hl with | [_], _ => rfl
  have F__law_atoms := fun_mk (st := s__law_atoms) l__law_atoms c__law_atoms k__law_atoms
  have b__law_atoms := F__law_atoms.binds (ps := ["source", "shapes", "variables", "most"]) fun _ _ _ _ _ _ us hl => match us, hl with | [_, _, _, _], _ => rfl
  have F__law_variables := fun_mk (st := s__law_variables) l__law_variables c__law_variables k__law_variables
  have b__law_variables := F__law_variables.binds (ps := ["source", "most"]) fun _ _ _ _ _ _ us hl => match us, hl with | [_, _], _ => rfl
  have F__law_parts := fun_mk (st := s__law_parts) l__law_parts c__law_parts k__law_parts
  have b__law_parts := F__law_parts.binds (ps := ["source", "shapes", "most", "width"]) fun _ _ _ _ _ _ us hl => match us, hl with | [_, _, _, _], _ => rfl
  have F__law_raised := fun_mk (st := s__law_raised) l__law_raised c__law_raised k__law_raised
  have b__law_raised := F__law_raised.binds (ps := ["query", "value"]) fun _ _ _ _ _ _ us hl => match us, hl with | [_, _], _ => rfl
  have F__law_named := fun_mk (st := s__law_named) l__law_named c__law_named k__law_named
  have b__law_named := F__law_named.binds (ps := ["names", "leads", "some"]) fun _ _ _ _ _ _ us hl => match us, hl with | [_, _, _], _ => rfl
  have F__law_image_holds := fun_mk (st := s__law_image_holds) l__law_image_holds c__law_image_holds k__law_image_holds
  have b__law_image_holds := F__law_image_holds.binds (ps := ["source", "query", "first", "parts", "met"]) fun _ _ _ _ _ _ us hl => match us, hl with | [_, _, _, _, _], _ => rfl
  have F_law := fun_mk (st := s_law) l_law c_law k_law
  have b_law := F_law.binds (ps := ["script"]) fun _ _ _ _ _ _ us hl => match us, hl with | [_], _ => rfl
  have F_iqi := fun_mk (st := s_iq_init) l_iqi c_iqi k_iqi
  have b_iqi := F_iqi.binds (ps := ["self", "reason"]) fun _ _ _ _ _ _ us hl => match us, hl with | [_, _], _ => rfl
  have F_qi := fun_mk (st := s_q_init) l_qi c_qi k_qi
  have b_qi := F_qi.binds (ps := ["self", "head", "atoms"]) fun _ _ _ _ _ _ us hl => match us, hl with | [_, _, _], _ => rfl
  have F_qq := fun_mk (st := s_q_eq) l_qq c_qq k_qq
  have b_qq := F_qq.binds (ps := ["self", "other"]) fun _ _ _ _ _ _ us hl => match us, hl with | [_, _], _ => rfl
  have F_qs := fun_mk (st := s_q_str) l_qs c_qs k_qs
  have b_qs := F_qs.binds (ps := ["self"]) fun _ _ _ _ _ _ us hl => match us, hl with | [_], _ => rfl
  have F_qm := fun_mk (st := s_q_image) l_qm c_qm k_qm
  have b_qm := F_qm.binds (ps := ["self", "names"]) fun _ _ _ _ _ _ us hl => match us, hl with | [_, _], _ => rfl
  have F_qh := fun_mk (st := s_q_head) l_qh c_qh k_qh
  have b_qh := F_qh.binds (ps := ["self"]) fun _ _ _ _ _ _ us hl => match us, hl with | [_], _ => rfl
  have F_qa := fun_mk (st := s_q_atoms) l_qa c_qa k_qa
  have b_qa := F_qa.binds (ps := ["self"]) fun _ _ _ _ _ _ us hl => match us, hl with | [_], _ => rfl
  have F_qv := fun_mk (st := s_q_vars) l_qv c_qv k_qv
  have b_qv := F_qv.binds (ps := ["self"]) fun _ _ _ _ _ _ us hl => match us, hl with | [_], _ => rfl
  have F_qp := fun_mk (st := s_q_places) l_qp c_qp k_qp
  have b_qp := F_qp.binds (ps := ["self"]) fun _ _ _ _ _ _ us hl => match us, hl with | [_], _ => rfl
  have T : Txt { f_is_name := f_is_name, fd_is_name := _, f_is_tuple_of_names := f_is_tuple_of_names, fd_is_tuple_of_names := _, f__query_error := f__query_error, fd__query_error := _, f__is_atom := f__is_atom, fd__is_atom := _, f__different_variables := f__different_variables, fd__different_variables := _, f_moved_head := f_moved_head, fd_moved_head := _, f_moved_atoms := f_moved_atoms, fd_moved_atoms := _, f__renamed := f__renamed, fd__renamed := _, f__replaced := f__replaced, fd__replaced := _, f__law_source := f__law_source, fd__law_source := _, f__law_draw := f__law_draw, fd__law_draw := _, f__law_pick := f__law_pick, fd__law_pick := _, f__law_shuffle := f__law_shuffle, fd__law_shuffle := _, f__law_word := f__law_word, fd__law_word := _, f__law_shapes := f__law_shapes, fd__law_shapes := _, f__law_atoms := f__law_atoms, fd__law_atoms := _, f__law_variables := f__law_variables, fd__law_variables := _, f__law_parts := f__law_parts, fd__law_parts := _, f__law_raised := f__law_raised, fd__law_raised := _, f__law_named := f__law_named, fd__law_named := _, f__law_image_holds := f__law_image_holds, fd__law_image_holds := _, f_law := fa, fd_law := _ } K mg := { F_is_name := F_is_name, m_is_name := PySem.W.mg_of X G a_is_name, b_is_name := b_is_name, F_is_tuple_of_names := F_is_tuple_of_names, m_is_tuple_of_names := PySem.W.mg_of X G a_is_tuple_of_names, b_is_tuple_of_names := b_is_tuple_of_names, F__query_error := F__query_error, m__query_error := PySem.W.mg_of X G a__query_error, b__query_error := b__query_error, F__is_atom := F__is_atom, m__is_atom := PySem.W.mg_of X G a__is_atom, b__is_atom := b__is_atom, F__different_variables := F__different_variables, m__different_variables := PySem.W.mg_of X G a__different_variables, b__different_variables := b__different_variables, F_moved_head := F_moved_head, m_moved_head := PySem.W.mg_of X G a_moved_head, b_moved_head := b_moved_head, F_moved_atoms := F_moved_atoms, m_moved_atoms := PySem.W.mg_of X G a_moved_atoms, b_moved_atoms := b_moved_atoms, F__renamed := F__renamed, m__renamed := PySem.W.mg_of X G a__renamed, b__renamed := b__renamed, F__replaced := F__replaced, m__replaced := PySem.W.mg_of X G a__replaced, b__replaced := b__replaced, F__law_source := F__law_source, m__law_source := PySem.W.mg_of X G a__law_source, b__law_source := b__law_source, F__law_draw := F__law_draw, m__law_draw := PySem.W.mg_of X G a__law_draw, b__law_draw := b__law_draw, F__law_pick := F__law_pick, m__law_pick := PySem.W.mg_of X G a__law_pick, b__law_pick := b__law_pick, F__law_shuffle := F__law_shuffle, m__law_shuffle := PySem.W.mg_of X G a__law_shuffle, b__law_shuffle := b__law_shuffle, F__law_word := F__law_word, m__law_word := PySem.W.mg_of X G a__law_word, b__law_word := b__law_word, F__law_shapes := F__law_shapes, m__law_shapes := PySem.W.mg_of X G a__law_shapes, b__law_shapes := b__law_shapes, F__law_atoms := F__law_atoms, m__law_atoms := PySem.W.mg_of X G a__law_atoms, b__law_atoms := b__law_atoms, F__law_variables := F__law_variables, m__law_variables := PySem.W.mg_of X G a__law_variables, b__law_variables := b__law_variables, F__law_parts := F__law_parts, m__law_parts := PySem.W.mg_of X G a__law_parts, b__law_parts := b__law_parts, F__law_raised := F__law_raised, m__law_raised := PySem.W.mg_of X G a__law_raised, b__law_raised := b__law_raised, F__law_named := F__law_named, m__law_named := PySem.W.mg_of X G a__law_named, b__law_named := b__law_named, F__law_image_holds := F__law_image_holds, m__law_image_holds := PySem.W.mg_of X G a__law_image_holds, b__law_image_holds := b__law_image_holds, F_law := F_law, m_law := PySem.W.mg_of X G a_law, b_law := b_law, m_int := PySem.W.mg_none_of X G z_int, m_len := PySem.W.mg_none_of X G z_len, m_range := PySem.W.mg_none_of X G z_range, m_tuple := PySem.W.mg_none_of X G z_tuple, m_list := PySem.W.mg_none_of X G z_list, m_set := PySem.W.mg_none_of X G z_set, m_sorted := PySem.W.mg_none_of X G z_sorted, m_isinstance := PySem.W.mg_none_of X G z_isinstance, m_str := PySem.W.mg_none_of X G z_str, m_abs := PySem.W.mg_none_of X G z_abs, m_enumerate := PySem.W.mg_none_of X G z_enumerate, m_all := PySem.W.mg_none_of X G z_all, m_ValueError := PySem.W.mg_none_of X G z_ValueError, m_dict := PySem.W.mg_none_of X G z_dict, m_zip := PySem.W.mg_none_of X G z_zip, m_LONGEST_NAME := ⟨_, PySem.W.mg_of X G n_LONGEST_NAME⟩, m_MOST_IN_HEAD := ⟨_, PySem.W.mg_of X G n_MOST_IN_HEAD⟩, m_MOST_ATOMS := ⟨_, PySem.W.mg_of X G n_MOST_ATOMS⟩, m_MOST_PLACES := ⟨_, PySem.W.mg_of X G n_MOST_PLACES⟩, m_MOST_VARIABLES := ⟨_, PySem.W.mg_of X G n_MOST_VARIABLES⟩ }
  have oE : OexC K CE := ⟨⟨nmE, qnE, NNE, bsE, _, snE, subE, abE, colE, ddE, k0E, k1E, k2E, k3E, k5E, xE, rfl⟩, saE, exE, tyE, kE⟩
  have IQ : IsC K CQ := ⟨⟨pgQ, hdQ, poQ, saQ⟩, haQ, hn, ht, hmQ, icQ, tyQ, fun d hd => match d, hd with
    | .non, _ => noQ_NoneType
    | .bl _, _ => noQ_bool
    | .int _, _ => noQ_int
    | .str _, _ => noQ_str
    | .tup _, _ => noQ_tuple
    | .lst _, _ => noQ_list
    | .obj _, hd => (nomatch hd)
    | .ins _ _ _, hd => (nomatch hd)
    | .dct _ _, hd => (nomatch hd)⟩
  have U : QTxt K mg CQ f_qi CE f_iqi _ _ := { gE := PySem.W.mg_of X G gE, oE := oE, iE := a_iqi, tE := tIE, FE := F_iqi, bE := b_iqi, nE := nE, gQ := PySem.W.mg_of X G gQ, kQ := ⟨mkQ, a_qi, fnQ, kQ⟩, FQ := F_qi, bQ := b_qi, cQ := ⟨pgQ, hdQ, poQ, saQ⟩, nH := nH, nA := nA, nV := nV }
  have V : PTxt K mg CQ p_qh p_qa p_qv p_qp f_qh f_qa f_qv f_qp _ _ _ _ := { rh := ⟨a_qh, g_qh, t_qh, _, r_qh⟩, Fh := F_qh, bh := b_qh, ra := ⟨a_qa, g_qa, t_qa, _, r_qa⟩, Fa := F_qa, ba := b_qa, rv := ⟨a_qv, g_qv, t_qv, _, r_qv⟩, Fv := F_qv, bv := b_qv, rp := ⟨a_qp, g_qp, t_qp, _, r_qp⟩, Fp := F_qp, bp := b_qp }
  have W : ITxt K mg CQ CIM f_qm _ := { gM := PySem.W.mg_of X G gIM, qM := qIM, kM := kIM, bM := exIM, tM := tyIM, mi := ⟨a_qm, fnqm, k_qm⟩, Fi := F_qm, bi := b_qm }
  have S : STxt K mg CIM CM := { gE := PySem.W.mg_of X G gM, exm := PySem.W.exm_ref exM hdM tyM smIM, eC := ⟨gaIM, ggIM, exIM, hdIM, haIM, hn, ht, hmIM⟩, one1 := one_self, one2 := one_type (by decide +kernel) svIM, one0 := one_none icIM tyIM snIM_, m_ValueError := PySem.W.mg_none_of X G z_ValueError }
  have Y : MTxt K mg CQ f_qq f_qs _ _ := { ic := IQ, Fq := F_qq, bq := b_qq, aq := a_qq, nq := neQ, iq := fnqq, Fs := F_qs, bs := b_qs, as_ := a_qs, is_ := fnqs }
  exact ⟨_, fun s u => .of_eq rfl, fun base _ _ => runs_law T U V W S Y ⟨rfl, by decide, by decide⟩⟩
theorem walk {l : PySem.W.OpenLaw} {q : Program} {loose : List Str} {XP : (Str → Option Value) → Heap → Prop} {YP : World → Heap → Prop} {d : DefRec} {K : Params → PySem.W.Frag} (most : l.most = some 63) (plain : d.params.defaults = [])
    (written : ∀ (w : World) (h : Heap), YP w h → (K w.params).In h)
    (F : ∀ (w : World) (mg : Str → Option Value) (fa : Addr) (h : Heap), (K w.params).In h → h.Ns mainGlobals mg → mg d.name = some (.ref fa) →
      ∃ fd : FuncData, (∀ (s : Shared) (u : Value), BindsTo s fd ⟨[u], []⟩ [("script", u)]) ∧ ∀ base : Heap, (K w.params).In base → base.Ns mainGlobals mg → RunsAt l.prog w (K w.params) mg base callerA fa fd ["script"] (spLaw (K w.params))) :
    PySem.W.WalkO q loose XP YP l.row.toRowW d [] (fun f vs => PySem.call f vs) :=
  walk_at (n := 63) (x := "script") (sp := fun w => spLaw (K w.params)) most (by decide) plain written F fun _ _ a ns _ _ sq => ⟨a, ns, rfl, sq, fun _ => rfl⟩
end K02
/-! text K02F -/
set_option Elab.async false
open PySem PySem.W PyProof.Rows
set_option maxRecDepth 100000 in
set_option maxHeartbeats 0 in
theorem PySem.Challenge.cw_marktables_k02_queries_holds : PySem.Challenge.rw_marktables_k02_queries.Holds := by
  refine head02 ?_
  k_fill
  refine K02.walk (l := PySem.Challenge.rw_marktables_k02_queries) rfl rfl (fun w h Y => PySem.W.kIn_of Y) ?F
  case F =>
    intro w mg fa h KX G hmg
    refine' K02.all_mk KX G hmg ?a_is_name ?l_is_name ?c_is_name ?k_is_name ?a_is_tuple_of_names ?l_is_tuple_of_names ?c_is_tuple_of_names ?k_is_tuple_of_names ?a__query_error ?l__query_error ?c__query_error ?k__query_error ?a__is_atom ?l__is_atom ?c__is_atom ?k__is_atom ?a__different_variables ?l__different_variables ?c__different_variables ?k__different_variables ?a_moved_head ?l_moved_head ?c_moved_head ?k_moved_head ?a_moved_atoms ?l_moved_atoms ?c_moved_atoms ?k_moved_atoms ?a__renamed ?l__renamed ?c__renamed ?k__renamed ?a__replaced ?l__replaced ?c__replaced ?k__replaced ?a__law_source ?l__law_source ?c__law_source ?k__law_source ?a__law_draw ?l__law_draw ?c__law_draw ?k__law_draw ?a__law_pick ?l__law_pick ?c__law_pick ?k__law_pick ?a__law_shuffle ?l__law_shuffle ?c__law_shuffle ?k__law_shuffle ?a__law_word ?l__law_word ?c__law_word ?k__law_word ?a__law_shapes ?l__law_shapes ?c__law_shapes ?k__law_shapes ?a__law_atoms ?l__law_atoms ?c__law_atoms ?k__law_atoms ?a__law_variables ?l__law_variables ?c__law_variables ?k__law_variables ?a__law_parts ?l__law_parts ?c__law_parts ?k__law_parts ?a__law_raised ?l__law_raised ?c__law_raised ?k__law_raised ?a__law_named ?l__law_named ?c__law_named ?k__law_named ?a__law_image_holds ?l__law_image_holds ?c__law_image_holds ?k__law_image_holds ?a_law ?l_law ?c_law ?k_law ?a_iqi ?l_iqi ?c_iqi ?k_iqi ?a_qi ?l_qi ?c_qi ?k_qi ?a_qq ?l_qq ?c_qq ?k_qq ?a_qs ?l_qs ?c_qs ?k_qs ?a_qm ?l_qm ?c_qm ?k_qm ?a_qh ?r_qh ?g_qh ?t_qh ?l_qh ?c_qh ?k_qh ?a_qa ?r_qa ?g_qa ?t_qa ?l_qa ?c_qa ?k_qa ?a_qv ?r_qv ?g_qv ?t_qv ?l_qv ?c_qv ?k_qv ?a_qp ?r_qp ?g_qp ?t_qp ?l_qp ?c_qp ?k_qp ?z_int ?z_len ?z_range ?z_tuple ?z_list ?z_set ?z_sorted ?z_isinstance ?z_str ?z_abs ?z_enumerate ?z_all ?z_ValueError ?z_dict ?z_zip ?n_LONGEST_NAME ?n_MOST_IN_HEAD ?n_MOST_ATOMS ?n_MOST_PLACES ?n_MOST_VARIABLES ?gE ?gIM ?gM ?gQ ?xE ?saE ?tIE ?nE ?exE ?tyE ?kE ?exIM ?tyIM ?kIM ?qIM ?hdIM ?smIM ?gaIM ?ggIM ?haIM ?hn ?ht ?hmIM ?svIM ?icIM ?snIM_ ?exM ?hdM ?tyM ?mkQ ?fnQ ?kQ ?pgQ ?hdQ ?poQ ?saQ ?nH ?nA ?nV ?haQ ?hmQ ?icQ ?tyQ ?noQ_NoneType ?noQ_bool ?noQ_int ?noQ_str ?noQ_tuple ?noQ_list ?neQ ?fnqq ?fnqs ?fnqm
    (case gE => k_is)
    (case gIM => k_is)
    (case gM => k_is)
    (case gQ => k_is)
    (case a_qh => k_is)
    (case r_qh => k_is)
    (case a_qa => k_is)
    (case r_qa => k_is)
    (case a_qv => k_is)
    (case r_qv => k_is)
    (case a_qp => k_is)
    (case r_qp => k_is)
    (case a_is_name => k_is)
    (case l_is_name => k_is)
    (case c_is_name => k_is)
    (case k_is_name => k_is)
    (case a_is_tuple_of_names => k_is)
    (case l_is_tuple_of_names => k_is)
    (case c_is_tuple_of_names => k_is)
    (case k_is_tuple_of_names => k_is)
    (case a__query_error => k_is)
    (case l__query_error => k_is)
    (case c__query_error => k_is)
    (case k__query_error => k_is)
    (case a__is_atom => k_is)
    (case l__is_atom => k_is)
    (case c__is_atom => k_is)
    (case k__is_atom => k_is)
    (case a__different_variables => k_is)
    (case l__different_variables => k_is)
    (case c__different_variables => k_is)
    (case k__different_variables => k_is)
    (case a_moved_head => k_is)
    (case l_moved_head => k_is)
    (case c_moved_head => k_is)
    (case k_moved_head => k_is)
    (case a_moved_atoms => k_is)
    (case l_moved_atoms => k_is)
    (case c_moved_atoms => k_is)
    (case k_moved_atoms => k_is)
    (case a__renamed => k_is)
    (case l__renamed => k_is)
    (case c__renamed => k_is)
    (case k__renamed => k_is)
    (case a__replaced => k_is)
    (case l__replaced => k_is)
    (case c__replaced => k_is)
    (case k__replaced => k_is)
    (case a__law_source => k_is)
    (case l__law_source => k_is)
    (case c__law_source => k_is)
    (case k__law_source => k_is)
    (case a__law_draw => k_is)
    (case l__law_draw => k_is)
    (case c__law_draw => k_is)
    (case k__law_draw => k_is)
    (case a__law_pick => k_is)
    (case l__law_pick => k_is)
    (case c__law_pick => k_is)
    (case k__law_pick => k_is)
    (case a__law_shuffle => k_is)
    (case l__law_shuffle => k_is)
    (case c__law_shuffle => k_is)
    (case k__law_shuffle => k_is)
    (case a__law_word => k_is)
    (case l__law_word => k_is)
    (case c__law_word => k_is)
    (case k__law_word => k_is)
    (case a__law_shapes => k_is)
    (case l__law_shapes => k_is)
    (case c__law_shapes => k_is)
    (case k__law_shapes => k_is)
    (case a__law_atoms => k_is)
    (case l__law_atoms => k_is)
    (case c__law_atoms => k_is)
    (case k__law_atoms => k_is)
    (case a__law_variables => k_is)
    (case l__law_variables => k_is)
    (case c__law_variables => k_is)
    (case k__law_variables => k_is)
    (case a__law_parts => k_is)
    (case l__law_parts => k_is)
    (case c__law_parts => k_is)
    (case k__law_parts => k_is)
    (case a__law_raised => k_is)
    (case l__law_raised => k_is)
    (case c__law_raised => k_is)
    (case k__law_raised => k_is)
    (case a__law_named => k_is)
    (case l__law_named => k_is)
    (case c__law_named => k_is)
    (case k__law_named => k_is)
    (case a__law_image_holds => k_is)
    (case l__law_image_holds => k_is)
    (case c__law_image_holds => k_is)
    (case k__law_image_holds => k_is)
    (case a_law => k_is)
    (case l_law => k_is)
    (case c_law => k_is)
    (case k_law => k_is)
    (case a_iqi => k_is)
    (case l_iqi => k_is)
    (case c_iqi => k_is)
    (case k_iqi => k_is)
    (case a_qi => k_is)
    (case l_qi => k_is)
    (case c_qi => k_is)
    (case k_qi => k_is)
    (case a_qq => k_is)
    (case l_qq => k_is)
    (case c_qq => k_is)
    (case k_qq => k_is)
    (case a_qs => k_is)
    (case l_qs => k_is)
    (case c_qs => k_is)
    (case k_qs => k_is)
    (case a_qm => k_is)
    (case l_qm => k_is)
    (case c_qm => k_is)
    (case k_qm => k_is)
    (case g_qh => k_is)
    (case t_qh => k_is)
    (case l_qh => k_is)
    (case c_qh => k_is)
    (case k_qh => k_is)
    (case g_qa => k_is)
    (case t_qa => k_is)
    (case l_qa => k_is)
    (case c_qa => k_is)
    (case k_qa => k_is)
    (case g_qv => k_is)
    (case t_qv => k_is)
    (case l_qv => k_is)
    (case c_qv => k_is)
    (case k_qv => k_is)
    (case g_qp => k_is)
    (case t_qp => k_is)
    (case l_qp => k_is)
    (case c_qp => k_is)
    (case k_qp => k_is)
    (case z_int => k_is)
    (case z_len => k_is)
    (case z_range => k_is)
    (case z_tuple => k_is)
    (case z_list => k_is)
    (case z_set => k_is)
    (case z_sorted => k_is)
    (case z_isinstance => k_is)
    (case z_str => k_is)
    (case z_abs => k_is)
    (case z_enumerate => k_is)
    (case z_all => k_is)
    (case z_ValueError => k_is)
    (case z_dict => k_is)
    (case z_zip => k_is)
    (case n_LONGEST_NAME => k_is)
    (case n_MOST_IN_HEAD => k_is)
    (case n_MOST_ATOMS => k_is)
    (case n_MOST_PLACES => k_is)
    (case n_MOST_VARIABLES => k_is)
    (case xE => k_is)
    (case saE => k_is)
    (case tIE => k_is)
    (case nE => k_is)
    (case exE => k_is)
    (case tyE => k_is)
    (case kE => k_is)
    (case exIM => k_is)
    (case tyIM => k_is)
    (case kIM => k_is)
    (case qIM => k_exc)
    (case hdIM => k_is)
    (case smIM => k_is)
    (case gaIM => k_is)
    (case ggIM => k_is)
    (case haIM => k_is)
    (case hn => k_is)
    (case ht => k_is)
    (case hmIM => k_is)
    (case svIM => k_is)
    (case icIM => k_is)
    (case snIM_ => k_is)
    (case exM => k_is)
    (case hdM => k_is)
    (case tyM => k_is)
    (case mkQ => k_is)
    (case fnQ => k_is)
    (case kQ => k_is)
    (case pgQ => k_is)
    (case hdQ => k_is)
    (case poQ => k_is)
    (case saQ => k_is)
    (case nH => k_is)
    (case nA => k_is)
    (case nV => k_is)
    (case haQ => k_is)
    (case hmQ => k_is)
    (case icQ => k_is)
    (case tyQ => k_is)
    (case noQ_NoneType => k_is)
    (case noQ_bool => k_is)
    (case noQ_int => k_is)
    (case noQ_str => k_is)
    (case noQ_tuple => k_is)
    (case noQ_list => k_is)
    (case neQ => k_is)
    (case fnqq => k_is)
    (case fnqs => k_is)
    (case fnqm => k_is)
