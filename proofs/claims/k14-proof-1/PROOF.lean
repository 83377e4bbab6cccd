import PyProof.Rows.All
import Wide.All
import OpenK.AllK
import Wide.FinOn
import HandS.Base
import HandS.Call
import HandS.List
import HandS.Comp
import HandS.Ends
import HandS.Words
import HandS.WordsList
import HandS.More
import HandS.Wide
import HandS.Text
import HandS.TupAny
import HandS.TupMul
import HandS.NoneIn
import HandS.Iter
import HandS.Set
import HandS.SetFor
import HandS.SetTxt0
import HandS.SetKeys
import HandS.SetBool
import PyProof.Rows.SortShellAny
import PyProof.Rows.RuleB_pow
import PyProof.P3Eq
import KE.GoesEnum
import HandS.IsInst
import HandS.StrMore
import PyProof.ReprRoads
import PyProof.ReprLen
import HandS.Exc
import HandS.ExcIs
import HandS.ExcField
import HandS.ExcInit
import HandS.ExcOwn
import HandS.Property
import KE.KCallOwn
import PyProof.InstNe
import HandS.WordsExc
import HandS.Star
import PyProof.Rows.StrItems
import PyProof.Rows.StrSplitAre
import PyProof.Rows.StrFacts
import HandS.ExcInitHot
import HandS.ClsMeth
import HandS.TupSets
import KE.KeyNested
import KE.SortKeyHeap
import KE.SortLaws
import HandS.Dict
import HandS.DictComp
import HandS.Zip
import KE.KDictZip
import HandS.ListItems
import HandS.Style
import PyProof.StrOps2
import KE.KOpsOwn
import HandS.ListEq
import HandS.DeepEq
import PyProof.NeKinds
import HandS.Deep
import PyProof.P3In
import KE.KOwnIter
import HandS.OwnEq
import PyProof.CallFns
import KE.KRevSl
import PySem.Challenge.RW_marktables_k14_tables_errors
/-! text Hd14 -/
set_option Elab.async false
open PySem PySem.W PyProof.Rows
set_option maxRecDepth 100000
set_option maxHeartbeats 0
open_top head14 for PySem.Challenge.rw_marktables_k14_tables_errors
/-! text Pl0 -/
set_option Elab.async false
set_option linter.all false
set_option maxRecDepth 100000
/-! Pl: a layer of pure data over the readings of the hand layer. -/
namespace Pl
open PySem PySem.Spec PyProof.Rows L2

/-- pure data -/
inductive D where
  | non | bl (b : Bool) | int (i : Int) | str (x : Str) | obj (a : Addr)
  | tup (l : List D) | lst (l : List D) | ins (C : Addr) (ks : List Str) (l : List D)
  /-- a dict that no one changes -/
  | dct (ks : List L2.Key) (l : List D)

mutual
def Rep (K : PySem.W.Frag) (M : List Addr) (H : Hp) : D → V → Prop
  | .non, v => v = .non
  | .bl b, v => v = .bl b
  | .int i, v => v = .int i
  | .str x, v => v = .str x
  | .obj a, v => v = .ref a
  | .tup l, v => ∃ a xs, v = .ref a ∧ SqT K H a xs ∧ RepL K M H l xs
  | .lst l, v => ∃ a xs, v = .ref a ∧ a ∉ M ∧ H a = some (.lst xs) ∧ RepL K M H l xs
  | .ins C ks l, v => ∃ a dx fs, v = .ref a ∧ a ∉ M ∧ H a = some (.ins C dx fs) ∧ fs.map (·.1) = ks ∧ RepL K M H l (fs.map (·.2))
  | .dct ks l, v => ∃ a o fs, v = .ref a ∧ H a = some (.frz o (.dK fs)) ∧ fs.map (·.1) = ks ∧ RepL K M H l (fs.map (·.2))
def RepL (K : PySem.W.Frag) (M : List Addr) (H : Hp) : List D → List V → Prop
  | [], [] => True
  | d :: ds, v :: vs => Rep K M H d v ∧ RepL K M H ds vs
  | _, _ => False
end

def fixed : HO → Bool
  | .tup _ => true
  | .frz _ _ => true
  | _ => false
/-- all but what stands at M is as it was -/
def Gr (M : List Addr) (H H' : Hp) : Prop := ∀ a o, H a = some o → (a ∉ M ∨ fixed o = true) → H' a = some o
theorem Gr.refl (M : List Addr) (H : Hp) : Gr M H H := fun _ _ h _ => h
theorem Gr.trans {M : List Addr} {H H1 H2 : Hp} (a : Gr M H H1) (b : Gr M H1 H2) : Gr M H H2 := fun x o h m => b x o (a x o h m) m
theorem Gr.mono {M M' : List Addr} {H H' : Hp} (g : Gr M H H') (h : ∀ a ∈ M, a ∈ M') : Gr M' H H' := fun a o e m => g a o e (m.imp (fun q z => q (h a z)) id)
theorem Gr.new {M : List Addr} {H : Hp} {p : Addr} {o : HO} (h : H p = none) : Gr M H (upd H p o) := fun a u e _ => by
  rw [upd_ne (ne_of_none e h)]
  exact e
theorem Gr.put {M : List Addr} {H H' : Hp} {p : Addr} {o : HO} (g : Gr M H H') (h : H p = none) : Gr M H (upd H' p o) := fun a u e m => by
  rw [upd_ne (ne_of_none e h)]
  exact g a u e m
theorem Gr.none {M : List Addr} {H H' : Hp} {p : Addr} (g : Gr M H H') (h : H' p = none) (hp : p ∉ M) : H p = none := by
  cases q : H p with
  | none => rfl
  | some o =>
    rw [g p o q (.inl hp)] at h
    cases h

section
variable {K : PySem.W.Frag} {M M' : List Addr} {H H' : Hp}
theorem gr_rd {a : Addr} {o : HO} (g : Gr M H H') (hf : a ∉ M ∨ fixed o = true) (h : Rd H a o) : Rd H' a o := by
  rcases h with h | ⟨u, h⟩
  · exact .inl (g a _ h hf)
  · exact .inr ⟨u, g a _ h (.inr rfl)⟩
theorem gr_t {a : Addr} {xs : List V} (g : Gr M H H') (h : SqT K H a xs) : SqT K H' a xs := by
  rcases h with h | h
  · exact .inl (gr_rd g (.inr rfl) h)
  · exact .inr h
mutual
theorem Rep.gr (g : Gr M H H') : ∀ {d : D} {v : V}, Rep K M H d v → Rep K M H' d v
  | .non, _, h => h
  | .bl _, _, h => h
  | .int _, _, h => h
  | .str _, _, h => h
  | .obj _, _, h => h
  | .tup _, _, h => by
    obtain ⟨a, xs, e, q, r⟩ := h
    exact ⟨a, xs, e, gr_t g q, RepL.gr g r⟩
  | .lst _, _, h => by
    obtain ⟨a, xs, e, m, q, r⟩ := h
    exact ⟨a, xs, e, m, g a _ q (.inl m), RepL.gr g r⟩
  | .ins _ _ _, _, h => by
    obtain ⟨a, dx, fs, e, m, q, k, r⟩ := h
    exact ⟨a, dx, fs, e, m, g a _ q (.inl m), k, RepL.gr g r⟩
  | .dct _ _, _, h => by
    obtain ⟨a, o, fs, e, q, k, r⟩ := h
    exact ⟨a, o, fs, e, g a _ q (.inr rfl), k, RepL.gr g r⟩
theorem RepL.gr (g : Gr M H H') : ∀ {ds : List D} {vs : List V}, RepL K M H ds vs → RepL K M H' ds vs
  | [], [], h => h
  | _ :: _, _ :: _, h => ⟨Rep.gr g h.1, RepL.gr g h.2⟩
  | [], _ :: _, h => h.elim
  | _ :: _, [], h => h.elim
end
mutual
theorem Rep.mono (hm : ∀ a ∈ M, a ∈ M') : ∀ {d : D} {v : V}, Rep K M' H d v → Rep K M H d v
  | .non, _, h => h
  | .bl _, _, h => h
  | .int _, _, h => h
  | .str _, _, h => h
  | .obj _, _, h => h
  | .tup _, _, h => by
    obtain ⟨a, xs, e, q, r⟩ := h
    exact ⟨a, xs, e, q, RepL.mono hm r⟩
  | .lst _, _, h => by
    obtain ⟨a, xs, e, m, q, r⟩ := h
    exact ⟨a, xs, e, fun z => m (hm a z), q, RepL.mono hm r⟩
  | .ins _ _ _, _, h => by
    obtain ⟨a, dx, fs, e, m, q, k, r⟩ := h
    exact ⟨a, dx, fs, e, fun z => m (hm a z), q, k, RepL.mono hm r⟩
  | .dct _ _, _, h => by
    obtain ⟨a, o, fs, e, q, k, r⟩ := h
    exact ⟨a, o, fs, e, q, k, RepL.mono hm r⟩
theorem RepL.mono (hm : ∀ a ∈ M, a ∈ M') : ∀ {ds : List D} {vs : List V}, RepL K M' H ds vs → RepL K M H ds vs
  | [], [], h => h
  | _ :: _, _ :: _, h => ⟨Rep.mono hm h.1, RepL.mono hm h.2⟩
  | [], _ :: _, h => h.elim
  | _ :: _, [], h => h.elim
end
theorem rd_some {a : Addr} {o : HO} (h : Rd H a o) : ∃ u, H a = some u := by
  rcases h with h | ⟨u, h⟩
  · exact ⟨_, h⟩
  · exact ⟨_, h⟩
mutual
/-- an address that holds nothing may be set apart -/
theorem Rep.apart {p : Addr} (hp : H p = none) : ∀ {d : D} {v : V}, Rep K M H d v → Rep K (p :: M) H d v
  | .non, _, h => h
  | .bl _, _, h => h
  | .int _, _, h => h
  | .str _, _, h => h
  | .obj _, _, h => h
  | .tup _, _, h => by
    obtain ⟨a, xs, e, q, r⟩ := h
    exact ⟨a, xs, e, q, RepL.apart hp r⟩
  | .lst _, _, h => by
    obtain ⟨a, xs, e, m, q, r⟩ := h
    refine ⟨a, xs, e, fun z => ?_, q, RepL.apart hp r⟩
    rcases List.mem_cons.mp z with z | z
    · exact ne_of_none q hp z
    · exact m z
  | .ins _ _ _, _, h => by
    obtain ⟨a, dx, fs, e, m, q, k, r⟩ := h
    refine ⟨a, dx, fs, e, fun z => ?_, q, k, RepL.apart hp r⟩
    rcases List.mem_cons.mp z with z | z
    · exact ne_of_none q hp z
    · exact m z
  | .dct _ _, _, h => by
    obtain ⟨a, o, fs, e, q, k, r⟩ := h
    exact ⟨a, o, fs, e, q, k, RepL.apart hp r⟩
theorem RepL.apart {p : Addr} (hp : H p = none) : ∀ {ds : List D} {vs : List V}, RepL K M H ds vs → RepL K (p :: M) H ds vs
  | [], [], h => h
  | _ :: _, _ :: _, h => ⟨Rep.apart hp h.1, RepL.apart hp h.2⟩
  | [], _ :: _, h => h.elim
  | _ :: _, [], h => h.elim
end
end
end Pl
/-! text Pl1 -/
set_option Elab.async false
set_option linter.all false
set_option maxRecDepth 100000
namespace Pl
open PySem PySem.Spec PyProof.Rows L2

/-- the heap without the addresses O -/
def minus (H : Hp) (O : List Addr) : Hp := fun a => if a ∈ O then none else H a
theorem minus_in {H : Hp} {O : List Addr} {a : Addr} (h : a ∈ O) : minus H O a = none := if_pos h
theorem minus_out {H : Hp} {O : List Addr} {a : Addr} (h : a ∉ O) : minus H O a = H a := if_neg h
theorem minus_some {H : Hp} {O : List Addr} {a : Addr} {o : HO} (h : minus H O a = some o) : a ∉ O ∧ H a = some o := by
  by_cases q : a ∈ O
  · rw [minus_in q] at h; cases h
  · rw [minus_out q] at h; exact ⟨q, h⟩

section
variable {K : PySem.W.Frag} {M M' O : List Addr} {H H' : Hp}
theorem rd_minus {a : Addr} {u : HO} (hO : a ∉ O) (h : Rd H a u) : Rd (minus H O) a u := by
  rcases h with h | ⟨o, h⟩
  · exact .inl (by rw [minus_out hO]; exact h)
  · exact .inr ⟨o, by rw [minus_out hO]; exact h⟩
theorem t_minus {a : Addr} {xs : List V} (hO : ∀ o ∈ O, ∃ ys, H o = some (.lst ys)) (h : SqT K H a xs) : SqT K (minus H O) a xs := by
  rcases h with h | h
  · refine .inl (rd_minus (fun z => ?_) h)
    obtain ⟨ys, e⟩ := hO a z
    rcases h with h | ⟨o, h⟩ <;> (rw [e] at h; cases h)
  · exact .inr h
mutual
theorem Rep.minus (hO : ∀ o ∈ O, ∃ ys, H o = some (.lst ys)) : ∀ {d : D} {v : V}, Rep K (O ++ M) H d v → Rep K M (minus H O) d v
  | .non, _, h => h
  | .bl _, _, h => h
  | .int _, _, h => h
  | .str _, _, h => h
  | .obj _, _, h => h
  | .tup _, _, h => by
    obtain ⟨a, xs, e, q, r⟩ := h
    exact ⟨a, xs, e, t_minus hO q, RepL.minus hO r⟩
  | .lst _, _, h => by
    obtain ⟨a, xs, e, m, q, r⟩ := h
    exact ⟨a, xs, e, fun z => m (List.mem_append_right _ z), by rw [minus_out fun z => m (List.mem_append_left _ z)]; exact q, RepL.minus hO r⟩
  | .ins _ _ _, _, h => by
    obtain ⟨a, dx, fs, e, m, q, k, r⟩ := h
    exact ⟨a, dx, fs, e, fun z => m (List.mem_append_right _ z), by rw [minus_out fun z => m (List.mem_append_left _ z)]; exact q, k, RepL.minus hO r⟩
  | .dct _ _, _, h => by
    obtain ⟨a, o, fs, e, q, k, r⟩ := h
    exact ⟨a, o, fs, e, by rw [minus_out fun z => by obtain ⟨ys, e2⟩ := hO a z; rw [q] at e2; cases e2]; exact q, k, RepL.minus hO r⟩
theorem RepL.minus (hO : ∀ o ∈ O, ∃ ys, H o = some (.lst ys)) : ∀ {ds : List D} {vs : List V}, RepL K (O ++ M) H ds vs → RepL K M (minus H O) ds vs
  | [], [], h => h
  | _ :: _, _ :: _, h => ⟨Rep.minus hO h.1, RepL.minus hO h.2⟩
  | [], _ :: _, h => h.elim
  | _ :: _, [], h => h.elim
end
theorem Rep.parts {d : D} {v : V} : ∀ {O : List Addr}, (∀ o ∈ O, H o = none) → Rep K M H d v → Rep K (O ++ M) H d v
  | [], _, h => h
  | o :: O, hO, h => Rep.apart (hO o List.mem_cons_self) (Rep.parts (fun p hp => hO p (List.mem_cons_of_mem _ hp)) h)
theorem RepL.parts {d : List D} {v : List V} : ∀ {O : List Addr}, (∀ o ∈ O, H o = none) → RepL K M H d v → RepL K (O ++ M) H d v
  | [], _, h => h
  | o :: O, hO, h => RepL.apart (hO o List.mem_cons_self) (RepL.parts (fun p hp => hO p (List.mem_cons_of_mem _ hp)) h)
theorem RepL.length : ∀ {ds : List D} {vs : List V}, RepL K M H ds vs → ds.length = vs.length
  | [], [], _ => rfl
  | _ :: _, _ :: _, h => congrArg (· + 1) (RepL.length h.2)
  | [], _ :: _, h => h.elim
  | _ :: _, [], h => h.elim
theorem RepL.at : ∀ {ds : List D} {vs : List V} {i : Nat} {d : D}, RepL K M H ds vs → ds[i]? = some d → ∃ v, vs[i]? = some v ∧ Rep K M H d v
  | [], [], _, _, _, e => by simp at e
  | d :: _, v :: _, 0, _, h, e => by
    simp at e; subst e
    exact ⟨v, rfl, h.1⟩
  | _ :: ds, _ :: vs, i + 1, d, h, e => by
    obtain ⟨v, e1, r⟩ := RepL.at (i := i) (d := d) h.2 (by simpa using e)
    exact ⟨v, by simpa using e1, r⟩
  | [], _ :: _, _, _, h, _ => h.elim
  | _ :: _, [], _, _, h, _ => h.elim
theorem RepL.at' {ds : List D} {vs : List V} {i : Nat} {v : V} (h : RepL K M H ds vs) (e : vs[i]? = some v) : ∃ d, ds[i]? = some d ∧ Rep K M H d v := by
  have hi : i < ds.length := by
    rw [h.length]
    exact (List.getElem?_eq_some_iff.mp e).1
  obtain ⟨u, e1, r⟩ := h.at (List.getElem?_eq_getElem hi)
  rw [e] at e1
  cases e1
  exact ⟨_, List.getElem?_eq_getElem hi, r⟩
theorem RepL.append : ∀ {ds es : List D} {vs us : List V}, RepL K M H ds vs → RepL K M H es us → RepL K M H (ds ++ es) (vs ++ us)
  | [], _, [], _, _, h => h
  | _ :: _, _, _ :: _, _, h, k => ⟨h.1, RepL.append h.2 k⟩
  | [], _, _ :: _, _, h, _ => h.elim
  | _ :: _, _, [], _, h, _ => h.elim
theorem RepL.take : ∀ {ds : List D} {vs : List V} (n : Nat), RepL K M H ds vs → RepL K M H (ds.take n) (vs.take n)
  | [], [], n, h => by simp [RepL]
  | _ :: _, _ :: _, 0, h => trivial
  | _ :: _, _ :: _, n + 1, h => ⟨h.1, RepL.take n h.2⟩
  | [], _ :: _, _, h => h.elim
  | _ :: _, [], _, h => h.elim
theorem RepL.drop : ∀ {ds : List D} {vs : List V} (n : Nat), RepL K M H ds vs → RepL K M H (ds.drop n) (vs.drop n)
  | [], [], n, h => by simp [RepL]
  | _ :: _, _ :: _, 0, h => h
  | _ :: _, _ :: _, n + 1, h => RepL.drop n h.2
  | [], _ :: _, _, h => h.elim
  | _ :: _, [], _, h => h.elim
theorem RepL.one {d : D} {v : V} (h : Rep K M H d v) : RepL K M H [d] [v] := ⟨h, trivial⟩
theorem RepL.inv1 : ∀ {d : D} {vs : List V}, RepL K M H [d] vs → ∃ v, vs = [v] ∧ Rep K M H d v
  | _, [v], h => ⟨v, rfl, h.1⟩
  | _, [], h => h.elim
  | _, _ :: _ :: _, h => h.2.elim
theorem RepL.inv2 : ∀ {d e : D} {vs : List V}, RepL K M H [d, e] vs → ∃ v w, vs = [v, w] ∧ Rep K M H d v ∧ Rep K M H e w
  | _, _, [v, w], h => ⟨v, w, rfl, h.1, h.2.1⟩
  | _, _, [], h => h.elim
  | _, _, [_], h => h.2.elim
  | _, _, _ :: _ :: _ :: _, h => h.2.2.elim
end

/-! ### the drawn source -/
def Wd (x : Int) : Prop := x.natAbs < 2 ^ 4000
structure Src (s c : Addr) (n : Nat) (H : Hp) : Prop where
  ne : s ≠ c
  ex : ∃ (t : Int) (ns : List Int), H s = some (.lst [.ref c, .int t]) ∧ H c = some (.lst (ns.map V.int)) ∧ ns ≠ [] ∧ ns.length ≤ 63 ∧ (∀ x ∈ ns, Wd x) ∧ 0 ≤ t ∧ t ≤ n
theorem Src.mono {s c : Addr} {n m : Nat} {H : Hp} (h : Src s c n H) (l : n ≤ m) : Src s c m H := by
  obtain ⟨t, ns, h1, h2, h3, h4, h5, h6, h7⟩ := h.ex
  exact ⟨h.ne, t, ns, h1, h2, h3, h4, h5, h6, by omega⟩
theorem Src.keep {s c : Addr} {n : Nat} {H H' : Hp} (h : Src s c n H) (k : ∀ a o, H a = some o → H' a = some o) : Src s c n H' := by
  obtain ⟨t, ns, h1, h2, r⟩ := h.ex
  exact ⟨h.ne, t, ns, k _ _ h1, k _ _ h2, r⟩
theorem Src.new {s c : Addr} {n : Nat} {H : Hp} {p : Addr} {o : HO} (h : Src s c n H) (hp : H p = none) : Src s c n (upd H p o) := h.keep fun a u e => by
  rw [upd_ne (ne_of_none e hp)]
  exact e
theorem Src.put {s c : Addr} {n : Nat} {H : Hp} {p : Addr} {o : HO} (h : Src s c n H) (hs : p ≠ s) (hc : p ≠ c) : Src s c n (upd H p o) := by
  obtain ⟨t, ns, h1, h2, r⟩ := h.ex
  exact ⟨h.ne, t, ns, by rw [upd_ne hs.symm]; exact h1, by rw [upd_ne hc.symm]; exact h2, r⟩
theorem Src.s_some {s c : Addr} {n : Nat} {H : Hp} (h : Src s c n H) : ∃ o, H s = some o := let ⟨_, _, h1, _⟩ := h.ex; ⟨_, h1⟩
theorem Src.c_some {s c : Addr} {n : Nat} {H : Hp} (h : Src s c n H) : ∃ o, H c = some o := let ⟨_, _, _, h1, _⟩ := h.ex; ⟨_, h1⟩

/-! ### slots -/
/-- a slot: forgotten, pure data, a list of the def's own that it may change -/
inductive Sl where
  | no | va (d : D) | ow (l : List D)
def SlR (K : PySem.W.Frag) (M : List Addr) (H : Hp) : List Sl → L2.St → List Addr → Prop
  | [], [], [] => True
  | .no :: ρ, _ :: σ, O => SlR K M H ρ σ O
  | .va d :: ρ, some v :: σ, O => Rep K M H d v ∧ SlR K M H ρ σ O
  | .ow l :: ρ, some v :: σ, q :: O => v = .ref q ∧ (∃ xs, H q = some (.lst xs) ∧ RepL K M H l xs) ∧ SlR K M H ρ σ O
  | _, _, _ => False

section
variable {K : PySem.W.Frag} {M M' O : List Addr} {H H' : Hp} {ρ : List Sl} {σ : L2.St}
theorem SlR.lsts : ∀ {ρ : List Sl} {σ : L2.St} {O : List Addr}, SlR K M H ρ σ O → ∀ o ∈ O, ∃ xs, H o = some (.lst xs)
  | [], [], [], _, o, ho => by simp at ho
  | .no :: ρ, _ :: σ, O, h, o, ho => SlR.lsts (ρ := ρ) (σ := σ) (O := O) h o ho
  | .va d :: ρ, some v :: σ, O, h, o, ho => SlR.lsts (ρ := ρ) (σ := σ) (O := O) h.2 o ho
  | .ow l :: ρ, some v :: σ, q :: O, h, o, ho => by
    rcases List.mem_cons.mp ho with e | ho
    · obtain ⟨xs, hx, _⟩ := h.2.1
      exact ⟨xs, by rw [e]; exact hx⟩
    · exact SlR.lsts (ρ := ρ) (σ := σ) (O := O) h.2.2 o ho
  | [], [], _ :: _, h, _, _ => h.elim
  | [], _ :: _, _, h, _, _ => by cases h
  | .no :: _, [], _, h, _, _ => by cases h
  | .va _ :: _, [], _, h, _, _ => by cases h
  | .va _ :: _, none :: _, _, h, _, _ => by cases h
  | .ow _ :: _, [], _, h, _, _ => by cases h
  | .ow _ :: _, none :: _, _, h, _, _ => by cases h
  | .ow _ :: _, some _ :: _, [], h, _, _ => by cases h
/-- the slots stand in another heap: data by R, own lists by F -/
theorem SlR.imp (hR : ∀ d v, Rep K M H d v → Rep K M' H' d v) (hL : ∀ d v, RepL K M H d v → RepL K M' H' d v) : ∀ {ρ : List Sl} {σ : L2.St} {O : List Addr}, (∀ o ∈ O, ∀ xs, H o = some (.lst xs) → H' o = some (.lst xs)) → SlR K M H ρ σ O → SlR K M' H' ρ σ O
  | [], [], [], _, _ => trivial
  | .no :: ρ, _ :: σ, O, hO, h => SlR.imp hR hL (ρ := ρ) (σ := σ) (O := O) hO h
  | .va d :: ρ, some v :: σ, O, hO, h => ⟨hR _ _ h.1, SlR.imp hR hL (ρ := ρ) (σ := σ) (O := O) hO h.2⟩
  | .ow l :: ρ, some v :: σ, q :: O, hO, h => by
    obtain ⟨h1, ⟨xs, h2, h3⟩, h4⟩ := h
    exact ⟨h1, ⟨xs, hO q List.mem_cons_self xs h2, hL _ _ h3⟩, SlR.imp hR hL (ρ := ρ) (σ := σ) (O := O) (fun o ho => hO o (List.mem_cons_of_mem _ ho)) h4⟩
  | [], [], _ :: _, _, h => h.elim
  | [], _ :: _, _, _, h => by cases h
  | .no :: _, [], _, _, h => by cases h
  | .va _ :: _, [], _, _, h => by cases h
  | .va _ :: _, none :: _, _, _, h => by cases h
  | .ow _ :: _, [], _, _, h => by cases h
  | .ow _ :: _, none :: _, _, _, h => by cases h
  | .ow _ :: _, some _ :: _, [], _, h => by cases h
theorem SlR.len : ∀ {ρ : List Sl} {σ : L2.St} {O : List Addr}, SlR K M H ρ σ O → σ.length = ρ.length
  | [], [], [], _ => rfl
  | .no :: ρ, _ :: σ, O, h => congrArg (· + 1) (SlR.len (ρ := ρ) (σ := σ) (O := O) h)
  | .va d :: ρ, some v :: σ, O, h => congrArg (· + 1) (SlR.len (ρ := ρ) (σ := σ) (O := O) h.2)
  | .ow l :: ρ, some v :: σ, q :: O, h => congrArg (· + 1) (SlR.len (ρ := ρ) (σ := σ) (O := O) h.2.2)
  | [], [], _ :: _, h => h.elim
  | [], _ :: _, _, h => by cases h
  | .no :: _, [], _, h => by cases h
  | .va _ :: _, [], _, h => by cases h
  | .va _ :: _, none :: _, _, h => by cases h
  | .ow _ :: _, [], _, h => by cases h
  | .ow _ :: _, none :: _, _, h => by cases h
  | .ow _ :: _, some _ :: _, [], h => by cases h
theorem SlR.get : ∀ {ρ : List Sl} {σ : L2.St} {O : List Addr} {i : Nat} {d : D}, SlR K M H ρ σ O → ρ[i]? = some (.va d) → ∃ v, σ[i]? = some (some v) ∧ Rep K M H d v
  | .no :: ρ, _ :: σ, O, 0, d, h, e => by simp at e
  | .no :: ρ, _ :: σ, O, i + 1, d, h, e => by
    obtain ⟨v, h1, h2⟩ := SlR.get (ρ := ρ) (σ := σ) (O := O) (i := i) h (by simpa using e)
    exact ⟨v, by simpa using h1, h2⟩
  | .va d' :: ρ, some v :: σ, O, 0, d, h, e => by
    simp at e; subst e
    exact ⟨v, rfl, h.1⟩
  | .va d' :: ρ, some v :: σ, O, i + 1, d, h, e => by
    obtain ⟨v, h1, h2⟩ := SlR.get (ρ := ρ) (σ := σ) (O := O) (i := i) h.2 (by simpa using e)
    exact ⟨v, by simpa using h1, h2⟩
  | .ow l :: ρ, some v :: σ, q :: O, 0, d, h, e => by simp at e
  | .ow l :: ρ, some v :: σ, q :: O, i + 1, d, h, e => by
    obtain ⟨v, h1, h2⟩ := SlR.get (ρ := ρ) (σ := σ) (O := O) (i := i) h.2.2 (by simpa using e)
    exact ⟨v, by simpa using h1, h2⟩
  | [], _, _, _, _, _, e => by simp at e
  | .no :: _, [], _, _, _, h, _ => by cases h
  | .va _ :: _, [], _, _, _, h, _ => by cases h
  | .va _ :: _, none :: _, _, _, _, h, _ => by cases h
  | .ow _ :: _, [], _, _, _, h, _ => by cases h
  | .ow _ :: _, none :: _, _, _, _, h, _ => by cases h
  | .ow _ :: _, some _ :: _, [], _, _, h, _ => by cases h
/-- an own list's slot -/
theorem SlR.own : ∀ {ρ : List Sl} {σ : L2.St} {O : List Addr} {i : Nat} {l : List D}, SlR K M H ρ σ O → ρ[i]? = some (.ow l) → ∃ p xs, p ∈ O ∧ σ[i]? = some (some (.ref p)) ∧ H p = some (.lst xs) ∧ RepL K M H l xs
  | .no :: ρ, _ :: σ, O, 0, d, h, e => by simp at e
  | .no :: ρ, _ :: σ, O, i + 1, d, h, e => by
    obtain ⟨p, xs, m, h1, h2⟩ := SlR.own (ρ := ρ) (σ := σ) (O := O) (i := i) h (by simpa using e)
    exact ⟨p, xs, m, by simpa using h1, h2⟩
  | .va d' :: ρ, some v :: σ, O, 0, d, h, e => by simp at e
  | .va d' :: ρ, some v :: σ, O, i + 1, d, h, e => by
    obtain ⟨p, xs, m, h1, h2⟩ := SlR.own (ρ := ρ) (σ := σ) (O := O) (i := i) h.2 (by simpa using e)
    exact ⟨p, xs, m, by simpa using h1, h2⟩
  | .ow l :: ρ, some v :: σ, q :: O, 0, d, h, e => by
    simp at e; subst e
    obtain ⟨h1, ⟨xs, h2, h3⟩, h4⟩ := h
    exact ⟨q, xs, List.mem_cons_self, by rw [h1]; rfl, h2, h3⟩
  | .ow l :: ρ, some v :: σ, q :: O, i + 1, d, h, e => by
    obtain ⟨p, xs, m, h1, h2⟩ := SlR.own (ρ := ρ) (σ := σ) (O := O) (i := i) h.2.2 (by simpa using e)
    exact ⟨p, xs, List.mem_cons_of_mem _ m, by simpa using h1, h2⟩
  | [], _, _, _, _, _, e => by simp at e
  | .no :: _, [], _, _, _, h, _ => by cases h
  | .va _ :: _, [], _, _, _, h, _ => by cases h
  | .va _ :: _, none :: _, _, _, _, h, _ => by cases h
  | .ow _ :: _, [], _, _, _, h, _ => by cases h
  | .ow _ :: _, none :: _, _, _, _, h, _ => by cases h
  | .ow _ :: _, some _ :: _, [], _, _, h, _ => by cases h
def isOw : Option Sl → Bool
  | some (.ow _) => true
  | _ => false
/-- a slot is set to data, or forgotten -/
theorem SlR.set {d : D} {v : V} (r : Rep K M H d v) : ∀ {ρ : List Sl} {σ : L2.St} {O : List Addr} {i : Nat}, SlR K M H ρ σ O → isOw ρ[i]? = false → SlR K M H (ρ.set i (.va d)) (σ.set i (some v)) O
  | .no :: ρ, _ :: σ, O, 0, h, _ => ⟨r, h⟩
  | .no :: ρ, _ :: σ, O, i + 1, h, e => SlR.set r (ρ := ρ) (σ := σ) (O := O) (i := i) h (by simpa using e)
  | .va d' :: ρ, some v :: σ, O, 0, h, _ => ⟨r, h.2⟩
  | .va d' :: ρ, some v :: σ, O, i + 1, h, e => ⟨h.1, SlR.set r (ρ := ρ) (σ := σ) (O := O) (i := i) h.2 (by simpa using e)⟩
  | .ow l :: ρ, some v :: σ, q :: O, 0, h, e => by simp [isOw] at e
  | .ow l :: ρ, some v :: σ, q :: O, i + 1, h, e => ⟨h.1, h.2.1, SlR.set r (ρ := ρ) (σ := σ) (O := O) (i := i) h.2.2 (by simpa using e)⟩
  | [], [], [], i, _, _ => by simp [SlR]
  | [], [], _ :: _, _, h, _ => h.elim
  | [], _ :: _, _, _, h, _ => by cases h
  | .no :: _, [], _, _, h, _ => by cases h
  | .va _ :: _, [], _, _, h, _ => by cases h
  | .va _ :: _, none :: _, _, _, h, _ => by cases h
  | .ow _ :: _, [], _, _, h, _ => by cases h
  | .ow _ :: _, none :: _, _, _, h, _ => by cases h
  | .ow _ :: _, some _ :: _, [], _, h, _ => by cases h
theorem SlR.off {x : Option V} : ∀ {ρ : List Sl} {σ : L2.St} {O : List Addr} {i : Nat}, SlR K M H ρ σ O → isOw ρ[i]? = false → SlR K M H (ρ.set i .no) (σ.set i x) O
  | .no :: ρ, _ :: σ, O, 0, h, _ => h
  | .no :: ρ, _ :: σ, O, i + 1, h, e => SlR.off (ρ := ρ) (σ := σ) (O := O) (i := i) h (by simpa using e)
  | .va d' :: ρ, some v :: σ, O, 0, h, _ => h.2
  | .va d' :: ρ, some v :: σ, O, i + 1, h, e => ⟨h.1, SlR.off (ρ := ρ) (σ := σ) (O := O) (i := i) h.2 (by simpa using e)⟩
  | .ow l :: ρ, some v :: σ, q :: O, 0, h, e => by simp [isOw] at e
  | .ow l :: ρ, some v :: σ, q :: O, i + 1, h, e => ⟨h.1, h.2.1, SlR.off (ρ := ρ) (σ := σ) (O := O) (i := i) h.2.2 (by simpa using e)⟩
  | [], [], [], i, _, _ => by simp [SlR]
  | [], [], _ :: _, _, h, _ => h.elim
  | [], _ :: _, _, _, h, _ => by cases h
  | .no :: _, [], _, _, h, _ => by cases h
  | .va _ :: _, [], _, _, h, _ => by cases h
  | .va _ :: _, none :: _, _, _, h, _ => by cases h
  | .ow _ :: _, [], _, _, h, _ => by cases h
  | .ow _ :: _, none :: _, _, _, h, _ => by cases h
  | .ow _ :: _, some _ :: _, [], _, h, _ => by cases h
end
end Pl
/-! text Pl2 -/
set_option Elab.async false
set_option linter.all false
set_option maxRecDepth 100000
namespace Pl
open PySem PySem.Spec PyProof.Rows L2

/-- a state of a def's body: M0 the addresses that callers set apart, H0 what stands since the entry, O the def's own lists -/
structure Ok (K : PySem.W.Frag) (s c : Addr) (M0 : List Addr) (H0 : Hp) (O : List Addr) (ρ : List Sl) (n : Nat) (σ : L2.St) (H : Hp) : Prop where
  ms : s ∈ M0 ∧ c ∈ M0
  tr : ∀ a ∈ M0, a = s ∨ a = c ∨ ∃ o, H0 a = some o
  src : Src s c n H
  gr : Gr [s, c] H0 H
  fr : ∀ o ∈ O, H0 o = none ∧ o ≠ s ∧ o ≠ c
  nd : O.Nodup
  sl : SlR K (O ++ M0) H ρ σ O

section
variable {K : PySem.W.Frag} {s c : Addr} {M0 : List Addr} {H0 : Hp} {O : List Addr} {ρ : List Sl} {n n' : Nat} {σ : L2.St} {H H' : Hp}
theorem two_sub {s c : Addr} {M : List Addr} (h : s ∈ M ∧ c ∈ M) : ∀ a ∈ [s, c], a ∈ M := fun a ha => by
  rcases List.mem_cons.mp ha with e | ha
  · rw [e]; exact h.1
  · rcases List.mem_cons.mp ha with e | ha
    · rw [e]; exact h.2
    · simp at ha
theorem not_two {s c a : Addr} (h1 : a ≠ s) (h2 : a ≠ c) : a ∉ [s, c] := fun z => by
  rcases List.mem_cons.mp z with e | z
  · exact h1 e
  · rcases List.mem_cons.mp z with e | z
    · exact h2 e
    · simp at z
theorem Ok.sub (I : Ok K s c M0 H0 O ρ n σ H) : ∀ a ∈ [s, c], a ∈ O ++ M0 := fun a ha => List.mem_append_right _ (two_sub I.ms a ha)
/-- what stands at M0 stands -/
theorem Ok.there (I : Ok K s c M0 H0 O ρ n σ H) : ∀ a ∈ M0, ∃ o, H a = some o := fun a ha => by
  rcases I.tr a ha with e | e | ⟨o, e⟩
  · rw [e]; exact I.src.s_some
  · rw [e]; exact I.src.c_some
  · by_cases h1 : a = s
    · rw [h1]; exact I.src.s_some
    · by_cases h2 : a = c
      · rw [h2]; exact I.src.c_some
      · exact ⟨o, I.gr a o e (.inl (not_two h1 h2))⟩
theorem Ok.lst (I : Ok K s c M0 H0 O ρ n σ H) : ∀ o ∈ O, ∃ xs, H o = some (.lst xs) := I.sl.lsts
theorem Ok.new_out (I : Ok K s c M0 H0 O ρ n σ H) {p : Addr} (hp : H p = none) : p ∉ O ++ M0 := fun z => by
  rcases List.mem_append.mp z with z | z
  · obtain ⟨xs, e⟩ := I.lst p z
    rw [hp] at e; cases e
  · obtain ⟨o, e⟩ := I.there p z
    rw [hp] at e; cases e
theorem Ok.next (I : Ok K s c M0 H0 O ρ n σ H) (g : Gr [s, c] H H') (hs : Src s c n' H') : Ok K s c M0 H0 O ρ n' σ H' where
  ms := I.ms
  tr := I.tr
  src := hs
  gr := I.gr.trans g
  fr := I.fr
  nd := I.nd
  sl := I.sl.imp (fun _ _ r => r.gr (g.mono I.sub)) (fun _ _ r => r.gr (g.mono I.sub)) fun o ho xs e => g o _ e (.inl (not_two (I.fr o ho).2.1 (I.fr o ho).2.2))
/-- the strongest heap that the body so far leaves as it is -/
theorem Ok.focus (I : Ok K s c M0 H0 O ρ n σ H) : Ok K s c M0 (minus H O) O ρ n σ H where
  ms := I.ms
  tr := fun a ha => by
    obtain ⟨o, e⟩ := I.there a ha
    by_cases h : a ∈ O
    · rcases I.tr a ha with z | z | ⟨u, z⟩
      · exact .inl z
      · exact .inr (.inl z)
      · rw [(I.fr a h).1] at z; cases z
    · exact .inr (.inr ⟨o, by rw [minus_out h]; exact e⟩)
  src := I.src
  gr := fun a o e m => (minus_some e).2
  fr := fun o ho => ⟨minus_in ho, (I.fr o ho).2⟩
  nd := I.nd
  sl := I.sl
theorem Ok.unfocus {O' : List Addr} {ρ' : List Sl} {σ' : L2.St} (I : Ok K s c M0 H0 O ρ n σ H) (J : Ok K s c M0 (minus H O) O' ρ' n' σ' H') : Ok K s c M0 H0 O' ρ' n' σ' H' where
  ms := J.ms
  tr := I.tr
  src := J.src
  gr := fun a o e m => J.gr a o (by
    have hO : a ∉ O := fun z => by rw [(I.fr a z).1] at e; cases e
    rw [minus_out hO]
    exact I.gr a o e m) m
  fr := fun o ho => by
    obtain ⟨h1, h2, h3⟩ := J.fr o ho
    refine ⟨?_, h2, h3⟩
    cases q : H0 o with
    | none => rfl
    | some u =>
      have e : H o = some u := I.gr o u q (.inl (not_two h2 h3))
      have hO : o ∉ O := fun z => by rw [(I.fr o z).1] at q; cases q
      rw [minus_out hO, e] at h1
      cases h1
  nd := J.nd
  sl := J.sl
theorem gr_unfocus {a : Addr} (I : Ok K s c M0 H0 O ρ n σ H) (g : Gr [s, c] (minus H O) H') : Gr [s, c] H0 H' := fun a o e m => g a o (by
    have hO : a ∉ O := fun z => by rw [(I.fr a z).1] at e; cases e
    rw [minus_out hO]
    exact I.gr a o e m) m
/-- data of a state, later -/
theorem Ok.later {O' : List Addr} {ρ' : List Sl} {σ' : L2.St} {d : D} {v : V} (I : Ok K s c M0 H0 O ρ n σ H) (J : Ok K s c M0 (minus H O) O' ρ' n' σ' H') (r : Rep K (O ++ M0) H d v) : Rep K (O' ++ M0) H' d v :=
  ((r.minus I.lst).parts fun o ho => (J.fr o ho).1).gr (J.gr.mono J.sub)
theorem Ok.laterL {O' : List Addr} {ρ' : List Sl} {σ' : L2.St} {d : List D} {v : List V} (I : Ok K s c M0 H0 O ρ n σ H) (J : Ok K s c M0 (minus H O) O' ρ' n' σ' H') (r : RepL K (O ++ M0) H d v) : RepL K (O' ++ M0) H' d v :=
  ((r.minus I.lst).parts fun o ho => (J.fr o ho).1).gr (J.gr.mono J.sub)
theorem Ok.laterR {O' : List Addr} {ρ' : List Sl} {σ' : L2.St} {a : Addr} {u : HO} (I : Ok K s c M0 H0 O ρ n σ H) (J : Ok K s c M0 (minus H O) O' ρ' n' σ' H') (m : a ∉ O ++ M0) (r : Rd H a u) : Rd H' a u :=
  gr_rd J.gr (.inl fun z => m (List.mem_append_right _ (two_sub I.ms a z))) (rd_minus (fun z => m (List.mem_append_left _ z)) r)
theorem Ok.laterT {O' : List Addr} {ρ' : List Sl} {σ' : L2.St} {a : Addr} {xs : List V} (I : Ok K s c M0 H0 O ρ n σ H) (J : Ok K s c M0 (minus H O) O' ρ' n' σ' H') (r : SqT K H a xs) : SqT K H' a xs :=
  gr_t J.gr (t_minus I.lst r)

/-! ### the judgements -/
def EvE (K : PySem.W.Frag) (s c : Addr) (te : TE) (ρ : List Sl) (n n' : Nat) (P : D → Prop) : Prop := ∀ M0 H0 O σ H (Q : VK), Ok K s c M0 H0 O ρ n σ H →
  (∀ v H' d, Gr [s, c] H H' → Src s c n' H' → Rep K (O ++ M0) H' d v → P d → Q v H') → te σ H Q
def EvA (K : PySem.W.Frag) (s c : Addr) (ta : TA) (ρ : List Sl) (n n' : Nat) (P : List D → Prop) : Prop := ∀ M0 H0 O σ H (Q : List V → Hp → Prop), Ok K s c M0 H0 O ρ n σ H →
  (∀ vs H' ds, Gr [s, c] H H' → Src s c n' H' → RepL K (O ++ M0) H' ds vs → P ds → Q vs H') → ta σ H Q
def EvT (K : PySem.W.Frag) (s c : Addr) (tt : TT) (ρ : List Sl) (n n' : Nat) (P : Bool → Prop) : Prop := ∀ M0 H0 O σ H (Q : Bool → Hp → Prop), Ok K s c M0 H0 O ρ n σ H →
  (∀ b H', Gr [s, c] H H' → Src s c n' H' → P b → Q b H') → tt σ H Q
/-- a new list -/
def EvN (K : PySem.W.Frag) (s c : Addr) (te : TE) (ρ : List Sl) (n n' : Nat) (P : List D → Prop) : Prop := ∀ M0 H0 O σ H (Q : VK), Ok K s c M0 H0 O ρ n σ H →
  (∀ p H' ds xs, Gr [s, c] H H' → Src s c n' H' → H p = none → H' p = some (.lst xs) → RepL K (p :: (O ++ M0)) H' ds xs → P ds → Q (.ref p) H') → te σ H Q
structure Pn where
  nx : List Sl → Nat → Prop
  rt : D → Nat → Prop
  bk : List Sl → Nat → Prop := fun _ _ => False
  ct : List Sl → Nat → Prop := fun _ _ => False
structure Go (K : PySem.W.Frag) (s c : Addr) (M0 : List Addr) (H0 : Hp) (D : Pn) (Dn : Ends) : Prop where
  nx : ∀ O' ρ' n' σ' H', Ok K s c M0 H0 O' ρ' n' σ' H' → D.nx ρ' n' → Dn.nx σ' H'
  rt : ∀ v H' d n', Gr [s, c] H0 H' → Src s c n' H' → Rep K M0 H' d v → D.rt d n' → Dn.rt v H'
  bk : ∀ O' ρ' n' σ' H', Ok K s c M0 H0 O' ρ' n' σ' H' → D.bk ρ' n' → Dn.bk σ' H'
  ct : ∀ O' ρ' n' σ' H', Ok K s c M0 H0 O' ρ' n' σ' H' → D.ct ρ' n' → Dn.ct σ' H'
def EvS (K : PySem.W.Frag) (s c : Addr) (ts : TS) (ρ : List Sl) (n : Nat) (D : Pn) : Prop := ∀ M0 H0 O σ H (Dn : Ends), Ok K s c M0 H0 O ρ n σ H → Go K s c M0 H0 D Dn → ts Dn σ H
end

section
variable {K : PySem.W.Frag} {s c : Addr} {ρ : List Sl} {n n1 n2 n3 n' : Nat} {te ta tb : TE} {P : D → Prop}

/-! ### expressions -/
theorem EvE.imp {P' : D → Prop} (h : EvE K s c te ρ n n1 P) (i : ∀ d, P d → P' d) : EvE K s c te ρ n n1 P' := fun M0 H0 O σ H Q I k => h M0 H0 O σ H Q I fun v H' d g hs r p => k v H' d g hs r (i d p)
theorem EvE.le (h : EvE K s c te ρ n n1 P) (l : n1 ≤ n2) : EvE K s c te ρ n n2 P := fun M0 H0 O σ H Q I k => h M0 H0 O σ H Q I fun v H' d g hs r p => k v H' d g (hs.mono l) r p
theorem ev_var {i : Nat} {d : D} (h : ρ[i]? = some (.va d)) : EvE K s c (tVar i) ρ n n (fun x => x = d) := fun M0 H0 O σ H Q I k => by
  obtain ⟨v, e, r⟩ := I.sl.get h
  exact ⟨v, e, k v H d (Gr.refl _ _) I.src r rfl⟩
/-- an own list is read as data (it may not be kept while it changes) -/
theorem ev_int {i : Int} : EvE K s c (tC (.int i)) ρ n n (fun x => x = .int i) := fun M0 H0 O σ H Q I k => k _ H (.int i) (Gr.refl _ _) I.src rfl rfl
theorem ev_bl {b : Bool} : EvE K s c (tC (.bl b)) ρ n n (fun x => x = .bl b) := fun M0 H0 O σ H Q I k => k _ H (.bl b) (Gr.refl _ _) I.src rfl rfl
theorem ev_non : EvE K s c (tC .non) ρ n n (fun x => x = .non) := fun M0 H0 O σ H Q I k => k _ H .non (Gr.refl _ _) I.src rfl rfl
theorem ev_str {x : Str} : EvE K s c (tC (.str x)) ρ n n (fun d => d = .str x) := fun M0 H0 O σ H Q I k => k _ H (.str x) (Gr.refl _ _) I.src rfl rfl
theorem ev_ref {a : Addr} : EvE K s c (tC (.ref a)) ρ n n (fun x => x = .obj a) := fun M0 H0 O σ H Q I k => k _ H (.obj a) (Gr.refl _ _) I.src rfl rfl
theorem ea_nil : EvA K s c tNil ρ n n (fun l => l = []) := fun M0 H0 O σ H Q I k => k [] H [] (Gr.refl _ _) I.src trivial rfl
theorem ea_cons {tr : TA} {PL : List D → Prop} (h : EvE K s c te ρ n n1 P) (hr : EvA K s c tr ρ n1 n2 PL) : EvA K s c (tCons te tr) ρ n n2 (fun l => ∃ d r, l = d :: r ∧ P d ∧ PL r) := fun M0 H0 O σ H Q I k =>
  h M0 H0 O σ H _ I fun v H1 d g1 s1 r1 p1 => hr M0 H0 O σ H1 _ (I.next g1 s1) fun vs H2 ds g2 s2 r2 p2 => k (v :: vs) H2 (d :: ds) (g1.trans g2) s2 ⟨r1.gr (g2.mono I.sub), r2⟩ ⟨d, ds, rfl, p1, p2⟩
theorem ev_tup {tr : TA} {PL : List D → Prop} (h : EvA K s c tr ρ n n1 PL) (hl : ∀ l, PL l → l.length ≤ 1000) : EvE K s c (tTup tr) ρ n n1 (fun d => ∃ l, d = .tup l ∧ PL l) := fun M0 H0 O σ H Q I k =>
  h M0 H0 O σ H _ I fun vs H1 ds g1 s1 r1 p1 => ⟨Nat.le_of_lt (small1000 (by rw [← r1.length]; exact hl ds p1)), fun p hp => k (.ref p) _ (.tup ds) (g1.trans (Gr.new hp)) (s1.new hp) ⟨p, vs, rfl, .inl (.inl upd_same), r1.gr (Gr.new hp)⟩ ⟨ds, rfl, p1⟩⟩
theorem en_lst {tr : TA} {PL : List D → Prop} (h : EvA K s c tr ρ n n1 PL) (hl : ∀ l, PL l → l.length ≤ 1000) : EvN K s c (tLst tr) ρ n n1 PL := fun M0 H0 O σ H Q I k =>
  h M0 H0 O σ H _ I fun vs H1 ds g1 s1 r1 p1 => ⟨Nat.le_of_lt (small1000 (by rw [← r1.length]; exact hl ds p1)), fun p hp => k p _ ds vs (g1.trans (Gr.new hp)) (s1.new hp)
    (g1.none hp fun z => (I.next g1 s1).new_out hp ((I.next g1 s1).sub p z)) upd_same ((r1.apart hp).gr (Gr.new hp)) p1⟩
/-- a new list, as data -/
theorem EvN.ev {PL : List D → Prop} (h : EvN K s c te ρ n n1 PL) : EvE K s c te ρ n n1 (fun d => ∃ l, d = .lst l ∧ PL l) := fun M0 H0 O σ H Q I k =>
  h M0 H0 O σ H Q I fun p H' ds xs g hs hp e r p1 => k (.ref p) H' (.lst ds) g hs ⟨p, xs, rfl, I.new_out hp, e, r.mono fun a ha => List.mem_cons_of_mem _ ha⟩ ⟨ds, rfl, p1⟩
theorem ev_lst {tr : TA} {PL : List D → Prop} (h : EvA K s c tr ρ n n1 PL) (hl : ∀ l, PL l → l.length ≤ 1000) : EvE K s c (tLst tr) ρ n n1 (fun d => ∃ l, d = .lst l ∧ PL l) := (en_lst h hl).ev
/-- an operation on two values: R x y z, the heap grows -/
def RV (K : PySem.W.Frag) (s c : Addr) (r : R2) (A B : D → Prop) (R : D → D → D → Prop) : Prop := ∀ M n x y dx dy H (Q : VK), s ∈ M ∧ c ∈ M → (∀ a ∈ M, ∃ o, H a = some o) → Src s c n H → Rep K M H dx x → Rep K M H dy y → A dx → B dy →
  (∀ v H' d, Gr [s, c] H H' → Src s c n H' → Rep K M H' d v → R dx dy d → Q v H') → r x y H Q
theorem Ok.thereA {M0 : List Addr} {H0 : Hp} {O : List Addr} {σ : L2.St} {H : Hp} (I : Ok K s c M0 H0 O ρ n σ H) : ∀ a ∈ O ++ M0, ∃ o, H a = some o := fun a ha => by
  rcases List.mem_append.mp ha with z | z
  · obtain ⟨xs, e⟩ := I.lst a z
    exact ⟨_, e⟩
  · exact I.there a z
theorem ev_op {r : R2} {A B : D → Prop} {R : D → D → D → Prop} (ha : EvE K s c ta ρ n n1 A) (hb : EvE K s c tb ρ n1 n2 B) (hr : RV K s c r A B R) : EvE K s c (tOp r ta tb) ρ n n2 (fun z => ∃ x y, A x ∧ B y ∧ R x y z) := fun M0 H0 O σ H Q I k =>
  ha M0 H0 O σ H _ I fun v H1 d g1 s1 r1 p1 => hb M0 H0 O σ H1 _ (I.next g1 s1) fun w H2 e g2 s2 r2 p2 =>
    hr (O ++ M0) n2 v w d e H2 Q ⟨List.mem_append_right _ I.ms.1, List.mem_append_right _ I.ms.2⟩ ((I.next g1 s1).next g2 s2).thereA s2 (r1.gr (g2.mono I.sub)) r2 p1 p2 fun z H3 f g3 s3 r3 p3 => k z H3 f ((g1.trans g2).trans g3) s3 r3 ⟨d, e, p1, p2, p3⟩
/-- a call on values -/
def RC (K : PySem.W.Frag) (s c : Addr) (n n' : Nat) (r : List V → Hp → VK → Prop) (A : List D → Prop) (R : List D → D → Prop) : Prop := ∀ M xs ds H (Q : VK), s ∈ M ∧ c ∈ M → (∀ a ∈ M, ∃ o, H a = some o) → Src s c n H → RepL K M H ds xs → A ds →
  (∀ v H' d, Gr [s, c] H H' → Src s c n' H' → Rep K M H' d v → R ds d → Q v H') → r xs H Q
theorem ev_call {r : List V → Hp → VK → Prop} {t : TA} {A : List D → Prop} {R : List D → D → Prop} (ha : EvA K s c t ρ n n1 A) (hr : RC K s c n1 n2 r A R) : EvE K s c (tCB r t) ρ n n2 (fun z => ∃ l, A l ∧ R l z) := fun M0 H0 O σ H Q I k =>
  ha M0 H0 O σ H _ I fun vs H1 ds g1 s1 r1 p1 => hr (O ++ M0) vs ds H1 Q ⟨List.mem_append_right _ I.ms.1, List.mem_append_right _ I.ms.2⟩ (I.next g1 s1).thereA s1 r1 p1 fun v H2 d g2 s2 r2 p2 => k v H2 d (g1.trans g2) s2 r2 ⟨ds, p1, p2⟩

/-! ### promises -/
/-- from the data of the arguments: what is asked, how many draws at most, what comes back -/
def Pr (K : PySem.W.Frag) (pre : Addr → Addr → List D → Prop) (k : Nat) (post : Addr → Addr → List D → D → Prop) : Sp := fun vs H Q _ => ∃ s c M n ds, s ∈ M ∧ c ∈ M ∧ (∀ a ∈ M, ∃ o, H a = some o) ∧ Src s c n H ∧ n + k ≤ 2 ^ 40 ∧ RepL K M H ds vs ∧ pre s c ds ∧
  ∀ v H' d, Gr [s, c] H H' → Src s c (n + k) H' → Rep K M H' d v → post s c ds d → Q v H'
theorem ev_def {pre : Addr → Addr → List D → Prop} {k : Nat} {post : Addr → Addr → List D → D → Prop} {t : TA} {A : List D → Prop} (ha : EvA K s c t ρ n n1 A) (hn : n1 + k ≤ 2 ^ 40) (hp : ∀ l, A l → pre s c l) : EvE K s c (tCall (Pr K pre k post) [] E0 t) ρ n (n1 + k) (fun z => ∃ l, A l ∧ post s c l z) := fun M0 H0 O σ H Q I q =>
  ha M0 H0 O σ H _ I fun vs H1 ds g1 s1 r1 p1 => ⟨s, c, O ++ M0, n1, ds, List.mem_append_right _ I.ms.1, List.mem_append_right _ I.ms.2, (I.next g1 s1).thereA, s1, hn, by rw [List.append_nil]; exact r1, hp ds p1, fun v H2 d g2 s2 r2 p2 => q v H2 d (g1.trans g2) s2 r2 ⟨ds, p1, p2⟩⟩
def slots (N : Nat) (ds : List D) : List Sl := ds.map .va ++ List.replicate (N - ds.length) .no
theorem sl_no {M : List Addr} {H : Hp} : ∀ k : Nat, SlR K M H (List.replicate k .no) (List.replicate k none) []
  | 0 => trivial
  | k + 1 => sl_no k
theorem sl_start {M : List Addr} {H : Hp} {m : Nat} : ∀ {ds : List D} {vs : List V}, RepL K M H ds vs → SlR K M H (ds.map .va ++ List.replicate m .no) (vs.map some ++ List.replicate m none) []
  | [], [], _ => sl_no m
  | _ :: _, _ :: _, h => ⟨h.1, sl_start h.2⟩
  | [], _ :: _, h => h.elim
  | _ :: _, [], h => h.elim
/-- a body keeps the promise -/
theorem body_ok {N : List Str} {t : TS} {pre : Addr → Addr → List D → Prop} {k : Nat} {post : Addr → Addr → List D → D → Prop} {vs : List V} {H : Hp} {Q : VK} {E : XK} (h : Pr K pre k post vs H Q E)
    (hb : ∀ s c n ds, n + k ≤ 2 ^ 40 → pre s c ds → EvS K s c t (slots N.length ds) n ⟨fun _ m => m ≤ n + k ∧ post s c ds .non, fun d m => m ≤ n + k ∧ post s c ds d, fun _ _ => False, fun _ _ => False⟩) : t { nx := fun _ H' => Q .non H', rt := Q } (L2.start N vs) H := by
  obtain ⟨s, c, M, n, ds, h1, h2, h3, h4, h5, h6, h7, q⟩ := h
  refine hb s c n ds h5 h7 M H [] (L2.start N vs) H _ ⟨⟨h1, h2⟩, fun a ha => .inr (.inr (h3 a ha)), h4, Gr.refl _ _, fun o ho => by simp at ho, List.nodup_nil, ?_⟩ ⟨fun O' ρ' m σ' H' J hp => ?_, fun v H' d m g hs r hp => q v H' d g (hs.mono hp.1) r hp.2, fun _ _ _ _ _ _ hp => hp.elim, fun _ _ _ _ _ _ hp => hp.elim⟩
  · unfold slots L2.start
    rw [h6.length]
    exact sl_start h6
  · exact q .non H' .non J.gr (J.src.mono hp.1) rfl hp.2
end
end Pl
/-! text Pl3 -/
set_option Elab.async false
set_option linter.all false
set_option maxRecDepth 100000
namespace Pl
open PySem PySem.Spec PyProof.Rows L2

section
variable {K : PySem.W.Frag} {s c : Addr} {ρ ρ1 ρ2 : List Sl} {n n1 n2 n3 n' : Nat} {te ta tb : TE} {P : D → Prop} {tt tu : TT}
/-! ### tests -/
theorem EvT.imp {T T' : Bool → Prop} (h : EvT K s c tt ρ n n1 T) (i : ∀ b, T b → T' b) : EvT K s c tt ρ n n1 T' := fun M0 H0 O σ H Q I k => h M0 H0 O σ H Q I fun b H' g hs p => k b H' g hs (i b p)
theorem EvT.le {T : Bool → Prop} (h : EvT K s c tt ρ n n1 T) (l : n1 ≤ n2) : EvT K s c tt ρ n n2 T := fun M0 H0 O σ H Q I k => h M0 H0 O σ H Q I fun b H' g hs p => k b H' g (hs.mono l) p
theorem et_yes : EvT K s c tYes ρ n n (fun b => b = true) := fun M0 H0 O σ H Q I k => k true H (Gr.refl _ _) I.src rfl
theorem bl_of {M : List Addr} {H : Hp} {b : Bool} {v : V} (r : Rep K M H (.bl b) v) : v = .bl b := r
theorem et_B (h : EvE K s c te ρ n n1 P) (hb : ∀ d, P d → ∃ b, d = .bl b) : EvT K s c (tB te) ρ n n1 (fun b => P (.bl b)) := fun M0 H0 O σ H Q I k => h M0 H0 O σ H _ I fun v H' d g hs r p => by
  obtain ⟨b, rfl⟩ := hb d p
  exact ⟨b, r, k b H' g hs p⟩
theorem et_test (h : EvE K s c te ρ n n1 P) (hb : ∀ d, P d → ∃ b, d = .bl b) : EvT K s c (tTest te) ρ n n1 (fun b => P (.bl b)) := fun M0 H0 O σ H Q I k => h M0 H0 O σ H _ I fun v H' d g hs r p => by
  obtain ⟨b, rfl⟩ := hb d p
  exact ⟨b, r, k b H' g hs p⟩
theorem et_not {T : Bool → Prop} (h : EvT K s c tt ρ n n1 T) : EvT K s c (tNot tt) ρ n n1 (fun b => T (!b)) := fun M0 H0 O σ H Q I k => h M0 H0 O σ H _ I fun b H' g hs p => k (!b) H' g hs (by show T (!!b); rw [Bool.not_not]; exact p)
theorem et_and {T U : Bool → Prop} (h : EvT K s c tt ρ n n1 T) (hu : T true → EvT K s c tu ρ n1 n2 U) (l : n1 ≤ n2) : EvT K s c (tAnd tt tu) ρ n n2 (fun b => (T false ∧ b = false) ∨ (T true ∧ U b)) := fun M0 H0 O σ H Q I k => h M0 H0 O σ H _ I fun b H1 g hs p => by
  cases b with
  | true => exact iteT (hu p M0 H0 O σ H1 Q (I.next g hs) fun b H2 g2 s2 p2 => k b H2 (g.trans g2) s2 (.inr ⟨p, p2⟩))
  | false => exact iteF (k false H1 g (hs.mono l) (.inl ⟨p, rfl⟩))
theorem et_or {T U : Bool → Prop} (h : EvT K s c tt ρ n n1 T) (hu : T false → EvT K s c tu ρ n1 n2 U) (l : n1 ≤ n2) : EvT K s c (tOr tt tu) ρ n n2 (fun b => (T true ∧ b = true) ∨ (T false ∧ U b)) := fun M0 H0 O σ H Q I k => h M0 H0 O σ H _ I fun b H1 g hs p => by
  cases b with
  | true => exact iteT (k true H1 g (hs.mono l) (.inl ⟨p, rfl⟩))
  | false => exact iteF (hu p M0 H0 O σ H1 Q (I.next g hs) fun b H2 g2 s2 p2 => k b H2 (g.trans g2) s2 (.inr ⟨p, p2⟩))

/-! ### own lists -/
mutual
/-- no lists and no instances within -/
def flat : D → Bool
  | .lst _ => false
  | .ins _ _ _ => false
  | .dct _ _ => false
  | .tup l => flatL l
  | _ => true
def flatL : List D → Bool
  | [] => true
  | d :: l => flat d && flatL l
end
mutual
theorem Rep.flat {M M' : List Addr} {H : Hp} : ∀ {d : D} {v : V}, Rep K M H d v → flat d = true → Rep K M' H d v
  | .non, _, h, _ => h
  | .bl _, _, h, _ => h
  | .int _, _, h, _ => h
  | .str _, _, h, _ => h
  | .obj _, _, h, _ => h
  | .tup l, _, h, f => by
    obtain ⟨a, xs, e, q, r⟩ := h
    exact ⟨a, xs, e, q, RepL.flat r f⟩
  | .lst _, _, h, f => by cases f
  | .ins _ _ _, _, h, f => by cases f
  | .dct _ _, _, h, f => by cases f
theorem RepL.flat {M M' : List Addr} {H : Hp} : ∀ {d : List D} {v : List V}, RepL K M H d v → flatL d = true → RepL K M' H d v
  | [], [], h, _ => h
  | d :: ds, v :: vs, h, f => by
    have f' : (Pl.flat d && flatL ds) = true := f
    rw [Bool.and_eq_true] at f'
    exact ⟨Rep.flat h.1 f'.1, RepL.flat h.2 f'.2⟩
  | [], _ :: _, h, _ => h.elim
  | _ :: _, [], h, _ => h.elim
end
theorem SlR.freeze {M : List Addr} {H : Hp} {l : List D} : ∀ {ρ : List Sl} {σ : L2.St} {O : List Addr} {i : Nat}, SlR K M H ρ σ O → ρ[i]? = some (.ow l) →
    ∃ A p B, O = A ++ p :: B ∧ σ[i]? = some (some (.ref p)) ∧ ∀ M', (∀ a ∈ M', a ∈ M) → p ∉ M' → SlR K M' H (ρ.set i (.va (.lst l))) σ (A ++ B)
  | .no :: ρ, _ :: σ, O, 0, h, e => by simp at e
  | .no :: ρ, _ :: σ, O, i + 1, h, e => by
    obtain ⟨A, p, B, e1, e2, k⟩ := SlR.freeze (ρ := ρ) (σ := σ) (O := O) (i := i) h (by simpa using e)
    exact ⟨A, p, B, e1, by simpa using e2, fun M' hm hp => k M' hm hp⟩
  | .va d' :: ρ, some v :: σ, O, 0, h, e => by simp at e
  | .va d' :: ρ, some v :: σ, O, i + 1, h, e => by
    obtain ⟨A, p, B, e1, e2, k⟩ := SlR.freeze (ρ := ρ) (σ := σ) (O := O) (i := i) h.2 (by simpa using e)
    exact ⟨A, p, B, e1, by simpa using e2, fun M' hm hp => ⟨h.1.mono hm, k M' hm hp⟩⟩
  | .ow l' :: ρ, some v :: σ, q :: O, 0, h, e => by
    simp at e; subst e
    obtain ⟨h1, ⟨xs, h2, h3⟩, h4⟩ := h
    refine ⟨[], q, O, rfl, by rw [h1]; rfl, fun M' hm hp => ⟨⟨q, xs, h1, hp, h2, h3.mono hm⟩, ?_⟩⟩
    exact SlR.imp (fun _ _ r => r.mono hm) (fun _ _ r => r.mono hm) (fun _ _ _ e => e) h4
  | .ow l' :: ρ, some v :: σ, q :: O, i + 1, h, e => by
    obtain ⟨A, p, B, e1, e2, k⟩ := SlR.freeze (ρ := ρ) (σ := σ) (O := O) (i := i) h.2.2 (by simpa using e)
    obtain ⟨h1, ⟨xs, h2, h3⟩, h4⟩ := h
    exact ⟨q :: A, p, B, by rw [e1]; rfl, by simpa using e2, fun M' hm hp => ⟨h1, ⟨xs, h2, h3.mono hm⟩, k M' hm hp⟩⟩
  | [], _, _, _, _, e => by simp at e
  | .no :: _, [], _, _, h, _ => by cases h
  | .va _ :: _, [], _, _, h, _ => by cases h
  | .va _ :: _, none :: _, _, _, h, _ => by cases h
  | .ow _ :: _, [], _, _, h, _ => by cases h
  | .ow _ :: _, none :: _, _, _, h, _ => by cases h
  | .ow _ :: _, some _ :: _, [], _, h, _ => by cases h
/-- an own list becomes data -/
theorem Ok.freeze {M0 : List Addr} {H0 : Hp} {O : List Addr} {σ : L2.St} {H : Hp} {l : List D} {i : Nat} (I : Ok K s c M0 H0 O ρ n σ H) (e : ρ[i]? = some (.ow l)) :
    ∃ O', (∀ o ∈ O', o ∈ O) ∧ Ok K s c M0 H0 O' (ρ.set i (.va (.lst l))) n σ H := by
  obtain ⟨A, p, B, e1, e2, k⟩ := I.sl.freeze e
  have sub : ∀ o ∈ A ++ B, o ∈ O := fun o ho => by
    rw [e1]
    rcases List.mem_append.mp ho with z | z
    · exact List.mem_append_left _ z
    · exact List.mem_append_right _ (List.mem_cons_of_mem _ z)
  have nd := I.nd
  rw [e1, List.nodup_append] at nd
  have hp : p ∈ O := by rw [e1]; exact List.mem_append_right _ List.mem_cons_self
  refine ⟨A ++ B, sub, ⟨I.ms, I.tr, I.src, I.gr, fun o ho => I.fr o (sub o ho), ?_, k _ (fun a ha => ?_) fun z => ?_⟩⟩
  · have nd2 := List.nodup_cons.mp nd.2.1
    exact List.nodup_append.mpr ⟨nd.1, nd2.2, fun a ha b hb => nd.2.2 a ha b (List.mem_cons_of_mem _ hb)⟩
  · rcases List.mem_append.mp ha with z | z
    · exact List.mem_append_left _ (sub a z)
    · exact List.mem_append_right _ z
  · rcases List.mem_append.mp z with z | z
    · rcases List.mem_append.mp z with z | z
      · exact nd.2.2 p z p List.mem_cons_self rfl
      · exact (List.nodup_cons.mp nd.2.1).1 z
    · obtain ⟨f1, f2, f3⟩ := I.fr p hp
      rcases I.tr p z with q | q | ⟨u, q⟩
      · exact f2 q
      · exact f3 q
      · rw [f1] at q; cases q
/-- an own list is read -/
theorem ev_thaw {i : Nat} {l : List D} (e : ρ[i]? = some (.ow l)) (h : EvE K s c te (ρ.set i (.va (.lst l))) n n1 P) (hf : ∀ d, P d → flat d = true) : EvE K s c te ρ n n1 P := fun M0 H0 O σ H Q I k => by
  obtain ⟨O', _, J⟩ := I.freeze e
  exact h M0 H0 O' σ H Q J fun v H' d g hs r p => k v H' d g hs (r.flat (hf d p)) p
theorem et_thaw {i : Nat} {l : List D} {T : Bool → Prop} (e : ρ[i]? = some (.ow l)) (h : EvT K s c tt (ρ.set i (.va (.lst l))) n n1 T) : EvT K s c tt ρ n n1 T := fun M0 H0 O σ H Q I k => by
  obtain ⟨O', _, J⟩ := I.freeze e
  exact h M0 H0 O' σ H Q J fun b H' g hs p => k b H' g hs p
theorem ea_thaw {i : Nat} {l : List D} {t : TA} {PL : List D → Prop} (e : ρ[i]? = some (.ow l)) (h : EvA K s c t (ρ.set i (.va (.lst l))) n n1 PL) (hf : ∀ d, PL d → flatL d = true) : EvA K s c t ρ n n1 PL := fun M0 H0 O σ H Q I k => by
  obtain ⟨O', _, J⟩ := I.freeze e
  exact h M0 H0 O' σ H Q J fun v H' d g hs r p => k v H' d g hs (r.flat (hf d p)) p
/-- .. for good -/
theorem s_freeze {ts : TS} {D : Pn} {i : Nat} {l : List Pl.D} (e : ρ[i]? = some (.ow l)) (h : EvS K s c ts (ρ.set i (.va (.lst l))) n D) : EvS K s c ts ρ n D := fun M0 H0 O σ H Dn I G => by
  obtain ⟨O', _, J⟩ := I.freeze e
  exact h M0 H0 O' σ H Dn J G
end

/-! ### targets -/
section
variable {K : PySem.W.Frag} {s c : Addr} {ρ ρ1 ρ2 ρ3 : List Sl} {n n1 n2 n3 n' : Nat} {te ta tb : TE} {P : D → Prop} {tt tu : TT}
def EvG (K : PySem.W.Frag) (s c : Addr) (g : TG) (d : D) (ρ ρ2 : List Sl) (js : List Nat) : Prop := ∀ M0 H0 O n σ H v (Q : L2.St → Hp → Prop), Ok K s c M0 H0 O ρ n σ H → Rep K (O ++ M0) H d v →
  (∀ σ2, Ok K s c M0 H0 O ρ2 n σ2 H → (∀ vs : List Nat, (∀ j ∈ js, j ∈ vs) → wipe σ2 vs = wipe σ vs) → Q σ2 H) → g v σ H Q
def EvGs (K : PySem.W.Frag) (s c : Addr) (g : TGs) (d : List D) (ρ ρ2 : List Sl) (js : List Nat) : Prop := ∀ M0 H0 O n σ H v (Q : L2.St → Hp → Prop), Ok K s c M0 H0 O ρ n σ H → RepL K (O ++ M0) H d v →
  (∀ σ2, Ok K s c M0 H0 O ρ2 n σ2 H → (∀ vs : List Nat, (∀ j ∈ js, j ∈ vs) → wipe σ2 vs = wipe σ vs) → Q σ2 H) → g v σ H Q
theorem wipe_set {σ : L2.St} {x : Option V} {j : Nat} : ∀ {vs : List Nat}, j ∈ vs → wipe (σ.set j x) vs = wipe σ vs
  | [], h => by simp at h
  | v :: vs, h => by
    unfold wipe
    by_cases e : j = v
    · subst e
      by_cases q : j ∈ vs
      · rw [wipe_set q]
      · clear h
        have : ∀ (us : List Nat) (τ : L2.St) (y : Option V), j ∉ us → wipe (τ.set j y) us = (wipe τ us).set j y := fun us => by
          induction us with
          | nil => intro τ y _; rfl
          | cons u us ih =>
            intro τ y hm
            unfold wipe
            rw [ih τ y fun z => hm (List.mem_cons_of_mem _ z), List.set_comm _ _ (fun e => hm (by rw [← e]; exact List.mem_cons_self))]
        rw [this vs σ x q, List.set_set]
    · rw [wipe_set ((List.mem_cons.mp h).resolve_left e)]
theorem eg_name {j : Nat} {d : D} (h : isOw ρ[j]? = false) : EvG K s c (gName j) d ρ (ρ.set j (.va d)) [j] := fun M0 H0 O n σ H v Q I r k =>
  k (σ.set j (some v)) ⟨I.ms, I.tr, I.src, I.gr, I.fr, I.nd, I.sl.set r h⟩ fun vs hv => wipe_set (hv j List.mem_cons_self)
theorem egs_nil : EvGs K s c gNil [] ρ ρ [] := fun M0 H0 O n σ H v Q I r k => by
  cases v with
  | nil => exact ⟨rfl, k σ I fun _ _ => rfl⟩
  | cons _ _ => exact r.elim
theorem egs_cons {t : TG} {u : TGs} {d : D} {ds : List D} {js ks : List Nat} (h : EvG K s c t d ρ ρ1 js) (hu : EvGs K s c u ds ρ1 ρ2 ks) : EvGs K s c (gCons t u) (d :: ds) ρ ρ2 (js ++ ks) := fun M0 H0 O n σ H v Q I r k => by
  cases v with
  | nil => exact r.elim
  | cons v vs =>
    exact ⟨v, vs, rfl, h M0 H0 O n σ H v _ I r.1 fun σ1 I1 w1 => hu M0 H0 O n σ1 H vs Q I1 r.2 fun σ2 I2 w2 => k σ2 I2 fun ws hw =>
      (w2 ws fun j hj => hw j (List.mem_append_right _ hj)).trans (w1 ws fun j hj => hw j (List.mem_append_left _ hj))⟩
theorem eg_tup {m : Nat} {t : TGs} {ds : List D} {js : List Nat} (h : EvGs K s c t ds ρ ρ2 js) (hm : ds.length = m) : EvG K s c (gTup K m t) (.tup ds) ρ ρ2 js := fun M0 H0 O n σ H v Q I r k => by
  obtain ⟨a, xs, e, q, r⟩ := r
  exact ⟨a, xs, e, q, by rw [← r.length]; exact hm, h M0 H0 O n σ H xs Q I r k⟩

/-! ### statements -/
theorem Go.nx' {M0 : List Addr} {H0 : Hp} {D : Pn} {Dn : Ends} {N : List Sl → Nat → Prop} {nxt : L2.St → Hp → Prop} (G : Go K s c M0 H0 D Dn) (h : ∀ O' ρ' n' σ' H', Ok K s c M0 H0 O' ρ' n' σ' H' → N ρ' n' → nxt σ' H') : Go K s c M0 H0 { D with nx := N } { Dn with nx := nxt } := ⟨h, G.rt, G.bk, G.ct⟩
theorem s_seq {t u : TS} {D : Pn} {N : List Sl → Nat → Prop} (h : EvS K s c t ρ n { D with nx := N }) (hu : ∀ ρ1 n1, N ρ1 n1 → EvS K s c u ρ1 n1 D) : EvS K s c (tSeq t u) ρ n D := fun M0 H0 O σ H Dn I G =>
  h M0 H0 O σ H { Dn with nx := u Dn } I (G.nx' fun O1 ρ1 m σ1 H1 J p => hu ρ1 m p M0 H0 O1 σ1 H1 Dn J G)
theorem s_next {D : Pn} (h : D.nx ρ n) : EvS K s c tNext ρ n D := fun M0 H0 O σ H Dn I G => G.nx O ρ n σ H I h
theorem s_break {D : Pn} (h : D.bk ρ n) : EvS K s c tBreak ρ n D := fun M0 H0 O σ H Dn I G => G.bk O ρ n σ H I h
theorem s_cont {D : Pn} (h : D.ct ρ n) : EvS K s c tCont ρ n D := fun M0 H0 O σ H Dn I G => G.ct O ρ n σ H I h
theorem s_drop {D : Pn} (h : EvE K s c te ρ n n1 P) (k : D.nx ρ n1) : EvS K s c (tDrop te) ρ n D := fun M0 H0 O σ H Dn I G =>
  h M0 H0 O σ H _ I fun v H' d g hs r p => G.nx O ρ n1 σ H' (I.next g hs) k
theorem s_asg {g : TG} {D : Pn} (h : EvE K s c te ρ n n1 P) (k : ∀ d, P d → ∃ ρ2 js, EvG K s c g d ρ ρ2 js ∧ D.nx ρ2 n1) : EvS K s c (tAsg te g) ρ n D := fun M0 H0 O σ H Dn I G =>
  h M0 H0 O σ H _ I fun v H' d gr hs r p => by
    obtain ⟨ρ2, js, hg, q⟩ := k d p
    exact hg M0 H0 O n1 σ H' v _ (I.next gr hs) r fun σ2 J _ => G.nx O ρ2 n1 σ2 H' J q
/-- x = e -/
theorem s_set {i : Nat} {D : Pn} (h : EvE K s c te ρ n n1 P) (ho : isOw ρ[i]? = false) (k : ∀ d, P d → D.nx (ρ.set i (.va d)) n1) : EvS K s c (tAsg te (gName i)) ρ n D := s_asg h fun d p => ⟨_, _, eg_name ho, k d p⟩
theorem s_ret {D : Pn} (h : EvE K s c te ρ n n1 P) (k : ∀ d, P d → D.rt d n1) : EvS K s c (tRet te) ρ n D := fun M0 H0 O σ H Dn I G =>
  h M0 H0 O σ H _ I fun v H' d gr hs r p => G.rt v H' d n1 (I.gr.trans gr) hs (r.mono fun a ha => List.mem_append_right _ ha) (k d p)
theorem s_if {t u : TS} {D : Pn} {T : Bool → Prop} (h : EvT K s c tt ρ n n1 T) (h1 : T true → EvS K s c t ρ n1 D) (h2 : T false → EvS K s c u ρ n1 D) : EvS K s c (tIfS tt t u) ρ n D := fun M0 H0 O σ H Dn I G =>
  h M0 H0 O σ H _ I fun b H' g hs p => by
    cases b with
    | true => exact iteT (h1 p M0 H0 O σ H' Dn (I.next g hs) G)
    | false => exact iteF (h2 p M0 H0 O σ H' Dn (I.next g hs) G)

/-! ### own lists change -/
theorem SlR.laid {M M' : List Addr} {H H' : Hp} {p : Addr} {xs : List V} {ds : List D} (hx : H' p = some (.lst xs)) (r : RepL K M' H' ds xs) (hM : ∀ d v, Rep K M H d v → Rep K M' H' d v) (hL : ∀ d v, RepL K M H d v → RepL K M' H' d v) :
    ∀ {ρ : List Sl} {σ : L2.St} {O : List Addr} {i : Nat}, (∀ o ∈ O, ∀ xs, H o = some (.lst xs) → H' o = some (.lst xs)) → SlR K M H ρ σ O → isOw ρ[i]? = false → i < ρ.length → ∃ A B, O = A ++ B ∧ SlR K M' H' (ρ.set i (.ow ds)) (σ.set i (some (.ref p))) (A ++ p :: B)
  | .no :: ρ, _ :: σ, O, 0, hO, h, _, _ => ⟨[], O, rfl, rfl, ⟨xs, hx, r⟩, SlR.imp hM hL hO h⟩
  | .no :: ρ, _ :: σ, O, i + 1, hO, h, e, hi => by
    obtain ⟨A, B, e1, k⟩ := SlR.laid hx r hM hL (ρ := ρ) (σ := σ) (O := O) (i := i) hO h (by simpa using e) (by simpa using hi)
    exact ⟨A, B, e1, k⟩
  | .va d' :: ρ, some v :: σ, O, 0, hO, h, _, _ => ⟨[], O, rfl, rfl, ⟨xs, hx, r⟩, SlR.imp hM hL hO h.2⟩
  | .va d' :: ρ, some v :: σ, O, i + 1, hO, h, e, hi => by
    obtain ⟨A, B, e1, k⟩ := SlR.laid hx r hM hL (ρ := ρ) (σ := σ) (O := O) (i := i) hO h.2 (by simpa using e) (by simpa using hi)
    exact ⟨A, B, e1, hM _ _ h.1, k⟩
  | .ow l :: ρ, some v :: σ, q :: O, 0, hO, h, e, _ => by simp [isOw] at e
  | .ow l :: ρ, some v :: σ, q :: O, i + 1, hO, h, e, hi => by
    obtain ⟨A, B, e1, k⟩ := SlR.laid hx r hM hL (ρ := ρ) (σ := σ) (O := O) (i := i) (fun o ho => hO o (List.mem_cons_of_mem _ ho)) h.2.2 (by simpa using e) (by simpa using hi)
    obtain ⟨h1, ⟨ys, h2, h3⟩, h4⟩ := h
    exact ⟨q :: A, B, by rw [e1]; rfl, h1, ⟨ys, hO q List.mem_cons_self ys h2, hL _ _ h3⟩, k⟩
  | [], _, _, _, _, _, _, hi => by simp at hi
  | .no :: _, [], _, _, _, h, _, _ => by cases h
  | .va _ :: _, [], _, _, _, h, _, _ => by cases h
  | .va _ :: _, none :: _, _, _, _, h, _, _ => by cases h
  | .ow _ :: _, [], _, _, _, h, _, _ => by cases h
  | .ow _ :: _, none :: _, _, _, _, h, _, _ => by cases h
  | .ow _ :: _, some _ :: _, [], _, _, h, _, _ => by cases h
/-- x = a new list, that the def may change -/
theorem s_own {i : Nat} {D : Pn} {PL : List Pl.D → Prop} (h : EvN K s c te ρ n n1 PL) (ho : isOw ρ[i]? = false) (hi : i < ρ.length) (k : ∀ l, PL l → D.nx (ρ.set i (.ow l)) n1) : EvS K s c (tAsg te (gName i)) ρ n D := fun M0 H0 O σ H Dn I G =>
  h M0 H0 O σ H _ I fun p H' ds xs g hs hp e r p1 => by
    have hpO : p ∉ O ++ M0 := I.new_out hp
    have hp0 : H0 p = none := by
      cases q : H0 p with
      | none => rfl
      | some u =>
        have := I.gr p u q (.inl fun z => hpO (I.sub p z))
        rw [hp] at this; cases this
    have J := I.next g hs
    have gM : Gr (O ++ M0) H H' := g.mono I.sub
    have hM : ∀ d v, Rep K (O ++ M0) H d v → Rep K (p :: (O ++ M0)) H' d v := fun d v q => (q.apart hp).gr (gM.mono fun a ha => List.mem_cons_of_mem _ ha)
    have hL : ∀ d v, RepL K (O ++ M0) H d v → RepL K (p :: (O ++ M0)) H' d v := fun d v q => (q.apart hp).gr (gM.mono fun a ha => List.mem_cons_of_mem _ ha)
    obtain ⟨A, B, e1, q⟩ := SlR.laid (i := i) e r hM hL (fun o ho xs e => g o _ e (.inl (not_two (I.fr o ho).2.1 (I.fr o ho).2.2))) I.sl ho hi
    have sub : ∀ a, a ∈ (A ++ p :: B) ++ M0 → a ∈ p :: (O ++ M0) := fun a ha => by
      rw [e1]
      simp only [List.mem_append, List.mem_cons] at ha ⊢
      rcases ha with (z | z | z) | z
      · exact .inr (.inl (.inl z))
      · exact .inl z
      · exact .inr (.inl (.inr z))
      · exact .inr (.inr z)
    have nd := I.nd
    rw [e1] at nd
    have nd3 := List.nodup_append.mp nd
    have hpA : p ∉ A := fun z => hpO (List.mem_append_left _ (by rw [e1]; exact List.mem_append_left _ z))
    have hpB : p ∉ B := fun z => hpO (List.mem_append_left _ (by rw [e1]; exact List.mem_append_right _ z))
    refine G.nx (A ++ p :: B) _ n1 _ H' ⟨I.ms, I.tr, hs, J.gr, fun o ho => ?_, ?_, q.imp (fun _ _ r => r.mono sub) (fun _ _ r => r.mono sub) fun _ _ _ e => e⟩ (k ds p1)
    · rcases List.mem_append.mp ho with z | z
      · exact I.fr o (by rw [e1]; exact List.mem_append_left _ z)
      · rcases List.mem_cons.mp z with z | z
        · rw [z]
          exact ⟨hp0, fun y => hpO (by rw [y]; exact List.mem_append_right _ I.ms.1), fun y => hpO (by rw [y]; exact List.mem_append_right _ I.ms.2)⟩
        · exact I.fr o (by rw [e1]; exact List.mem_append_right _ z)
    · refine List.nodup_append.mpr ⟨nd3.1, List.nodup_cons.mpr ⟨hpB, nd3.2.1⟩, fun a ha b hb => ?_⟩
      rcases List.mem_cons.mp hb with z | z
      · rw [z]
        exact fun y => hpA (y ▸ ha)
      · exact nd3.2.2 a ha b z
theorem SlR.put {M : List Addr} {H : Hp} {p : Addr} {xs : List V} {ds : List D} (hp : p ∈ M) (hl : ∃ ys, H p = some (.lst ys)) (r : RepL K M H ds xs) : ∀ {ρ : List Sl} {σ : L2.St} {O : List Addr} {i : Nat} {l : List D}, O.Nodup → SlR K M H ρ σ O → ρ[i]? = some (.ow l) → σ[i]? = some (some (.ref p)) →
    SlR K M (upd H p (.lst xs)) (ρ.set i (.ow ds)) σ O := by
  obtain ⟨ys, hy⟩ := hl
  have g : Gr M H (upd H p (.lst xs)) := fun a o e m => by
    have ne : a ≠ p := fun z => by
      subst z
      rcases m with m | m
      · exact m hp
      · rw [hy] at e; cases e; cases m
    rw [upd_ne ne]
    exact e
  have stay : ∀ {ρ : List Sl} {σ : L2.St} {O : List Addr}, p ∉ O → SlR K M H ρ σ O → SlR K M (upd H p (.lst xs)) ρ σ O := fun {ρ σ O} hO h => h.imp (fun _ _ r => r.gr g) (fun _ _ r => r.gr g) fun o ho zs e => by
    have ne : o ≠ p := fun z => hO (by rw [← z]; exact ho)
    rw [upd_ne ne]
    exact e
  intro ρ σ O i l nd h e1 e2
  induction ρ generalizing σ O i with
  | nil => simp at e1
  | cons x ρ ih =>
    cases σ with
    | nil => cases x <;> exact h.elim
    | cons y σ =>
      cases x with
      | no =>
        cases i with
        | zero => simp at e1
        | succ i => exact ih (i := i) nd h (by simpa using e1) (by simpa using e2)
      | va d =>
        cases y with
        | none => exact h.elim
        | some v =>
          cases i with
          | zero => simp at e1
          | succ i => exact ⟨h.1.gr g, ih (i := i) nd h.2 (by simpa using e1) (by simpa using e2)⟩
      | ow l' =>
        cases y with
        | none => exact h.elim
        | some v =>
          cases O with
          | nil => exact h.elim
          | cons q O =>
            have nd2 := List.nodup_cons.mp nd
            obtain ⟨h1, ⟨zs, h2, h3⟩, h4⟩ := h
            cases i with
            | zero =>
              have e : q = p := by
                simp at e2
                rw [h1] at e2
                exact V.ref.inj e2
              subst e
              exact ⟨h1, ⟨xs, upd_same, r.gr g⟩, stay nd2.1 h4⟩
            | succ i =>
              have e2' : σ[i]? = some (some (V.ref p)) := by simpa using e2
              have e1' : ρ[i]? = some (.ow l) := by simpa using e1
              obtain ⟨p', _, m, e3, _, _⟩ := h4.own e1'
              have ep : p' = p := by
                rw [e2'] at e3
                cases e3
                rfl
              have ne : q ≠ p := fun z => nd2.1 (by rw [z, ← ep]; exact m)
              exact ⟨h1, ⟨zs, by rw [upd_ne ne]; exact h2, h3.gr g⟩, ih (i := i) nd2.2 h4 e1' e2'⟩
theorem Ok.put {M0 : List Addr} {H0 : Hp} {O : List Addr} {σ : L2.St} {H : Hp} {l ds : List D} {i : Nat} {p : Addr} {xs : List V} (I : Ok K s c M0 H0 O ρ n σ H) (e : ρ[i]? = some (.ow l)) (e2 : σ[i]? = some (some (.ref p))) (hp : p ∈ O) (r : RepL K (O ++ M0) H ds xs) :
    Ok K s c M0 H0 O (ρ.set i (.ow ds)) n σ (upd H p (.lst xs)) where
  ms := I.ms
  tr := I.tr
  src := I.src.put (I.fr p hp).2.1 (I.fr p hp).2.2
  gr := I.gr.put (I.fr p hp).1
  fr := I.fr
  nd := I.nd
  sl := I.sl.put (List.mem_append_left _ hp) (I.lst p hp) r I.nd e e2
/-- x.append(e) -/
theorem s_append {i : Nat} {l : List D} {D : Pn} (e : ρ[i]? = some (.ow l)) (h : EvE K s c te ρ n n1 P) (hl : l.length ≤ 1000) (k : ∀ d, P d → D.nx (ρ.set i (.ow (l ++ [d]))) n1) : EvS K s c (tDrop (tBM K "list" rAppend (tVar i) (tCons te tNil))) ρ n D := fun M0 H0 O σ H Dn I G => by
  obtain ⟨p, xs, hp, e2, hx, r⟩ := I.sl.own e
  refine ⟨.ref p, e2, .inl ⟨rfl, xs, .inl (.inl hx)⟩, h M0 H0 O σ H _ I fun v H1 d g s1 r1 p1 => ?_⟩
  have J := I.next g s1
  have hx1 : H1 p = some (.lst xs) := g p _ hx (.inl (not_two (I.fr p hp).2.1 (I.fr p hp).2.2))
  have rr := r.gr (g.mono I.sub)
  refine ⟨p, xs, v, rfl, rfl, hx1, small1000 (by rw [← r.length]; exact hl), ?_⟩
  exact G.nx O _ n1 σ _ (J.put e e2 hp (rr.append (RepL.one r1))) (k d p1)
end
end Pl
/-! text Pl4 -/
set_option Elab.async false
set_option linter.all false
set_option maxRecDepth 100000
namespace Pl
open PySem PySem.Spec PyProof.Rows L2

/-- what an iterator walks over: the data ds, while the heap H1 without O stands -/
def Walks (K : PySem.W.Frag) (s c : Addr) (M0 : List Addr) (H1 : Hp) (O : List Addr) (J : It) (ds : List D) : Prop := ∀ A H, Gr M0 (minus H1 O) H → (∀ a ∈ A, minus H1 O a = none) →
  J.stop ds.length H ∧ ∀ i d, ds[i]? = some d → J.go i H ∧ ∀ x H', J.yld i H x H' → Gr [s, c] H H' ∧ (∀ m, Src s c m H → Src s c m H') ∧ Rep K (A ++ M0) H' d x
def EvI (K : PySem.W.Frag) (s c : Addr) (wi : TI) (ρ : List Sl) (n n' : Nat) (P : List D → Prop) : Prop := ∀ M0 H0 O σ H (R : It → Hp → Prop), Ok K s c M0 H0 O ρ n σ H →
  (∀ J H1 ds, Gr [s, c] H H1 → Src s c n' H1 → Walks K s c M0 H1 O J ds → P ds → R J H1) → wi σ H R

section
variable {K : PySem.W.Frag} {s c : Addr} {ρ ρ1 ρ2 : List Sl} {n n1 n2 n3 n' : Nat} {te ta tb tl : TE} {P : D → Prop} {tt tu : TT}
theorem ei_list {PL : List D → Prop} (h : EvE K s c tl ρ n n1 P) (hp : ∀ d, P d → ∃ ds, d = .lst ds ∧ PL ds) : EvI K s c (iList K tl) ρ n n1 PL := fun M0 H0 O σ H R I k =>
  h M0 H0 O σ H _ I fun v H1 d g hs r p => by
    obtain ⟨ds, rfl, q⟩ := hp d p
    obtain ⟨a, xs, rfl, m, rd, rl⟩ := r
    have J := I.next g hs
    refine ⟨a, rfl, ⟨xs, SqL.of rd⟩, k _ H1 ds g hs (fun A H2 g2 hA => ?_) q⟩
    have rd2 : H2 a = some (.lst xs) := g2 a _ (by rw [minus_out fun z => m (List.mem_append_left _ z)]; exact rd) (.inl fun z => m (List.mem_append_right _ z))
    have rl2 : RepL K (A ++ M0) H2 ds xs := ((rl.minus J.lst).parts hA).gr (g2.mono fun b hb => List.mem_append_right _ hb)
    refine ⟨⟨xs, SqL.of rd2, Nat.le_of_eq rl.length.symm⟩, fun i d hi => ?_⟩
    obtain ⟨x, hx, rx⟩ := rl2.at hi
    refine ⟨⟨xs, x, SqL.of rd2, hx⟩, fun y H3 hy => ?_⟩
    obtain ⟨rfl, hy⟩ := hy
    have := hy xs (SqL.of rd2)
    rw [hx] at this; cases this
    exact ⟨Gr.refl _ _, fun _ z => z, rx⟩
theorem ei_tup {PL : List D → Prop} (h : EvE K s c tl ρ n n1 P) (hp : ∀ d, P d → ∃ ds, d = .tup ds ∧ PL ds) : EvI K s c (iTup K tl) ρ n n1 PL := fun M0 H0 O σ H R I k =>
  h M0 H0 O σ H _ I fun v H1 d g hs r p => by
    obtain ⟨ds, rfl, q⟩ := hp d p
    obtain ⟨a, xs, rfl, st, rl⟩ := r
    have J := I.next g hs
    refine ⟨a, rfl, ⟨xs, st⟩, k _ H1 ds g hs (fun A H2 g2 hA => ?_) q⟩
    have rd2 : SqT K H2 a xs := gr_t g2 (t_minus J.lst st)
    have rl2 : RepL K (A ++ M0) H2 ds xs := ((rl.minus J.lst).parts hA).gr (g2.mono fun b hb => List.mem_append_right _ hb)
    refine ⟨⟨xs, rd2, Nat.le_of_eq rl.length.symm⟩, fun i d hi => ?_⟩
    obtain ⟨x, hx, rx⟩ := rl2.at hi
    refine ⟨⟨xs, x, rd2, hx⟩, fun y H3 hy => ?_⟩
    obtain ⟨rfl, hy⟩ := hy
    have := hy xs rd2
    rw [hx] at this; cases this
    exact ⟨Gr.refl _ _, fun _ z => z, rx⟩
def dInts (lo : Int) (m : Nat) : List D := (List.range m).map fun i => .int (lo + (i : Nat))
theorem ints_len (lo : Int) (m : Nat) : (dInts lo m).length = m := by simp [dInts]
theorem ints_at {lo : Int} {m i : Nat} (h : i < m) : (dInts lo m)[i]? = some (.int (lo + (i : Nat))) := by simp [dInts, h]
theorem ints_at' {lo : Int} {m i : Nat} {d : D} (h : (dInts lo m)[i]? = some d) : i < m ∧ d = .int (lo + (i : Nat)) := by
  have hi : i < m := by
    have := (List.getElem?_eq_some_iff.mp h).1
    rwa [ints_len] at this
  rw [ints_at hi] at h
  exact ⟨hi, (Option.some.inj h).symm⟩
theorem walks_rng {M0 : List Addr} {H1 : Hp} {O : List Addr} {lo : Int} {m : Nat} : Walks K s c M0 H1 O (Itr lo m) (dInts lo m) := fun A H g hA => by
  refine ⟨by rw [ints_len]; exact Nat.le_refl m, fun i d hi => ?_⟩
  obtain ⟨h1, rfl⟩ := ints_at' hi
  refine ⟨h1, fun x H' hy => ?_⟩
  obtain ⟨rfl, rfl⟩ := hy
  exact ⟨Gr.refl _ _, fun _ z => z, rfl⟩
theorem ei_rng1 {t : TA} {PA : List D → Prop} {PL : List D → Prop} (h : EvA K s c t ρ n n1 PA) (hp : ∀ l, PA l → ∃ j : Int, l = [.int j] ∧ j ≤ 2 ^ 40 ∧ 0 ≤ j ∧ PL (dInts 0 j.toNat)) : EvI K s c (iRng1 t) ρ n n1 PL := fun M0 H0 O σ H R I k =>
  h M0 H0 O σ H _ I fun vs H1 l g hs r p => by
    obtain ⟨j, rfl, h1, h0, q⟩ := hp l p
    obtain ⟨v, rfl, e⟩ := r.inv1
    have e : v = .int j := e
    subst e
    exact ⟨j, rfl, by omega, by omega, k _ H1 _ g hs walks_rng q⟩

/-! ### for -/
theorem s_for {wi : TI} {g : TG} {tb : TS} {D : Pn} {PL : List Pl.D → Prop} (h : EvI K s c wi ρ n n1 PL) (Inv : List Pl.D → Nat → List Sl → Nat → Prop) (h0 : ∀ ds, PL ds → Inv ds 0 ρ n1)
    (hs : ∀ ds, PL ds → ∀ i d ρ' m, ds[i]? = some d → Inv ds i ρ' m → ∃ ρ2 js, EvG K s c g d ρ' ρ2 js ∧ EvS K s c tb ρ2 m { D with nx := Inv ds (i + 1), ct := Inv ds (i + 1), bk := D.nx })
    (hd : ∀ ds, PL ds → ∀ ρ' m, Inv ds ds.length ρ' m → D.nx ρ' m) : EvS K s c (tFor wi g tb) ρ n D := fun M0 H0 O σ H Dn I G =>
  h M0 H0 O σ H _ I fun J H1 ds g1 s1 w p => by
    have I1 := I.next g1 s1
    refine ⟨fun i k σ' H' => ∃ O' ρ' m, Ok K s c M0 (minus H1 O) O' ρ' m σ' H' ∧ Inv ds i ρ' m ∧ i ≤ ds.length ∧ k = ds.length - i, ⟨ds.length, O, ρ, n1, I1.focus, h0 ds p, Nat.zero_le _, rfl⟩, ?_⟩
    rintro i k σ' H' ⟨O', ρ', m, J', inv, hi, rfl⟩
    obtain ⟨w1, w2⟩ := w O' H' (J'.gr.mono (two_sub J'.ms)) fun o ho => (J'.fr o ho).1
    by_cases hlt : i < ds.length
    · obtain ⟨w3, w4⟩ := w2 i ds[i] (List.getElem?_eq_getElem hlt)
      refine .inr ⟨w3, fun σ2 H2 => ∃ O' ρ' m, Ok K s c M0 (minus H1 O) O' ρ' m σ2 H2 ∧ Inv ds (i + 1) ρ' m, fun σ2 H2 ⟨O2, ρ2, m2, J2, inv2⟩ => ⟨ds.length - (i + 1), by omega, O2, ρ2, m2, J2, inv2, hlt, rfl⟩, fun x H2 hy => ?_⟩
      obtain ⟨g2, s2, r2⟩ := w4 x H2 hy
      have J2 := J'.next g2 (s2 _ J'.src)
      obtain ⟨ρ2, js, eg, es⟩ := hs ds p i _ ρ' m (List.getElem?_eq_getElem hlt) inv
      refine eg M0 _ O' m σ' H2 x _ J2 r2 fun σ2 J3 _ => ?_
      refine es M0 _ O' σ2 H2 _ J3 ⟨fun O3 ρ3 m3 σ3 H3 J4 q => ⟨O3, ρ3, m3, J4, q⟩, fun v H3 d n3 g3 s3 r3 q => G.rt v H3 d n3 (gr_unfocus (a := 0) I1 g3) s3 r3 q, fun O3 ρ3 m3 σ3 H3 J4 q => G.nx O3 ρ3 m3 σ3 H3 (I1.unfocus J4) q, fun O3 ρ3 m3 σ3 H3 J4 q => ⟨O3, ρ3, m3, J4, q⟩⟩
    · have e : i = ds.length := by omega
      subst e
      exact .inl ⟨w1, G.nx O' ρ' m σ' H' (I1.unfocus J') (hd ds p ρ' m inv)⟩

/-! ### comprehensions -/
def wipeS (ρ : List Sl) : List Nat → List Sl
  | [] => ρ
  | v :: vs => (wipeS ρ vs).set v .no
def noOws (ρ : List Sl) : List Nat → Bool
  | [] => true
  | v :: vs => !isOw (wipeS ρ vs)[v]? && noOws ρ vs
theorem SlR.wipe {M : List Addr} {H : Hp} {σ : L2.St} {O : List Addr} (h : SlR K M H ρ σ O) : ∀ {vs : List Nat}, noOws ρ vs = true → SlR K M H (wipeS ρ vs) (L2.wipe σ vs) O
  | [], _ => h
  | v :: vs, e => by
    have e' : (!isOw (wipeS ρ vs)[v]? && noOws ρ vs) = true := e
    rw [Bool.and_eq_true, Bool.not_eq_true'] at e'
    exact (SlR.wipe h e'.2).off e'.1
theorem wipe_wipe (σ : L2.St) (vs : List Nat) : ∀ us : List Nat, (∀ u ∈ us, u ∈ vs) → L2.wipe (L2.wipe σ us) vs = L2.wipe σ vs
  | [], _ => rfl
  | u :: us, h => by
    show L2.wipe ((L2.wipe σ us).set u none) vs = _
    rw [wipe_set (h u List.mem_cons_self), wipe_wipe σ vs us fun x hx => h x (List.mem_cons_of_mem _ hx)]
/-- [elt for .. in .. if ..]: Inv by the turn and the list so far -/
theorem en_lc {wi : TI} {g : TG} {vs : List Nat} {PL : List D → Prop} (h : EvI K s c wi ρ n n1 PL) (hv : noOws ρ vs = true) (Inv : List D → Nat → List D → Nat → Prop) (h0 : ∀ ds, PL ds → ds.length ≤ 1000 ∧ Inv ds 0 [] n1)
    (hs : ∀ ds, PL ds → ∀ i d acc m, ds[i]? = some d → acc.length ≤ i → Inv ds i acc m → ∃ ρ2 js m1 T, EvG K s c g d (wipeS ρ vs) ρ2 js ∧ (∀ j ∈ js, j ∈ vs) ∧ EvT K s c tt ρ2 m m1 T ∧
      (T true → ∃ m2 R, EvE K s c te ρ2 m1 m2 R ∧ ∀ y, R y → Inv ds (i + 1) (acc ++ [y]) m2) ∧ (T false → Inv ds (i + 1) acc m1))
    (hd : ∀ ds, PL ds → ∀ acc m, Inv ds ds.length acc m → m ≤ n2) : EvN K s c (tLc wi g tt te vs) ρ n n2 (fun l => ∃ ds, PL ds ∧ ∃ m, Inv ds ds.length l m) := fun M0 H0 O σ H Q I k =>
  h M0 H0 O σ H _ I fun J H1 ds g1 s1 w p D hD => by
    have I1 := I.next g1 s1
    have hDout := I1.new_out hD
    have hDs : D ∉ [s, c] := fun z => hDout (I1.sub D z)
    have hDO : D ∉ O := fun z => hDout (List.mem_append_left _ z)
    -- the state within: D stands apart
    have start : ∀ xs : List V, minus (upd H1 D (.lst xs)) O D = some (.lst xs) := fun xs => by
      rw [minus_out hDO, upd_same]
    have base : ∀ a o, minus H1 O a = some o → minus (upd H1 D (.lst [])) O a = some o := fun a o e => by
      obtain ⟨h1, h2⟩ := minus_some e
      rw [minus_out h1, upd_ne (ne_of_none h2 hD)]
      exact h2
    refine ⟨fun i kk H' => ∃ acc xs m, Gr [s, c] (minus H1 O) H' ∧ (∀ o ∈ O, ∀ ys, H1 o = some (.lst ys) → H' o = some (.lst ys)) ∧ H' D = some (.lst xs) ∧ RepL K (D :: (O ++ M0)) H' acc xs ∧ Src s c m H' ∧ acc.length ≤ i ∧ Inv ds i acc m ∧ i ≤ ds.length ∧ kk = ds.length - i,
      ⟨ds.length, [], [], n1, ?_, fun o ho ys e => ?_, upd_same, trivial, s1.new hD, Nat.le_refl _, (h0 ds p).2, Nat.zero_le _, rfl⟩, ?_⟩
    · exact fun a o e m => by
        obtain ⟨h1, h2⟩ := minus_some e
        rw [upd_ne (ne_of_none h2 hD)]
        exact h2
    · rw [upd_ne (fun z => hDO (by rw [← z]; exact ho))]
      exact e
    rintro i kk H2 ⟨acc, xs, m, gr2, ow2, eD, ra, s2, la, inv, hi, rfl⟩
    obtain ⟨w1, w2⟩ := w (D :: O) H2 (gr2.mono (two_sub I.ms)) fun a ha => by
      rcases List.mem_cons.mp ha with z | z
      · rw [z, minus_out hDO]; exact hD
      · exact minus_in z
    -- the body's state over H2: what callers set apart is D :: M0
    have st : Ok K s c (D :: M0) (minus H2 O) O (wipeS ρ vs) m (L2.wipe σ vs) H2 := by
      have gH : Gr (O ++ M0) H1 H2 := fun a o e mm => by
        by_cases z : a ∈ O
        · obtain ⟨ys, hy⟩ := I1.lst a z
          rw [hy] at e; cases e
          exact ow2 a z ys hy
        · refine gr2 a o (by rw [minus_out z]; exact e) ?_
          rcases mm with mm | mm
          · exact .inl fun q => mm (I1.sub a q)
          · exact .inr mm
      have sl2 : SlR K (D :: (O ++ M0)) H2 ρ σ O := I1.sl.imp (fun _ _ r => (r.apart hD).gr (gH.mono fun a ha => List.mem_cons_of_mem _ ha)) (fun _ _ r => (r.apart hD).gr (gH.mono fun a ha => List.mem_cons_of_mem _ ha)) ow2
      refine ⟨⟨List.mem_cons_of_mem _ I.ms.1, List.mem_cons_of_mem _ I.ms.2⟩, fun a ha => ?_, s2, fun a o e _ => (minus_some e).2, fun o ho => ⟨minus_in ho, (I.fr o ho).2⟩, I.nd, ?_⟩
      · rcases List.mem_cons.mp ha with z | z
        · exact .inr (.inr ⟨.lst xs, by rw [z, minus_out hDO]; exact eD⟩)
        · obtain ⟨o, e⟩ := I1.there a z
          by_cases z1 : a = s
          · exact .inl z1
          · by_cases z2 : a = c
            · exact .inr (.inl z2)
            · have z3 : a ∉ O := fun q => by
                rcases I.tr a z with y | y | ⟨u, y⟩
                · exact z1 y
                · exact z2 y
                · rw [(I.fr a q).1] at y; cases y
              exact .inr (.inr ⟨o, by rw [minus_out z3]; exact gr2 a o (by rw [minus_out z3]; exact e) (.inl (not_two z1 z2))⟩)
      · refine (sl2.wipe hv).imp (fun _ _ r => r.mono ?_) (fun _ _ r => r.mono ?_) fun _ _ _ e => e
        all_goals
          intro a ha
          simp only [List.mem_append, List.mem_cons] at ha ⊢
          rcases ha with z | z | z
          · exact .inr (.inl z)
          · exact .inl z
          · exact .inr (.inr z)
    by_cases hlt : i < ds.length
    · obtain ⟨w3, w4⟩ := w2 i ds[i] (List.getElem?_eq_getElem hlt)
      have lz : acc.length < sizeLine := small1000 (by have := (h0 ds p).1; omega)
      obtain ⟨ρ2, js, m1, T, eg, hj, et, h1, h2⟩ := hs ds p i _ acc m (List.getElem?_eq_getElem hlt) la inv
      refine .inr ⟨w3, fun H' => ∃ acc xs m, Gr [s, c] (minus H1 O) H' ∧ (∀ o ∈ O, ∀ ys, H1 o = some (.lst ys) → H' o = some (.lst ys)) ∧ H' D = some (.lst xs) ∧ RepL K (D :: (O ++ M0)) H' acc xs ∧ Src s c m H' ∧ acc.length ≤ i + 1 ∧ Inv ds (i + 1) acc m,
        fun H' ⟨acc', xs', m', q1, q2, q3, q4, q5, q6, q7⟩ => ⟨ds.length - (i + 1), by omega, acc', xs', m', q1, q2, q3, q4, q5, q6, q7, hlt, rfl⟩, fun x H3 hy => ?_⟩
      obtain ⟨g3, s3, r3⟩ := w4 x H3 hy
      have st3 := st.next g3 (s3 _ s2)
      have keep : ∀ {H4 : Hp}, Gr [s, c] H2 H4 → Gr [s, c] (minus H1 O) H4 ∧ (∀ o ∈ O, ∀ ys, H1 o = some (.lst ys) → H4 o = some (.lst ys)) ∧ H4 D = some (.lst xs) ∧ RepL K (D :: (O ++ M0)) H4 acc xs := fun {H4} g =>
        ⟨gr2.trans g, fun o ho ys e => g o _ (ow2 o ho ys e) (.inl (not_two (I.fr o ho).2.1 (I.fr o ho).2.2)), g D _ eD (.inl hDs), ra.gr (g.mono fun a ha => List.mem_cons_of_mem _ (I1.sub a ha))⟩
      have rx : Rep K (O ++ (D :: M0)) H3 ds[i] x := r3.mono fun a ha => by
        simp only [List.mem_append, List.mem_cons] at ha ⊢
        rcases ha with z | z | z
        · exact .inl (.inr z)
        · exact .inl (.inl z)
        · exact .inr z
      refine eg (D :: M0) _ O m (L2.wipe σ vs) H3 x _ st3 rx fun σ2 st4 wq => ?_
      refine ⟨by rw [wq vs hj, wipe_wipe σ vs vs fun _ z => z], ?_⟩
      refine et (D :: M0) _ O σ2 H3 _ st4 fun b H4 g4 s4 pb => ?_
      cases b with
      | false =>
        obtain ⟨q1, q2, q3, q4⟩ := keep (g3.trans g4)
        exact iteF ⟨acc, xs, m1, q1, q2, q3, q4, s4, by omega, h2 pb⟩
      | true =>
        obtain ⟨m2, R, ee, hR⟩ := h1 pb
        refine iteT (ee (D :: M0) _ O σ2 H4 _ (st4.next g4 s4) fun y H5 e g5 s5 r5 py => ?_)
        obtain ⟨q1, q2, q3, q4⟩ := keep ((g3.trans g4).trans g5)
        have gD : Gr (D :: (O ++ M0)) H5 (upd H5 D (.lst (xs ++ [y]))) := fun a o ea mm => by
          have ne : a ≠ D := fun z => by
            subst z
            rcases mm with mm | mm
            · exact mm List.mem_cons_self
            · rw [q3] at ea; cases ea; cases mm
          rw [upd_ne ne]
          exact ea
        have r5' : Rep K (D :: (O ++ M0)) H5 e y := r5.mono fun a ha => by
          simp only [List.mem_append, List.mem_cons] at ha ⊢
          rcases ha with z | z | z
          · exact .inr (.inl z)
          · exact .inl z
          · exact .inr (.inr z)
        refine ⟨xs, q3, by rw [← ra.length]; exact lz, acc ++ [e], xs ++ [y], m2, ?_, ?_, upd_same, (q4.append (RepL.one r5')).gr gD, s5.put (fun z => hDs (by rw [z]; exact List.mem_cons_self)) (fun z => hDs (by rw [z]; exact List.mem_cons_of_mem _ List.mem_cons_self)), ?_, hR e py⟩
        · intro a o ea mm
          have h3 := q1 a o ea mm
          have ne : a ≠ D := fun z => by
            have := (minus_some ea).2
            rw [z, hD] at this; cases this
          rw [upd_ne ne]
          exact h3
        · intro o ho ys eo
          rw [upd_ne (fun z => hDO (by rw [← z]; exact ho))]
          exact q2 o ho ys eo
        · rw [List.length_append]
          exact Nat.succ_le_succ la
    · have e : i = ds.length := by omega
      subst e
      have gH : Gr [s, c] H H2 := fun a o ea mm => by
        have e1 := g1 a o ea mm
        by_cases z : a ∈ O
        · obtain ⟨ys, hy⟩ := I1.lst a z
          rw [hy] at e1; cases e1
          exact ow2 a z ys hy
        · exact gr2 a o (by rw [minus_out z]; exact e1) mm
      have hD0 : H D = none := g1.none hD hDs
      exact .inl ⟨w1, k D H2 acc xs gH (s2.mono (hd ds p acc m inv)) hD0 eD ra ⟨ds, p, m, inv⟩⟩
end
end Pl
/-! text Pl5 -/
set_option Elab.async false
set_option linter.all false
set_option maxRecDepth 100000
namespace Pl
open PySem PySem.Spec PyProof.Rows L2

section
variable {K : PySem.W.Frag} {s c : Addr} {ρ ρ1 ρ2 : List Sl} {n n1 n2 n3 n' : Nat} {te ta tb tl : TE} {P : D → Prop} {tt tu : TT}
/-! ### operations on data -/
theorem rv_I0 {g : Int → Int → V} {f : Int → Int → D} (hg : ∀ (M : List Addr) H i j, Rep K M H (f i j) (g i j)) {A B : D → Prop} (ha : ∀ d, A d → ∃ i, d = .int i) (hb : ∀ d, B d → ∃ i, d = .int i) :
    RV K s c (rI0 g) A B (fun x y z => ∃ i j, x = .int i ∧ y = .int j ∧ z = f i j) := fun M n x y dx dy H Q _ _ hs rx ry pa pb k => by
  obtain ⟨i, rfl⟩ := ha dx pa
  obtain ⟨j, rfl⟩ := hb dy pb
  exact ⟨i, j, rx, ry, k _ H (f i j) (Gr.refl _ _) hs (hg M H i j) ⟨i, j, rfl, rfl, rfl⟩⟩
theorem rv_I {C : Int → Int → Prop} {g : Int → Int → V} {f : Int → Int → D} (hg : ∀ (M : List Addr) H i j, Rep K M H (f i j) (g i j)) {A B : D → Prop} (ha : ∀ d, A d → ∃ i, d = .int i) (hb : ∀ d, B d → ∃ i, d = .int i)
    (hC : ∀ i j, A (.int i) → B (.int j) → C i j) : RV K s c (rI C g) A B (fun x y z => ∃ i j, x = .int i ∧ y = .int j ∧ z = f i j) := fun M n x y dx dy H Q _ _ hs rx ry pa pb k => by
  obtain ⟨i, rfl⟩ := ha dx pa
  obtain ⟨j, rfl⟩ := hb dy pb
  exact ⟨i, j, rx, ry, hC i j pa pb, k _ H (f i j) (Gr.refl _ _) hs (hg M H i j) ⟨i, j, rfl, rfl, rfl⟩⟩
/-- on ints that are known -/
theorem ev_I0 {g : Int → Int → V} {f : Int → Int → D} {i j : Int} (hg : ∀ (M : List Addr) H i j, Rep K M H (f i j) (g i j)) (ha : EvE K s c ta ρ n n1 (fun d => d = .int i)) (hb : EvE K s c tb ρ n1 n2 (fun d => d = .int j)) :
    EvE K s c (tOp (rI0 g) ta tb) ρ n n2 (fun z => z = f i j) := (ev_op ha hb (rv_I0 hg (fun d e => ⟨i, e⟩) fun d e => ⟨j, e⟩)).imp fun z h => by
  obtain ⟨x, y, rfl, rfl, i', j', e1, e2, rfl⟩ := h
  cases e1; cases e2; rfl
theorem ev_I {C : Int → Int → Prop} {g : Int → Int → V} {f : Int → Int → D} {i j : Int} (hg : ∀ (M : List Addr) H i j, Rep K M H (f i j) (g i j)) (ha : EvE K s c ta ρ n n1 (fun d => d = .int i)) (hb : EvE K s c tb ρ n1 n2 (fun d => d = .int j)) (hC : C i j) :
    EvE K s c (tOp (rI C g) ta tb) ρ n n2 (fun z => z = f i j) := (ev_op ha hb (rv_I hg (fun d e => ⟨i, e⟩) (fun d e => ⟨j, e⟩) fun i' j' e1 e2 => by cases e1; cases e2; exact hC)).imp fun z h => by
  obtain ⟨x, y, rfl, rfl, i', j', e1, e2, rfl⟩ := h
  cases e1; cases e2; rfl
theorem ev_add {i j : Int} (ha : EvE K s c ta ρ n n1 (fun d => d = .int i)) (hb : EvE K s c tb ρ n1 n2 (fun d => d = .int j)) : EvE K s c (tOp (rI0 fun i j => .int (i + j)) ta tb) ρ n n2 (fun z => z = .int (i + j)) := ev_I0 (f := fun i j => .int (i + j)) (fun _ _ _ _ => rfl) ha hb
theorem ev_sub {i j : Int} (ha : EvE K s c ta ρ n n1 (fun d => d = .int i)) (hb : EvE K s c tb ρ n1 n2 (fun d => d = .int j)) : EvE K s c (tOp (rI0 fun i j => .int (i - j)) ta tb) ρ n n2 (fun z => z = .int (i - j)) := ev_I0 (f := fun i j => .int (i - j)) (fun _ _ _ _ => rfl) ha hb
theorem ev_mulW {i j : Int} (ha : EvE K s c ta ρ n n1 (fun d => d = .int i)) (hb : EvE K s c tb ρ n1 n2 (fun d => d = .int j)) (h : CMulW i j) : EvE K s c (tOp (rI CMulW fun i j => .int (i * j)) ta tb) ρ n n2 (fun z => z = .int (i * j)) := ev_I (f := fun i j => .int (i * j)) (fun _ _ _ _ => rfl) ha hb h
theorem ev_mod {i j : Int} (ha : EvE K s c ta ρ n n1 (fun d => d = .int i)) (hb : EvE K s c tb ρ n1 n2 (fun d => d = .int j)) (h : 0 < j) : EvE K s c (tOp (rI (fun _ j => 0 < j) fun i j => .int (i % j)) ta tb) ρ n n2 (fun z => z = .int (i % j)) := ev_I (f := fun i j => .int (i % j)) (fun _ _ _ _ => rfl) ha hb h
theorem ev_fdivW {i j : Int} (ha : EvE K s c ta ρ n n1 (fun d => d = .int i)) (hb : EvE K s c tb ρ n1 n2 (fun d => d = .int j)) (h : CDivW i j) : EvE K s c (tOp (rI CDivW fun i j => .int (i / j)) ta tb) ρ n n2 (fun z => z = .int (i / j)) := ev_I (f := fun i j => .int (i / j)) (fun _ _ _ _ => rfl) ha hb h
theorem ev_lt {i j : Int} (ha : EvE K s c ta ρ n n1 (fun d => d = .int i)) (hb : EvE K s c tb ρ n1 n2 (fun d => d = .int j)) : EvE K s c (tOp (rI0 fun i j => .bl (decide (i < j))) ta tb) ρ n n2 (fun z => z = .bl (decide (i < j))) := ev_I0 (f := fun i j => .bl (decide (i < j))) (fun _ _ _ _ => rfl) ha hb
theorem ev_le {i j : Int} (ha : EvE K s c ta ρ n n1 (fun d => d = .int i)) (hb : EvE K s c tb ρ n1 n2 (fun d => d = .int j)) : EvE K s c (tOp (rI0 fun i j => .bl (decide (i ≤ j))) ta tb) ρ n n2 (fun z => z = .bl (decide (i ≤ j))) := ev_I0 (f := fun i j => .bl (decide (i ≤ j))) (fun _ _ _ _ => rfl) ha hb
theorem ev_gt {i j : Int} (ha : EvE K s c ta ρ n n1 (fun d => d = .int i)) (hb : EvE K s c tb ρ n1 n2 (fun d => d = .int j)) : EvE K s c (tOp (rI0 fun i j => .bl (decide (j < i))) ta tb) ρ n n2 (fun z => z = .bl (decide (j < i))) := ev_I0 (f := fun i j => .bl (decide (j < i))) (fun _ _ _ _ => rfl) ha hb
theorem ev_ge {i j : Int} (ha : EvE K s c ta ρ n n1 (fun d => d = .int i)) (hb : EvE K s c tb ρ n1 n2 (fun d => d = .int j)) : EvE K s c (tOp (rI0 fun i j => .bl (decide (j ≤ i))) ta tb) ρ n n2 (fun z => z = .bl (decide (j ≤ i))) := ev_I0 (f := fun i j => .bl (decide (j ≤ i))) (fun _ _ _ _ => rfl) ha hb
/-- a scalar -/
def scD : D → Bool
  | .non => true | .bl _ => true | .int _ => true | .str _ => true | _ => false
/-- xs[i] -/
theorem ev_ixL {l : List D} {i : Int} {d : D} (ha : EvE K s c ta ρ n n1 (fun d => d = .lst l)) (hb : EvE K s c tb ρ n1 n2 (fun d => d = .int i)) (h : atI l i = some d) : EvE K s c (tOp (rIxL K) ta tb) ρ n n2 (fun z => z = d) := fun M0 H0 O σ H Q I k =>
  ha M0 H0 O σ H _ I fun v H1 e g1 s1 r1 p1 => hb M0 H0 O σ H1 _ (I.next g1 s1) fun w H2 f g2 s2 r2 p2 => by
    subst p1; subst p2
    obtain ⟨a, xs, rfl, m, rd, rl⟩ := Rep.gr (g2.mono I.sub) r1
    have r2 : w = .int i := r2
    subst r2
    obtain ⟨j, e1, e2, e3, _⟩ := atI_get h
    obtain ⟨x, hx, rx⟩ := rl.at e2
    refine ⟨a, xs, i, x, rfl, rfl, SqL.of rd, ?_, k x H2 d (g1.trans g2) s2 rx rfl⟩
    unfold atI at h ⊢
    rw [← rl.length]
    cases q : ixN l.length i with
    | none => rw [q] at h; cases h
    | some j' =>
      rw [q] at h
      have q2 := (ixN_seq q).1
      rw [q2] at e1; cases e1
      exact hx
theorem ev_ixT {l : List D} {i : Int} {d : D} (ha : EvE K s c ta ρ n n1 (fun d => d = .tup l)) (hb : EvE K s c tb ρ n1 n2 (fun d => d = .int i)) (h : atI l i = some d) : EvE K s c (tOp (rIxT K) ta tb) ρ n n2 (fun z => z = d) := fun M0 H0 O σ H Q I k =>
  ha M0 H0 O σ H _ I fun v H1 e g1 s1 r1 p1 => hb M0 H0 O σ H1 _ (I.next g1 s1) fun w H2 f g2 s2 r2 p2 => by
    subst p1; subst p2
    obtain ⟨a, xs, rfl, rd, rl⟩ := Rep.gr (g2.mono I.sub) r1
    have r2 : w = .int i := r2
    subst r2
    obtain ⟨j, e1, e2, e3, _⟩ := atI_get h
    obtain ⟨x, hx, rx⟩ := rl.at e2
    refine ⟨a, xs, i, x, rfl, rfl, rd, ?_, k x H2 d (g1.trans g2) s2 rx rfl⟩
    unfold atI at h ⊢
    rw [← rl.length]
    cases q : ixN l.length i with
    | none => rw [q] at h; cases h
    | some j' =>
      rw [q] at h
      have q2 := (ixN_seq q).1
      rw [q2] at e1; cases e1
      exact hx
/-- a sign of a text -/
theorem ev_ixS {z : Str} {i : Int} {q : Nat} (ha : EvE K s c ta ρ n n1 (fun d => d = .str z)) (hb : EvE K s c tb ρ n1 n2 (fun d => d = .int i)) (hz : z.length ≤ sizeLine) (h : atI z.cps.toList i = some q) : EvE K s c (tOp rIxS ta tb) ρ n n2 (fun d => d = .str ⟨#[q]⟩) := fun M0 H0 O σ H Q I k =>
  ha M0 H0 O σ H _ I fun v H1 e g1 s1 r1 p1 => hb M0 H0 O σ H1 _ (I.next g1 s1) fun w H2 f g2 s2 r2 p2 => by
    subst p1; subst p2
    exact ⟨z, i, q, r1, r2, hz, h, k _ H2 (.str ⟨#[q]⟩) (g1.trans g2) s2 rfl rfl⟩
/-- len of a list or tuple -/
def rLenS (K : PySem.W.Frag) : List V → Hp → VK → Prop := fun xs H Q => ∃ p ys, xs = [.ref p] ∧ (SqL K H p ys ∨ SqT K H p ys) ∧ Q (.int ys.length) H
def seqD : D → Option (List D)
  | .lst l => some l
  | .tup l => some l
  | _ => none
theorem rep_seq {M : List Addr} {H : Hp} {d : D} {l : List D} {v : V} (e : seqD d = some l) (r : Rep K M H d v) : ∃ a xs, v = .ref a ∧ (SqL K H a xs ∨ SqT K H a xs) ∧ RepL K M H l xs := by
  cases d with
  | lst l' =>
    cases e
    obtain ⟨a, xs, e1, m, rd, rl⟩ := r
    exact ⟨a, xs, e1, .inl (SqL.of rd), rl⟩
  | tup l' =>
    cases e
    obtain ⟨a, xs, e1, rd, rl⟩ := r
    exact ⟨a, xs, e1, .inr rd, rl⟩
  | _ => cases e
theorem ev_len {l : List D} (ha : EvE K s c ta ρ n n1 (fun d => seqD d = some l)) : EvE K s c (tCB (rLenS K) (tCons ta tNil)) ρ n n1 (fun d => d = .int (l.length : Int)) := fun M0 H0 O σ H Q I k =>
  ha M0 H0 O σ H _ I fun v H1 e g1 s1 r1 p1 => by
    obtain ⟨a, xs, rfl, sq, rl⟩ := rep_seq p1 r1
    refine ⟨a, xs, rfl, sq, k _ H1 (.int (l.length : Int)) g1 s1 ?_ rfl⟩
    show V.int _ = V.int _
    rw [rl.length]
/-- len of a text -/
theorem ev_lenS {z : Str} (ha : EvE K s c ta ρ n n1 (fun d => d = .str z)) (hz : z.length ≤ sizeLine) : EvE K s c (tCB (fun xs H Q => ∃ z, xs = [.str z] ∧ z.length ≤ sizeLine ∧ Q (.int z.length) H) (tCons ta tNil)) ρ n n1 (fun d => d = .int z.length) := fun M0 H0 O σ H Q I k =>
  ha M0 H0 O σ H _ I fun v H1 e g1 s1 r1 p1 => by
    subst p1
    have r1 : v = .str z := r1
    subst r1
    exact ⟨z, rfl, hz, k _ H1 (.int z.length) g1 s1 rfl rfl⟩
/-- int(x) of an int -/
theorem ev_int1 {i : Int} (ha : EvE K s c ta ρ n n1 (fun d => d = .int i)) : EvE K s c (tCB (fun xs H Q => (∃ i, xs = [.int i] ∧ Q (.int i) H) ∨ ∃ k, xs = [.bl k] ∧ Q (.int (if k then 1 else 0)) H) (tCons ta tNil)) ρ n n1 (fun d => d = .int i) := fun M0 H0 O σ H Q I k =>
  ha M0 H0 O σ H _ I fun v H1 e g1 s1 r1 p1 => by
    subst p1
    have r1 : v = .int i := r1
    subst r1
    exact .inl ⟨i, rfl, k _ H1 (.int i) g1 s1 rfl rfl⟩
/-- abs(x) -/
theorem ev_abs {i : Int} (ha : EvE K s c ta ρ n n1 (fun d => d = .int i)) : EvE K s c (tCB (fun xs H Q => ∃ i, xs = [.int i] ∧ Q (.int (if i < 0 then -i else i)) H) (tCons ta tNil)) ρ n n1 (fun d => d = .int (if i < 0 then -i else i)) := fun M0 H0 O σ H Q I k =>
  ha M0 H0 O σ H _ I fun v H1 e g1 s1 r1 p1 => by
    subst p1
    have r1 : v = .int i := r1
    subst r1
    exact ⟨i, rfl, k _ H1 (.int (if i < 0 then -i else i)) g1 s1 rfl rfl⟩
/-- an argument list of one, of two -/
theorem ea_one {d : D} (h : EvE K s c te ρ n n1 (fun x => x = d)) : EvA K s c (tCons te tNil) ρ n n1 (fun l => l = [d]) := fun M0 H0 O σ H Q I k =>
  h M0 H0 O σ H _ I fun v H1 e g1 s1 r1 p1 => k [v] H1 [e] g1 s1 (RepL.one r1) (by rw [p1])
theorem ea_c {d : D} {tr : TA} {l : List D} (h : EvE K s c te ρ n n1 (fun x => x = d)) (hr : EvA K s c tr ρ n1 n2 (fun x => x = l)) : EvA K s c (tCons te tr) ρ n n2 (fun x => x = d :: l) := fun M0 H0 O σ H Q I k =>
  ea_cons h hr M0 H0 O σ H Q I fun vs H' ds g hs r p => k vs H' ds g hs r (by
    obtain ⟨x, y, e1, e2, e3⟩ := p
    rw [e1, e2, e3])
theorem ev_tupE {tr : TA} {l : List D} (h : EvA K s c tr ρ n n1 (fun x => x = l)) (hl : l.length ≤ 1000) : EvE K s c (tTup tr) ρ n n1 (fun d => d = .tup l) := (ev_tup h fun x e => by rw [e]; exact hl).imp fun d h => by
  obtain ⟨x, e1, e2⟩ := h
  rw [e1, e2]
theorem ev_lstE {tr : TA} {l : List D} (h : EvA K s c tr ρ n n1 (fun x => x = l)) (hl : l.length ≤ 1000) : EvE K s c (tLst tr) ρ n n1 (fun d => d = .lst l) := (ev_lst h fun x e => by rw [e]; exact hl).imp fun d h => by
  obtain ⟨x, e1, e2⟩ := h
  rw [e1, e2]
theorem ev_is {d d' : D} (h : EvE K s c te ρ n n1 (fun x => x = d)) (e : d = d') : EvE K s c te ρ n n1 (fun x => x = d') := by rw [← e]; exact h
/-- for every value of the expression -/
theorem EvE.all {α : Type} {Q : D → Prop} {R : α → Prop} {f : α → D} (h : EvE K s c te ρ n n1 (fun d => ∃ x, R x ∧ d = f x)) (k : ∀ x, R x → Q (f x)) : EvE K s c te ρ n n1 Q := h.imp fun d ⟨x, r, e⟩ => by rw [e]; exact k x r
/-- x.insert(e, y) -/
def rInsert : V → List V → Hp → VK → Prop := fun x vs H Q => ∃ (l : Addr) (xs : List V) (i : Int) (y : V), x = .ref l ∧ vs = [.int i, y] ∧ H l = some (.lst xs) ∧ xs.length < sizeLine ∧ 0 ≤ i ∧ i < 2 ^ 63 ∧
    Q .non (upd H l (.lst (xs.take i.toNat ++ [y] ++ xs.drop i.toNat)))
theorem s_insert {j : Nat} {l : List D} {D : Pn} {PI PV : Pl.D → Prop} (e : ρ[j]? = some (.ow l)) (hi : EvE K s c ta ρ n n1 PI) (hI : ∀ d, PI d → ∃ i : Int, d = .int i ∧ 0 ≤ i ∧ i < 2 ^ 63) (h : EvE K s c tb ρ n1 n2 PV) (hl : l.length ≤ 1000)
    (k : ∀ (i : Int) d, PI (.int i) → PV d → D.nx (ρ.set j (.ow (l.take i.toNat ++ [d] ++ l.drop i.toNat))) n2) : EvS K s c (tDrop (tBM K "list" rInsert (tVar j) (tCons ta (tCons tb tNil)))) ρ n D := fun M0 H0 O σ H Dn I G => by
  obtain ⟨p, xs, hp, e2, hx, r⟩ := I.sl.own e
  refine ⟨.ref p, e2, .inl ⟨rfl, xs, .inl (.inl hx)⟩, hi M0 H0 O σ H _ I fun v H1 d g s1 r1 p1 => h M0 H0 O σ H1 _ (I.next g s1) fun w H2 f g2 s2 r2 p2 => ?_⟩
  obtain ⟨i, rfl, i0, i1⟩ := hI d p1
  have r1 : v = .int i := r1
  subst r1
  have J := (I.next g s1).next g2 s2
  have g3 := g.trans g2
  have hx1 : H2 p = some (.lst xs) := g3 p _ hx (.inl (not_two (I.fr p hp).2.1 (I.fr p hp).2.2))
  have rr := r.gr (g3.mono I.sub)
  refine ⟨p, xs, i, w, rfl, rfl, hx1, small1000 (by rw [← r.length]; exact hl), i0, i1, ?_⟩
  exact G.nx O _ n2 σ _ (J.put e e2 hp (((rr.take i.toNat).append (RepL.one r2)).append (rr.drop i.toNat))) (k i f p1 p2)
end
end Pl
/-! text Pl6 -/
set_option Elab.async false
set_option linter.all false
set_option maxRecDepth 100000
namespace Pl
open PySem PySem.Spec PyProof.Rows L2

section
variable {X : Cx}
/-! ### operators whatever the kinds -/
def rAddA (K : PySem.W.Frag) : R2 := fun x y H Q => rI0 (fun i j => .int (i + j)) x y H Q ∨ (∃ i j, x = .str i ∧ y = .str j ∧ i.length + j.length ≤ sizeLine ∧ Q (.str (i ++ j)) H) ∨ rCat x y H Q ∨ rCatA K x y H Q
theorem op_addA : OpR X (binaryOp .Add) (rAddA X.K) := op_add.or (op_add_str.or (op_cat.or op_catA))
def rMulA (K : PySem.W.Frag) : R2 := fun x y H Q => rI CMulW (fun i j => .int (i * j)) x y H Q ∨ rRep x y H Q ∨ rRepT K x y H Q
theorem op_mulA : OpR X (binaryOp .Mult) (rMulA X.K) := op_mulW.or (op_rep.or op_repT)
def rSlAny (K : PySem.W.Frag) : V → Option Int → Option Int → Hp → VK → Prop := fun x lo hi H Q => rSlL K x lo hi H Q ∨ rSlA K x lo hi H Q ∨ rSlS x lo hi H Q
theorem sl_any : L2.SlR X (rSlAny X.K) := sl_list.or (sl_tupA.or sl_str)
def rLenA (K : PySem.W.Frag) : List V → Hp → VK → Prop := fun xs H Q => (∃ p ys, xs = [.ref p] ∧ (SqL K H p ys ∨ SqT K H p ys) ∧ Q (.int ys.length) H) ∨ (∃ z, xs = [.str z] ∧ z.length ≤ sizeLine ∧ Q (.int z.length) H)
theorem call_lenA : CallR X (.builtin "len") (rLenA X.K) := call_len_seq.or call_len_str
end

section
variable {K : PySem.W.Frag} {s c : Addr} {ρ ρ1 ρ2 : List Sl} {n n1 n2 n3 n' : Nat} {te ta tb tl : TE} {P : D → Prop} {tt tu : TT}
/-! ### operations on known data -/
def RK (K : PySem.W.Frag) (s c : Addr) (r : R2) (x y z : D) : Prop := ∀ M n v w H (Q : VK), s ∈ M ∧ c ∈ M → (∀ a ∈ M, ∃ o, H a = some o) → Src s c n H → Rep K M H x v → Rep K M H y w →
  (∀ u H', Gr [s, c] H H' → Src s c n H' → Rep K M H' z u → Q u H') → r v w H Q
theorem rk_or1 {r r' : R2} {x y z : D} (h : RK K s c r x y z) : RK K s c (fun v w H Q => r v w H Q ∨ r' v w H Q) x y z := fun M n v w H Q a b c d e k => .inl (h M n v w H Q a b c d e k)
theorem rk_or2 {r r' : R2} {x y z : D} (h : RK K s c r' x y z) : RK K s c (fun v w H Q => r v w H Q ∨ r' v w H Q) x y z := fun M n v w H Q a b c d e k => .inr (h M n v w H Q a b c d e k)
theorem ev_opP {r : R2} {A B P : D → Prop} (ha : EvE K s c ta ρ n n1 A) (hb : EvE K s c tb ρ n1 n2 B) (hr : ∀ x y, A x → B y → ∃ z, RK K s c r x y z ∧ P z) : EvE K s c (tOp r ta tb) ρ n n2 P := fun M0 H0 O σ H Q I k =>
  ha M0 H0 O σ H _ I fun v H1 d g1 s1 r1 p1 => hb M0 H0 O σ H1 _ (I.next g1 s1) fun w H2 e g2 s2 r2 p2 => by
    obtain ⟨z, hz, pz⟩ := hr d e p1 p2
    exact hz (O ++ M0) n2 v w H2 Q ⟨List.mem_append_right _ I.ms.1, List.mem_append_right _ I.ms.2⟩ ((I.next g1 s1).next g2 s2).thereA s2 (r1.gr (g2.mono I.sub)) r2 fun u H3 g3 s3 r3 => k u H3 z ((g1.trans g2).trans g3) s3 r3 pz
theorem ev_opK {r : R2} {x y z : D} (ha : EvE K s c ta ρ n n1 (fun d => d = x)) (hb : EvE K s c tb ρ n1 n2 (fun d => d = y)) (hr : RK K s c r x y z) : EvE K s c (tOp r ta tb) ρ n n2 (fun d => d = z) := ev_opP ha hb fun x' y' e1 e2 => ⟨z, by rw [e1, e2]; exact hr, rfl⟩
theorem rk_I0 {g : Int → Int → V} {i j : Int} {z : D} (hg : ∀ (M : List Addr) H, Rep K M H z (g i j)) : RK K s c (rI0 g) (.int i) (.int j) z := fun M n v w H Q _ _ hs rx ry k => ⟨i, j, rx, ry, k _ H (Gr.refl _ _) hs (hg M H)⟩
theorem rk_I {C : Int → Int → Prop} {g : Int → Int → V} {i j : Int} {z : D} (hg : ∀ (M : List Addr) H, Rep K M H z (g i j)) (hC : C i j) : RK K s c (rI C g) (.int i) (.int j) z := fun M n v w H Q _ _ hs rx ry k => ⟨i, j, rx, ry, hC, k _ H (Gr.refl _ _) hs (hg M H)⟩
theorem rk_add {i j : Int} : RK K s c (rAddA K) (.int i) (.int j) (.int (i + j)) := rk_or1 (rk_I0 fun _ _ => rfl)
theorem rk_sub {i j : Int} : RK K s c (rI0 fun i j => .int (i - j)) (.int i) (.int j) (.int (i - j)) := rk_I0 fun _ _ => rfl
theorem rk_mul {i j : Int} (h : CMulW i j) : RK K s c (rMulA K) (.int i) (.int j) (.int (i * j)) := rk_or1 (rk_I (fun _ _ => rfl) h)
theorem rk_mod {i j : Int} (h : 0 < j) : RK K s c (rI (fun _ j => 0 < j) fun i j => .int (i % j)) (.int i) (.int j) (.int (i % j)) := rk_I (fun _ _ => rfl) h
theorem rk_fdiv {i j : Int} (h : CDivW i j) : RK K s c (rI CDivW fun i j => .int (i / j)) (.int i) (.int j) (.int (i / j)) := rk_I (fun _ _ => rfl) h
theorem rk_lt {i j : Int} : RK K s c (rI0 fun i j => .bl (decide (i < j))) (.int i) (.int j) (.bl (decide (i < j))) := rk_I0 fun _ _ => rfl
theorem rk_le {i j : Int} : RK K s c (rI0 fun i j => .bl (decide (i ≤ j))) (.int i) (.int j) (.bl (decide (i ≤ j))) := rk_I0 fun _ _ => rfl
theorem rk_gt {i j : Int} : RK K s c (rI0 fun i j => .bl (decide (j < i))) (.int i) (.int j) (.bl (decide (j < i))) := rk_I0 fun _ _ => rfl
theorem rk_ge {i j : Int} : RK K s c (rI0 fun i j => .bl (decide (j ≤ i))) (.int i) (.int j) (.bl (decide (j ≤ i))) := rk_I0 fun _ _ => rfl
theorem rk_addS {i j : Str} (h : i.length + j.length ≤ sizeLine) : RK K s c (rAddA K) (.str i) (.str j) (.str (i ++ j)) := rk_or2 (rk_or1 fun M n v w H Q _ _ hs rx ry k => ⟨i, j, rx, ry, h, k _ H (Gr.refl _ _) hs rfl⟩)
theorem rk_addL {l m : List D} (h : l.length + m.length ≤ 2000) : RK K s c (rAddA K) (.lst l) (.lst m) (.lst (l ++ m)) := rk_or2 (rk_or2 (rk_or1 fun M n v w H Q hm ht hs rx ry k => by
  obtain ⟨a, xs, rfl, ma, ea, ra⟩ := rx
  obtain ⟨b, ys, rfl, mb, eb, rb⟩ := ry
  refine ⟨a, b, xs, ys, rfl, rfl, ea, eb, Nat.le_trans (by rw [← ra.length, ← rb.length]; exact h) (by decide), fun p hp => k (.ref p) _ (Gr.new hp) (hs.new hp) ⟨p, xs ++ ys, rfl, fun z => ?_, upd_same, (ra.append rb).gr (Gr.new hp)⟩⟩
  obtain ⟨o, e⟩ := ht p z
  rw [hp] at e; cases e))
theorem RepL.nil_iff {M : List Addr} {H : Hp} {l : List D} {xs : List V} (r : RepL K M H l xs) : xs = [] ↔ l = [] := by
  have := r.length
  constructor
  · intro e; rw [e] at this; exact List.length_eq_zero_iff.mp this
  · intro e; rw [e] at this; exact List.length_eq_zero_iff.mp this.symm
theorem rk_addT {l m : List D} (h : l.length + m.length ≤ 2000) : RK K s c (rAddA K) (.tup l) (.tup m) (.tup (l ++ m)) := rk_or2 (rk_or2 (rk_or2 fun M n v w H Q hm ht hs rx ry k => by
  obtain ⟨a, xs, rfl, ea, ra⟩ := rx
  obtain ⟨b, ys, rfl, eb, rb⟩ := ry
  refine ⟨a, b, xs, ys, rfl, rfl, ea, eb, Nat.le_trans (by rw [← ra.length, ← rb.length]; exact h) (by decide), fun e => ?_, fun e1 e2 => ?_, fun e1 e2 p hp => k (.ref p) _ (Gr.new hp) (hs.new hp) ⟨p, xs ++ ys, rfl, .inl (.inl upd_same), (ra.append rb).gr (Gr.new hp)⟩⟩
  · refine k (.ref b) H (Gr.refl _ _) hs ⟨b, ys, rfl, eb, ?_⟩
    rw [ra.nil_iff.mp e]
    exact rb
  · refine k (.ref a) H (Gr.refl _ _) hs ⟨a, xs, rfl, ea, ?_⟩
    rw [rb.nil_iff.mp e2, List.append_nil]
    exact ra))
theorem atI_rep {M : List Addr} {H : Hp} {l : List D} {xs : List V} {i : Int} {d : D} (r : RepL K M H l xs) (h : atI l i = some d) : ∃ x, atI xs i = some x ∧ Rep K M H d x := by
  obtain ⟨j, e1, e2, e3, _⟩ := atI_get h
  obtain ⟨x, hx, rx⟩ := r.at e2
  refine ⟨x, ?_, rx⟩
  unfold atI at h ⊢
  rw [← r.length]
  cases q : ixN l.length i with
  | none => rw [q] at h; cases h
  | some j' =>
    rw [q] at h
    have q2 := (ixN_seq q).1
    rw [q2] at e1; cases e1
    exact hx
theorem rk_ixL {l : List D} {i : Int} {d : D} (h : atI l i = some d) : RK K s c (rIx K) (.lst l) (.int i) d := fun M n v w H Q hm ht hs rx ry k => by
  obtain ⟨a, xs, rfl, ma, ea, ra⟩ := rx
  have ry : w = .int i := ry
  subst ry
  obtain ⟨x, h1, h2⟩ := atI_rep ra h
  exact .inl ⟨a, xs, i, x, rfl, rfl, SqL.of ea, h1, k x H (Gr.refl _ _) hs h2⟩
theorem rk_ixT {l : List D} {i : Int} {d : D} (h : atI l i = some d) : RK K s c (rIx K) (.tup l) (.int i) d := fun M n v w H Q hm ht hs rx ry k => by
  obtain ⟨a, xs, rfl, ea, ra⟩ := rx
  have ry : w = .int i := ry
  subst ry
  obtain ⟨x, h1, h2⟩ := atI_rep ra h
  exact .inr (.inl ⟨a, xs, i, x, rfl, rfl, ea, h1, k x H (Gr.refl _ _) hs h2⟩)
theorem rk_ixS {z : Str} {i : Int} {q : Nat} (hz : z.length ≤ sizeLine) (h : atI z.cps.toList i = some q) : RK K s c (rIx K) (.str z) (.int i) (.str ⟨#[q]⟩) := fun M n v w H Q hm ht hs rx ry k =>
  .inr (.inr ⟨z, i, q, rx, ry, hz, h, k _ H (Gr.refl _ _) hs rfl⟩)
/-- a call on known data -/
def CK (K : PySem.W.Frag) (s c : Addr) (r : List V → Hp → VK → Prop) (l : List D) (z : D) : Prop := ∀ M n vs H (Q : VK), s ∈ M ∧ c ∈ M → (∀ a ∈ M, ∃ o, H a = some o) → Src s c n H → RepL K M H l vs →
  (∀ u H', Gr [s, c] H H' → Src s c n H' → Rep K M H' z u → Q u H') → r vs H Q
theorem ev_callP {r : List V → Hp → VK → Prop} {t : TA} {A : List D → Prop} {P : D → Prop} (ha : EvA K s c t ρ n n1 A) (hr : ∀ l, A l → ∃ z, CK K s c r l z ∧ P z) : EvE K s c (tCB r t) ρ n n1 P := fun M0 H0 O σ H Q I k =>
  ha M0 H0 O σ H _ I fun vs H1 ds g1 s1 r1 p1 => by
    obtain ⟨z, hz, pz⟩ := hr ds p1
    exact hz (O ++ M0) n1 vs H1 Q ⟨List.mem_append_right _ I.ms.1, List.mem_append_right _ I.ms.2⟩ (I.next g1 s1).thereA s1 r1 fun u H2 g2 s2 r2 => k u H2 z (g1.trans g2) s2 r2 pz
theorem ev_callK {r : List V → Hp → VK → Prop} {t : TA} {l : List D} {z : D} (ha : EvA K s c t ρ n n1 (fun x => x = l)) (hr : CK K s c r l z) : EvE K s c (tCB r t) ρ n n1 (fun d => d = z) := ev_callP ha fun l' e => ⟨z, by rw [e]; exact hr, rfl⟩
/-- .. that makes a list of it -/
theorem ck_len {d : D} {l : List D} (e : seqD d = some l) : CK K s c (rLenA K) [d] (.int (l.length : Int)) := fun M n vs H Q hm ht hs r k => by
  obtain ⟨v, rfl, rv⟩ := r.inv1
  obtain ⟨a, xs, rfl, sq, rl⟩ := rep_seq e rv
  exact .inl ⟨a, xs, rfl, sq, k _ H (Gr.refl _ _) hs (by show V.int _ = V.int _; rw [rl.length])⟩
theorem ck_lenS {z : Str} (hz : z.length ≤ sizeLine) : CK K s c (rLenA K) [.str z] (.int z.length) := fun M n vs H Q hm ht hs r k => by
  obtain ⟨v, rfl, rv⟩ := r.inv1
  have rv : v = .str z := rv
  subst rv
  exact .inr ⟨z, rfl, hz, k _ H (Gr.refl _ _) hs rfl⟩
theorem ck_int {i : Int} : CK K s c (fun xs H Q => (∃ i, xs = [.int i] ∧ Q (.int i) H) ∨ ∃ k, xs = [.bl k] ∧ Q (.int (if k then 1 else 0)) H) [.int i] (.int i) := fun M n vs H Q hm ht hs r k => by
  obtain ⟨v, rfl, rv⟩ := r.inv1
  have rv : v = .int i := rv
  subst rv
  exact .inl ⟨i, rfl, k _ H (Gr.refl _ _) hs rfl⟩
/-- tuple(x), list(x) -/
theorem ck_tuple {d : D} {l : List D} (e : seqD d = some l) : CK K s c (fun xs H Q => ∃ p ys, xs = [.ref p] ∧ ((SqL K H p ys ∧ ∀ l, H l = none → Q (.ref l) (upd H l (.tup ys))) ∨ (SqT K H p ys ∧ Q (.ref p) H))) [d] (.tup l) := fun M n vs H Q hm ht hs r k => by
  obtain ⟨v, rfl, rv⟩ := r.inv1
  cases d with
  | lst l' =>
    cases e
    obtain ⟨a, xs, rfl, ma, ea, ra⟩ := rv
    exact ⟨a, xs, rfl, .inl ⟨SqL.of ea, fun p hp => k (.ref p) _ (Gr.new hp) (hs.new hp) ⟨p, xs, rfl, .inl (.inl upd_same), ra.gr (Gr.new hp)⟩⟩⟩
  | tup l' =>
    cases e
    obtain ⟨a, xs, rfl, ea, ra⟩ := rv
    exact ⟨a, xs, rfl, .inr ⟨ea, k (.ref a) H (Gr.refl _ _) hs ⟨a, xs, rfl, ea, ra⟩⟩⟩
  | _ => cases e
theorem ck_list {d : D} {l : List D} (e : seqD d = some l) : CK K s c (fun xs H Q => ∃ p ys, xs = [.ref p] ∧ (SqL K H p ys ∨ SqT K H p ys) ∧ ∀ l, H l = none → Q (.ref l) (upd H l (.lst ys))) [d] (.lst l) := fun M n vs H Q hm ht hs r k => by
  obtain ⟨v, rfl, rv⟩ := r.inv1
  obtain ⟨a, xs, rfl, sq, rl⟩ := rep_seq e rv
  refine ⟨a, xs, rfl, sq, fun p hp => k (.ref p) _ (Gr.new hp) (hs.new hp) ⟨p, xs, rfl, fun z => ?_, upd_same, rl.gr (Gr.new hp)⟩⟩
  obtain ⟨o, e⟩ := ht p z
  rw [hp] at e; cases e
/-- slices -/
theorem RepL.cut {M : List Addr} {H : Hp} {l : List D} {xs : List V} (r : RepL K M H l xs) (lo hi : Option Int) : RepL K M H ((l.drop (HT.sIx l.length 0 lo)).take (HT.sIx l.length l.length hi - HT.sIx l.length 0 lo)) (cutV xs lo hi) := by
  unfold cutV
  rw [← r.length]
  exact (r.drop _).take _
def cutD (l : List D) (lo hi : Option Int) : List D := (l.drop (HT.sIx l.length 0 lo)).take (HT.sIx l.length l.length hi - HT.sIx l.length 0 lo)
def EvO (K : PySem.W.Frag) (s c : Addr) (to : TO) (ρ : List Sl) (n n' : Nat) (o : Option Int) : Prop := ∀ M0 H0 O σ H (Q : Option Int → Hp → Prop), Ok K s c M0 H0 O ρ n σ H → (∀ H', Gr [s, c] H H' → Src s c n' H' → Q o H') → to σ H Q
theorem eo_none : EvO K s c tNoPart ρ n n none := fun M0 H0 O σ H Q I k => k H (Gr.refl _ _) I.src
theorem eo_some {i : Int} (h : EvE K s c te ρ n n1 (fun d => d = .int i)) : EvO K s c (tPart te) ρ n n1 (some i) := fun M0 H0 O σ H Q I k => h M0 H0 O σ H _ I fun v H' d g hs r p => by
  subst p
  exact ⟨i, r, k H' g hs⟩
theorem ev_slL {to tu : TO} {l : List D} {lo hi : Option Int} (h : EvE K s c te ρ n n1 (fun d => d = .lst l)) (hl : EvO K s c to ρ n1 n2 lo) (hh : EvO K s c tu ρ n2 n3 hi) : EvE K s c (tSl (rSlAny K) te to tu) ρ n n3 (fun d => d = .lst (cutD l lo hi)) := fun M0 H0 O σ H Q I k =>
  h M0 H0 O σ H _ I fun v H1 d g1 s1 r1 p1 => hl M0 H0 O σ H1 _ (I.next g1 s1) fun H2 g2 s2 => hh M0 H0 O σ H2 _ ((I.next g1 s1).next g2 s2) fun H3 g3 s3 => by
    subst p1
    have g4 := g2.trans g3
    obtain ⟨a, xs, rfl, ma, ea, ra⟩ := Rep.gr (g4.mono I.sub) r1
    have J := ((I.next g1 s1).next g2 s2).next g3 s3
    exact .inl ⟨a, xs, rfl, SqL.of ea, fun p hp => k (.ref p) _ (.lst (cutD l lo hi)) ((g1.trans g4).trans (Gr.new hp)) (s3.new hp) ⟨p, _, rfl, J.new_out hp, upd_same, (ra.cut lo hi).gr (Gr.new hp)⟩ rfl⟩
theorem ev_slT {to tu : TO} {l : List D} {lo hi : Option Int} (h : EvE K s c te ρ n n1 (fun d => d = .tup l)) (hl : EvO K s c to ρ n1 n2 lo) (hh : EvO K s c tu ρ n2 n3 hi) : EvE K s c (tSl (rSlAny K) te to tu) ρ n n3 (fun d => d = .tup (cutD l lo hi)) := fun M0 H0 O σ H Q I k =>
  h M0 H0 O σ H _ I fun v H1 d g1 s1 r1 p1 => hl M0 H0 O σ H1 _ (I.next g1 s1) fun H2 g2 s2 => hh M0 H0 O σ H2 _ ((I.next g1 s1).next g2 s2) fun H3 g3 s3 => by
    subst p1
    have g4 := g2.trans g3
    obtain ⟨a, xs, rfl, ea, ra⟩ := Rep.gr (g4.mono I.sub) r1
    refine .inr (.inl ⟨a, xs, rfl, ea, fun w => k (.ref a) H3 (.tup (cutD l lo hi)) (g1.trans g4) s3 ⟨a, xs, rfl, ea, ?_⟩ rfl, fun _ p hp => k (.ref p) _ (.tup (cutD l lo hi)) ((g1.trans g4).trans (Gr.new hp)) (s3.new hp) ⟨p, _, rfl, .inl (.inl upd_same), (ra.cut lo hi).gr (Gr.new hp)⟩ rfl⟩)
    have e : cutD l lo hi = l := by
      unfold cutD
      rw [ra.length, w.1, w.2, ← ra.length, Nat.sub_zero, List.drop_zero, List.take_length]
    rw [e]
    exact ra
end
end Pl
namespace Pl
open PySem PySem.Spec PyProof.Rows L2
theorem pr_len {K : PySem.W.Frag} {pre : Addr → Addr → List D → Prop} {k m : Nat} {post : Addr → Addr → List D → D → Prop} {vs : List V} {H : Hp} {Q : VK} {E : XK} (h : Pr K pre k post vs H Q E) (hp : ∀ s c ds, pre s c ds → ds.length = m) : vs.length = m := by
  obtain ⟨s, c, M, n, ds, _, _, _, _, _, r, p, _⟩ := h
  rw [← r.length]
  exact hp s c ds p
/-- any item of a list or tuple -/
theorem rk_ixD {K : PySem.W.Frag} {s c : Addr} {d : D} {l : List D} {i : Int} {x : D} (e : seqD d = some l) (h : atI l i = some x) : RK K s c (rIx K) d (.int i) x := by
  cases d with
  | lst l' => cases e; exact rk_ixL h
  | tup l' => cases e; exact rk_ixT h
  | _ => cases e
theorem at_some {α : Type} {l : List α} {k : Int} (h0 : 0 ≤ k) (h1 : k < (l.length : Int)) : ∃ x, atI l k = some x ∧ x ∈ l := by
  have hk : k.toNat < l.length := by omega
  refine ⟨l[k.toNat], ?_, List.getElem_mem hk⟩
  have q := atI_nat (xs := l) (j := k.toNat) (List.getElem?_eq_getElem hk)
  have e : ((k.toNat : Nat) : Int) = k := by omega
  rw [e] at q
  exact q
end Pl
/-! text Pl7 -/
set_option Elab.async false
set_option linter.all false
set_option maxRecDepth 100000
namespace Pl
open PySem PySem.Spec PyProof.Rows L2

section
variable {K : PySem.W.Frag} {s c : Addr} {ρ ρ1 ρ2 : List Sl} {n n1 n2 n3 n' : Nat} {te ta tb tl to : TE} {P : D → Prop} {tt tu : TT}
theorem EvA.imp {t : TA} {A B : List D → Prop} (h : EvA K s c t ρ n n1 A) (i : ∀ l, A l → B l) : EvA K s c t ρ n n1 B := fun M0 H0 O σ H Q I k => h M0 H0 O σ H Q I fun vs H' ds g hs r p => k vs H' ds g hs r (i ds p)
theorem EvA.le {t : TA} {A : List D → Prop} (h : EvA K s c t ρ n n1 A) (l : n1 ≤ n2) : EvA K s c t ρ n n2 A := fun M0 H0 O σ H Q I k => h M0 H0 O σ H Q I fun vs H' ds g hs r p => k vs H' ds g (hs.mono l) r p
/-! ### methods of built-in values, on known data -/
def MK (K : PySem.W.Frag) (s c : Addr) (T : String) (r : V → List V → Hp → VK → Prop) (x : D) (l : List D) (z : D) : Prop := (∀ M H v, Rep K M H x v → tyV K T v H) ∧
  ∀ M n v vs H (Q : VK), s ∈ M ∧ c ∈ M → (∀ a ∈ M, ∃ o, H a = some o) → Src s c n H → Rep K M H x v → RepL K M H l vs → (∀ u H', Gr [s, c] H H' → Src s c n H' → Rep K M H' z u → Q u H') → r v vs H Q
theorem ev_methP {T : String} {r : V → List V → Hp → VK → Prop} {t : TA} {A : D → Prop} {B : List D → Prop} (ho : EvE K s c to ρ n n1 A) (ha : EvA K s c t ρ n1 n2 B) (hr : ∀ x l, A x → B l → ∃ z, MK K s c T r x l z ∧ P z) (hA : ∀ x, A x → ∀ M H v, Rep K M H x v → tyV K T v H) : EvE K s c (tBM K T r to t) ρ n n2 P := fun M0 H0 O σ H Q I k =>
  ho M0 H0 O σ H _ I fun v H1 d g1 s1 r1 p1 => ⟨hA d p1 _ H1 v r1, ha M0 H0 O σ H1 _ (I.next g1 s1) fun vs H2 ds g2 s2 r2 p2 => by
    obtain ⟨z, hz, pz⟩ := hr d ds p1 p2
    exact hz.2 (O ++ M0) n2 v vs H2 Q ⟨List.mem_append_right _ I.ms.1, List.mem_append_right _ I.ms.2⟩ ((I.next g1 s1).next g2 s2).thereA s2 (r1.gr (g2.mono I.sub)) r2 fun u H3 g3 s3 r3 => k u H3 z ((g1.trans g2).trans g3) s3 r3 pz⟩
theorem ty_str {z : Str} : ∀ M H v, Rep K M H (.str z) v → tyV K "str" v H := fun M H v r => by
  have r : v = .str z := r
  subst r
  rfl
theorem ty_lst {l : List D} : ∀ M H v, Rep K M H (.lst l) v → tyV K "list" v H := fun M H v r => by
  obtain ⟨a, xs, rfl, m, e, _⟩ := r
  exact .inl ⟨rfl, xs, SqL.of e⟩
/-- texts in a list -/
def dStrs (ys : List Str) : List D := ys.map .str
theorem dStrs_rep {M : List Addr} {H : Hp} : ∀ {ys : List Str} {vs : List V}, RepL K M H (dStrs ys) vs → vs = ys.map V.str
  | [], [], _ => rfl
  | y :: ys, v :: vs, h => by
    have h1 : v = .str y := h.1
    rw [h1, dStrs_rep (ys := ys) h.2]
    rfl
  | [], _ :: _, h => h.elim
  | _ :: _, [], h => h.elim
theorem dStrs_of : ∀ {l : List D}, (∀ x ∈ l, ∃ z, x = .str z) → ∃ ys, l = dStrs ys
  | [], _ => ⟨[], rfl⟩
  | d :: l, h => by
    obtain ⟨z, rfl⟩ := h d List.mem_cons_self
    obtain ⟨ys, e⟩ := dStrs_of (l := l) fun x hx => h x (List.mem_cons_of_mem _ hx)
    exact ⟨z :: ys, by rw [e]; rfl⟩
def rJoin (K : PySem.W.Frag) : V → List V → Hp → VK → Prop := fun x xs H Q => ∃ a p, ∃ ys : List Str, x = .str a ∧ xs = [.ref p] ∧ (SqL K H p (ys.map V.str) ∨ SqT K H p (ys.map V.str)) ∧
    (ys.map (·.length)).sum + ys.length * a.length ≤ 16777216 ∧ Q (.str (Txt.join a ys)) H
theorem mk_join {a : Str} {d : D} {ys : List Str} (e : seqD d = some (dStrs ys)) (h : (ys.map (·.length)).sum + ys.length * a.length ≤ 16777216) : MK K s c "str" (rJoin K) (.str a) [d] (.str (Txt.join a ys)) := ⟨ty_str, fun M n v vs H Q hm ht hs rx r k => by
  obtain ⟨w, rfl, rw'⟩ := r.inv1
  obtain ⟨p, xs, rfl, sq, rl⟩ := rep_seq e rw'
  rw [dStrs_rep rl] at sq
  exact ⟨a, p, ys, rx, rfl, sq, h, k _ H (Gr.refl _ _) hs rfl⟩⟩
end
/-! ### texts of small letters -/
def low (q : Nat) : Prop := 97 ≤ q ∧ q ≤ 122
def Low (z : Str) : Prop := ∀ q ∈ z.cps.toList, low q
theorem joinL_ones : ∀ l : List Nat, TL.joinL [] (l.map fun q => [q]) = l
  | [] => rfl
  | [q] => rfl
  | q :: r :: l => by
    show [q] ++ ([] ++ TL.joinL [] ((r :: l).map fun q => [q])) = _
    rw [joinL_ones (r :: l)]
    rfl
theorem join_ones (l : List Nat) : Txt.join (Str.ofString "") (l.map fun q => (⟨#[q]⟩ : Str)) = ⟨l.toArray⟩ := by
  have e1 := TL.join_eq (Str.ofString "") (l.map fun q => (⟨#[q]⟩ : Str))
  have e2 := TL.tl_join (Str.ofString "") (l.map fun q => (⟨#[q]⟩ : Str))
  refine TL.ext_tl ?_
  rw [e1, e2, List.map_map]
  have e3 : TL.tl (Str.ofString "") = [] := rfl
  have e4 : ((TL.tl ∘ fun q => (⟨#[q]⟩ : Str)) : Nat → List Nat) = fun q => [q] := rfl
  rw [e3, e4, joinL_ones]
end Pl
/-! text PlK -/
set_option Elab.async false
set_option linter.all false
set_option maxRecDepth 100000
namespace Pl
open PySem PySem.Spec PyProof.Rows L2
/-! ### the rules with the written part named -/
section
variable {X : Cx} (K : PySem.W.Frag)
theorem k_add (h : X.K = K := by rfl) : OpR X (binaryOp .Add) (rAddA K) := by subst h; exact op_addA
theorem k_mul (h : X.K = K := by rfl) : OpR X (binaryOp .Mult) (rMulA K) := by subst h; exact op_mulA
theorem k_sl (h : X.K = K := by rfl) : L2.SlR X (rSlAny K) := by subst h; exact sl_any
theorem k_len (h : X.K = K := by rfl) : CallR X (.builtin "len") (rLenA K) := by subst h; exact call_lenA
theorem k_ix (h : X.K = K := by rfl) : IxR X (rIx K) := by subst h; exact ix_seq
theorem k_list (h : X.K = K := by rfl) : CallR X (.type "list") (fun xs H Q => ∃ p ys, xs = [.ref p] ∧ (SqL K H p ys ∨ SqT K H p ys) ∧ ∀ l, H l = none → Q (.ref l) (upd H l (.lst ys))) := by subst h; exact call_list_of
theorem k_tuple (h : X.K = K := by rfl) : CallR X (.type "tuple") (fun xs H Q => ∃ p ys, xs = [.ref p] ∧ ((SqL K H p ys ∧ ∀ l, H l = none → Q (.ref l) (upd H l (.tup ys))) ∨ (SqT K H p ys ∧ Q (.ref p) H))) := by subst h; exact call_tuple_of
theorem k_eqD (hu : X.A.units + 64 < cLine) (h : X.K = K := by rfl) : OpR X (compareOp .Eq) (rEqD K) := by subst h; exact op_eqD hu
theorem k_neD (hu : X.A.units + 64 < cLine) (h : X.K = K := by rfl) : OpR X (compareOp .NotEq) (rNeD K) := by subst h; exact op_neD hu
theorem k_join (h : X.K = K := by rfl) : MtR X "str.join" (rJoin K) := by subst h; exact mt_join
theorem k_all (hc : X.calm = true) (h : X.K = K := by rfl) : CallR X (.builtin "all") (rAll K) := by subst h; exact cr_all hc
theorem k_any (hc : X.calm = true) (h : X.K = K := by rfl) : CallR X (.builtin "any") (rAny K) := by subst h; exact cr_any hc
variable {tg l e : Expr} {es : List Expr} {tl te ta to : TE} {t : TA} {pos : Pos}
theorem k_pilist (hl : PE X l tl) (h : X.K = K := by rfl) : PI X tg l (iList K tl) := by subst h; exact pi_list hl
theorem k_pitup (hl : PE X l tl) (h : X.K = K := by rfl) : PI X tg l (iTup K tl) := by subst h; exact pi_tup hl
theorem k_pgtup {k : Nat} {t : TGs} {n : Nat} (hc : X.calm = true) (hh : PGs X es t) (hn : (assignEach es X.env).length = n := by rfl) (hst : (assignEach es X.env).findIdx? (·.1) = none := by rfl) (h : X.K = K := by rfl) : PG X (.Tuple es k pos) (gTup K n t) := by subst h; exact pg_tup hc hh hn hst
theorem k_pgunl {k : Nat} {t : TGs} {n : Nat} (hc : X.calm = true) (hh : PGs X es t) (hn : (assignEach es X.env).length = n := by rfl) (hst : (assignEach es X.env).findIdx? (·.1) = none := by rfl) (h : X.K = K := by rfl) : PG X (.Tuple es k pos) (gUnl K n t) := by subst h; exact pg_unl hc hh hn hst
theorem k_fld {f : Str} (he : PE X e ta) (hb : attributeBase e f X.env (eval e X.env) = eval e X.env) (h : X.K = K := by rfl) : PE X (.Attribute e f pos) (tFld K ta f) := by subst h; exact pe_fld he hb
theorem k_bm {T id : String} {name : Str} {r : V → List V → Hp → VK → Prop} {o : Expr} {apos cpos : Pos} (pa : PlainAttrs T) (slot : Slot T name id) (hty : typeOf (.builtin id) = pure (.type "method_descriptor")) (hm : MtR X id r) (ho : PE X o to) (ha : PA X (e :: es) t)
    (hbase : attributeBase o name X.env (eval o X.env) = eval o X.env := by rfl)
    (hfew : ((backTo cpos (starEach (e :: es) X.env)).all (fun x => !x.1) && (backToKw cpos (keywordEach [] X.env)).all (fun x => x.1.isSome)
      && decide ((e :: es).length + ([] : List Keyword).length + (if ([] : List Keyword).isEmpty then 0 else 1) < 30)) = true := by rfl)
    (hline : (apos.endLine == cpos.line) = true := by rfl) (hs : starEach (e :: es) X.env = (false, eval e X.env) :: starEach es X.env := by rfl) (hplain : (backTo cpos (starEach es X.env)).any (·.1) = false := by rfl) (h : X.K = K := by rfl) :
    PE X (.Call (.Attribute o name apos) (e :: es) [] cpos) (tBM K T r to t) := by subst h; exact pe_bm pa slot hty hm ho ha hbase hfew hline hs hplain
end
end Pl
/-! text PlS -/
set_option Elab.async false
set_option linter.all false
set_option maxRecDepth 100000
/-! Sets of texts: what stands in one, put in, made of a list, sorted. -/
namespace PlS
open PySem PySem.Spec PyProof.Rows L2 PySem.Froz
def blank (w : World) : Obj := { cls := .type "set", dict := none, data := .set #[] 0 (.fresh 0 0 (!w.params.followText "set-order")) }
/-- the set at a holds just the texts l, each once -/
structure SetS (P : Program) (w : World) (h : Heap) (a : Addr) (l : List Str) : Prop where
  ex : ∃ D : SD, h.get? a = some (sObj "set" D) ∧ TxOk P w D l ∧ Ris D.2.2.place.toList ∧ (w.params.followText "set-order" = true ∨ D.2.2.led = true)
  nd : l.Nodup
section
variable {P : Program} {w : World} {A : Around} {E : Value → Shared → Prop} {s : Shared} {a : Addr} {l : List Str}
theorem SetS.keep {h h' : Heap} (R : SetS P w h a l) (k : ∀ o, h.get? a = some o → h'.get? a = some o) : SetS P w h' a l := by
  obtain ⟨⟨D, e, r⟩, nd⟩ := R
  exact ⟨⟨D, k _ e, r⟩, nd⟩
theorem SetS.fresh {h : Heap} (e : h.get? a = some (blank w)) : SetS P w h a [] := by
  refine ⟨⟨(#[], 0, .fresh 0 0 (!w.params.followText "set-order")), e, TxOk.nil (by rfl), List.Pairwise.nil, ?_⟩, List.nodup_nil⟩
  cases q : w.params.followText "set-order" with
  | true => exact .inl rfl
  | false => exact .inr rfl
theorem addTx_ris {x : Int} {v : Value} {D : SD} (r : Ris D.2.2.place.toList) : Ris (addTx x v D).2.2.place.toList ∧ (addTx x v D).2.2.led = D.2.2.led := by
  have r1 := layNew_ris D.2.2 D.1 x v r
  have e1 := layNew_led D.2.2 D.1 x v
  unfold addTx
  generalize layNew D.2.2 D.1 x v = Z at r1 e1
  have key : ∀ t2 : SetTable, Ris t2.place.toList → t2.led = D.2.2.led → ∀ b, Ris (tailTx D.2.1 Z.1 t2 b).2.2.place.toList ∧ (tailTx D.2.1 Z.1 t2 b).2.2.led = D.2.2.led := fun t2 q1 q2 b => by
    unfold tailTx
    split
    · exact ⟨relayAll_ris _ _ _, (relayAll_led _ _ _).trans q2⟩
    · exact ⟨q1, q2⟩
  apply key
  · split
    · exact r1
    · exact r1
  · split
    · exact e1
    · exact e1
/-- a text is put in -/
theorem SetS.add {k : Str} {u : Tok} {Q : Bool → Shared → Prop} (R : SetS P w s.heap a l) (hb : l.length + 1 < scanBound)
    (h : ∀ h', Heap.SameBut a s.heap h' → SetS P w h' a (if k ∈ l then l else k :: l) → Q (decide (k ∉ l)) { s with heap := h' }) : wpAny (model P w) A (setAddHashed a (.str k u) (hashStr w k)) Q E s := by
  obtain ⟨⟨D, e, F, r, fl⟩, nd⟩ := R
  by_cases hk : k ∈ l
  · have q := h s.heap (.refl _ _) (by rw [if_pos hk]; exact ⟨⟨D, e, F, r, fl⟩, nd⟩)
    rw [decide_eq_false (not_not_intro hk)] at q
    obtain ⟨es, ep, t⟩ := D
    have sz : es.size = l.length := F.sz
    obtain ⟨x, hx, hi⟩ := (F.mem k).mp hk
    have found : ∃ j, es.toList.findIdx? (fun e => (strKind P w).is k e.2) = some j := by
      cases z : es.toList.findIdx? (fun e => (strKind P w).is k e.2) with
      | some j => exact ⟨j, rfl⟩
      | none =>
        have n := List.findIdx?_eq_none_iff.mp z x hx
        rw [hi] at n; cases n
    obtain ⟨j, hj⟩ := found
    have dd : (sObj "set" (es, ep, t)).data = .set es ep t := rfl
    have line : es.size < scanBound := by omega
    unfold setAddHashed setAddHashedIn; refine wpAny_holding (wpAny_bind (wpAny_setState_of e dd F.fit ?_)); dsimp only
    rw [byScan_of rfl line F.el]; simp only [↓reduceIte]; unfold setAddByScan
    refine wpAny_bind (wpAny_bind (wpAny_rule (wpAny_bind (wpAny_setScan_of (knd := strKind P w) (k := k) (is_str k u) e dd F.fit F.el ?_))))
    rw [hj]; exact wpAny_pure (wpAny_pure q)
  · have q := addTx_ris (x := hashStr w k) (v := .str k u) r
    refine add_x e F hk hb ?_
    have z := h (s.heap.update a fun _ => sObj "set" (addTx (hashStr w k) (.str k u) D)) (.update _ _ _) (by
      rw [if_neg hk]
      exact ⟨⟨_, get_upd _ e rfl, add_ok u F, q.1, fl.imp id fun y => q.2.trans y⟩, List.nodup_cons.mpr ⟨hk, nd⟩⟩)
    rw [decide_eq_true hk] at z
    exact z
/-- what is in a list of texts, each once -/
def ins (l : List Str) (k : Str) : List Str := if k ∈ l then l else k :: l
def gath (l : List Str) : List Str := l.foldl ins []
theorem gath_mem : ∀ (xs l : List Str) (y : Str), y ∈ xs.foldl ins l ↔ y ∈ l ∨ y ∈ xs
  | [], l, y => by simp
  | x :: xs, l, y => by
    rw [List.foldl_cons, gath_mem xs (ins l x) y]
    unfold ins
    by_cases h : x ∈ l
    · rw [if_pos h, List.mem_cons]
      constructor
      · rintro (q | q)
        · exact .inl q
        · exact .inr (.inr q)
      · rintro (q | q | q)
        · exact .inl q
        · rw [q]; exact .inl h
        · exact .inr q
    · rw [if_neg h, List.mem_cons, List.mem_cons]
      constructor
      · rintro ((q | q) | q)
        · exact .inr (.inl q)
        · exact .inl q
        · exact .inr (.inr q)
      · rintro (q | q | q)
        · exact .inl (.inr q)
        · exact .inl (.inl q)
        · exact .inr q
theorem gath_len : ∀ (xs l : List Str), (xs.foldl ins l).length ≤ l.length + xs.length
  | [], l => by simp
  | x :: xs, l => by
    rw [List.foldl_cons]
    have := gath_len xs (ins l x)
    have h2 : (ins l x).length ≤ l.length + 1 := by
      unfold ins
      split
      · omega
      · simp
    rw [List.length_cons]
    omega
end
section
variable {P : Program} {w : World} {A : Around} {R : Result → Shared → Prop} {I : Addr} {fp wr : List Addr} {G : Array GenState → Array GenState → Prop} {n : Nat} {Pv : Nat → Value → Prop} {St : Nat → Shared → Prop}
/-- texts of an iterator go in, one by one -/
theorem fill (W : WalksS P w A.in1 I fp wr G n Pv St) (S : Addr) (hS : S ∉ fp) (xs : List Str) (hn : n = xs.length) (hv : ∀ i v, Pv i v → ∃ x t, xs[i]? = some x ∧ v = .str x t) (few : n < 1000) :
    ∀ (k i : Nat) (s : Shared), n = i + k → St i s → SetS P w s.heap S (gath (xs.take i)) →
      (∀ s', Moved (S :: wr) G s s' → SetS P w s'.heap S (gath xs) → R (.ok (.ret .none)) s') → codeAny (model P w) A (.builtin "set.update.loop" ⟨[.ref S, .ref I], []⟩) R s := by
  have nw : S ∉ wr := fun z => hS (W.sub _ z)
  have up : ∀ b, b ∈ wr → b ∈ S :: wr := fun b hb => List.mem_cons_of_mem _ hb
  intro k
  induction k with
  | zero =>
    intro i s hk st hs go
    have hi : i = n := hk.symm
    subst hi
    refine codeAny_builtin F.entry_set_update_loop ?_; rw [Around.under_plainId F.plain_set_update_loop _]
    refine wpAny_bind (W.done s _ _ st fun s' mv => wpAny_pure (go s' (mv.mono up) ?_))
    rw [hn, List.take_length] at hs
    exact hs.keep fun o e => mv.heap S o nw e
  | succ k ih =>
    intro i s hk st hs go
    refine codeAny_builtin F.entry_set_update_loop ?_; rw [Around.under_plainId F.plain_set_update_loop _]
    refine wpAny_bind (W.item i s _ _ (by omega) st fun v s' pv st' mv => ?_)
    obtain ⟨x, t, hx, rfl⟩ := hv i v pv
    have hs' : SetS P w s'.heap S (gath (xs.take i)) := hs.keep fun o e => mv.heap S o nw e
    have line : (gath (xs.take i)).length + 1 < scanBound := by
      have := gath_len (xs.take i) []
      rw [List.length_take] at this
      have e0 : ([] : List Str).length = 0 := rfl
      have e1 : (gath (xs.take i)).length = ((xs.take i).foldl ins []).length := rfl
      unfold scanBound
      omega
    show wpAny _ A.in1 (holding [Value.str x t] (setAdd S (.str x t)) >>= _) _ _ s'
    refine wpAny_bind (wpAny_holding ?_); unfold setAdd
    refine wpAny_holding (wpAny_bind ((strKind P w).pyHash (k := x) (is_str x t) (SetS.add (s := { s' with toks := s'.toks + 1 }) hs' line fun h' sb ok => ?_)))
    have ok2 : SetS P w h' S (gath (xs.take (i + 1))) := by
      have e : gath (xs.take (i + 1)) = ins (gath (xs.take i)) x := by
        unfold gath
        rw [List.take_add_one, hx, List.foldl_append]
        rfl
      rw [e]
      exact ok
    have far : ∀ b, b ∈ fp → b ≠ S := fun b hb z => hS (by rw [← z]; exact hb)
    refine wpAny_pure ⟨plainId_quiet F.plain_set_update_loop _, ih (i + 1) _ (by omega) (W.frame _ s' _ _ st' (Nat.le_succ _) fun b hb o e => (sb.2 b (far b hb)).trans e) ok2 fun s2 mv2 ok3 => go s2 (Moved.trans W.gtrans ((mv.mono up).then_heap (Nat.le_succ _) fun b o hb e => ?_) mv2) ok3⟩
    exact (sb.2 b fun z => hb (by rw [z]; exact List.mem_cons_self)).trans e
end
end PlS
/-! text PlS4 -/
set_option Elab.async false
set_option linter.all false
set_option maxRecDepth 100000
/-! A set of texts as a tracked thing; {x for a in b for x in c} of texts. -/
namespace PlS
open PySem PySem.Spec PyProof.Rows L2 PySem.Froz
def SetT (P : Program) (w : World) (a : Addr) (l : List Str) : HO := .ext fun h => SetS P w h a l
section
variable {X : Cx}
theorem setT_new {P : Program} {w : World} {H : Hp} {h : Heap} {a : Addr} {l : List Str} (R : SetS P w h a l) : ObjOk P w H h a (SetT P w a l) := by
  obtain ⟨D, e, _⟩ := R.ex
  exact ⟨R, ⟨_, e⟩, fun _ _ p k => p.keep k⟩
theorem setT_get {pins : List (Addr × Obj)} {σ : L2.St} {H : Hp} {s : Shared} {a : Addr} {l : List Str} (I : Inv X pins σ H s) (e : H a = some (SetT X.prog X.w a l)) : SetS X.prog X.w s.heap a l := (I.hok a _ e).1
/-- a text is put into a tracked set -/
theorem put_ok {pins : List (Addr × Obj)} {σ : L2.St} {H : Hp} {s : Shared} {E : Value → Shared → Prop} {D : Addr} {l : List Str} {x : Str} {v : Value} {Q : Value → Shared → Prop} (I : Inv X pins σ H s) (hD : H D = some (SetT X.prog X.w D l)) (few : l.length < 1000) (r : RelV (.str x) v)
    (k : ∀ s', Inv X pins σ (upd H D (SetT X.prog X.w D (ins l x))) s' → Q .none s') : wpAny (model X.prog X.w) X.A (call (.builtin "set.add") [.ref D, v]) Q E s := by
  obtain ⟨t, rfl⟩ := r
  have R := setT_get I hD
  have ty : s.TypeIs (.ref D) "set" := by
    obtain ⟨Z, e, _⟩ := R.ex
    exact ⟨_, e, rfl⟩
  refine wpAny_call_entry F.slot_set_add ty F.entry_set_add ?_ (F.args_set_add_2 _ _)
  unfold Builtin.«set.add» Builtin.Frozenset.oneOther; simp only [List.isEmpty_nil, bind_assoc]
  unfold Builtin.Frozenset.addrOf setAdd
  refine wpAny_bind (wpAny_pure ?_); try dsimp only
  refine wpAny_bind (wpAny_pure ?_); try dsimp only
  refine wpAny_bind (wpAny_holding (wpAny_bind ((strKind X.prog X.w).pyHash (is_str x t) ?_)))
  refine SetS.add (s := { s with toks := s.toks + 1 }) R (by unfold scanBound; omega) fun h' sb ok => ?_
  have there : ∃ u, h'.get? D = some u := by
    obtain ⟨Z, e, _⟩ := ok.ex
    exact ⟨_, e⟩
  exact wpAny_pure ⟨_, rfl, k _ (I.write (e := D) (t' := s.toks + 1) (by rw [hD]; trivial) (.inl rfl) (fun b u hb hu => (sb.2 b hb).trans hu) there (setT_new ok))⟩
end
section
variable {prog : Program} {w : World} {A : Around} {R : Result → Shared → Prop} {s : Shared} {elt t0 i0 t1 i1 : Expr} {ifs0 ifs1 : List Expr} {scope : Scope} {pos : Pos} {it acc : Value} {env : Env}
/-- what the tests of a clause are worth -/
abbrev tests (ifs : List Expr) (env : Env) : Sem Bool := forIn ifs true fun c r => if r = true then do let ok ← isTrue c env (eval c env); pure (ForInStep.yield ok) else pure (ForInStep.yield r)
abbrev two (elt t0 i0 t1 i1 : Expr) (ifs0 ifs1 : List Expr) (scope : Scope) (pos : Pos) : Expr := .SetComp elt [⟨t0, i0, ifs0, 0⟩, ⟨t1, i1, ifs1, 0⟩] scope pos
theorem turn_out : compTurn (two elt t0 i0 t1 i1 ifs0 ifs1 scope pos) 0 it acc env = (do
      standAt i0.pos
      match ← pyNext it with
      | none => pure (.done .next)
      | some v => letOwnedTupleGo t0 it v
                  assign t0 env v
                  let mut ok := true
                  for c in ifs0 do
                    if ok then ok ← isTrue c env (eval c env)
                  if ok then
                    let x ← eval i1 env
                    standAt i1.pos
                    let x ← foldedSetIterable i1 env x
                    let _ ← runOwn (.compStart (two elt t0 i0 t1 i1 ifs0 ifs1 scope pos) 1 (← holding [x] (pyIter x)) acc env) env
                  again (.compLoop (two elt t0 i0 t1 i1 ifs0 ifs1 scope pos) 0 it acc env)) := by rfl
theorem turn_in : compTurn (two elt t0 i0 t1 i1 ifs0 ifs1 scope pos) 1 it acc env = (do
      standAt i1.pos
      match ← pyNext it with
      | none => pure (.done .next)
      | some v => letOwnedTupleGo t1 it v
                  assign t1 env v
                  let mut ok := true
                  for c in ifs1 do
                    if ok then ok ← isTrue c env (eval c env)
                  if ok then
                    (do let v ← eval elt env; standAt elt.pos; let _ ← call (.builtin "set.add") [acc, v])
                  again (.compLoop (two elt t0 i0 t1 i1 ifs0 ifs1 scope pos) 1 it acc env)) := by rfl
abbrev ntd (prog : Program) (w : World) (A : Around) (env : Env) (R : Result → Shared → Prop) : Value → Shared → Prop := notedBy (model prog w) A env fun e s' => R (.error e) s'
/-- the loop of the first clause -/
theorem loop_out (hs : ∀ x, foldedSetIterable i1 env x = pure x) (I : Nat → Shared → Prop)
    (turn : ∀ n s, I n s → wpAny (model prog w) A (pyNext it) (fun r s₁ => match r with
      | none => R (.ok .next) s₁
      | some v => wpAny (model prog w) A (letOwnedTupleGo t0 it v) (fun _ a1 => wpAny (model prog w) A (assign t0 env v) (fun _ a2 => wpAny (model prog w) A (tests ifs0 env) (fun ok a3 =>
            if ok = true then wpAny (model prog w) A (eval i1 env) (fun x a4 => wpAny (model prog w) A (pyIter x) (fun it1 a5 =>
              codeAny (model prog w) A (.compStart (two elt t0 i0 t1 i1 ifs0 ifs1 scope pos) 1 it1 acc env) (fun r s' => match r with
                | .ok _ => ∃ m, m < n ∧ I m s'
                | .error _ => False) a5) (ntd prog w A env R) a4) (ntd prog w A env R) a3
            else ∃ m, m < n ∧ I m a3) (ntd prog w A env R) a2) (ntd prog w A env R) a1) (ntd prog w A env R) s₁) (ntd prog w A env R) s)
    (n : Nat) (h : I n s) : codeAny (model prog w) A (.compLoop (two elt t0 i0 t1 i1 ifs0 ifs1 scope pos) 0 it acc env) R s := by
  refine codeAny_loop rfl I (fun n s hI => ?_) n h
  show wpAny _ A ((compTurn (two elt t0 i0 t1 i1 ifs0 ifs1 scope pos) 0 it acc env).onRaise (fun x => do noteFrame x env; theTreesLotGoes x)) _ _ s
  refine wpAny_noted ?_; rw [turn_out]
  refine wpAny_bind (wpAny_standAt (wpAny_bind (wpAny_mono (turn n s hI) (fun r b1 q1 => ?_) fun _ _ z => z)))
  cases r with
  | none => exact wpAny_pure q1
  | some v =>
    refine wpAny_bind (wpAny_mono q1 (fun _ b2 q2 => wpAny_bind (wpAny_mono q2 (fun _ b3 q3 => wpAny_bind (wpAny_mono q3 (fun ok b4 q4 => ?_) fun _ _ z => z)) fun _ _ z => z)) fun _ _ z => z)
    cases ok with
    | false => exact wpAny_pure ⟨rfl, q4⟩
    | true =>
      refine wpAny_bind (wpAny_mono q4 (fun x b5 q5 => wpAny_bind (wpAny_standAt (wpAny_bind (wpAny_of_eq (hs x) (wpAny_bind (wpAny_holding (wpAny_mono q5 (fun it1 b6 q6 => wpAny_bind (wpAny_runOwn ?_)) fun _ _ z => z))))))) fun _ _ z => z)
      rw [Around.mark_none]
      refine codeAny_mono q6 fun r s' hr => ?_
      cases r with
      | ok f => first | exact wpAny_pure ⟨rfl, hr⟩ | exact wpAny_bind (wpAny_pure (wpAny_pure ⟨rfl, hr⟩))
      | error e => exact hr.elim
/-- the loop of the second -/
theorem loop_in (I : Nat → Shared → Prop)
    (turn : ∀ n s, I n s → wpAny (model prog w) A (pyNext it) (fun r s₁ => match r with
      | none => R (.ok .next) s₁
      | some v => wpAny (model prog w) A (letOwnedTupleGo t1 it v) (fun _ a1 => wpAny (model prog w) A (assign t1 env v) (fun _ a2 => wpAny (model prog w) A (tests ifs1 env) (fun ok a3 =>
            if ok = true then wpAny (model prog w) A (eval elt env) (fun x a4 => wpAny (model prog w) A (call (.builtin "set.add") [acc, x]) (fun _ a5 => ∃ m, m < n ∧ I m a5) (ntd prog w A env R) a4) (ntd prog w A env R) a3
            else ∃ m, m < n ∧ I m a3) (ntd prog w A env R) a2) (ntd prog w A env R) a1) (ntd prog w A env R) s₁) (ntd prog w A env R) s)
    (n : Nat) (h : I n s) : codeAny (model prog w) A (.compLoop (two elt t0 i0 t1 i1 ifs0 ifs1 scope pos) 1 it acc env) R s := by
  refine codeAny_loop rfl I (fun n s hI => ?_) n h
  show wpAny _ A ((compTurn (two elt t0 i0 t1 i1 ifs0 ifs1 scope pos) 1 it acc env).onRaise (fun x => do noteFrame x env; theTreesLotGoes x)) _ _ s
  refine wpAny_noted ?_; rw [turn_in]
  refine wpAny_bind (wpAny_standAt (wpAny_bind (wpAny_mono (turn n s hI) (fun r b1 q1 => ?_) fun _ _ z => z)))
  cases r with
  | none => exact wpAny_pure q1
  | some v =>
    refine wpAny_bind (wpAny_mono q1 (fun _ b2 q2 => wpAny_bind (wpAny_mono q2 (fun _ b3 q3 => wpAny_bind (wpAny_mono q3 (fun ok b4 q4 => ?_) fun _ _ z => z)) fun _ _ z => z)) fun _ _ z => z)
    cases ok with
    | false => exact wpAny_pure ⟨rfl, q4⟩
    | true => exact wpAny_bind (wpAny_bind (wpAny_mono q4 (fun x b5 q5 => wpAny_bind (wpAny_standAt (wpAny_bind (wpAny_mono q5 (fun _ b6 q6 => wpAny_pure (wpAny_pure ⟨rfl, q6⟩)) fun _ _ z => z)))) fun _ _ z => z))
/-- the second clause's start -/
theorem start_in (h0 : codeAny (model prog w) A (.compLoop (two elt t0 i0 t1 i1 ifs0 ifs1 scope pos) 1 it acc env) R s)
    (h : wpAny (model prog w) A (pyIter it) (fun it' s' => codeAny (model prog w) A (.compLoop (two elt t0 i0 t1 i1 ifs0 ifs1 scope pos) 1 it' acc env) R s') (ntd prog w A env R) s) :
    codeAny (model prog w) A (.compStart (two elt t0 i0 t1 i1 ifs0 ifs1 scope pos) 1 it acc env) R s := by
  refine codeAny_of_tree ?_
  show wpAny _ _ ((compStart (two elt t0 i0 t1 i1 ifs0 ifs1 scope pos) 1 it acc env).onRaise (fun x => do noteFrame x env; standAt theWindowsPlace)) _ _ s
  refine wpAny_notedAt ?_; unfold compStart; show wpAny _ _ (ask >>= _) _ _ s
  refine wpAny_bind (wpAny_askSetting (wpAny_ite ?_))
  split
  · first | exact wpAny_bind (wpAny_pure (wpAny_pure (And.intro rfl h0))) | exact wpAny_pure (And.intro rfl h0)
  · first
      | exact wpAny_bind (wpAny_rule (wpAny_bind (wpAny_standAt (wpAny_bind (wpAny_mono h (fun _ _ q => wpAny_pure (And.intro rfl q)) fun _ _ z => z)))))
      | (refine wpAny_bind (wpAny_rule ?_); show wpAny _ _ (standAt i1.pos >>= _) _ _ s; exact wpAny_bind (wpAny_standAt (wpAny_bind (wpAny_mono h (fun _ _ q => wpAny_pure (And.intro rfl q)) fun _ _ z => z))))
end
end PlS
/-! text PlS5 -/
set_option Elab.async false
set_option linter.all false
set_option maxRecDepth 100000
namespace PlS
open PySem PySem.Spec PyProof.Rows L2 PySem.Froz PpSet
section
variable {X : Cx}
/-- {elt for tg in iter if .. for tg1 in iter1 if ..} of texts: D the new set, l what it holds -/
def tSc2 (P : Program) (w : World) (wi : TI) (g : TG) (tt : TT) (wi1 : TI) (g1 : TG) (tt1 : TT) (te : TE) (vs vs1 : List Nat) : TE := fun σ H Q => wi σ H fun J H1 => ∀ D, H1 D = none → ∃ W : Nat → Nat → Hp → Prop, (∃ m, W 0 m (upd H1 D (SetT P w D []))) ∧ ∀ i m H, W i m H →
  (J.stop i H ∧ Q (.ref D) H) ∨ (J.go i H ∧ ∃ Nx : Hp → Prop, (∀ H', Nx H' → ∃ m', m' < m ∧ W (i + 1) m' H') ∧ ∀ x H', J.yld i H x H' → g x (wipe σ vs) H' fun σ2 H2 => wipe σ2 vs = wipe σ vs ∧ tt σ2 H2 fun b H3 =>
    if b = true then wi1 σ2 H3 fun J1 H4 => ∃ W1 : Nat → Nat → Hp → Prop, (∃ m, W1 0 m H4) ∧ ∀ j k H, W1 j k H →
      (J1.stop j H ∧ Nx H) ∨ (J1.go j H ∧ ∃ Nx1 : Hp → Prop, (∀ H', Nx1 H' → ∃ k', k' < k ∧ W1 (j + 1) k' H') ∧ ∀ x H', J1.yld j H x H' → g1 x (wipe σ2 vs1) H' fun σ3 H5 => wipe σ3 vs1 = wipe σ2 vs1 ∧ tt1 σ3 H5 fun b H6 =>
        if b = true then te σ3 H6 fun y H7 => ∃ z l, y = .str z ∧ H7 D = some (SetT P w D l) ∧ l.length < 1000 ∧ Nx1 (upd H7 D (SetT P w D (ins l z))) else Nx1 H6)
    else Nx H3)
theorem newSet_b {P : Program} {w : World} {A : Around} {E : Value → Shared → Prop} {s : Shared} {Q : Value → Shared → Prop} (h : Q (.ref s.heap.objs.size) { s with heap := s.heap.push (blank w) }) : wpAny (model P w) A (newSet (.type "set")) Q E s := newSet_ok h
theorem sc2_core {pins : List (Addr × Obj)} {s : Shared} {σ : L2.St} {H : Hp} {Q : VK} {elt tg iter tg1 iter1 : Expr} {ifs ifs1 : List Expr} {scope : Scope} {own : List (PySem.Str × Nat)} {vs1 : List Nat} {pos pos' : Pos} {wi wi1 : TI} {g g1 : TG} {tt tt1 : TT} {te : TE} {use : Option (Value → Sem Unit)} {Qf : Value → Shared → Prop}
    (hc : X.calm = true) (hN : X.N.Nodup) (I : Inv X pins σ H s) (hi : PI X tg iter wi) (ok : BlkOk X.N X.env.scope scope own) (hv : ∀ i ∈ vs1, i ∈ own.map (·.2))
    (in_ : ∀ (s : Shared) (H : Hp) (C : Addr) (cl : List (PySem.Str × Addr)) (fp : List Addr), PG (X.blk s H scope (compEnvC scope cl C X.env) fp) tg g ∧ PTs (X.blk s H scope (compEnvC scope cl C X.env) fp) ifs tt ∧ PE (X.blk s H scope (compEnvC scope cl C X.env) fp) elt te ∧
      PI (X.blk s H scope (compEnvC scope cl C X.env) fp) tg1 iter1 wi1 ∧ PG (X.blk s H scope (compEnvC scope cl C X.env) fp) tg1 g1 ∧ PTs (X.blk s H scope (compEnvC scope cl C X.env) fp) ifs1 tt1)
    (hs : ∀ x, foldedSetIterable iter X.env x = pure x) (hs1 : ∀ env x, foldedSetIterable iter1 env x = pure x) (h : tSc2 X.prog X.w wi g tt wi1 g1 tt1 te (own.map (·.2)) vs1 σ H Q)
    (hRR : ∀ D C s' m H', Inv X pins σ H' s' → Q (.ref D) H' → s'.heap.Ns C m → FpOk X pins H' C → compPost (model X.prog X.w) X.A X.xe use Qf (.ref D) C (.ok .next) s') :
    wpAny (model X.prog X.w) X.A (comprehension (two elt tg iter tg1 iter1 ifs ifs1 scope pos) scope X.env pos' (newSet (.type "set")) false (eval iter X.env) use) Qf X.xe s := by
  have hfree : ∀ y ∈ scope.names, y.2 = .free → ∃ c, X.env.cells.lookup y.1 = some c := fun y hy e => (ok.free y hy e).elim (fun k => I.ok.has _ (.inl k)) fun k => I.ok.has _ (.inr k)
  refine wpAny_comprehension_free (use := use) rfl hs (closure_ok hfree) ok.kind (fun y hy e => by rw [ok.uniq y hy, e]) (thn (hi.run pins s σ H _ I h) fun xv s1 hx => thn hx fun itv s2 h2 => ?_)
  obtain ⟨it, fp, tn, J, H2, e, I2, T, st2, f2, q⟩ := h2
  subst e
  refine newSet_b (newEnv_comp ?_)
  generalize hD : s2.heap.objs.size = D
  have hDn : H2 D = none := I2.hok.fresh (Nat.le_of_eq hD)
  obtain ⟨W, ⟨m0, w0⟩, turn⟩ := q D hDn
  generalize hs3 : ({ s2 with heap := s2.heap.push (blank X.w) } : Shared) = s3
  have h3 : s3.heap = s2.heap.push (blank X.w) := by rw [← hs3]
  have I3 : Inv X pins σ (upd H2 D (SetT X.prog X.w D [])) s3 := by
    rw [← hs3]
    refine I2.laid (t' := s2.toks) (fun b o e => Heap.get?_push_of_some _ e) (Nat.le_of_eq hD) (setT_new (SetS.fresh ?_))
    rw [← hD]; exact Heap.get?_push_size _ rfl
  have below : ∀ b ∈ fp, b < s2.heap.objs.size := fun b hb => by
    obtain ⟨o, e, _⟩ := T.obj _ _ st2 b hb
    exact Heap.lt_size e
  have f3 : ∀ b ∈ fp, FpOk X pins (upd H2 D (SetT X.prog X.w D [])) b ∧ b < s3.heap.objs.size := fun b hb => by
    refine ⟨⟨?_, (f2 b hb).2⟩, by rw [h3, Heap.size_push]; exact Nat.lt_succ_of_lt (below b hb)⟩
    rw [upd_ne (by rw [← hD]; exact Nat.ne_of_lt (below b hb))]; exact (f2 b hb).1
  have st3 : tn 0 s3.heap := T.keep _ _ _ st2 fun b _ o e => by rw [h3]; exact Heap.get?_push_of_some _ e
  have I4 := block_start I3 ok hN f3
  obtain ⟨pg, pt, pe, pi1, pg1, pt1⟩ := in_ s3 (upd H2 D (SetT X.prog X.w D [])) s3.heap.objs.size (cellsFrom (s3.heap.objs.size + 1) scope.names (cloFrom X.env.cells scope.names [])) fp
  show codeAny _ _ (.compStart (two elt tg iter tg1 iter1 ifs ifs1 scope pos) 0 (.ref it) (.ref D) (compEnvC scope (cellsFrom (s3.heap.objs.size + 1) scope.names (cloFrom X.env.cells scope.names [])) s3.heap.objs.size X.env)) (compPost (model X.prog X.w) X.A X.xe use Qf (.ref D) s3.heap.objs.size) { s3 with heap := pushCells (s3.heap.push { cls := .type "dict", data := .dict #[] }) scope.names }
  have nfp : ∀ b ∈ fp, (upd H2 D (SetT X.prog X.w D [])) b = none := fun b hb => (f3 b hb).1.1
  generalize hce : compEnvC scope (cellsFrom (s3.heap.objs.size + 1) scope.names (cloFrom X.env.cells scope.names [])) s3.heap.objs.size X.env = ce at I4 pg pt pe pi1 pg1 pt1 ⊢
  have cL : ce.locals = s3.heap.objs.size := by subst hce; rfl
  generalize hH3 : upd H2 D (SetT X.prog X.w D []) = H3 at I3 I4 pg pt pe pi1 pg1 pt1 w0 nfp f3
  generalize hs4 : ({ s3 with heap := pushCells (s3.heap.push { cls := .type "dict", data := .dict #[] }) scope.names } : Shared) = s4 at I4 ⊢
  have st4 : tn 0 s4.heap := T.keep _ _ _ st3 fun b _ o e => by rw [← hs4]; exact pushCells_keeps _ _ _ _ (Heap.get?_push_of_some _ e)
  generalize hXb : X.blk s3 H3 scope ce fp = Xb at I4 pg pt pe pi1 pg1 pt1
  have e1 : Xb.prog = X.prog := by rw [← hXb]
  have e2 : Xb.w = X.w := by rw [← hXb]
  have e3 : Xb.K = X.K := by rw [← hXb]
  have e4 : Xb.A = X.A := by rw [← hXb]
  have e5 : Xb.env = ce := by rw [← hXb]
  have e6 : Xb.calm = true := by rw [← hXb]; exact hc
  have e7 : Xb.ex = fp := by rw [← hXb]
  have e8 : Xb.pn = [] := by rw [← hXb]
  have e9 : Xb.xe = fun _ _ => False := by rw [← hXb]
  subst hXb
  have stat : ∀ {σ' : L2.St} {H' : Hp} {s' : Shared}, Inv (X.blk s3 H3 scope ce fp) [] σ' H' s' → (∀ b ∈ fp, H' b = none) → ∀ b ∈ fp, FpOk (X.blk s3 H3 scope ce fp) [] H' b := fun {σ' H' s'} I' hn b hb =>
    ⟨hn b hb, (I'.ok.exf b hb).1, I'.ok.exfs b hb, .inl hb, fun x c e => (I'.ok.exf b hb).2 x c e, fun p hp => by simp at hp⟩
  have loop : codeAny (model X.prog X.w) X.A (.compLoop (two elt tg iter tg1 iter1 ifs ifs1 scope pos) 0 (.ref it) (.ref D) ce) (compPost (model X.prog X.w) X.A X.xe use Qf (.ref D) s3.heap.objs.size) s4 := by
    refine loop_out (hs1 ce) (fun n s' => ∃ i H', Inv (X.blk s3 H3 scope ce fp) [] (wipe σ (own.map (·.2))) H' s' ∧ tn i s'.heap ∧ (∀ b ∈ fp, H' b = none) ∧ W i n H') ?_ m0 ⟨0, H3, I4, st4, nfp, w0⟩
    rintro n s5 ⟨i, H5, I5, st5, n5, w5⟩
    rcases turn i n H5 w5 with ⟨stop, qq⟩ | ⟨go, Nx, hNx, step⟩
    · refine thnF (T.done (X.blk s3 H3 scope ce fp) rfl rfl rfl hc i [] s5 _ H5 (fun _ _ => False) I5 (stat I5 n5) st5 stop) fun r s6 ⟨hr, I6⟩ => ?_
      subst hr
      have I7 : Inv X pins σ H5 s6 := I3.call' (ch := fp) I6.os I6.base I6.hok I6.bare fun b hb => let z := (f3 b hb).1.2; ⟨z.2.2.1, z.1, z.2.2.2.1, z.2.2.2.2⟩
      have nC : H5 s3.heap.objs.size = none := by
        have z : H5 ce.locals = none := I6.free
        rw [cL] at z; exact z
      obtain ⟨m, hn, _⟩ := I6.loc
      have hn : s6.heap.Ns ce.locals m := hn
      rw [cL] at hn
      exact hRR D s3.heap.objs.size s6 m H5 I7 qq hn (I3.fpOk (Nat.le_refl _) nC)
    · refine thnF (T.item (X.blk s3 H3 scope ce fp) rfl rfl rfl hc i [] s5 _ H5 (fun _ _ => False) I5 (stat I5 n5) st5 go) fun r s6 ⟨u, hr, h6⟩ => ?_
      subst hr
      refine thnF h6 fun _ s7 ⟨x, H7, I7, r7, y7, st7, n7⟩ => ?_
      have I7' := I7.pinned (stat I7 n7) (T.obj _ _ st7)
      refine thnF (pg.run _ s7 _ H7 x u _ I7' r7 (step x H7 y7)) fun _ s8 ⟨σ8, H8, I8, hw8, q8⟩ => thnF (pt.run _ s8 σ8 H8 _ I8 q8) fun b s9 ⟨H9, I9, q9⟩ => ?_
      have fin : ∀ {σ9 : L2.St} {s' : Shared} {H' : Hp}, Inv (X.blk s3 H3 scope ce fp) ([] ++ pinsAt fp s7.heap) σ9 H' s' → (wipe σ (own.map (·.2))).length = σ9.length → (∀ (j : Nat) v, (wipe σ (own.map (·.2)))[j]? = some (some v) → σ9[j]? = some (some v)) → Nx H' →
          ∃ m, m < n ∧ ∃ i H', Inv (X.blk s3 H3 scope ce fp) [] (wipe σ (own.map (·.2))) H' s' ∧ tn i s'.heap ∧ (∀ b ∈ fp, H' b = none) ∧ W i m H' := fun {σ9 s' H'} I' hl hk nx => by
        obtain ⟨m', hm, w'⟩ := hNx H' nx
        have pin' : ∀ b ∈ fp, ∀ o, s7.heap.get? b = some o → s'.heap.get? b = some o ∧ H' b = none := fun b hb o e => (I'.pin (b, o) (List.mem_append_right _ (List.mem_append_right _ (mem_pinsAt hb e)))).imp id And.left
        refine ⟨m', hm, i + 1, H', (I'.unpinned (pins := [])).weak hl hk, T.keep _ _ _ st7 fun b hb o e => (pin' b hb o e).1, fun b hb => ?_, w'⟩
        obtain ⟨o, e, _⟩ := T.obj _ _ st7 b hb
        exact (pin' b hb o e).2
      have hl8 : (wipe σ (own.map (·.2))).length = σ8.length := by rw [← hw8, wipe_length]
      have hk8 : ∀ (j : Nat) v, (wipe σ (own.map (·.2)))[j]? = some (some v) → σ8[j]? = some (some v) := fun j v e => by
        rw [← hw8] at e; exact (wipe_some e).1
      have hk9 : ∀ (j : Nat) v, (wipe σ (own.map (·.2)))[j]? = some (some v) → (wipe σ8 vs1)[j]? = some (some v) := fun j v e => by
        rw [← hw8] at e
        obtain ⟨z1, z2⟩ := wipe_some e
        rw [wipe_out fun z => z2 (hv j z)]; exact z1
      cases b with
      | false =>
        simp only [Bool.false_eq_true, if_false] at q9 ⊢
        exact fin I9 hl8 hk8 q9
      | true =>
        simp only [if_true] at q9 ⊢
        refine thnF (pi1.run _ s9 σ8 H9 _ I9 q9) fun xv s10 hx => thnF hx fun itv s11 h11 => ?_
        obtain ⟨it1, fp1, tn1, J1, H11, e1, I11, T1, st11, f11, W1, ⟨m1, w1⟩, turn1⟩ := h11
        subst e1
        have stat1 : ∀ {H' : Hp}, (∀ b ∈ fp1, H' b = none) → ∀ b ∈ fp1, FpOk (X.blk s3 H3 scope ce fp) ([] ++ pinsAt fp s7.heap) H' b := fun hn b hb => ⟨hn b hb, (f11 b hb).2⟩
        have loop1 : codeAny (model X.prog X.w) X.A (.compLoop (two elt tg iter tg1 iter1 ifs ifs1 scope pos) 1 (.ref it1) (.ref D) ce)
            (fun r s' => match r with
              | .ok _ => ∃ m, m < n ∧ ∃ i H', Inv (X.blk s3 H3 scope ce fp) [] (wipe σ (own.map (·.2))) H' s' ∧ tn i s'.heap ∧ (∀ b ∈ fp, H' b = none) ∧ W i m H'
              | .error _ => False) s11 := by
          refine loop_in (fun k s' => ∃ j H', Inv (X.blk s3 H3 scope ce fp) ([] ++ pinsAt fp s7.heap) (wipe σ8 vs1) H' s' ∧ tn1 j s'.heap ∧ (∀ b ∈ fp1, H' b = none) ∧ W1 j k H') ?_ m1 ⟨0, H11, I11.weak (wipe_length _ _) (fun j v e => (wipe_some e).1), st11, fun b hb => (f11 b hb).1, w1⟩
          rintro k s12 ⟨j, H12, I12, st12, n12, w12⟩
          rcases turn1 j k H12 w12 with ⟨stop1, nx1⟩ | ⟨go1, Nx1, hNx1, step1⟩
          · refine thnF (T1.done (X.blk s3 H3 scope ce fp) rfl rfl rfl hc j _ s12 (wipe σ8 vs1) H12 (fun _ _ => False) I12 (stat1 n12) st12 stop1) fun r s13 ⟨hr, I13⟩ => ?_
            subst hr
            exact fin I13 (hl8.trans (wipe_length σ8 vs1).symm) hk9 nx1
          · refine thnF (T1.item (X.blk s3 H3 scope ce fp) rfl rfl rfl hc j _ s12 (wipe σ8 vs1) H12 (fun _ _ => False) I12 (stat1 n12) st12 go1) fun r s13 ⟨u1, hr, h13⟩ => ?_
            subst hr
            refine thnF h13 fun _ s14 ⟨x1, H14, I14, r14, y14, st14, n14⟩ => ?_
            have I14' := I14.pinned (stat1 n14) (T1.obj _ _ st14)
            refine thnF (pg1.run _ s14 (wipe σ8 vs1) H14 x1 u1 _ I14' r14 (step1 x1 H14 y14)) fun _ s15 ⟨σ15, H15, I15, hw15, q15⟩ => thnF (pt1.run _ s15 σ15 H15 _ I15 q15) fun b1 s16 ⟨H16, I16, q16⟩ => ?_
            have fin1 : ∀ {s' : Shared} {H' : Hp}, Inv (X.blk s3 H3 scope ce fp) (([] ++ pinsAt fp s7.heap) ++ pinsAt fp1 s14.heap) σ15 H' s' → Nx1 H' → ∃ m, m < k ∧ ∃ j H', Inv (X.blk s3 H3 scope ce fp) ([] ++ pinsAt fp s7.heap) (wipe σ8 vs1) H' s' ∧ tn1 j s'.heap ∧ (∀ b ∈ fp1, H' b = none) ∧ W1 j m H' := fun {s' H'} I' nx => by
              obtain ⟨m', hm, w'⟩ := hNx1 H' nx
              have pin' : ∀ b ∈ fp1, ∀ o, s14.heap.get? b = some o → s'.heap.get? b = some o ∧ H' b = none := fun b hb o e => (I'.pin (b, o) (List.mem_append_right _ (List.mem_append_right _ (mem_pinsAt hb e)))).imp id And.left
              refine ⟨m', hm, j + 1, H', I'.unpinned.weak (by rw [← hw15, wipe_length]) (fun j v e => by rw [← hw15] at e; exact (wipe_some e).1), T1.keep _ _ _ st14 fun b hb o e => (pin' b hb o e).1, fun b hb => ?_, w'⟩
              obtain ⟨o, e, _⟩ := T1.obj _ _ st14 b hb
              exact (pin' b hb o e).2
            cases b1 with
            | false =>
              simp only [Bool.false_eq_true, if_false] at q16 ⊢
              exact fin1 I16 q16
            | true =>
              simp only [if_true] at q16 ⊢
              refine thnF (pe.run _ s16 σ15 H16 _ I16 q16) fun z s17 ⟨yv, H17, I17, r17, zz, l, ez, hD17, few, nx⟩ => ?_
              rw [ez] at r17
              exact put_ok (X := X.blk s3 H3 scope ce fp) I17 hD17 few r17 fun s18 I18 => fin1 I18 nx
        exact start_in loop1 (T1.self X.A 0 _ _ _ st11 loop1)
  exact codeAny_compStart_set loop (T.self X.A 0 _ _ _ st4 loop)
/-- as a value -/
theorem pe_sc2 {elt tg iter tg1 iter1 : Expr} {ifs ifs1 : List Expr} {scope : Scope} {own : List (PySem.Str × Nat)} {vs1 : List Nat} {pos : Pos} {wi wi1 : TI} {g g1 : TG} {tt tt1 : TT} {te : TE} (hc : X.calm = true) (hN : X.N.Nodup) (hi : PI X tg iter wi) (ok : BlkOk X.N X.env.scope scope own) (hv : ∀ i ∈ vs1, i ∈ own.map (·.2))
    (hg : ∀ (s : Shared) (H : Hp) (C : Addr) (cl : List (PySem.Str × Addr)) (fp : List Addr), PG (X.blk s H scope (compEnvC scope cl C X.env) fp) tg g) (ht : ∀ (s : Shared) (H : Hp) (C : Addr) (cl : List (PySem.Str × Addr)) (fp : List Addr), PTs (X.blk s H scope (compEnvC scope cl C X.env) fp) ifs tt)
    (hi1 : ∀ (s : Shared) (H : Hp) (C : Addr) (cl : List (PySem.Str × Addr)) (fp : List Addr), PI (X.blk s H scope (compEnvC scope cl C X.env) fp) tg1 iter1 wi1)
    (hg1 : ∀ (s : Shared) (H : Hp) (C : Addr) (cl : List (PySem.Str × Addr)) (fp : List Addr), PG (X.blk s H scope (compEnvC scope cl C X.env) fp) tg1 g1) (ht1 : ∀ (s : Shared) (H : Hp) (C : Addr) (cl : List (PySem.Str × Addr)) (fp : List Addr), PTs (X.blk s H scope (compEnvC scope cl C X.env) fp) ifs1 tt1)
    (he : ∀ (s : Shared) (H : Hp) (C : Addr) (cl : List (PySem.Str × Addr)) (fp : List Addr), PE (X.blk s H scope (compEnvC scope cl C X.env) fp) elt te) (hs : ∀ x, foldedSetIterable iter X.env x = pure x := by intro _; rfl) (hs1 : ∀ env x, foldedSetIterable iter1 env x = pure x := by intro _ _; rfl) :
    PE X (.SetComp elt [⟨tg, iter, ifs, 0⟩, ⟨tg1, iter1, ifs1, 0⟩] scope pos) (tSc2 X.prog X.w wi g tt wi1 g1 tt1 te (own.map (·.2)) vs1) := by
  refine ⟨fun pins s σ H Q I h => ?_⟩
  rw [eval_SetComp]
  refine sc2_core hc hN I hi ok hv (fun s H C cl fp => ⟨hg s H C cl fp, ht s H C cl fp, he s H C cl fp, hi1 s H C cl fp, hg1 s H C cl fp, ht1 s H C cl fp⟩) hs hs1 h fun D C s' m H' I' q hn f => ⟨m, hn, fun h2 sb => ?_⟩
  obtain ⟨f0, f1, f2, f3, f4, f5⟩ := f
  exact ⟨.ref D, H', I'.turned (t' := s'.toks) (fun b o hb e => (sb.2 b hb).trans e) f0 f1 f3 f4 f5, rfl, q⟩
end
end PlS
/-! text PlS2 -/
set_option Elab.async false
set_option linter.all false
set_option maxRecDepth 100000
namespace PlS
open PySem PySem.Spec PyProof.Rows L2 PySem.Froz
section
variable {P : Program} {w : World} {A : Around} {E : Value → Shared → Prop} {s : Shared}
theorem strs_get : ∀ {us : List Value} {xs : List Str} {i : Nat} {v : Value}, StrsAre us xs → us[i]? = some v → ∃ x t, xs[i]? = some x ∧ v = .str x t
  | _, _, _, _, .nil, h => by simp at h
  | _, _, 0, _, .cons x t _, h => by
    simp at h
    exact ⟨x, t, rfl, h.symm⟩
  | _, _, i + 1, v, .cons x t r, h => by
    obtain ⟨y, u, e1, e2⟩ := strs_get (i := i) (v := v) r (by simpa using h)
    exact ⟨y, u, by simpa using e1, e2⟩
set_option maxHeartbeats 4000000 in
/-- set(a list of texts) -/
theorem make {l : Addr} {items : Array Value} {xs : List Str} {Q : Value → Shared → Prop} (hh : A.handled = none) (hl : s.heap.IsList l items) (hi : StrsAre items.toList xs) (few : items.size < 1000)
    (k : ∀ (h' : Heap) (tk : Nat), SetS P w h' s.heap.objs.size (gath xs) → (∀ b o, s.heap.get? b = some o → h'.get? b = some o) → Q (.ref s.heap.objs.size) { s with heap := h', toks := tk }) :
    wpAny (model P w) A (call (.type "set") [.ref l]) Q E s := by
  have C := F.called_set
  obtain ⟨c, tl, hmro⟩ := C.mro; have hmade := C.made; have hsub := C.sub
  refine wpAny_call (codeAny_of_tree ?_); show wpAny _ _ (callAny (.type "set") _) _ _ _
  refine wpAny_pure ⟨Code.quiet_builtin _ (by decide +kernel), codeAny_builtin F.entry_type_call ?_⟩; rw [Around.under_plain (weight_type_call_type "set" [.ref l] []) rfl]
  have h1 := C.notType; have h2 := C.canCreate; have hct := F.typeCall_set_1 (.ref l)
  repeat (any_goals (first | assumption | wp_step))
  refine codeAny_mono (code_set_led1 (.ref l) (E := E) (Q₁ := fun o s₁ => o = .ref s.heap.objs.size ∧ s₁ = { s with heap := s.heap.push (blank w) }) ⟨rfl, rfl⟩) fun r s₁ hr => ?_
  rcases r with e | fl
  · exact hr
  cases fl with
  | ret obj =>
    obtain ⟨rfl, rfl⟩ := hr
    have at0 : (s.heap.push (blank w)).get? s.heap.objs.size = some (blank w) := Heap.get?_push_size _ rfl
    have hT : Shared.TypeIs { s with heap := s.heap.push (blank w) } (.ref s.heap.objs.size) "set" := ⟨_, at0, rfl⟩
    have hli := C.init.lookup; have hbi := C.init.bind (.ref s.heap.objs.size)
    repeat (any_goals (first | assumption | wp_step))
    refine codeAny_mono (codeAny_call_builtin (R := wants (fun r s₂ => r = .none ∧ ∃ h' tk, s₂ = { s with heap := h', toks := tk } ∧ SetS P w h' s.heap.objs.size (gath xs) ∧ (∀ b o, s.heap.get? b = some o → h'.get? b = some o)) E) C.init.plain F.entry_set_init (check_set_init_1 hT ?_)) fun r₂ s₂ hr₂ => ?_
    · obtain ⟨⟨oc, od, odt, osl⟩, hol, hcl, nl, hdl⟩ := hl
      cases hcl; cases hdl
      have hol' := Heap.get?_push_of_some (blank w) hol
      have hsls := F.sub_list_set; have hslf := F.sub_list_frozenset
      have hne : (Value.type "list" == Value.type "dict") = false := by decide
      have isl : (s.heap.push (blank w)).IsList l items := ⟨_, hol', rfl, nl, rfl⟩
      unfold Builtin.«set.__init__» noKeywords Builtin.Frozenset.updateFrom
      generalize hPI : pyIter = PI
      wp_walk
      subst hPI
      refine wpAny_pyIter_list isl (wpAny_bind (wpAny_runValue ?_))
      have lt : l < s.heap.objs.size := Heap.lt_size hol
      have h3 : A.in1.in1.in1.handled = none := by simp [hh]
      have sz : (s.heap.push (blank w)).objs.size = s.heap.objs.size + 1 := Heap.size_push ..
      have ap : l ≠ (s.heap.push (blank w)).objs.size := by rw [sz]; exact Nat.ne_of_lt (Nat.lt_succ_of_lt lt)
      have out : s.heap.objs.size ∉ [(s.heap.push (blank w)).objs.size, l] := by
        rw [sz]; intro z
        rcases List.mem_cons.mp z with z | z
        · exact Nat.succ_ne_self _ z.symm
        · exact Nat.ne_of_gt lt (List.mem_singleton.mp z)
      have len : items.size = xs.length := by rw [← hi.len_eq, Array.length_toList]
      refine fill ((Walks.list h3 _ l ap items).toS) s.heap.objs.size out xs len (fun i v hv => strs_get hi (by rw [Array.getElem?_toList]; exact hv)) few items.size 0 _ (Nat.zero_add _).symm ⟨⟨_, Heap.get?_push_size _ rfl, rfl, rfl⟩, isl.push _⟩ (SetS.fresh (Heap.get?_push_of_some _ at0)) fun s' mv ok => ?_
      obtain ⟨h', g', d', tk', os'⟩ := s'
      cases (show g' = s.gens from mv.gens); cases (show d' = s.drawn from mv.drawn); cases (show os' = s.os from mv.os)
      refine wpAny_pure (wpAny_pure ⟨rfl, h', tk', rfl, ok, fun b o e => mv.heap b o (fun z => ?_) (Heap.get?_push_of_some _ (Heap.get?_push_of_some _ e))⟩)
      have below := Heap.lt_size e
      rcases List.mem_cons.mp z with z | z
      · exact Nat.ne_of_lt below z
      · exact Nat.ne_of_lt (Nat.lt_succ_of_lt below) ((List.mem_singleton.mp z).trans sz)
    · rcases r₂ with e | fl₂
      · exact hr₂
      cases fl₂ with
      | ret r =>
        obtain ⟨rfl, h', tk, rfl, ok, kp⟩ := hr₂
        repeat (any_goals (first | assumption | wp_step))
        exact k _ _ ok kp
      | _ => exact hr₂.elim
  | _ => exact hr.elim
end
end PlS
/-! text PlS3 -/
set_option Elab.async false
set_option linter.all false
set_option maxRecDepth 100000
namespace PlS
open PySem PySem.Spec PyProof.Rows L2 PySem.Froz
section
variable {P : Program} {w : World} {A : Around} {E : Value → Shared → Prop} {s : Shared}
theorem strsAre_of : ∀ (vs : List Value), (∀ v ∈ vs, ∃ x t, v = .str x t) → StrsAre vs (vs.map strOf)
  | [], _ => .nil
  | v :: vs, h => by
    obtain ⟨x, t, rfl⟩ := h v List.mem_cons_self
    exact .cons x t (strsAre_of vs fun u hu => h u (List.mem_cons_of_mem _ hu))
theorem perm_sub {α : Type} : ∀ (l m : List α), l.Nodup → (∀ x, x ∈ l → x ∈ m) → m.length ≤ l.length → m.Perm l
  | [], m, _, _, h => by
    have e : m = [] := List.length_eq_zero_iff.mp (Nat.le_zero.mp h)
    rw [e]
  | x :: l, m, nd, sub, h => by
    obtain ⟨a, b, rfl⟩ := List.append_of_mem (sub x List.mem_cons_self)
    have nx := (List.nodup_cons.mp nd).1
    have ih := perm_sub l (a ++ b) (List.nodup_cons.mp nd).2 (fun y hy => by
      have q := sub y (List.mem_cons_of_mem _ hy)
      simp only [List.mem_append, List.mem_cons] at q ⊢
      rcases q with q | q | q
      · exact .inl q
      · exact absurd (by rw [← q]; exact hy) nx
      · exact .inr q) (by
      simp only [List.length_append, List.length_cons] at h ⊢
      omega)
    exact List.perm_middle.trans (ih.cons x)
/-- the texts of a set's rows -/
theorem rows_perm {D : SD} {l : List Str} (F : TxOk P w D l) (nd : l.Nodup) : (∀ v ∈ D.1.toList.map (·.2), ∃ x t, v = Value.str x t) ∧ ((D.1.toList.map (·.2)).map strOf).Perm l := by
  have sh : ∀ e ∈ D.1.toList, ∃ x t, e.2 = Value.str x t ∧ x ∈ l := fun e he => by
    obtain ⟨⟨k, hk, _⟩, _⟩ := F.el e he
    obtain ⟨t, ht⟩ := Value.isStrOf_shape (x := k) (v := e.2) hk
    exact ⟨k, t, ht, (F.mem k).mpr ⟨e, he, hk⟩⟩
  refine ⟨fun v hv => ?_, ?_⟩
  · obtain ⟨e, he, rfl⟩ := List.mem_map.mp hv
    obtain ⟨x, t, h, _⟩ := sh e he
    exact ⟨x, t, h⟩
  · have sub : ∀ k, k ∈ l → k ∈ (D.1.toList.map (·.2)).map strOf := fun k hk => by
      obtain ⟨e, he, hi⟩ := (F.mem k).mp hk
      obtain ⟨t, ht⟩ := Value.isStrOf_shape (x := k) (v := e.2) hi
      exact List.mem_map.mpr ⟨e.2, List.mem_map.mpr ⟨e, he, rfl⟩, by rw [ht]; rfl⟩
    have len : ((D.1.toList.map (·.2)).map strOf).length = l.length := by
      rw [List.length_map, List.length_map, Array.length_toList]
      exact F.sz
    exact perm_sub l _ nd sub (Nat.le_of_eq len)
set_option maxHeartbeats 4000000 in
/-- sorted(a set of texts) -/
theorem sort {a : Addr} {l : List Str} {Q : Value → Shared → Prop} (R : SetS P w s.heap a l) (hh : A.handled = none) (few : l.length < 64)
    (k : ∀ s' p (out : Array Value) (c : Nat) (ys : List Str), (∀ b o, s.heap.get? b = some o → s'.heap.get? b = some o) → s'.gens = s.gens → s'.os = s.os → s.heap.objs.size ≤ p →
      s'.heap.get? p = some (seqObj "list" out c) → StrsAre out.toList ys → ys.Perm l → sortedS ys = true → Q (.ref p) s') : wpAny (model P w) A (call (.builtin "sorted") [.ref a]) Q E s := by
  obtain ⟨⟨D, e, F, r, fl⟩, nd⟩ := R
  have rp := rows_perm F nd
  have line : D.1.size < scanBound := by
    have := F.sz
    unfold scanBound
    omega
  refine Calls.call_function_entry kind_sorted plain_sorted entry_sorted (args_sorted1 _) ?_; unfold Builtin.«sorted»
  refine wpAny_bind (m := checkCount "sorted" 1 1 _) (wpAny_pure (wpAny_bind (collect_set (A := A.in1) hh ⟨_, e, rfl, rfl⟩ F.fit line r fl fun s1 vs k1 z1 g1 o1 pm => ?_)))
  have sv : StrsAre vs (vs.map strOf) := strsAre_of vs fun v hv => rp.1 v (pm.mem_iff.mp hv)
  have pl : (vs.map strOf).Perm l := (pm.map strOf).trans rp.2
  have vl : vs.length < 64 := by
    have := pl.length_eq
    rw [List.length_map] at this
    omega
  have k0 := sv.keysOf
  have kk : ∀ v₁ v₂ rest, vs = v₁ :: v₂ :: rest → keyKind' (v₁ :: v₂ :: rest).toArray = pure oneType' := fun v₁ v₂ rest q => keyKind_strs (by rw [← q]; exact sv)
  refine wpAny_bind (wpAny_newList ?_ (Nat.le_trans (Nat.le_of_lt vl) (by decide)))
  have at0 : (s1.heap.push (seqObj "list" vs.toArray 0)).get? s1.heap.objs.size = some (seqObj "list" vs.toArray 0) := Heap.get?_push_size _ rfl
  refine wpAny_bind (wpAny_holding (wpAny_call_entry slot_list_sort ⟨_, at0, rfl⟩ entry_list_sort (list_sort_treeK strKind_oneLt at0 k0 kk vl fun st hp hs => ⟨_, rfl, ?_⟩) (args_list_sort _)))
  obtain ⟨ys, h1, h2, h3⟩ := sorted_out_str sv hp hs
  obtain ⟨c, hc⟩ := sortedHeap_at (vs := vs) (out := (arrOf st).map (·.2)) at0
  refine wpAny_pure ⟨_, rfl, k _ s1.heap.objs.size _ c ys (fun b u q => ?_) g1 o1 z1 hc h1 (h2.trans pl) h3⟩
  have q1 := k1 b u q
  have lt := Heap.lt_size q1
  refine (sortedHeap_old (Nat.ne_of_lt lt) ?_).trans (Heap.get?_push_of_some _ q1)
  rw [Heap.size_push]
  exact Nat.lt_succ_of_lt lt
end
end PlS
/-! text PlU -/
set_option Elab.async false
set_option linter.all false
set_option maxRecDepth 100000
/-! usort: the different texts of a list in ascending order; sorted(set(..)), sorted({..}) of texts. -/
namespace PlS
open PySem PySem.Spec PyProof.Rows L2 PySem.Froz
def SLt (a b : Str) : Prop := a.cps.toList < b.cps.toList
instance (a b : Str) : Decidable (SLt a b) := inferInstanceAs (Decidable (a.cps.toList < b.cps.toList))
theorem slt_irrefl (a : Str) : ¬ SLt a a := List.lt_irrefl _
theorem slt_trans {a b c : Str} (h : SLt a b) (k : SLt b c) : SLt a c := List.lt_trans h k
theorem slt_asymm {a b : Str} (h : SLt a b) : ¬ SLt b a := List.lt_asymm h
theorem slt_tri {a b : Str} (h : ¬ SLt a b) (k : ¬ SLt b a) : a = b := Str.ext' (Array.toList_inj.mp (List.le_antisymm (List.not_lt.mp k) (List.not_lt.mp h)))
def insS (x : Str) : List Str → List Str
  | [] => [x]
  | y :: l => if x = y then y :: l else if SLt x y then x :: y :: l else y :: insS x l
def usort (ys : List Str) : List Str := ys.foldr insS []
abbrev Asc (l : List Str) : Prop := l.Pairwise SLt
theorem insS_mem (x z : Str) : ∀ l : List Str, z ∈ insS x l ↔ z = x ∨ z ∈ l
  | [] => by simp [insS]
  | y :: l => by
    unfold insS
    by_cases h : x = y
    · rw [if_pos h, List.mem_cons, h]
      constructor
      · rintro (q | q)
        · exact .inl q
        · exact .inr (.inr q)
      · rintro (q | q | q)
        · exact .inl q
        · exact .inl q
        · exact .inr q
    · rw [if_neg h]
      by_cases k : SLt x y
      · rw [if_pos k, List.mem_cons]
      · rw [if_neg k, List.mem_cons, insS_mem x z l, List.mem_cons]
        constructor
        · rintro (q | q | q)
          · exact .inr (.inl q)
          · exact .inl q
          · exact .inr (.inr q)
        · rintro (q | q | q)
          · exact .inr (.inl q)
          · exact .inl q
          · exact .inr (.inr q)
theorem insS_asc (x : Str) : ∀ l : List Str, Asc l → Asc (insS x l)
  | [], _ => List.pairwise_singleton _ _
  | y :: l, h => by
    obtain ⟨h1, h2⟩ := List.pairwise_cons.mp h
    unfold insS
    by_cases e : x = y
    · rw [if_pos e]; exact h
    · rw [if_neg e]
      by_cases k : SLt x y
      · rw [if_pos k]
        refine List.pairwise_cons.mpr ⟨fun z hz => ?_, h⟩
        rcases List.mem_cons.mp hz with q | q
        · rw [q]; exact k
        · exact slt_trans k (h1 z q)
      · rw [if_neg k]
        refine List.pairwise_cons.mpr ⟨fun z hz => ?_, insS_asc x l h2⟩
        rcases (insS_mem x z l).mp hz with q | q
        · rw [q]
          by_cases k2 : SLt y x
          · exact k2
          · exact absurd (slt_tri k k2) e
        · exact h1 z q
theorem usort_mem (z : Str) : ∀ ys : List Str, z ∈ usort ys ↔ z ∈ ys
  | [] => by simp [usort]
  | y :: ys => by
    show z ∈ insS y (usort ys) ↔ _
    rw [insS_mem, usort_mem z ys, List.mem_cons]
theorem usort_asc : ∀ ys : List Str, Asc (usort ys)
  | [] => List.Pairwise.nil
  | y :: ys => insS_asc y _ (usort_asc ys)
theorem asc_uniq : ∀ {l m : List Str}, Asc l → Asc m → (∀ z, z ∈ l ↔ z ∈ m) → l = m
  | [], [], _, _, _ => rfl
  | [], y :: m, _, _, h => by have := (h y).mpr List.mem_cons_self; simp at this
  | x :: l, [], _, _, h => by have := (h x).mp List.mem_cons_self; simp at this
  | x :: l, y :: m, hl, hm, h => by
    obtain ⟨l1, l2⟩ := List.pairwise_cons.mp hl
    obtain ⟨m1, m2⟩ := List.pairwise_cons.mp hm
    have e : x = y := by
      rcases List.mem_cons.mp ((h x).mp List.mem_cons_self) with q | q
      · exact q
      · rcases List.mem_cons.mp ((h y).mpr List.mem_cons_self) with r | r
        · exact r.symm
        · exact absurd (m1 x q) (slt_asymm (l1 y r))
    subst e
    have t : l = m := asc_uniq l2 m2 fun z => by
      constructor
      · intro q
        rcases List.mem_cons.mp ((h z).mp (List.mem_cons_of_mem _ q)) with r | r
        · exact absurd (l1 z q) (by rw [r]; exact slt_irrefl x)
        · exact r
      · intro q
        rcases List.mem_cons.mp ((h z).mpr (List.mem_cons_of_mem _ q)) with r | r
        · exact absurd (m1 z q) (by rw [r]; exact slt_irrefl x)
        · exact r
    rw [t]
theorem rising_asc : ∀ (p : Str) (l : List Str), risingS p l = true → (p :: l).Nodup → Asc (p :: l)
  | p, [], _, _ => List.pairwise_singleton _ _
  | p, x :: r, h, nd => by
    have h' : (!ltCps x.cps.toList p.cps.toList && risingS x r) = true := h
    rw [Bool.and_eq_true, Bool.not_eq_true', ltCps_eq] at h'
    obtain ⟨n1, n2⟩ := List.nodup_cons.mp nd
    have ih := rising_asc x r h'.2 n2
    have px : SLt p x := by
      by_cases k : SLt p x
      · exact k
      · exact absurd (slt_tri k (of_decide_eq_false h'.1)) fun z => n1 (by rw [z]; exact List.mem_cons_self)
    refine List.pairwise_cons.mpr ⟨fun z hz => ?_, ih⟩
    rcases List.mem_cons.mp hz with q | q
    · rw [q]; exact px
    · exact slt_trans px ((List.pairwise_cons.mp ih).1 z q)
theorem sorted_usort {ys zs l : List Str} (hp : zs.Perm l) (hs : sortedS zs = true) (nd : l.Nodup) (hm : ∀ z, z ∈ l ↔ z ∈ ys) : zs = usort ys := by
  have nz : zs.Nodup := hp.nodup_iff.mpr nd
  refine asc_uniq ?_ (usort_asc ys) fun z => by rw [hp.mem_iff, hm, usort_mem]
  cases zs with
  | nil => exact List.Pairwise.nil
  | cons x r => exact rising_asc x r hs nz
theorem gath_nodup : ∀ (xs l : List Str), l.Nodup → (xs.foldl ins l).Nodup
  | [], l, h => h
  | x :: xs, l, h => gath_nodup xs (ins l x) (by
    unfold ins
    split
    · exact h
    · exact List.nodup_cons.mpr ⟨by assumption, h⟩)
theorem gath_iff (xs : List Str) (z : Str) : z ∈ gath xs ↔ z ∈ xs := by
  rw [show z ∈ gath xs ↔ _ from gath_mem xs [] z]
  simp
section
variable {X : Cx}
/-- set(a list of texts), sorted(a set of texts) -/
def rMake (P : Program) (w : World) (K : PySem.W.Frag) : List V → Hp → VK → Prop := fun xs H Q => ∃ a, ∃ ys : List Str, xs = [.ref a] ∧ SqL K H a (ys.map V.str) ∧ ys.length < 1000 ∧ ∀ p, H p = none → Q (.ref p) (upd H p (SetT P w p (gath ys)))
def rSortT (P : Program) (w : World) : List V → Hp → VK → Prop := fun xs H Q => ∃ a l, xs = [.ref a] ∧ H a = some (SetT P w a l) ∧ l.length < 64 ∧ ∀ ys p, ys.Perm l → l.Nodup → sortedS ys = true → H p = none → Q (.ref p) (upd H p (.lst (ys.map V.str)))
theorem call_make (hc : X.calm = true) (K : PySem.W.Frag) (hK : X.K = K := by rfl) : CallR X (.type "set") (rMake X.prog X.w K) := by
  subst hK
  intro pins s σ H xs us Q I r h
  obtain ⟨a, ys, rfl, hs, few, q⟩ := h
  obtain ⟨its, rv, hl, _⟩ := I.list hs
  rw [Vals.ref1 r]
  have ln := rv.length
  rw [List.length_map] at ln
  refine make (I.ok.hd hc) hl.isList rv.strs (by rw [List.size_toArray, ← ln]; exact few) fun h' tk ok kp => ?_
  exact ⟨.ref _, upd H s.heap.objs.size (SetT X.prog X.w s.heap.objs.size (gath ys)), I.laid (t' := tk) kp (Nat.le_refl _) (setT_new ok), rfl, q _ (I.hok.fresh (Nat.le_refl _))⟩
theorem call_sortT (hc : X.calm = true) : CallR X (.builtin "sorted") (rSortT X.prog X.w) := by
  intro pins s σ H xs us Q I r h
  obtain ⟨a, l, rfl, hs, few, q⟩ := h
  rw [Vals.ref1 r]
  have R := setT_get I hs
  refine sort R (I.ok.hd hc) few fun s' p out c ys kp eg eo hz ho h1 h2 h3 => ?_
  have len : (ys.map V.str).length ≤ sizeLine := by rw [List.length_map, h2.length_eq]; exact small64 few
  have fr := I.hok.fresh hz
  refine ⟨.ref p, upd H p (.lst (ys.map V.str)), ?_, rfl, q ys p h2 R.nd h3 fr⟩
  have es : s' = { s with heap := s'.heap, gens := s'.gens, drawn := s'.drawn, toks := s'.toks } := by
    cases s'; cases eo; rfl
  rw [es]
  exact I.step (h' := s'.heap) (g' := s'.gens) (d' := s'.drawn) (t' := s'.toks) (ch := []) (fun _ z => nomatch z) (fun b o _ _ _ e n => kp b o e) (fun b o _ _ _ e n => ⟨o.slots, kp b o e⟩) (fun b o _ e n => by rw [upd_ne (fun z => absurd (Heap.lt_size e) (by rw [z]; exact Nat.not_lt_of_le hz))]; exact n) (fun b o _ e => ⟨o, kp b o e⟩) (fun b xs e => by rw [upd_ne (ne_of_none e fr)]; exact e) (fun b o u e => by rw [upd_ne (ne_of_none e fr)]; exact e) (fun b ps e => ⟨#[], by rw [upd_ne (ne_of_none e fr), e]; simp⟩)
    (fun m hm => by
      obtain ⟨o, es, ep, e, r⟩ := hm
      exact ⟨o, es, ep, kp _ _ e, r⟩) (I.hok.laid kp hz ⟨len, out.toList, c, vals_of_strs h1, ho⟩) (by rw [eg]; exact I.bare)
end
end PlS
/-! text PlV -/
set_option Elab.async false
set_option linter.all false
set_option maxRecDepth 100000
namespace Pl
open PySem PySem.Spec PyProof.Rows L2 PlS
section
variable {K : PySem.W.Frag} {s c : Addr} {ρ ρ1 ρ2 : List Sl} {n n1 n2 n3 n' : Nat} {te ta tb tl : TE} {P : D → Prop} {tt tu : TT}
theorem dStrs_len (ys : List Str) : (dStrs ys).length = ys.length := List.length_map _
theorem rep_dStrs {M : List Addr} {H : Hp} : ∀ ys : List Str, RepL K M H (dStrs ys) (ys.map V.str)
  | [] => trivial
  | y :: ys => ⟨rfl, rep_dStrs ys⟩
/-- sorted(set(xs)) of texts -/
theorem ev_sortset {Pg : Program} {w : World} {ys : List Str} (h : EvE K s c te ρ n n1 (fun d => d = .lst (dStrs ys))) (few : ys.length < 64) : EvE K s c (tCB (rSortT Pg w) (tCons (tCB (rMake Pg w K) (tCons te tNil)) tNil)) ρ n n1 (fun d => d = .lst (dStrs (usort ys))) := fun M0 H0 O σ H Q I k =>
  h M0 H0 O σ H _ I fun v H1 d g1 s1 r1 p1 => by
    subst p1
    obtain ⟨a, xs, rfl, m, e, rl⟩ := r1
    rw [dStrs_rep rl] at e
    have J := I.next g1 s1
    refine ⟨a, ys, rfl, SqL.of e, by omega, fun p hp => ⟨p, gath ys, rfl, upd_same, ?_, fun zs q hz nd hs hq => ?_⟩⟩
    · have := gath_len ys []
      have e0 : ([] : List Str).length = 0 := rfl
      show (ys.foldl ins []).length < 64
      omega
    · have ez := sorted_usort (ys := ys) hz hs nd fun z => gath_iff ys z
      subst ez
      have hp0 := J.new_out hp
      have hq1 : H1 q = none := by
        cases z : H1 q with
        | none => rfl
        | some u =>
          have ne := ne_of_none z hp
          rw [upd_ne ne, z] at hq
          cases hq
      have g2 : Gr [s, c] H1 (upd (upd H1 p (SetT Pg w p (gath ys))) q (.lst ((usort ys).map V.str))) := (Gr.new hp).put hq1
      have s2 : Src s c n1 (upd (upd H1 p (SetT Pg w p (gath ys))) q (.lst ((usort ys).map V.str))) := (s1.new hp).new hq
      exact k (.ref q) _ (.lst (dStrs (usort ys))) (g1.trans g2) s2 ⟨q, _, rfl, J.new_out hq1, upd_same, rep_dStrs _⟩ rfl
theorem tYes_if {σ : L2.St} {H : Hp} {A B : Hp → Prop} (h : A H) : tYes σ H fun b H3 => if b = true then A H3 else B H3 := by
  show ite (true = true) (A H) (B H)
  rw [if_pos rfl]
  exact h
/-- sorted({x for a in b for x in c}) of texts -/
theorem ev_sortsc2 {Pg : Program} {w : World} {wi wi1 : TI} {g g1 : TG} {vs vs1 : List Nat} {ds : List D} (F : D → List Str) (h : EvI K s c wi ρ n n1 (fun l => l = ds)) (hv : noOws ρ vs = true)
    (hs : ∀ d, d ∈ ds → ∃ ρ2 js es, EvG K s c g d (wipeS ρ vs) ρ2 js ∧ (∀ j ∈ js, j ∈ vs) ∧ noOws ρ2 vs1 = true ∧ EvI K s c wi1 ρ2 n1 n1 (fun l => l = es) ∧ es.length = (F d).length ∧
      ∀ (j : Nat) e, es[j]? = some e → ∃ ρ3 ks z, EvG K s c g1 e (wipeS ρ2 vs1) ρ3 ks ∧ (∀ k ∈ ks, k ∈ vs1) ∧ EvE K s c te ρ3 n1 n1 (fun x => x = .str z) ∧ (F d)[j]? = some z) (few : (ds.flatMap F).length < 64) :
    EvE K s c (tCB (rSortT Pg w) (tCons (tSc2 Pg w wi g tYes wi1 g1 tYes te vs vs1) tNil)) ρ n n1 (fun x => x = .lst (dStrs (usort (ds.flatMap F)))) := fun M0 H0 O σ H Q I k =>
  h M0 H0 O σ H _ I fun J H1 l gr1 s1 w1 p => by
    intro D hD
    subst p
    have I1 := I.next gr1 s1
    have hDout := I1.new_out hD
    have hDs : D ∉ [s, c] := fun z => hDout (I1.sub D z)
    have hDO : D ∉ O := fun z => hDout (List.mem_append_left _ z)
    have hDs1 : D ≠ s := fun z => hDs (by rw [z]; exact List.mem_cons_self)
    have hDs2 : D ≠ c := fun z => hDs (by rw [z]; exact List.mem_cons_of_mem _ List.mem_cons_self)
    -- what stands while the set grows
    let St : Hp → List Str → Prop := fun H2 ys => Gr [s, c] (minus H1 O) H2 ∧ (∀ o ∈ O, ∀ zs, H1 o = some (.lst zs) → H2 o = some (.lst zs)) ∧ H2 D = some (SetT Pg w D (gath ys)) ∧ Src s c n1 H2
    have stay : ∀ {H2 H3 : Hp} {ys : List Str}, St H2 ys → Gr [s, c] H2 H3 → Src s c n1 H3 → St H3 ys := fun {H2 H3 ys} t g sr =>
      ⟨t.1.trans g, fun o ho zs e => g o _ (t.2.1 o ho zs e) (.inl (not_two (I.fr o ho).2.1 (I.fr o ho).2.2)), g D _ t.2.2.1 (.inl hDs), sr⟩
    have grow : ∀ {H2 : Hp} {ys : List Str} {z : Str}, St H2 ys → St (upd H2 D (SetT Pg w D (ins (gath ys) z))) (ys ++ [z]) := fun {H2 ys z} t => by
      have e : gath (ys ++ [z]) = ins (gath ys) z := by
        unfold gath
        rw [List.foldl_append]
        rfl
      refine ⟨fun a o ea mm => ?_, fun o ho zs eo => ?_, by rw [e]; exact upd_same, t.2.2.2.put hDs1 hDs2⟩
      · have ne : a ≠ D := fun y => by
          have := (minus_some ea).2
          rw [y, hD] at this; cases this
        rw [upd_ne ne]
        exact t.1 a o ea mm
      · rw [upd_ne (fun y => hDO (by rw [← y]; exact ho))]
        exact t.2.1 o ho zs eo
    have okIn : ∀ {H2 : Hp} {ys : List Str}, St H2 ys → Ok K s c (D :: M0) (minus H2 O) O (wipeS ρ vs) n1 (L2.wipe σ vs) H2 := fun {H2 ys} t => by
      obtain ⟨gr2, ow2, eD, s2⟩ := t
      have gH : Gr (O ++ M0) H1 H2 := fun a o e mm => by
        by_cases z : a ∈ O
        · obtain ⟨zs, hz⟩ := I1.lst a z
          rw [hz] at e; cases e
          exact ow2 a z zs hz
        · exact gr2 a o (by rw [minus_out z]; exact e) (mm.imp (fun mm q => mm (I1.sub a q)) id)
      have sl2 : SlR K (D :: (O ++ M0)) H2 ρ σ O := I1.sl.imp (fun _ _ r => (r.apart hD).gr (gH.mono fun a ha => List.mem_cons_of_mem _ ha)) (fun _ _ r => (r.apart hD).gr (gH.mono fun a ha => List.mem_cons_of_mem _ ha)) ow2
      refine ⟨⟨List.mem_cons_of_mem _ I.ms.1, List.mem_cons_of_mem _ I.ms.2⟩, fun a ha => ?_, s2, fun a o e _ => (minus_some e).2, fun o ho => ⟨minus_in ho, (I.fr o ho).2⟩, I.nd, ?_⟩
      · rcases List.mem_cons.mp ha with z | z
        · exact .inr (.inr ⟨_, by rw [z, minus_out hDO]; exact eD⟩)
        · obtain ⟨o, e⟩ := I1.there a z
          by_cases z1 : a = s
          · exact .inl z1
          · by_cases z2 : a = c
            · exact .inr (.inl z2)
            · have z3 : a ∉ O := fun q => by
                rcases I.tr a z with y | y | ⟨u, y⟩
                · exact z1 y
                · exact z2 y
                · rw [(I.fr a q).1] at y; cases y
              exact .inr (.inr ⟨o, by rw [minus_out z3]; exact gr2 a o (by rw [minus_out z3]; exact e) (.inl (not_two z1 z2))⟩)
      · refine (sl2.wipe hv).imp (fun _ _ r => r.mono ?_) (fun _ _ r => r.mono ?_) fun _ _ _ e => e
        all_goals
          intro a ha
          simp only [List.mem_append, List.mem_cons] at ha ⊢
          rcases ha with z | z | z
          · exact .inr (.inl z)
          · exact .inl z
          · exact .inr (.inr z)
    have glen : ∀ ys : List Str, (gath ys).length ≤ ys.length := fun ys => by
      have := gath_len ys []
      have e0 : ([] : List Str).length = 0 := rfl
      show (ys.foldl ins []).length ≤ _
      omega
    have tlen : ∀ i, ((l.take i).flatMap F).length < 64 := fun i => by
      have e : l.flatMap F = (l.take i).flatMap F ++ (l.drop i).flatMap F := by rw [← List.flatMap_append, List.take_append_drop]
      rw [e, List.length_append] at few
      omega
    refine ⟨fun i m H2 => St H2 ((l.take i).flatMap F) ∧ i ≤ l.length ∧ m = l.length - i, ⟨l.length, ⟨fun a o e mm => ?_, fun o ho zs e => ?_, by rw [List.take_zero]; exact upd_same, s1.new hD⟩, Nat.zero_le _, rfl⟩, ?_⟩
    · obtain ⟨z1, z2⟩ := minus_some e
      rw [upd_ne (ne_of_none z2 hD)]
      exact z2
    · rw [upd_ne (fun z => hDO (by rw [← z]; exact ho))]
      exact e
    rintro i m H2 ⟨t, hi, rfl⟩
    obtain ⟨w2, w3⟩ := w1 (D :: O) H2 (t.1.mono (two_sub I.ms)) fun a ha => by
      rcases List.mem_cons.mp ha with z | z
      · rw [z, minus_out hDO]; exact hD
      · exact minus_in z
    by_cases hlt : i < l.length
    · obtain ⟨w4, w5⟩ := w3 i l[i] (List.getElem?_eq_getElem hlt)
      obtain ⟨ρ2, js, es, eg, hj, hv1, ei, elen, hin⟩ := hs l[i] (List.getElem_mem hlt)
      have tk : (l.take (i + 1)).flatMap F = (l.take i).flatMap F ++ F l[i] := by
        rw [List.take_add_one, List.getElem?_eq_getElem hlt, List.flatMap_append]
        simp
      refine .inr ⟨w4, fun H3 => St H3 ((l.take (i + 1)).flatMap F), fun H3 t3 => ⟨l.length - (i + 1), by omega, t3, hlt, rfl⟩, fun x H3 hy => ?_⟩
      obtain ⟨g3, s3, r3⟩ := w5 x H3 hy
      have t3 := stay t g3 (s3 _ t.2.2.2)
      have rx : Rep K (O ++ (D :: M0)) H3 l[i] x := r3.mono fun a ha => by
        simp only [List.mem_append, List.mem_cons] at ha ⊢
        rcases ha with z | z | z
        · exact .inl (.inr z)
        · exact .inl (.inl z)
        · exact .inr z
      refine eg (D :: M0) _ O n1 (L2.wipe σ vs) H3 x _ ((okIn t).next g3 (s3 _ t.2.2.2)) rx fun σ2 st4 wq => ⟨by rw [wq vs hj, wipe_wipe σ vs vs fun _ z => z], ?_⟩
      refine tYes_if ?_
      refine ei (D :: M0) _ O σ2 H3 _ st4 fun J1 H4 l4 g4 s4 w6 p4 => ?_
      subst p4
      have t4 := stay t3 g4 s4
      have st5 := st4.next g4 s4
      -- the inner loop: what stands beside the set
      have below : ∀ {H5 : Hp} {ys : List Str}, St H5 ys → Gr (D :: M0) (minus H4 O) H5 → Ok K s c (D :: M0) (minus H5 O) O (wipeS ρ2 vs1) n1 (L2.wipe σ2 vs1) H5 := fun {H5 ys} t5 gg => by
        obtain ⟨q1, q2, q3, q4⟩ := t5
        have ow : ∀ o ∈ O, ∀ zs, H4 o = some (.lst zs) → H5 o = some (.lst zs) := fun o ho zs e => by
          obtain ⟨us, hu⟩ := I1.lst o ho
          have e4 := t4.2.1 o ho us hu
          rw [e] at e4; cases e4
          exact q2 o ho zs hu
        have gH : Gr (O ++ (D :: M0)) H4 H5 := fun a o e mm => by
          by_cases z : a ∈ O
          · obtain ⟨zs, hz⟩ := st5.lst a z
            rw [hz] at e; cases e
            exact ow a z zs hz
          · exact gg a o (by rw [minus_out z]; exact e) (mm.imp (fun mm q => mm (List.mem_append_right _ q)) id)
        refine ⟨st5.ms, fun a ha => ?_, q4, fun a o e _ => (minus_some e).2, fun o ho => ⟨minus_in ho, (I.fr o ho).2⟩, I.nd, ?_⟩
        · rcases List.mem_cons.mp ha with z | z
          · exact .inr (.inr ⟨_, by rw [z, minus_out hDO]; exact q3⟩)
          · have := (okIn ⟨q1, q2, q3, q4⟩).tr a (List.mem_cons_of_mem _ z)
            exact this
        · exact (st5.sl.imp (fun _ _ r => r.gr gH) (fun _ _ r => r.gr gH) ow).wipe hv1
      refine ⟨fun j m H5 => St H5 ((l.take i).flatMap F ++ (F l[i]).take j) ∧ Gr (D :: M0) (minus H4 O) H5 ∧ j ≤ l4.length ∧ m = l4.length - j, ⟨l4.length, by rw [List.take_zero, List.append_nil]; exact t4, fun a o e mm => (minus_some e).2, Nat.zero_le _, rfl⟩, ?_⟩
      rintro j m H5 ⟨t5, gg, hj5, rfl⟩
      obtain ⟨w7, w8⟩ := w6 O H5 gg fun a ha => minus_in ha
      by_cases hlt5 : j < l4.length
      · obtain ⟨w9, wa⟩ := w8 j l4[j] (List.getElem?_eq_getElem hlt5)
        obtain ⟨ρ3, ks, z, eg1, hk, ee, hz⟩ := hin j l4[j] (List.getElem?_eq_getElem hlt5)
        have tk2 : (F l[i]).take (j + 1) = (F l[i]).take j ++ [z] := by rw [List.take_add_one, hz]; rfl
        refine .inr ⟨w9, fun H6 => St H6 ((l.take i).flatMap F ++ (F l[i]).take (j + 1)) ∧ Gr (D :: M0) (minus H4 O) H6, fun H6 t6 => ⟨l4.length - (j + 1), by omega, t6.1, t6.2, hlt5, rfl⟩, fun x6 H6 hy6 => ?_⟩
        obtain ⟨g6, s6, r6⟩ := wa x6 H6 hy6
        have t6 := stay t5 g6 (s6 _ t5.2.2.2)
        have gg6 : Gr (D :: M0) (minus H4 O) H6 := gg.trans (g6.mono fun a ha => List.mem_cons_of_mem _ (two_sub I.ms a ha))
        refine eg1 (D :: M0) _ O n1 (L2.wipe σ2 vs1) H6 x6 _ ((below t5 gg).next g6 (s6 _ t5.2.2.2)) r6 fun σ3 st7 wq1 => ⟨by rw [wq1 vs1 hk, wipe_wipe σ2 vs1 vs1 fun _ z => z], ?_⟩
        refine tYes_if ?_
        refine ee (D :: M0) _ O σ3 H6 _ st7 fun y H7 e7 g7 s7 r7 p7 => ?_
        subst p7
        have t7 := stay t6 g7 s7
        refine ⟨z, gath ((l.take i).flatMap F ++ (F l[i]).take j), r7, t7.2.2.1, ?_, ?_, fun a o e mm => ?_⟩
        · have a1 := glen ((l.take i).flatMap F ++ (F l[i]).take j)
          have a2 := tlen (i + 1)
          rw [tk, List.length_append] at a2
          rw [List.length_append, List.length_take] at a1
          omega
        · rw [tk2, ← List.append_assoc]
          exact grow t7
        · have ne : a ≠ D := fun y => by
            subst y
            rcases mm with mm | mm
            · exact mm List.mem_cons_self
            · have := (minus_some e).2
              rw [t4.2.2.1] at this
              cases this
              cases mm
          rw [upd_ne ne]
          exact g7 a o (gg6 a o e mm) (mm.imp (fun mm q => mm (List.mem_cons_of_mem _ (two_sub I.ms a q))) id)
      · have e : j = l4.length := by omega
        subst e
        refine .inl ⟨w7, ?_⟩
        rw [elen, List.take_length] at t5
        rw [tk]
        exact t5
    · have e : i = l.length := by omega
      subst e
      rw [List.take_length] at t
      obtain ⟨q1, q2, q3, q4⟩ := t
      refine .inl ⟨w2, D, _, rfl, q3, Nat.lt_of_le_of_lt (glen _) few, fun zs q hz nd hs2 hq => ?_⟩
      have ez := sorted_usort (ys := l.flatMap F) hz hs2 nd fun z => gath_iff _ z
      subst ez
      have gH : Gr [s, c] H H2 := fun a o ea mm => by
        have e1 := gr1 a o ea mm
        by_cases z : a ∈ O
        · obtain ⟨zs, hz⟩ := I1.lst a z
          rw [hz] at e1; cases e1
          exact q2 a z zs hz
        · exact q1 a o (by rw [minus_out z]; exact e1) mm
      exact k (.ref q) _ (.lst (dStrs (usort (l.flatMap F)))) (gH.trans (Gr.new hq)) (q4.new hq) ⟨q, _, rfl, (I.next gH q4).new_out hq, upd_same, rep_dStrs _⟩ rfl
end
end Pl
/-! text K14a -/
set_option Elab.async false
set_option linter.all false
set_option maxRecDepth 100000
set_option maxHeartbeats 4000000
set_option exponentiation.threshold 5000
namespace K14
open PySem PySem.Spec PyProof.Rows L2 Pl PlS
def topS (i : Nat) : Stmt := PySem.Challenge.pw_marktables_k14_tables_errors.main.body.getD i (.Pass ⟨0, 0, 0, 0⟩)
abbrev s_is_plain_integer : Stmt := topS 4
theorem sc_is_plain_integer : FnScope ["value"] ["value"] (defScope s_is_plain_integer) := ⟨rfl, rfl, rfl, by decide +kernel, rfl, by decide +kernel, by decide +kernel⟩
abbrev s_is_name : Stmt := topS 7
theorem sc_is_name : FnScope ["value"] ["value"] (defScope s_is_name) := ⟨rfl, rfl, rfl, by decide +kernel, rfl, by decide +kernel, by decide +kernel⟩
abbrev s__tables_error : Stmt := topS 12
theorem sc__tables_error : FnScope ["rows", "names", "places", "contents", "k", "row", "name", "table", "values"] ["rows"] (defScope s__tables_error) := ⟨rfl, rfl, rfl, by decide +kernel, rfl, by decide +kernel, by decide +kernel⟩
abbrev s__is_row : Stmt := topS 13
theorem sc__is_row : FnScope ["value", "name", "table", "values", "entry"] ["value"] (defScope s__is_row) := ⟨rfl, rfl, rfl, by decide +kernel, rfl, by decide +kernel, by decide +kernel⟩
abbrev s__is_value : Stmt := topS 14
theorem sc__is_value : FnScope ["value"] ["value"] (defScope s__is_value) := ⟨rfl, rfl, rfl, by decide +kernel, rfl, by decide +kernel, by decide +kernel⟩
abbrev s__law_source : Stmt := topS 16
theorem sc__law_source : FnScope ["script", "cells", "k"] ["script"] (defScope s__law_source) := ⟨rfl, rfl, rfl, by decide +kernel, rfl, by decide +kernel, by decide +kernel⟩
abbrev s__law_draw : Stmt := topS 17
theorem sc__law_draw : FnScope ["source", "limit", "cells", "turn", "place", "cell", "number", "other"] ["source", "limit"] (defScope s__law_draw) := ⟨rfl, rfl, rfl, by decide +kernel, rfl, by decide +kernel, by decide +kernel⟩
abbrev s__law_pick : Stmt := topS 18
theorem sc__law_pick : FnScope ["source", "values"] ["source", "values"] (defScope s__law_pick) := ⟨rfl, rfl, rfl, by decide +kernel, rfl, by decide +kernel, by decide +kernel⟩
abbrev s__law_shuffle : Stmt := topS 19
theorem sc__law_shuffle : FnScope ["source", "values", "result", "value"] ["source", "values"] (defScope s__law_shuffle) := ⟨rfl, rfl, rfl, by decide +kernel, rfl, by decide +kernel, by decide +kernel⟩
abbrev s__law_word : Stmt := topS 20
theorem sc__law_word : FnScope ["source", "size", "k"] ["source", "size"] (defScope s__law_word) := ⟨rfl, rfl, rfl, by decide +kernel, rfl, by decide +kernel, by decide +kernel⟩
abbrev s__law_shapes : Stmt := topS 21
theorem sc__law_shapes : FnScope ["source", "shapes"] ["source"] (defScope s__law_shapes) := ⟨rfl, rfl, rfl, by decide +kernel, rfl, by decide +kernel, by decide +kernel⟩
abbrev s__law_database : Stmt := topS 25
theorem sc__law_database : FnScope ["source", "shapes", "most", "some", "more", "names", "rows", "k", "table", "size", "values", "j", "row"] ["source", "shapes", "most"] (defScope s__law_database) := ⟨rfl, rfl, rfl, by decide +kernel, rfl, by decide +kernel, by decide +kernel⟩
abbrev s__law_is_word : Stmt := topS 26
theorem sc__law_is_word : FnScope ["value", "letter"] ["value"] (defScope s__law_is_word) := ⟨rfl, rfl, rfl, by decide +kernel, rfl, by decide +kernel, by decide +kernel⟩
abbrev s__law_is_value : Stmt := topS 27
theorem sc__law_is_value : FnScope ["value"] ["value"] (defScope s__law_is_value) := ⟨rfl, rfl, rfl, by decide +kernel, rfl, by decide +kernel, by decide +kernel⟩
abbrev s__law_is_row : Stmt := topS 28
theorem sc__law_is_row : FnScope ["value", "one"] ["value"] (defScope s__law_is_row) := ⟨rfl, rfl, rfl, by decide +kernel, rfl, by decide +kernel, by decide +kernel⟩
abbrev s__law_expected : Stmt := topS 29
theorem sc__law_expected : FnScope ["rows", "k", "row"] ["rows"] (defScope s__law_expected) := ⟨rfl, rfl, rfl, by decide +kernel, rfl, by decide +kernel, by decide +kernel⟩
abbrev s__law_raised : Stmt := topS 30
theorem sc__law_raised : FnScope ["rows", "caught", "e"] ["rows"] (defScope s__law_raised) := ⟨rfl, rfl, rfl, by decide +kernel, rfl, by decide +kernel, by decide +kernel⟩
abbrev s__law_changed : Stmt := topS 31
theorem sc__law_changed : FnScope ["source", "shapes", "rows", "plain", "k", "name", "table", "values", "odd", "words", "bad", "far", "spot"] ["source", "shapes", "rows"] (defScope s__law_changed) := ⟨rfl, rfl, rfl, by decide +kernel, rfl, by decide +kernel, by decide +kernel⟩
abbrev s__law_strange : Stmt := topS 32
theorem sc__law_strange : FnScope ["rows", "strange", "name", "table", "values"] ["rows"] (defScope s__law_strange) := ⟨rfl, rfl, rfl, by decide +kernel, rfl, by decide +kernel, by decide +kernel⟩
abbrev s__law_parts_hold : Stmt := topS 33
theorem sc__law_parts_hold : FnScope ["rows", "raw", "tables", "row", "value", "thing", "name", "table", "values", "turned", "crossed", "less"] ["rows"] (defScope s__law_parts_hold) := ⟨rfl, rfl, rfl, by decide +kernel, rfl, by decide +kernel, by decide +kernel⟩
abbrev s_law : Stmt := topS 34
theorem sc_law : FnScope ["script", "source", "repeat", "shapes", "rows", "before"] ["script"] (defScope s_law) := ⟨rfl, rfl, rfl, by decide +kernel, rfl, by decide +kernel, by decide +kernel⟩
structure Adr where
  f_is_plain_integer : Addr
  fd_is_plain_integer : FuncData
  f_is_name : Addr
  fd_is_name : FuncData
  f__tables_error : Addr
  fd__tables_error : FuncData
  f__is_row : Addr
  fd__is_row : FuncData
  f__is_value : Addr
  fd__is_value : FuncData
  f__law_source : Addr
  fd__law_source : FuncData
  f__law_draw : Addr
  fd__law_draw : FuncData
  f__law_pick : Addr
  fd__law_pick : FuncData
  f__law_shuffle : Addr
  fd__law_shuffle : FuncData
  f__law_word : Addr
  fd__law_word : FuncData
  f__law_shapes : Addr
  fd__law_shapes : FuncData
  f__law_database : Addr
  fd__law_database : FuncData
  f__law_is_word : Addr
  fd__law_is_word : FuncData
  f__law_is_value : Addr
  fd__law_is_value : FuncData
  f__law_is_row : Addr
  fd__law_is_row : FuncData
  f__law_expected : Addr
  fd__law_expected : FuncData
  f__law_raised : Addr
  fd__law_raised : FuncData
  f__law_changed : Addr
  fd__law_changed : FuncData
  f__law_strange : Addr
  fd__law_strange : FuncData
  f__law_parts_hold : Addr
  fd__law_parts_hold : FuncData
  f_law : Addr
  fd_law : FuncData
structure Txt (A : Adr) (K : PySem.W.Frag) (mg : Str → Option Value) : Prop where
  F_is_plain_integer : Fun K "is_plain_integer" "is_plain_integer" s_is_plain_integer A.f_is_plain_integer A.fd_is_plain_integer
  m_is_plain_integer : mg "is_plain_integer" = some (.ref A.f_is_plain_integer)
  b_is_plain_integer : Binds K A.fd_is_plain_integer ["value"] []
  F_is_name : Fun K "is_name" "is_name" s_is_name A.f_is_name A.fd_is_name
  m_is_name : mg "is_name" = some (.ref A.f_is_name)
  b_is_name : Binds K A.fd_is_name ["value"] []
  F__tables_error : Fun K "_tables_error" "_tables_error" s__tables_error A.f__tables_error A.fd__tables_error
  m__tables_error : mg "_tables_error" = some (.ref A.f__tables_error)
  b__tables_error : Binds K A.fd__tables_error ["rows"] []
  F__is_row : Fun K "_is_row" "_is_row" s__is_row A.f__is_row A.fd__is_row
  m__is_row : mg "_is_row" = some (.ref A.f__is_row)
  b__is_row : Binds K A.fd__is_row ["value"] []
  F__is_value : Fun K "_is_value" "_is_value" s__is_value A.f__is_value A.fd__is_value
  m__is_value : mg "_is_value" = some (.ref A.f__is_value)
  b__is_value : Binds K A.fd__is_value ["value"] []
  F__law_source : Fun K "_law_source" "_law_source" s__law_source A.f__law_source A.fd__law_source
  m__law_source : mg "_law_source" = some (.ref A.f__law_source)
  b__law_source : Binds K A.fd__law_source ["script"] []
  F__law_draw : Fun K "_law_draw" "_law_draw" s__law_draw A.f__law_draw A.fd__law_draw
  m__law_draw : mg "_law_draw" = some (.ref A.f__law_draw)
  b__law_draw : Binds K A.fd__law_draw ["source", "limit"] []
  F__law_pick : Fun K "_law_pick" "_law_pick" s__law_pick A.f__law_pick A.fd__law_pick
  m__law_pick : mg "_law_pick" = some (.ref A.f__law_pick)
  b__law_pick : Binds K A.fd__law_pick ["source", "values"] []
  F__law_shuffle : Fun K "_law_shuffle" "_law_shuffle" s__law_shuffle A.f__law_shuffle A.fd__law_shuffle
  m__law_shuffle : mg "_law_shuffle" = some (.ref A.f__law_shuffle)
  b__law_shuffle : Binds K A.fd__law_shuffle ["source", "values"] []
  F__law_word : Fun K "_law_word" "_law_word" s__law_word A.f__law_word A.fd__law_word
  m__law_word : mg "_law_word" = some (.ref A.f__law_word)
  b__law_word : Binds K A.fd__law_word ["source", "size"] []
  F__law_shapes : Fun K "_law_shapes" "_law_shapes" s__law_shapes A.f__law_shapes A.fd__law_shapes
  m__law_shapes : mg "_law_shapes" = some (.ref A.f__law_shapes)
  b__law_shapes : Binds K A.fd__law_shapes ["source"] []
  F__law_database : Fun K "_law_database" "_law_database" s__law_database A.f__law_database A.fd__law_database
  m__law_database : mg "_law_database" = some (.ref A.f__law_database)
  b__law_database : Binds K A.fd__law_database ["source", "shapes", "most"] []
  F__law_is_word : Fun K "_law_is_word" "_law_is_word" s__law_is_word A.f__law_is_word A.fd__law_is_word
  m__law_is_word : mg "_law_is_word" = some (.ref A.f__law_is_word)
  b__law_is_word : Binds K A.fd__law_is_word ["value"] []
  F__law_is_value : Fun K "_law_is_value" "_law_is_value" s__law_is_value A.f__law_is_value A.fd__law_is_value
  m__law_is_value : mg "_law_is_value" = some (.ref A.f__law_is_value)
  b__law_is_value : Binds K A.fd__law_is_value ["value"] []
  F__law_is_row : Fun K "_law_is_row" "_law_is_row" s__law_is_row A.f__law_is_row A.fd__law_is_row
  m__law_is_row : mg "_law_is_row" = some (.ref A.f__law_is_row)
  b__law_is_row : Binds K A.fd__law_is_row ["value"] []
  F__law_expected : Fun K "_law_expected" "_law_expected" s__law_expected A.f__law_expected A.fd__law_expected
  m__law_expected : mg "_law_expected" = some (.ref A.f__law_expected)
  b__law_expected : Binds K A.fd__law_expected ["rows"] []
  F__law_raised : Fun K "_law_raised" "_law_raised" s__law_raised A.f__law_raised A.fd__law_raised
  m__law_raised : mg "_law_raised" = some (.ref A.f__law_raised)
  b__law_raised : Binds K A.fd__law_raised ["rows"] []
  F__law_changed : Fun K "_law_changed" "_law_changed" s__law_changed A.f__law_changed A.fd__law_changed
  m__law_changed : mg "_law_changed" = some (.ref A.f__law_changed)
  b__law_changed : Binds K A.fd__law_changed ["source", "shapes", "rows"] []
  F__law_strange : Fun K "_law_strange" "_law_strange" s__law_strange A.f__law_strange A.fd__law_strange
  m__law_strange : mg "_law_strange" = some (.ref A.f__law_strange)
  b__law_strange : Binds K A.fd__law_strange ["rows"] []
  F__law_parts_hold : Fun K "_law_parts_hold" "_law_parts_hold" s__law_parts_hold A.f__law_parts_hold A.fd__law_parts_hold
  m__law_parts_hold : mg "_law_parts_hold" = some (.ref A.f__law_parts_hold)
  b__law_parts_hold : Binds K A.fd__law_parts_hold ["rows"] []
  F_law : Fun K "law" "law" s_law A.f_law A.fd_law
  m_law : mg "law" = some (.ref A.f_law)
  b_law : Binds K A.fd_law ["script"] []
  m_int : mg "int" = none
  m_len : mg "len" = none
  m_range : mg "range" = none
  m_tuple : mg "tuple" = none
  m_list : mg "list" = none
  m_set : mg "set" = none
  m_sorted : mg "sorted" = none
  m_isinstance : mg "isinstance" = none
  m_str : mg "str" = none
  m_abs : mg "abs" = none
  m_repr : mg "repr" = none
  m_enumerate : mg "enumerate" = none
  m_all : mg "all" = none
  m_bool : mg "bool" = none
  m_ValueError : mg "ValueError" = none
  m_LONGEST_NAME : ∃ t, mg "LONGEST_NAME" = some (.int 8 t)
  m_MOST_VALUES : ∃ t, mg "MOST_VALUES" = some (.int 3 t)
  m_GREATEST_VALUE : ∃ t, mg "GREATEST_VALUE" = some (.int 1000000000 t)
end K14
/-! text K14b -/
set_option Elab.async false
set_option linter.all false
set_option maxRecDepth 100000
set_option maxHeartbeats 4000000
set_option exponentiation.threshold 5000
namespace K14
open PySem PySem.Spec PyProof.Rows L2 Pl PlS
section
variable {X : Cx}
def CPowW (i j : Int) : Prop := 0 ≤ j ∧ (Builtin.Int.intBits i : Int) * j ≤ 2 ^ 27
theorem op_powW : OpR X (binaryOp .Pow) (rI CPowW fun i j => .int (i ^ j.toNat)) := opI fun _ _ _ _ _ _ _ hc q => pow_int hc.1 hc.2 q
end
theorem ne_two {s c : Addr} (h : s ≠ c) : c ≠ s := h.symm
theorem wd_of {x : Int} {k : Nat} (h : x.natAbs < 2 ^ k) (hk : k ≤ 4000) : Wd x := Nat.lt_of_lt_of_le h (Nat.pow_le_pow_right (by decide) hk)
theorem wd_div {x L : Int} (h : Wd x) (h0 : 0 ≤ x) (hL : 0 < L) : Wd (x / L) := by
  have h1 : x / L ≤ x := Int.ediv_le_self _ h0
  have h2 : 0 ≤ x / L := Int.ediv_nonneg h0 (by omega)
  unfold Wd at *
  omega
/-- what the mixing reckons is a rest -/
theorem small_mod {x : Int} {m : Int} (hm : 0 < m) (hm2 : m ≤ 2 ^ 31) : (x % m).natAbs < 2 ^ 31 := by
  have h1 := Int.emod_nonneg x (by omega : m ≠ 0)
  have h2 := Int.emod_lt_of_pos x hm
  omega
theorem m31 {i j : Int} (hi : i.natAbs < 2 ^ 31) (hj : j.natAbs < 2 ^ 31) : CMulW i j := wide_mul hi hj (by decide) (by decide) (by decide)
theorem one_more {x : Int} (h : x.natAbs < 2 ^ (31 + 31 + 31)) : (x + 1).natAbs < 2 ^ 94 := by
  have : (2 : Nat) ^ (31 + 31 + 31) = 9903520314283042199192993792 := by decide
  have : (2 : Nat) ^ 94 = 19807040628566084398385987584 := by decide
  omega
def preDraw (s c : Addr) (ds : List D) : Prop := ∃ L : Int, ds = [.obj s, .int L] ∧ 0 < L ∧ L.natAbs < 2 ^ 4000
def postDraw (s c : Addr) (ds : List D) (d : D) : Prop := ∃ L k : Int, ds = [.obj s, .int L] ∧ d = .int k ∧ 0 ≤ k ∧ k < L
section
variable {P : Program} {w : World} {K : PySem.W.Frag} {mg : Str → Option Value} {base : Heap} {A : Adr}
theorem ok__law_draw (T : Txt A K mg) : FnOk P w K mg base CX0 1 A.f__law_draw A.fd__law_draw ["source", "limit"] (Pr K preDraw 1 postDraw) := by
  refine T.F__law_draw.ok sc__law_draw (fun vs H Q E h => ?_) (fun cdv A' outer st H vs Q E hr h => ⟨_, (pss_cons (ps_asg (pv 0) (k_pgunl K rfl (pgs_cons (pg_name (i := 2) sc__law_draw.nd rfl (by first | exact Or.inl rfl | exact Or.inr rfl)) (pgs_cons (pg_name (i := 3) sc__law_draw.nd rfl (by first | exact Or.inl rfl | exact Or.inr rfl)) pgs_nil))))
      (pss_cons (ps_set (i := 4) sc__law_draw.nd rfl (by first | exact Or.inl rfl | exact Or.inr rfl) (pe_op op_mod (pe_callTy call_int1 (by rfl) T.m_int (by decide +kernel) (pa_cons (pv 3) pa_nil)) (pe_callB (k_len K) (by rfl) T.m_len (by decide +kernel) (pa_cons (pv 2) pa_nil))))
      (pss_cons (ps_set (i := 5) sc__law_draw.nd rfl (by first | exact Or.inl rfl | exact Or.inr rfl) (pe_ix (k_ix K) (pv 2) (pv 4) (fun _ _ => rfl)))
      (pss_cons (ps_asg (pe_op (k_add K) (pv 3) pe_int) (pg_sub (pv 0) pe_int set_list))
      (pss_cons (ps_if (pt_cmpR op_ge (pv 5) (pe_op op_powW pe_int pe_int) (nomark _)) (pss_cons (ps_asg (pe_op op_fdivW (pv 5) (pv 1)) (pg_sub (pv 2) (pv 4) set_list))
      (pss_one (ps_ret (pe_op op_mod (pe_callTy call_int1 (by rfl) T.m_int (by decide +kernel) (pa_cons (pv 5) pa_nil)) (pv 1))))) pss_nil)
      (pss_cons (ps_set (i := 6) sc__law_draw.nd rfl (by first | exact Or.inl rfl | exact Or.inr rfl) (pe_op op_mod (pe_callTy call_int1 (by rfl) T.m_int (by decide +kernel) (pa_cons (pe_op (k_add K) (pe_op (k_add K) (pe_op (k_mul K) (pe_op op_mod (pe_callTy call_int1 (by rfl) T.m_int (by decide +kernel) (pa_cons (pv 5) pa_nil)) pe_int) pe_int) (pe_op (k_mul K) (pe_op (k_mul K) (pv 3) (pv 3)) pe_int)) pe_int) pa_nil)) pe_int))
      (pss_cons (ps_set (i := 6) sc__law_draw.nd rfl (by first | exact Or.inl rfl | exact Or.inr rfl) (pe_op op_mod (pe_callTy call_int1 (by rfl) T.m_int (by decide +kernel) (pa_cons (pe_op (k_mul K) (pv 6) (pv 6)) pa_nil)) pe_int))
      (pss_cons (ps_set (i := 6) sc__law_draw.nd rfl (by first | exact Or.inl rfl | exact Or.inr rfl) (pe_op op_mod (pe_callTy call_int1 (by rfl) T.m_int (by decide +kernel) (pa_cons (pe_op (k_mul K) (pv 6) (pv 6)) pa_nil)) pe_int))
      (pss_cons (ps_if (pt_cmpR op_gt (pv 1) (pe_op op_powW pe_int pe_int) (nomark _)) (pss_cons (ps_set (i := 7) sc__law_draw.nd rfl (by first | exact Or.inl rfl | exact Or.inr rfl) (pe_op op_mod (pe_callTy call_int1 (by rfl) T.m_int (by decide +kernel) (pa_cons (pe_op (k_add K) (pe_op (k_add K) (pe_op (k_mul K) (pv 6) pe_int) (pe_op (k_mul K) (pv 3) pe_int)) pe_int) pa_nil)) pe_int))
      (pss_one (ps_set (i := 6) sc__law_draw.nd rfl (by first | exact Or.inl rfl | exact Or.inr rfl) (pe_op (k_mul K) (pv 6) (pe_op (k_add K) (pe_op (k_mul K) (pe_op (k_mul K) (pv 7) (pv 7)) (pv 7)) pe_int))))) pss_nil)
      (pss_one (ps_ret (pe_op op_mod (pe_callTy call_int1 (by rfl) T.m_int (by decide +kernel) (pa_cons (pv 6) pa_nil)) (pv 1))))))))))))), ?_⟩)
  · obtain ⟨s, c, M, n, ds, _, _, _, _, _, r, ⟨L, rfl, _⟩, _⟩ := h
    exact r.length.symm
  · obtain ⟨s, c, M, n, ds, ms, mc, tr, hs, hn, r, ⟨L, rfl, hL, hLw⟩, q⟩ := h
    obtain ⟨v, u, rfl, rv, ru⟩ := r.inv2
    have rv : v = .ref s := rv
    have ru : u = .int L := ru
    subst rv; subst ru
    obtain ⟨t, ns, es, ec, ne, nl, nw, t0, t1⟩ := hs.ex
    have sc : c ≠ s := hs.ne.symm
    have lp : 0 < (ns.map V.int).length := by
      rw [List.length_map]
      exact List.length_pos_iff.mpr ne
    have lp' : (0 : Int) < ((ns.map V.int).length : Nat) := by omega
    -- cells, turn = source
    refine ⟨.ref s, rfl, s, _, rfl, SqL.of es, rfl, _, _, rfl, _, _, rfl, rfl, ?_⟩
    -- place = int(turn) % len(cells)
    refine ⟨.int t, rfl, .inl ⟨t, rfl, .ref c, rfl, .inl ⟨c, _, rfl, .inl (SqL.of ec), t, _, rfl, rfl, lp', ?_⟩⟩⟩
    -- cell = cells[place]
    obtain ⟨j, hpj⟩ : ∃ j : Nat, t % ((ns.map V.int).length : Int) = (j : Int) := ⟨(t % ((ns.map V.int).length : Int)).toNat, by have := Int.emod_nonneg t (by omega : ((ns.map V.int).length : Int) ≠ 0); omega⟩
    have hj : j < ns.length := by
      have := Int.emod_lt_of_pos t lp'
      rw [hpj, List.length_map] at this
      omega
    have hx : (ns.map V.int)[j]? = some (.int ns[j]) := by rw [List.getElem?_map, List.getElem?_eq_getElem hj]; rfl
    generalize hxe : ns[j] = x at hx
    have xw : Wd x := by rw [← hxe]; exact nw _ (List.getElem_mem hj)
    refine ⟨.ref c, rfl, .int (t % ((ns.map V.int).length : Int)), rfl, .inl ⟨c, _, t % ((ns.map V.int).length : Int), .int x, rfl, rfl, SqL.of ec, by rw [hpj]; exact atI_nat hx, ?_⟩⟩
    -- source[1] = turn + 1
    refine ⟨.int t, rfl, .inl ⟨t, 1, rfl, rfl, .ref s, rfl, s, _, 1, 1, rfl, rfl, es, rfl, ?_⟩⟩
    generalize hH1 : upd H s (.lst ([V.ref c, V.int t].set 1 (.int (t + 1)))) = H1
    have es1 : H1 s = some (.lst [V.ref c, V.int (t + 1)]) := by rw [← hH1]; exact upd_same
    have ec1 : H1 c = some (.lst (ns.map V.int)) := by rw [← hH1, upd_ne sc]; exact ec
    have g1 : Gr [s, c] H H1 := fun a o e m => by
      have na : a ≠ s := fun z => by
        subst z
        rcases m with m | m
        · exact m List.mem_cons_self
        · rw [es] at e; cases e; cases m
      rw [← hH1, upd_ne na]
      exact e
    have s1 : Src s c (n + 1) H1 := ⟨hs.ne, t + 1, ns, es1, ec1, ne, nl, nw, by omega, by omega⟩
    -- if cell >= 10 ** 18
    refine ⟨.int x, rfl, 10, 18, rfl, rfl, ⟨by decide, by decide⟩, x, _, rfl, rfl, _, rfl, ite2 (fun h => ?_) (fun h => ?_)⟩
    · have hx0 : (10 : Int) ^ (18 : Int).toNat ≤ x := of_decide_eq_true h
      have hx0' : 0 ≤ x := Int.le_trans (by decide) hx0
      refine ⟨.int x, rfl, .int L, rfl, x, L, rfl, rfl, wide_div hL hLw (by decide) (by decide), .ref c, rfl, .int (t % ((ns.map V.int).length : Int)), rfl, c, _, t % ((ns.map V.int).length : Int), j, rfl, rfl, ec1, ?_, ?_⟩
      · rw [hpj]
        rw [List.length_map] at *
        unfold ixN
        rw [if_pos (by omega), if_pos (by omega)]
        rfl
      · refine ⟨.int x, rfl, .inl ⟨x, rfl, .int L, rfl, x, L, rfl, rfl, hL, ?_⟩⟩
        have e2 : (ns.map V.int).set j (.int (x / L)) = (ns.set j (x / L)).map V.int := by rw [List.map_set]
        rw [e2]
        refine q _ _ (.int (x % L)) (fun a o e m => ?_) ⟨hs.ne, t + 1, ns.set j (x / L), ?_, upd_same, ?_, by rw [List.length_set]; exact nl, fun y hy => ?_, by omega, by omega⟩ rfl ⟨L, _, rfl, rfl, Int.emod_nonneg _ (by omega), Int.emod_lt_of_pos _ hL⟩
        · have na : a ≠ c := fun z => by
            subst z
            rcases m with m | m
            · exact m (List.mem_cons_of_mem _ List.mem_cons_self)
            · rw [ec] at e; cases e; cases m
          rw [upd_ne na]
          exact g1 a o e m
        · rw [upd_ne sc.symm]
          exact es1
        · intro z
          have := congrArg List.length z
          rw [List.length_set] at this
          exact ne (List.length_eq_zero_iff.mp this)
        · rcases List.mem_or_eq_of_mem_set hy with z | z
          · exact nw y z
          · rw [z]
            exact wd_div xw hx0' hL
    · -- the mixing
      have tw : t.natAbs < 2 ^ 41 := by omega
      refine ⟨.int x, rfl, .inl ⟨x, rfl, x, _, rfl, rfl, (by show (0 : Int) < _; decide), .inl ⟨_, _, rfl, rfl, m31 (small_mod (by decide) (by decide)) (by decide), .int t, rfl, .int t, rfl, .inl ⟨t, t, rfl, rfl, wide_mul tw tw (by decide) (by decide) (by decide), .inl ⟨_, _, rfl, rfl, wide_mul (a := 82) (wide_lt tw tw) (b := 31) (by decide) (by decide) (by decide) (by decide), .inl ⟨_, _, rfl, rfl, .inl ⟨_, _, rfl, rfl, .inl ⟨_, rfl, _, _, rfl, rfl, (by show (0 : Int) < _; decide), ?_⟩⟩⟩⟩⟩⟩⟩⟩
      refine ⟨_, rfl, _, rfl, .inl ⟨_, _, rfl, rfl, m31 (small_mod (by decide) (by decide)) (small_mod (by decide) (by decide)), .inl ⟨_, rfl, _, _, rfl, rfl, (by show (0 : Int) < _; decide), ?_⟩⟩⟩
      refine ⟨_, rfl, _, rfl, .inl ⟨_, _, rfl, rfl, m31 (small_mod (by decide) (by decide)) (small_mod (by decide) (by decide)), .inl ⟨_, rfl, _, _, rfl, rfl, (by show (0 : Int) < _; decide), ?_⟩⟩⟩
      -- if limit > 10 ** 9
      refine ⟨.int L, rfl, 10, 9, rfl, rfl, ⟨by decide, by decide⟩, L, _, rfl, rfl, _, rfl, ite2 (fun h => ?_) (fun h => ?_)⟩
      · refine ⟨_, rfl, .inl ⟨_, _, rfl, rfl, m31 (small_mod (by decide) (by decide)) (by decide), .int t, rfl, .inl ⟨_, _, rfl, rfl, wide_mul tw (b := 31) (by decide) (by decide) (by decide) (by decide), .inl ⟨_, _, rfl, rfl, .inl ⟨_, _, rfl, rfl, .inl ⟨_, rfl, _, _, rfl, rfl, (by show (0 : Int) < _; decide), ?_⟩⟩⟩⟩⟩⟩
        refine ⟨_, rfl, _, rfl, _, rfl, .inl ⟨_, _, rfl, rfl, m31 (small_mod (by decide) (by decide)) (small_mod (by decide) (by decide)), _, rfl, .inl ⟨_, _, rfl, rfl, wide_mul (wide_lt (small_mod (by decide) (by decide)) (small_mod (by decide) (by decide))) (small_mod (by decide) (by decide)) (by decide) (by decide) (by decide), .inl ⟨_, _, rfl, rfl, .inl ⟨_, _, rfl, rfl, wide_mul (a := 31) (b := 94) (small_mod (by decide) (by decide)) (one_more (wide_lt (wide_lt (small_mod (by decide) (by decide)) (small_mod (by decide) (by decide))) (small_mod (by decide) (by decide)))) (by decide) (by decide) (by decide), ?_⟩⟩⟩⟩⟩
        refine ⟨_, rfl, .inl ⟨_, rfl, .int L, rfl, _, L, rfl, rfl, hL, ?_⟩⟩
        exact q _ _ (.int _) g1 s1 rfl ⟨L, _, rfl, rfl, Int.emod_nonneg _ (by omega), Int.emod_lt_of_pos _ hL⟩
      · refine ⟨_, rfl, .inl ⟨_, rfl, .int L, rfl, _, L, rfl, rfl, hL, ?_⟩⟩
        exact q _ _ (.int _) g1 s1 rfl ⟨L, _, rfl, rfl, Int.emod_nonneg _ (by omega), Int.emod_lt_of_pos _ hL⟩
end

end K14
/-! text K14c -/
set_option Elab.async false
set_option linter.all false
set_option maxRecDepth 100000
set_option maxHeartbeats 4000000
set_option exponentiation.threshold 5000
namespace K14
open PySem PySem.Spec PyProof.Rows L2 Pl PlS
def prePick (s c : Addr) (ds : List D) : Prop := ∃ d l, ds = [.obj s, d] ∧ seqD d = some l ∧ l ≠ [] ∧ l.length ≤ 1000
def postPick (s c : Addr) (ds : List D) (z : D) : Prop := ∃ d l, ds = [.obj s, d] ∧ seqD d = some l ∧ z ∈ l
theorem lt_4000 {k : Int} (h0 : 0 ≤ k) (h : k ≤ 2 ^ 64) : k.natAbs < 2 ^ 4000 := Nat.lt_of_lt_of_le (m := 2 ^ 65) (by omega) (Nat.pow_le_pow_right (by decide) (by decide))
/-- draw from a known limit -/
theorem draw_of {s c : Addr} {L : Int} {d : D} (h : ∃ l, l = [D.obj s, .int L] ∧ postDraw s c l d) : ∃ k : Int, d = .int k ∧ 0 ≤ k ∧ k < L := by
  obtain ⟨l, e1, L', k, e2, e3, k0, k1⟩ := h
  rw [e1] at e2
  cases e2
  exact ⟨k, e3, k0, k1⟩
theorem ev_draw {K : PySem.W.Frag} {s c : Addr} {ρ : List Sl} {n n1 n2 : Nat} {ta tb : TE} {L : Int} (ha : EvE K s c ta ρ n n1 (fun d => d = .obj s)) (hb : EvE K s c tb ρ n1 n2 (fun d => d = .int L)) (hn : n2 + 1 ≤ 2 ^ 40) (h0 : 0 < L) (h1 : L ≤ 2 ^ 64) :
    EvE K s c (tCall (Pr K preDraw 1 postDraw) [] E0 (tCons ta (tCons tb tNil))) ρ n (n2 + 1) (fun d => ∃ k : Int, d = .int k ∧ 0 ≤ k ∧ k < L) :=
  (ev_def (ea_c ha (ea_c hb ea_nil)) hn fun x e => ⟨L, e, h0, lt_4000 (by omega) h1⟩).imp fun d h => draw_of h
theorem ev_pick {K : PySem.W.Frag} {s c : Addr} {ρ : List Sl} {n n1 n2 : Nat} {ta tb : TE} {d : D} {l : List D} (ha : EvE K s c ta ρ n n1 (fun d => d = .obj s)) (hb : EvE K s c tb ρ n1 n2 (fun x => x = d)) (hn : n2 + 1 ≤ 2 ^ 40) (hl : seqD d = some l) (h0 : l ≠ []) (h1 : l.length ≤ 1000) :
    EvE K s c (tCall (Pr K prePick 1 postPick) [] E0 (tCons ta (tCons tb tNil))) ρ n (n2 + 1) (fun x => x ∈ l) :=
  (ev_def (ea_c ha (ea_c hb ea_nil)) hn fun x e => ⟨d, l, e, hl, h0, h1⟩).imp fun z h => by
    obtain ⟨x, e, d', l', e2, e3, e4⟩ := h
    rw [e] at e2
    cases e2
    rw [hl] at e3
    cases e3
    exact e4
def preShuf (s c : Addr) (ds : List D) : Prop := ∃ l, ds = [.obj s, .lst l] ∧ l.length ≤ 60
def postShuf (s c : Addr) (ds : List D) (z : D) : Prop := ∃ l l', ds = [.obj s, .lst l] ∧ z = .lst l' ∧ l'.Perm l
def preWord (s c : Addr) (ds : List D) : Prop := ∃ k : Nat, ds = [.obj s, .int k] ∧ k ≤ 60
def postWord (s c : Addr) (ds : List D) (d : D) : Prop := ∃ (k : Nat) (z : Str), ds = [.obj s, .int k] ∧ d = .str z ∧ z.length = k ∧ Low z
theorem alpha_at {k : Int} (h0 : 0 ≤ k) (h1 : k < 26) : ∃ q, atI (Str.ofString "abcdefghijklmnopqrstuvwxyz").cps.toList k = some q ∧ low q := by
  have h : ∀ k : Fin 26, ∃ q, atI (Str.ofString "abcdefghijklmnopqrstuvwxyz").cps.toList ((k.val : Nat) : Int) = some q ∧ 97 ≤ q ∧ q ≤ 122 := by
    intro k
    refine ⟨97 + k.val, ?_, by omega, by omega⟩
    revert k
    decide +kernel
  have := h ⟨k.toNat, by omega⟩
  have e : ((k.toNat : Nat) : Int) = k := by omega
  simp only [e] at this
  exact this

def isName (z : Str) : Prop := 1 ≤ z.length ∧ z.length ≤ 8 ∧ Low z
theorem low_nil : ∀ q ∈ ([] : List Nat), low q := fun q h => by simp at h
def dShape (p : Str × Nat) : D := .tup [.str p.1, .int p.2]
def dAtom (a : Str × List Str) : D := .tup [.str a.1, .tup (dStrs a.2)]
theorem perm_map {α β : Type} (f : α → β) {l' m : List β} (h : l'.Perm m) : ∀ l : List α, m = l.map f → ∃ k : List α, k.Perm l ∧ l' = k.map f := by
  induction h with
  | nil =>
    intro l e
    exact ⟨l, .refl _, e⟩
  | cons x h ih =>
    intro l e
    cases l with
    | nil => cases e
    | cons y l =>
      rw [List.map_cons] at e
      cases e
      obtain ⟨k, h1, h2⟩ := ih l rfl
      exact ⟨y :: k, h1.cons y, by rw [h2]; rfl⟩
  | swap x y l0 =>
    intro l e
    cases l with
    | nil => cases e
    | cons a l =>
      cases l with
      | nil => cases e
      | cons b l =>
        cases e
        exact ⟨b :: a :: l, .swap a b l, rfl⟩
  | trans _ _ ih1 ih2 =>
    intro l e
    obtain ⟨k, h1, h2⟩ := ih2 l e
    obtain ⟨j, h3, h4⟩ := ih1 k h2
    exact ⟨j, h3.trans h1, h4⟩
/-- the first few of a list -/
theorem cut_to {l : List D} {k : Int} (h : 0 ≤ k) : Pl.cutD l none (some k) = l.take k.toNat := by
  obtain ⟨j, rfl⟩ : ∃ j : Nat, k = (j : Int) := ⟨k.toNat, by omega⟩
  unfold Pl.cutD
  rw [HT.sIx_none, HT.sIx_nat, List.drop_zero, Nat.sub_zero, Int.toNat_natCast]
  by_cases q : j ≤ l.length
  · rw [Nat.min_eq_left q]
  · rw [Nat.min_eq_right (by omega), List.take_length, List.take_of_length_le (by omega)]
theorem name_of (x : Str) (h : (decide (1 ≤ x.length) && decide (x.length ≤ 8) && x.cps.toList.all fun q => decide (97 ≤ q) && decide (q ≤ 122)) = true) : isName x := by
  simp only [Bool.and_eq_true, decide_eq_true_eq, List.all_eq_true] at h
  exact ⟨h.1.1, h.1.2, fun q hq => h.2 q hq⟩
def shapesOk (ps : List (Str × Nat)) : Prop := (∀ p ∈ ps, isName p.1 ∧ 1 ≤ p.2 ∧ p.2 ≤ 3) ∧ (ps.map (·.1)).Nodup
def preShapes (s c : Addr) (ds : List D) : Prop := ds = [.obj s]
def postShapes (s c : Addr) (ds : List D) (z : D) : Prop := ∃ ps, z = .lst (ps.map dShape) ∧ shapesOk ps ∧ ps ≠ [] ∧ ps.length ≤ 3
def preVars (s c : Addr) (ds : List D) : Prop := ds = [.obj s, .int 5]
def postVars (s c : Addr) (ds : List D) (z : D) : Prop := ∃ vs, z = .lst (dStrs vs) ∧ (∀ v ∈ vs, isName v) ∧ vs ≠ [] ∧ vs.length ≤ 5
def preAtoms (s c : Addr) (ds : List D) : Prop := ∃ ps vs, ∃ most : Nat, ds = [.obj s, .lst (ps.map dShape), .lst (dStrs vs), .int most] ∧ shapesOk ps ∧ ps ≠ [] ∧ ps.length ≤ 3 ∧ vs ≠ [] ∧ vs.length ≤ 5 ∧ 1 ≤ most ∧ most ≤ 6
def atomsOf (ps : List (Str × Nat)) (vs : List Str) (as : List (Str × List Str)) : Prop := ∀ a ∈ as, (a.1, a.2.length) ∈ ps ∧ ∀ v ∈ a.2, v ∈ vs
def postAtoms (s c : Addr) (ds : List D) (z : D) : Prop := ∃ ps vs, ∃ most : Nat, ds = [.obj s, .lst (ps.map dShape), .lst (dStrs vs), .int most] ∧ ∃ as, z = .lst (as.map dAtom) ∧ atomsOf ps vs as ∧ as ≠ [] ∧ as.length ≤ most
def preParts (s c : Addr) (ds : List D) : Prop := ∃ ps, ∃ most width : Nat, ds = [.obj s, .lst (ps.map dShape), .int most, .int width] ∧ shapesOk ps ∧ ps ≠ [] ∧ ps.length ≤ 3 ∧ 1 ≤ most ∧ most ≤ 6 ∧ width ≤ 3
def postParts (s c : Addr) (ds : List D) (z : D) : Prop := ∃ ps, ∃ most width : Nat, ds = [.obj s, .lst (ps.map dShape), .int most, .int width] ∧ ∃ as hd vs, z = .tup [.tup (dStrs hd), .lst (as.map dAtom)] ∧ atomsOf ps vs as ∧ as ≠ [] ∧ as.length ≤ most ∧ (∀ v ∈ vs, isName v) ∧ vs.length ≤ 5 ∧ hd.length = width ∧ ∀ h ∈ hd, ∃ a ∈ as, h ∈ a.2
section
variable {P : Program} {w : World} {K : PySem.W.Frag} {mg : Str → Option Value} {base : Heap} {A : Adr}
theorem ok__law_pick (T : Txt A K mg) : FnOk P w K mg base CX0 2 A.f__law_pick A.fd__law_pick ["source", "values"] (Pr K prePick 1 postPick) := by
  have G__law_draw := ok__law_draw (P := P) (w := w) (base := base) T
  refine T.F__law_pick.ok sc__law_pick (fun vs H Q E h => pr_len h fun s c ds hp => ?_) (fun cdv A' outer st H vs Q E hr h => have hw : _ := hr.units; ⟨_, (pss_one (ps_ret (pe_ix (k_ix K) (pv 1) (pe_call G__law_draw (hr.mono (by decide)) (by rfl) T.m__law_draw T.F__law_draw.kp T.b__law_draw .nil pass0 (pa_cons (pv 0) (pa_cons (pe_callB (k_len K) (by rfl) T.m_len (by decide +kernel) (pa_cons (pv 1) pa_nil)) pa_nil))) (fun _ _ => rfl)))), body_ok h fun s c n ds hn hp => ?_⟩)
  · obtain ⟨d, l, rfl, _⟩ := hp
    rfl
  · obtain ⟨d, l, rfl, hl, hne, h1⟩ := hp
    have h2 : 0 < l.length := List.length_pos_iff.mpr hne
    refine s_ret (P := fun z => z ∈ l) (ev_opP (ev_var rfl) (ev_def (ea_c (ev_var rfl) (ea_c (ev_callK (ea_one (ev_var rfl)) (ck_len hl)) ea_nil)) hn fun x e => ⟨_, e, by omega, lt_4000 (by omega) (by omega)⟩) fun x y e1 e2 => ?_) fun z hz => ⟨Nat.le_refl _, d, l, rfl, hl, hz⟩
    obtain ⟨x', e3, L, k, e4, rfl, k0, k1⟩ := e2
    rw [e3] at e4
    cases e4
    obtain ⟨z, h3, h4⟩ := at_some k0 k1
    exact ⟨z, by rw [e1]; exact rk_ixD hl h3, h4⟩
theorem ok__law_shuffle (T : Txt A K mg) : FnOk P w K mg base CX0 2 A.f__law_shuffle A.fd__law_shuffle ["source", "values"] (Pr K preShuf 60 postShuf) := by
  have G__law_draw := ok__law_draw (P := P) (w := w) (base := base) T
  refine T.F__law_shuffle.ok sc__law_shuffle (fun vs H Q E h => pr_len h fun s c ds hp => ?_) (fun cdv A' outer st H vs Q E hr h => have hw : _ := hr.units; ⟨_, (pss_cons (ps_set (i := 2) sc__law_shuffle.nd rfl (by first | exact Or.inl rfl | exact Or.inr rfl) (pe_lst pa_nil))
      (pss_cons (ps_for PassesOwn.never rfl (k_pilist K (pv 1)) (pg_name (i := 3) sc__law_shuffle.nd rfl (by first | exact Or.inl rfl | exact Or.inr rfl)) (pss_one (ps_expr (k_bm K PySem.F.plainAttrs_list PySem.F.slot_list_insert PySem.F.type_list_insert mt_insert (pv 2) (pa_cons (pe_call G__law_draw (hr.mono (by decide)) (by rfl) T.m__law_draw T.F__law_draw.kp T.b__law_draw .nil pass0 (pa_cons (pv 0) (pa_cons (pe_op (k_add K) (pe_callB (k_len K) (by rfl) T.m_len (by decide +kernel) (pa_cons (pv 2) pa_nil)) pe_int) pa_nil))) (pa_cons (pv 3) pa_nil))))))
      (pss_one (ps_ret (pv 2))))), body_ok h fun s c n ds hn hp => ?_⟩)
  · obtain ⟨l, rfl, _⟩ := hp
    rfl
  · obtain ⟨l, rfl, hl⟩ := hp
    have fin : ∀ (acc : List D) m, acc.Perm l → m ≤ n + 60 → (⟨fun _ m => m ≤ n + 60 ∧ postShuf s c [.obj s, .lst l] .non, fun d m => m ≤ n + 60 ∧ postShuf s c [.obj s, .lst l] d, fun _ _ => False, fun _ _ => False⟩ : Pn).rt (.lst acc) m := fun acc m h1 h2 => ⟨h2, l, acc, rfl, rfl, h1⟩
    refine s_seq (N := fun ρ' m => n = m ∧ ρ' = [.va (.obj s), .va (.lst l), .ow [], .no]) (s_own (en_lst ea_nil fun x e => by rw [e]; exact Nat.zero_le _) rfl (by exact (by decide : (2 : Nat) < 4)) fun x e => ⟨rfl, by rw [e]; rfl⟩) fun ρ1 n1 h1 => ?_
    obtain ⟨rfl, rfl⟩ := h1
    refine s_seq (N := fun ρ' m => m ≤ n + 60 ∧ ∃ acc y, ρ' = [.va (.obj s), .va (.lst l), .ow acc, y] ∧ acc.Perm l) ?_ fun ρ1 n1 h1 => ?_
    · refine s_for (ei_list (PL := fun ds => ds = l) (ev_var rfl) fun d e => ⟨l, e, rfl⟩) (fun ds i ρ' m => m ≤ n + i ∧ ∃ acc y, ρ' = [.va (.obj s), .va (.lst l), .ow acc, y] ∧ isOw (some y) = false ∧ acc.Perm (l.take i)) (fun ds e => ⟨Nat.le_refl _, [], .no, rfl, rfl, by rw [List.take_zero]⟩) (fun ds e i d ρ' m hi inv => ?_) (fun ds e ρ' m inv => ?_)
      · obtain ⟨hm, acc, y, rfl, hy, pm⟩ := inv
        rw [e] at hi
        have hil := (List.getElem?_eq_some_iff.mp hi).1
        have al : acc.length ≤ 60 := by rw [pm.length_eq, List.length_take]; omega
        refine ⟨_, _, eg_name (j := 3) hy, ?_⟩
        refine s_insert (l := acc) rfl (ev_draw (ev_var rfl) (ev_thaw (i := 2) rfl (ev_opK (ev_callK (ea_one (ev_var rfl)) (ck_len rfl)) ev_int rk_add) fun d e => by rw [e]; rfl) (by omega) (by omega) (by omega)) (fun d h => ?_) (ev_var rfl) (by omega) fun k d' h e => ?_
        · obtain ⟨k, rfl, k0, k1⟩ := h
          exact ⟨k, rfl, k0, by omega⟩
        · obtain ⟨k', e2, k0, k1⟩ := h
          cases e2
          refine ⟨by omega, _, _, rfl, rfl, ?_⟩
          rw [List.take_add_one, hi, e]
          refine List.Perm.trans ?_ (pm.append_right [d])
          have h1 : (acc.take k.toNat ++ [d] ++ acc.drop k.toNat).Perm (acc.take k.toNat ++ acc.drop k.toNat ++ [d]) := by
            rw [List.append_assoc, List.append_assoc]
            exact (List.Perm.refl _).append List.perm_append_comm
          rw [List.take_append_drop] at h1
          exact h1
      · obtain ⟨hm, acc, y, rfl, hy, pm⟩ := inv
        rw [e, List.take_length] at pm
        exact ⟨by rw [e] at hm; omega, acc, y, rfl, pm⟩
    · obtain ⟨hm, acc, y, rfl, pm⟩ := h1
      exact s_freeze (i := 2) rfl (s_ret (ev_var rfl) fun d e => by rw [e]; exact fin acc _ pm hm)
theorem ok__law_word (T : Txt A K mg) : FnOk P w K mg base CX0 2 A.f__law_word A.fd__law_word ["source", "size"] (Pr K preWord 60 postWord) := by
  have G__law_draw := ok__law_draw (P := P) (w := w) (base := base) T
  refine T.F__law_word.ok sc__law_word (fun vs H Q E h => pr_len h fun s c ds hp => ?_) (fun cdv A' outer st H vs Q E hr h => have hw : _ := hr.units; ⟨_, (pss_one (ps_ret (k_bm K PySem.F.plainAttrs_str PySem.F.slot_str_join PySem.F.type_str_join (k_join K) pe_str (pa_cons (pe_lc (own := [("k", 2)]) rfl sc__law_word.nd (pi_range1 rfl T.m_range (pa_cons (pv 1) pa_nil)) (blkOk_by (N := ["source", "size", "k"]) (sc := defScope s__law_word) (by decide +kernel)) (fun _ _ _ _ _ => (pg_name (i := 2) sc__law_word.nd rfl (by first | exact Or.inl rfl | exact Or.inr rfl))) (fun _ _ _ _ _ => pts_nil) (fun _ _ _ _ _ => (pe_ix (k_ix K) pe_str (pe_call G__law_draw (hr.mono (by decide)) (by rfl) T.m__law_draw T.F__law_draw.kp T.b__law_draw .nil pass0 (pa_cons (pv 0) (pa_cons pe_int pa_nil))) (fun _ _ => rfl)))) pa_nil)))), body_ok h fun s c n ds hn hp => ?_⟩)
  · obtain ⟨k, rfl, _⟩ := hp
    rfl
  · obtain ⟨k, rfl, hk⟩ := hp
    refine s_ret (n1 := n + 60) (P := fun d => ∃ z : Str, d = .str z ∧ z.length = k ∧ Low z) (ev_methP (A := fun d => d = .str (Str.ofString "")) (B := fun l => ∃ qs : List Nat, l = [.lst (dStrs (qs.map fun q => (⟨#[q]⟩ : Str)))] ∧ qs.length = k ∧ ∀ q ∈ qs, low q) ev_str ?_ ?_ (fun x e => by rw [e]; exact ty_str)) fun d h => ?_
    · refine EvA.imp (ea_cons (n1 := n + 60) (EvE.le (EvN.ev (en_lc (n2 := n + k) (ei_rng1 (PL := fun ds => ds = dInts 0 k) (ea_one (ev_var rfl)) fun l e => ⟨k, e, by omega, by omega, by rw [Int.toNat_natCast]⟩) rfl
        (fun ds i acc m => acc.length = i ∧ m = n + i ∧ ∃ qs : List Nat, acc = dStrs (qs.map fun q => (⟨#[q]⟩ : Str)) ∧ ∀ q ∈ qs, low q) (fun ds e => ⟨by rw [e, ints_len]; omega, rfl, rfl, [], rfl, fun q hq => by simp at hq⟩) (fun ds e i d acc m hi ha inv => ?_) fun ds e acc m inv => by rw [e, ints_len] at inv; omega)) (by omega)) ea_nil) fun l h => ?_
      · obtain ⟨rfl, rfl, qs, rfl, hq⟩ := inv
        rw [e] at hi
        obtain ⟨hi, _⟩ := ints_at' hi
        refine ⟨_, _, _, _, eg_name (j := 2) rfl, fun j hj => hj, et_yes, fun _ => ⟨_, _, ev_opP (P := fun y => ∃ q, y = .str ⟨#[q]⟩ ∧ low q) ev_str (ev_draw (ev_var rfl) ev_int (by omega) (by decide) (by decide)) fun x y e1 e2 => ?_, fun y h => ?_⟩, fun z => by cases z⟩
        · obtain ⟨j, rfl, j0, j1⟩ := e2
          obtain ⟨q, h1, h2⟩ := alpha_at j0 j1
          exact ⟨_, by rw [e1]; exact rk_ixS (by decide) h1, q, rfl, h2⟩
        · obtain ⟨q, rfl, lq⟩ := h
          refine ⟨by rw [List.length_append]; rfl, by omega, qs ++ [q], ?_, fun r hr => ?_⟩
          · unfold dStrs
            rw [List.map_append, List.map_append]
            rfl
          · rcases List.mem_append.mp hr with h | h
            · exact hq r h
            · rw [List.mem_singleton.mp h]; exact lq
      · obtain ⟨d, r, rfl, ⟨l', rfl, ds, e, m, inv⟩, rfl⟩ := h
        obtain ⟨h1, h2, qs, h3, h4⟩ := inv
        rw [e, ints_len] at h1
        refine ⟨qs, by rw [h3], ?_, h4⟩
        rw [h3] at h1
        unfold dStrs at h1
        rw [List.length_map, List.length_map] at h1
        exact h1
    · intro x l e h
      obtain ⟨qs, rfl, h1, h2⟩ := h
      have hz : ((qs.map fun q => (⟨#[q]⟩ : Str)).map (·.length)).sum + (qs.map fun q => (⟨#[q]⟩ : Str)).length * (Str.ofString "").length ≤ 16777216 := by
        rw [List.map_map, List.length_map]
        have e1 : ((fun z : Str => z.length) ∘ fun q => (⟨#[q]⟩ : Str)) = fun _ : Nat => 1 := rfl
        have e0 : (Str.ofString "").length = 0 := rfl
        rw [e1, e0, Nat.mul_zero]
        have e2 : ∀ l : List Nat, (l.map fun _ => 1).sum = l.length := fun l => by
          induction l with
          | nil => rfl
          | cons q qs ih => rw [List.map_cons, List.sum_cons, ih, List.length_cons, Nat.add_comm]
        rw [e2]
        omega
      exact ⟨.str (Txt.join (Str.ofString "") (qs.map fun q => (⟨#[q]⟩ : Str))), by rw [e]; exact mk_join rfl hz, ⟨qs.toArray⟩, by rw [Pl.join_ones], h1, h2⟩
    · obtain ⟨z, rfl, h1, h2⟩ := h
      exact ⟨Nat.le_refl _, k, z, rfl, rfl, h1, h2⟩
end

end K14
/-! text Pl8 -/
set_option Elab.async false
set_option linter.all false
set_option maxRecDepth 100000
set_option maxHeartbeats 4000000
set_option exponentiation.threshold 5000
namespace Pl
open PySem PySem.Spec PyProof.Rows L2
section
variable {K : PySem.W.Frag} {s c : Addr} {ρ ρ1 ρ2 : List Sl} {n n1 n2 n3 n' : Nat} {te ta tb tl to : TE} {P : D → Prop} {tt tu : TT}
/-! ### slices with bounds that are drawn -/
def EvOP (K : PySem.W.Frag) (s c : Addr) (to : TO) (ρ : List Sl) (n n' : Nat) (R : Option Int → Prop) : Prop := ∀ M0 H0 O σ H (Q : Option Int → Hp → Prop), Ok K s c M0 H0 O ρ n σ H → (∀ o H', Gr [s, c] H H' → Src s c n' H' → R o → Q o H') → to σ H Q
theorem eo_noneP : EvOP K s c tNoPart ρ n n (fun o => o = none) := fun M0 H0 O σ H Q I k => k none H (Gr.refl _ _) I.src rfl
theorem eo_someP {R : Option Int → Prop} (h : EvE K s c te ρ n n1 P) (hp : ∀ d, P d → ∃ i, d = .int i ∧ R (some i)) : EvOP K s c (tPart te) ρ n n1 R := fun M0 H0 O σ H Q I k => h M0 H0 O σ H _ I fun v H' d g hs r p => by
  obtain ⟨i, rfl, q⟩ := hp d p
  exact ⟨i, r, k (some i) H' g hs q⟩
theorem ev_slLP {to tu : TO} {R S : Option Int → Prop} (h : EvE K s c te ρ n n1 P) (hP : ∀ d, P d → ∃ l, d = .lst l) (hl : EvOP K s c to ρ n1 n2 R) (hh : EvOP K s c tu ρ n2 n3 S) : EvE K s c (tSl (rSlAny K) te to tu) ρ n n3 (fun d => ∃ l lo hi, P (.lst l) ∧ R lo ∧ S hi ∧ d = .lst (cutD l lo hi)) := fun M0 H0 O σ H Q I k =>
  h M0 H0 O σ H _ I fun v H1 d g1 s1 r1 p1 => hl M0 H0 O σ H1 _ (I.next g1 s1) fun lo H2 g2 s2 q2 => hh M0 H0 O σ H2 _ ((I.next g1 s1).next g2 s2) fun hi H3 g3 s3 q3 => by
    obtain ⟨l, rfl⟩ := hP d p1
    have g4 := g2.trans g3
    obtain ⟨a, xs, rfl, ma, ea, ra⟩ := Rep.gr (g4.mono I.sub) r1
    have J := ((I.next g1 s1).next g2 s2).next g3 s3
    exact .inl ⟨a, xs, rfl, SqL.of ea, fun p hp => k (.ref p) _ (.lst (cutD l lo hi)) ((g1.trans g4).trans (Gr.new hp)) (s3.new hp) ⟨p, _, rfl, J.new_out hp, upd_same, (ra.cut lo hi).gr (Gr.new hp)⟩ ⟨l, lo, hi, p1, q2, q3, rfl⟩⟩
end
end Pl
/-! text K14d -/
set_option Elab.async false
set_option linter.all false
set_option maxRecDepth 100000
set_option maxHeartbeats 4000000
set_option exponentiation.threshold 5000
namespace K14
open PySem PySem.Spec PyProof.Rows L2 Pl PlS

def shL (z : Str) : List (Str × Nat) := [(Str.ofString "e", 2), (Str.ofString "f", 1), (Str.ofString "g", 3), (z, 2), (Str.ofString "edgeofit", 2)]
theorem nm {x : Str} (h : (decide (1 ≤ x.length) && decide (x.length ≤ 8) && x.cps.toList.all fun q => decide (97 ≤ q) && decide (q ≤ 122)) = true) : isName x := name_of x h
theorem len_ne {a b : Str} (h : a.length ≠ b.length) : a ≠ b := fun e => h (by rw [e])
theorem shL_ok {z : Str} (h : z.length = 4) (l : Low z) : shapesOk (shL z) := by
  refine ⟨fun p hp => ?_, ?_⟩
  · simp only [shL, List.mem_cons, List.not_mem_nil, or_false] at hp
    rcases hp with rfl | rfl | rfl | rfl | rfl
    · exact ⟨nm (by decide +kernel), by decide, by decide⟩
    · exact ⟨nm (by decide +kernel), by decide, by decide⟩
    · exact ⟨nm (by decide +kernel), by decide, by decide⟩
    · exact ⟨⟨by show 1 ≤ z.length; omega, by show z.length ≤ 8; omega, l⟩, by exact (by decide : (1 : Nat) ≤ 2), by exact (by decide : (2 : Nat) ≤ 3)⟩
    · exact ⟨nm (by decide +kernel), by decide, by decide⟩
  · have a1 : z ≠ Str.ofString "e" := len_ne (by rw [h]; decide +kernel)
    have a2 : z ≠ Str.ofString "f" := len_ne (by rw [h]; decide +kernel)
    have a3 : z ≠ Str.ofString "g" := len_ne (by rw [h]; decide +kernel)
    have a4 : z ≠ Str.ofString "edgeofit" := len_ne (by rw [h]; decide +kernel)
    have b : ([Str.ofString "e", Str.ofString "f", Str.ofString "g", Str.ofString "edgeofit"] : List Str).Nodup := by decide +kernel
    have p : ([Str.ofString "e", Str.ofString "f", Str.ofString "g", z, Str.ofString "edgeofit"] : List Str).Perm (z :: [Str.ofString "e", Str.ofString "f", Str.ofString "g", Str.ofString "edgeofit"]) :=
      List.perm_middle (l₁ := [Str.ofString "e", Str.ofString "f", Str.ofString "g"]) (a := z) (l₂ := [Str.ofString "edgeofit"])
    refine p.nodup_iff.mpr (List.nodup_cons.mpr ⟨fun hm => ?_, b⟩)
    simp only [List.mem_cons, List.not_mem_nil, or_false] at hm
    rcases hm with e | e | e | e
    · exact a1 e
    · exact a2 e
    · exact a3 e
    · exact a4 e
theorem shapes_sub {ps qs : List (Str × Nat)} (h : shapesOk ps) (p : qs.Perm ps) (k : Nat) : shapesOk (qs.take k) := by
  refine ⟨fun x hx => h.1 x (p.mem_iff.mp (List.mem_of_mem_take hx)), ?_⟩
  rw [List.map_take]
  exact (((p.map (·.1)).nodup_iff.mpr h.2)).sublist (List.take_sublist _ _)
/-- a word, a shuffled list -/
theorem ev_word {K : PySem.W.Frag} {s c : Addr} {ρ : List Sl} {n n1 n2 : Nat} {ta tb : TE} (k : Nat) (ha : EvE K s c ta ρ n n1 (fun d => d = .obj s)) (hb : EvE K s c tb ρ n1 n2 (fun d => d = .int k)) (hn : n2 + 60 ≤ 2 ^ 40) (hk : k ≤ 60) :
    EvE K s c (tCall (Pr K preWord 60 postWord) [] E0 (tCons ta (tCons tb tNil))) ρ n (n2 + 60) (fun d => ∃ z : Str, d = .str z ∧ z.length = k ∧ Low z) :=
  (ev_def (ea_c ha (ea_c hb ea_nil)) hn fun x e => ⟨k, e, hk⟩).imp fun d h => by
    obtain ⟨x, e, k', z, e2, e3, e4, e5⟩ := h
    rw [e] at e2
    cases e2
    exact ⟨z, e3, e4, e5⟩
theorem ev_shuf {K : PySem.W.Frag} {s c : Addr} {ρ : List Sl} {n n1 n2 : Nat} {ta tb : TE} {l : List D} (ha : EvE K s c ta ρ n n1 (fun d => d = .obj s)) (hb : EvE K s c tb ρ n1 n2 (fun d => d = .lst l)) (hn : n2 + 60 ≤ 2 ^ 40) (hl : l.length ≤ 60) :
    EvE K s c (tCall (Pr K preShuf 60 postShuf) [] E0 (tCons ta (tCons tb tNil))) ρ n (n2 + 60) (fun d => ∃ l', d = .lst l' ∧ l'.Perm l) :=
  (ev_def (ea_c ha (ea_c hb ea_nil)) hn fun x e => ⟨l, e, hl⟩).imp fun d h => by
    obtain ⟨x, e, l1, l', e2, e3, e4⟩ := h
    rw [e] at e2
    cases e2
    exact ⟨l', e3, e4⟩
theorem ev_some {K : PySem.W.Frag} {s c : Addr} {ρ : List Sl} {n n1 n2 : Nat} {te : TE} {P : D → Prop} (h : EvE K s c te ρ n n1 P) (l : n1 ≤ n2) : EvE K s c te ρ n n2 P := h.le l
section
variable {P : Program} {w : World} {K : PySem.W.Frag} {mg : Str → Option Value} {base : Heap} {A : Adr}
theorem ok__law_shapes (T : Txt A K mg) : FnOk P w K mg base CX0 3 A.f__law_shapes A.fd__law_shapes ["source"] (Pr K preShapes 121 postShapes) := by
  have G__law_draw := ok__law_draw (P := P) (w := w) (base := base) T
  have G__law_shuffle := ok__law_shuffle (P := P) (w := w) (base := base) T
  have G__law_word := ok__law_word (P := P) (w := w) (base := base) T
  refine T.F__law_shapes.ok sc__law_shapes (fun vs H Q E h => pr_len h fun s c ds hp => ?_) (fun cdv A' outer st H vs Q E hr h => have hw : _ := hr.units; ⟨_, (pss_cons (ps_set (i := 1) sc__law_shapes.nd rfl (by first | exact Or.inl rfl | exact Or.inr rfl) (pe_lst (pa_cons (pe_tup (pa_cons pe_str (pa_cons pe_int pa_nil))) (pa_cons (pe_tup (pa_cons pe_str (pa_cons pe_int pa_nil))) (pa_cons (pe_tup (pa_cons pe_str (pa_cons pe_int pa_nil))) (pa_cons (pe_tup (pa_cons (pe_call G__law_word (hr.mono (by decide)) (by rfl) T.m__law_word T.F__law_word.kp T.b__law_word .nil pass0 (pa_cons (pv 0) (pa_cons pe_int pa_nil))) (pa_cons pe_int pa_nil))) (pa_cons (pe_tup (pa_cons pe_str (pa_cons pe_int pa_nil))) pa_nil)))))))
      (pss_one (ps_ret (pe_slice (k_sl K) (pe_call G__law_shuffle (hr.mono (by decide)) (by rfl) T.m__law_shuffle T.F__law_shuffle.kp T.b__law_shuffle .nil pass0 (pa_cons (pv 0) (pa_cons (pv 1) pa_nil))) po_none (po_some (pe_op (k_add K) pe_int (pe_call G__law_draw (hr.mono (by decide)) (by rfl) T.m__law_draw T.F__law_draw.kp T.b__law_draw .nil pass0 (pa_cons (pv 0) (pa_cons pe_int pa_nil))))))))), body_ok h fun s c n ds hn hp => ?_⟩)
  · rw [hp]; rfl
  · have hp : ds = [.obj s] := hp
    subst hp
    refine s_seq (N := fun ρ' m => m = n + 60 ∧ ∃ z : Str, ρ' = [.va (.obj s), .va (.lst ((shL z).map dShape))] ∧ z.length = 4 ∧ Low z) (s_set (P := fun d => ∃ z : Str, d = .lst ((shL z).map dShape) ∧ z.length = 4 ∧ Low z) (EvE.imp (EvN.ev (en_lst (PL := fun l => ∃ z : Str, l = (shL z).map dShape ∧ z.length = 4 ∧ Low z) (EvA.imp (ea_cons (ev_tupE (ea_c ev_str (ea_c ev_int ea_nil)) (by decide)) (ea_cons (ev_tupE (ea_c ev_str (ea_c ev_int ea_nil)) (by decide)) (ea_cons (ev_tupE (ea_c ev_str (ea_c ev_int ea_nil)) (by decide)) (ea_cons (ev_tup (ea_cons (ev_word 4 (ev_var rfl) ev_int (by omega) (by decide)) (ea_one ev_int)) fun l h => ?_) (ea_c (ev_tupE (ea_c ev_str (ea_c ev_int ea_nil)) (by decide)) ea_nil))))) fun l h => ?_) fun l h => ?_)) fun d h => ?_) rfl fun d h => ?_) fun ρ1 n1 h1 => ?_
    · obtain ⟨d, r, rfl, _, rfl⟩ := h
      exact (by decide : (2 : Nat) ≤ 1000)
    · obtain ⟨d1, r1, rfl, rfl, d2, r2, rfl, rfl, d3, r3, rfl, rfl, d4, r4, rfl, ⟨l4, rfl, x, y, rfl, ⟨z, rfl, h1, h2⟩, rfl⟩, rfl⟩ := h
      exact ⟨z, rfl, h1, h2⟩
    · obtain ⟨z, rfl, _⟩ := h
      exact (by decide : (5 : Nat) ≤ 1000)
    · obtain ⟨l, rfl, z, rfl, h1, h2⟩ := h
      exact ⟨z, rfl, h1, h2⟩
    · obtain ⟨z, rfl, h1, h2⟩ := h
      exact ⟨rfl, z, rfl, h1, h2⟩
    · obtain ⟨rfl, z, rfl, hz, lz⟩ := h1
      refine s_ret (P := fun d => ∃ l lo hi, (∃ l', D.lst l = .lst l' ∧ l'.Perm ((shL z).map dShape)) ∧ lo = none ∧ (∃ k : Int, hi = some (1 + k) ∧ 0 ≤ k ∧ k < 3) ∧ d = .lst (cutD l lo hi)) (ev_slLP (ev_shuf (ev_var rfl) (ev_var rfl) (by omega) (by exact (by decide : (5 : Nat) ≤ 60))) (fun d h => ⟨_, h.choose_spec.1⟩) eo_noneP (eo_someP (ev_opP (P := fun d => ∃ k : Int, d = .int (1 + k) ∧ 0 ≤ k ∧ k < 3) ev_int (ev_draw (ev_var rfl) ev_int (by omega) (by decide) (by decide)) fun x y e1 e2 => ?_) fun d h => ?_)) fun d h => ?_
      · obtain ⟨k, rfl, k0, k1⟩ := e2
        exact ⟨_, by rw [e1]; exact rk_add, k, rfl, k0, k1⟩
      · obtain ⟨k, rfl, k0, k1⟩ := h
        exact ⟨_, rfl, k, rfl, k0, k1⟩
      · obtain ⟨l, lo, hi, ⟨l', e1, pm⟩, rfl, ⟨k, rfl, k0, k1⟩, rfl⟩ := h
        cases e1
        obtain ⟨qs, h1, rfl⟩ := perm_map dShape pm _ rfl
        have ln : qs.length = 5 := h1.length_eq
        refine ⟨by omega, qs.take (1 + k).toNat, ?_, shapes_sub (shL_ok hz lz) h1 _, fun e => ?_, by rw [List.length_take]; omega⟩
        · rw [cut_to (by omega), List.map_take]
        · have := congrArg List.length e
          rw [List.length_take, List.length_nil] at this
          omega
end

theorem flat_shape (p : Str × Nat) : flat (dShape p) = true := rfl
theorem flat_strs : ∀ l : List Str, flatL (dStrs l) = true
  | [] => rfl
  | x :: l => flat_strs l
theorem flat_atom (a : Str × List Str) : flat (dAtom a) = true := by
  show (flat (.str a.1) && (flat (.tup (dStrs a.2)) && true)) = true
  have : flat (.tup (dStrs a.2)) = true := flat_strs a.2
  rw [this]
  rfl
theorem strs_mem {d : D} {l : List Str} (h : d ∈ dStrs l) : ∃ z, d = .str z ∧ z ∈ l := by
  obtain ⟨z, hz, rfl⟩ := List.mem_map.mp h
  exact ⟨z, rfl, hz⟩
theorem strs_len (l : List Str) : (dStrs l).length = l.length := List.length_map ..
theorem strs_app (l m : List Str) : dStrs l ++ dStrs m = dStrs (l ++ m) := (List.map_append ..).symm
end K14
/-! text PlE -/
set_option Elab.async false
set_option linter.all false
set_option maxRecDepth 100000
set_option maxHeartbeats 4000000
set_option exponentiation.threshold 5000
/-! PlE: == and != on pure data. -/
namespace Pl
open PySem PySem.Spec PyProof.Rows L2
mutual
def py : D → PyData
  | .non => .none
  | .bl b => .bool b
  | .int i => .int i
  | .str x => .str x
  | .obj _ => .none
  | .tup l => .tuple (pyL l)
  | .lst l => .list (pyL l)
  | .ins _ _ _ => .none
  | .dct _ _ => .none
def pyL : List D → List PyData
  | [] => []
  | d :: l => py d :: pyL l
end
mutual
def plain : D → Bool
  | .obj _ => false
  | .ins _ _ _ => false
  | .dct _ _ => false
  | .tup l => plainL l
  | .lst l => plainL l
  | .non => true | .bl _ => true | .int _ => true | .str _ => true
def plainL : List D → Bool
  | [] => true
  | d :: l => plain d && plainL l
end
section
variable {K : PySem.W.Frag} {M : List Addr} {H : Hp}
mutual
theorem rep_dp : ∀ {d : D} {v : V}, Rep K M H d v → plain d = true → Dp K H v (py d)
  | .non, v, r, _ => by
    have r : v = .non := r
    subst r
    exact .non
  | .bl b, v, r, _ => by
    have r : v = .bl b := r
    subst r
    exact .bl b
  | .int i, v, r, _ => by
    have r : v = .int i := r
    subst r
    exact .int i
  | .str x, v, r, _ => by
    have r : v = .str x := r
    subst r
    exact .str x
  | .obj _, _, _, h => nomatch (show false = true from h)
  | .ins _ _ _, _, _, h => nomatch (show false = true from h)
  | .dct _ _, _, _, h => nomatch (show false = true from h)
  | .tup l, _, r, h => by
    obtain ⟨a, xs, rfl, e, rl⟩ := r
    exact .tup e (rep_dpL rl h)
  | .lst l, _, r, h => by
    obtain ⟨a, xs, rfl, m, e, rl⟩ := r
    exact .lst (SqL.of e) (rep_dpL rl h)
theorem rep_dpL : ∀ {l : List D} {vs : List V}, RepL K M H l vs → plainL l = true → DpAll K H vs (pyL l)
  | [], [], _, _ => .nil
  | d :: l, v :: vs, r, h => by
    have h' : (plain d && plainL l) = true := h
    rw [Bool.and_eq_true] at h'
    exact .cons (rep_dp r.1 h'.1) (rep_dpL r.2 h'.2)
  | [], _ :: _, r, _ => r.elim
  | _ :: _, [], r, _ => r.elim
end
end
def rEqA (K : PySem.W.Frag) : R2 := fun x y H Q => rEqD K x y H Q ∨ rEq x y H Q
def rNeA (K : PySem.W.Frag) : R2 := fun x y H Q => rNeD K x y H Q ∨ rNe x y H Q
section
variable {X : Cx} {K : PySem.W.Frag}
theorem k_eqA (hu : X.A.units + 64 < cLine) (h : X.K = K := by rfl) : OpR X (compareOp .Eq) (rEqA K) := by subst h; exact (op_eqD hu).or op_eq
theorem k_neA (hu : X.A.units + 64 < cLine) (h : X.K = K := by rfl) : OpR X (compareOp .NotEq) (rNeA K) := by subst h; exact (op_neD hu).or op_ne
end
section
variable {K : PySem.W.Frag} {s c : Addr}
theorem rk_eqD {x y : D} (hx : plain x = true) (hy : plain y = true) (sx : SeqAt.shaped (py x) = true) (sy : SeqAt.shaped (py y) = true) : RK K s c (rEqA K) x y (.bl (PyData.eqv (py x) (py y))) := fun M n v w H Q hm ht hs rx ry k =>
  .inl ⟨py x, py y, rep_dp rx hx, rep_dp ry hy, sx, sy, k _ H (Gr.refl _ _) hs rfl⟩
theorem rk_neD {x y : D} (hx : plain x = true) (hy : plain y = true) (sx : SeqAt.shaped (py x) = true) (sy : SeqAt.shaped (py y) = true) : RK K s c (rNeA K) x y (.bl (!PyData.eqv (py x) (py y))) := fun M n v w H Q hm ht hs rx ry k =>
  .inl ⟨py x, py y, rep_dp rx hx, rep_dp ry hy, sx, sy, k _ H (Gr.refl _ _) hs rfl⟩
theorem rk_eqI {i j : Int} : RK K s c (rEqA K) (.int i) (.int j) (.bl (decide (i = j))) := fun M n v w H Q hm ht hs rx ry k => by
  have rx : v = .int i := rx
  have ry : w = .int j := ry
  subst rx; subst ry
  exact .inr ⟨rfl, k _ H (Gr.refl _ _) hs (show V.bl _ = V.bl _ by simp)⟩
theorem rk_neI {i j : Int} : RK K s c (rNeA K) (.int i) (.int j) (.bl (!decide (i = j))) := fun M n v w H Q hm ht hs rx ry k => by
  have rx : v = .int i := rx
  have ry : w = .int j := ry
  subst rx; subst ry
  exact .inr ⟨rfl, k _ H (Gr.refl _ _) hs (show V.bl _ = V.bl _ by simp)⟩
theorem rk_eqS {i j : Str} : RK K s c (rEqA K) (.str i) (.str j) (.bl (decide (i = j))) := fun M n v w H Q hm ht hs rx ry k => by
  have rx : v = .str i := rx
  have ry : w = .str j := ry
  subst rx; subst ry
  exact .inr ⟨rfl, k _ H (Gr.refl _ _) hs (show V.bl _ = V.bl _ by simp)⟩
theorem rk_neS {i j : Str} : RK K s c (rNeA K) (.str i) (.str j) (.bl (!decide (i = j))) := fun M n v w H Q hm ht hs rx ry k => by
  have rx : v = .str i := rx
  have ry : w = .str j := ry
  subst rx; subst ry
  exact .inr ⟨rfl, k _ H (Gr.refl _ _) hs (show V.bl _ = V.bl _ by simp)⟩
end
end Pl
/-! text PlN -/
set_option Elab.async false
set_option linter.all false
set_option maxRecDepth 100000
set_option maxHeartbeats 4000000
set_option exponentiation.threshold 5000
/-! PlN: enumerate over a tuple; loops over a list or a tuple, numbered or not. -/
namespace Pl
open PySem PySem.Spec PyProof.Rows L2
/-- a numbered walk over what `B` tells of -/
theorem meets_enum1 {v : Value} {ob : Obj} {Hd : Heap → Prop} (B : Begins v ob Hd) :
    Meets (Builtin.«enumerate.__new__» ⟨[.type "enumerate", v], []⟩) (fun _ R st => Hd st.heap ∧
      R (.ok (.ret (.ref (st.heap.push ob).objs.size))) { st with heap := (st.heap.push ob).push ⟨.type "enumerate", none, .fields #[.none, .bool false, .ref st.heap.objs.size, rawInt 0, .none, .none], #[]⟩ }) :=
  .of_wp fun prog w Ar R st hyp => by
    obtain ⟨hp, gl, di, tk, os⟩ := st
    obtain ⟨g1, g2⟩ := hyp
    have subE := sub_enumerate
    have begin1 : ∀ {Ar' : Around} {Ex : Value → Shared → Prop} {Qv : Value → Shared → Prop}, Qv (.ref hp.objs.size) ⟨hp.push ob, gl, di, tk, os⟩ → wpAny (model prog w) Ar' (pyIter v) Qv Ex ⟨hp, gl, di, tk, os⟩ := fun q => B.iter prog w _ _ ⟨hp, gl, di, tk, os⟩ _ g1 q
    wp_walk using begin1
    refine wpAny_stack_any fun _ => wpAny_pure ?_
    split
    · rename_i cl _ _ _ _ _
      cases (cl == Value.type "enumerate") with
      | false =>
        wp_walk using begin1
        exact ⟨_, rfl, g2⟩
      | true =>
        wp_walk using begin1
        exact ⟨_, rfl, g2⟩
    · wp_walk using begin1
      exact ⟨_, rfl, g2⟩
section
variable {prog : Program} {w : World} {Ar : Around} {Ex : Value → Shared → Prop} {st : Shared}
theorem enum1_begins {v : Value} {ob : Obj} {Hd : Heap → Prop} {Qv : Value → Shared → Prop} (B : Begins v ob Hd) (g1 : Hd st.heap)
    (fin : ∀ h1, IsEnum h1 (st.heap.objs.size + 1) st.heap.objs.size 0 .none → h1.get? st.heap.objs.size = some ob → h1.objs.size = st.heap.objs.size + 2 →
      (∀ b o, st.heap.get? b = some o → h1.get? b = some o) → Qv (.ref (st.heap.objs.size + 1)) { st with heap := h1 }) :
    wpAny (model prog w) Ar (call (.type "enumerate") [v]) Qv Ex st := by
  refine callType_new F.called_enumerate (by decide) (F.typeCall_enumerate_1 _) (F.newCall_enumerate_1 _) (fun x => F.args_object_init_2 x _) F.entry_enumerate_new (meets_enum1 B) ⟨g1, ?_⟩
  have sz : (st.heap.push ob).objs.size = st.heap.objs.size + 1 := Heap.size_push ..
  show _ ∧ _
  rw [sz]
  have ie : IsEnum ((st.heap.push ob).push ⟨.type "enumerate", none, .fields #[.none, .bool false, .ref st.heap.objs.size, rawInt 0, .none, .none], #[]⟩) (st.heap.objs.size + 1) st.heap.objs.size 0 .none := by
    have z := Heap.get?_push_size (st.heap.push ob) (o := ⟨.type "enumerate", none, .fields #[.none, .bool false, .ref st.heap.objs.size, rawInt 0, .none, .none], #[]⟩) rfl
    rw [sz] at z
    exact z
  exact ⟨⟨_, ie, rfl⟩, fin _ ie (Heap.get?_push_of_some _ (Heap.get?_push_size _ B.free)) (by rw [Heap.size_push, sz]) fun b o z => Heap.get?_push_of_some _ (Heap.get?_push_of_some _ z)⟩
end
/-- the tuple at a, each item in a new pair -/
def IteT (K : PySem.W.Frag) (a : Addr) : It :=
  ⟨fun i H => ∃ (xs : List V) (x : V), SqT K H a xs ∧ xs[i]? = some x, fun i H v H' => ∃ T x, v = .ref T ∧ H T = none ∧ H' = upd H T (.tup [.int (i : Nat), x]) ∧ ∀ xs, SqT K H a xs → xs[i]? = some x, fun i H => ∃ xs : List V, SqT K H a xs ∧ xs.length = i⟩
theorem turn_enumT {P : Program} {w : World} {K : PySem.W.Frag} {elts : List Expr} {kk : Nat} {tpos : Pos} (a e it : Addr) (n1 : a ≠ it) (n2 : e ≠ a) (n3 : e ≠ it) :
    Turn P w K (.Tuple elts kk tpos) (IteT K a) [e, it] e (fun i h => (∃ old, IsEnum h e it ((i : Nat) : Int) old) ∧ h.IsTupleIter it a i) where
  mem := List.mem_cons_self
  obj := fun i h st b hb => by
    obtain ⟨⟨old, g⟩, o, ho, hc, hd⟩ := st
    rcases List.mem_cons.mp hb with rfl | hb
    · exact ⟨_, g, fun v q => nomatch q⟩
    · rw [List.mem_singleton.mp hb]
      exact ⟨o, ho, fun v q => by rw [hd] at q; cases q⟩
  keep := fun i h h' st k => by
    obtain ⟨⟨old, g⟩, hi⟩ := st
    exact ⟨⟨old, k e List.mem_cons_self _ g⟩, hi.at fun o q => k it (List.mem_cons_of_mem _ List.mem_cons_self) o q⟩
  item := by
    intro X hP hw hK hc i pins s σ H E I hf st hg
    subst hP hw hK
    obtain ⟨⟨old, ge⟩, gi⟩ := st
    obtain ⟨xs, x, hq, hx⟩ := hg
    obtain ⟨its, rv, p, _⟩ := I.tuple hq
    have p : s.heap.IsTuple a its.toArray := p
    obtain ⟨u, hu, ru⟩ := rv.get hx
    have il : i < its.toArray.size := by
      rw [List.size_toArray]
      exact (List.getElem?_eq_some_iff.mp hu).1
    have szE : e < s.heap.objs.size := Heap.lt_size ge
    have szI : it < s.heap.objs.size := by obtain ⟨_, q, _⟩ := gi; exact Heap.lt_size q
    have hh : X.A.in1.handled = none := I.ok.hd hc
    have ne : e ∉ [it, a] := fun z => by
      rcases List.mem_cons.mp z with z | z
      · exact n3 z
      · exact n2 (List.mem_singleton.mp z)
    refine wpAny_pyNext_enum_itemD (Draws.tuple hh it a n1 its.toArray) ge ⟨gi, p⟩ il n3 ne fun y h1 tk py ho st1 hT sz hk => ?_
    have py : its.toArray[i]? = some y := py
    have ey : y = u := by
      rw [List.getElem?_toArray, hu] at py
      cases py
      rfl
    subst ey
    refine ⟨_, rfl, wpAny_letOwnedTupleGo_enum (s := { s with heap := h1, toks := tk + 1 }) ho fun h2 ge2 sb => ?_⟩
    have hT2 : h2.get? s.heap.objs.size = some { cls := .type "tuple", data := .seq #[.int i tk, y] } := (sb.2 _ (Nat.ne_of_gt szE)).trans hT
    have fresh : ObjOk X.prog X.w (upd H s.heap.objs.size (.tup [.int (i : Nat), x])) h2 s.heap.objs.size (.tup [.int (i : Nat), x]) :=
      ⟨by show 2 ≤ sizeLine; decide, [.int i tk, y], .cons ⟨_, rfl⟩ (.cons ru .nil), _, hT2, rfl, _, rfl⟩
    have J : Inv X pins σ (upd H s.heap.objs.size (.tup [.int (i : Nat), x])) { s with heap := h2, toks := tk + 1 } :=
      I.turnedNew (ch := [e, it]) (fun b ob hb q => (sb.2 b (fun z => hb (by rw [z]; exact List.mem_cons_self))).trans (hk b ob (fun z => hb (by rw [z]; exact List.mem_cons_self)) (fun z => hb (by rw [z]; exact List.mem_cons_of_mem _ List.mem_cons_self)) q)) hf (Nat.le_refl _) fresh
    refine ⟨.ref s.heap.objs.size, _, J, rfl, ⟨_, x, rfl, I.hok.fresh (Nat.le_refl _), rfl, fun ys hy => by rw [I.tuple_inj hy hq]; exact hx⟩, ⟨⟨y, ?_⟩, st1.1.at fun o q => (sb.2 it (Ne.symm n3)).trans q⟩, fun b hb => ?_⟩
    · rw [show ((i + 1 : Nat) : Int) = (i : Int) + 1 from by omega]
      exact ge2
    · have bl : b < s.heap.objs.size := by
        rcases List.mem_cons.mp hb with z | z
        · rw [z]; exact szE
        · rw [List.mem_singleton.mp z]; exact szI
      rw [upd_ne (Nat.ne_of_lt bl)]
      exact (hf b hb).1
  done := by
    intro X hP hw hK hc i pins s σ H E I hf st hg
    subst hP hw hK
    obtain ⟨⟨old, ge⟩, gi⟩ := st
    obtain ⟨xs, hq, hx⟩ := hg
    obtain ⟨its, rv, p, _⟩ := I.tuple hq
    have p : s.heap.IsTuple a its.toArray := p
    obtain ⟨f0, f1, f2, f3, f4, f5⟩ := hf it (List.mem_cons_of_mem _ List.mem_cons_self)
    have hh : X.A.in1.handled = none := I.ok.hd hc
    have sz : its.toArray.size = i := by rw [List.size_toArray, ← rv.length, hx]
    obtain rfl := sz
    exact wpAny_pyNext_enum_endD (Draws.tuple hh it a n1 its.toArray) ge ⟨gi, p⟩ fun h1 eb => ⟨rfl, I.turned (t' := s.toks) (fun b o hb q => eb b o hb q) f0 f1 f3 f4 f5⟩
  self := fun A i s Q E st h => wpAny_pyIter_enum st.1.choose_spec h
def iEnumT (K : PySem.W.Frag) (ta : TA) : TI := fun σ H R => ta σ H fun vs H1 => ∃ a xs, vs = [.ref a] ∧ SqT K H1 a xs ∧ R (IteT K a) H1
section
variable {X : Cx}
theorem pi_enumT {e : Expr} {ta : TA} {p pos tpos : Pos} {elts : List Expr} {kk : Nat} (hg : Gl X "enumerate") (hm : X.mg "enumerate" = none) (ha : PA X [e] ta) (hs : starEach [e] X.env = [(false, eval e X.env)] := by rfl) :
    PI X (.Tuple elts kk tpos) (.Call (.Name "enumerate" p) [e] [] pos) (iEnumT X.K ta) := by
  refine ⟨fun pins s σ H R I h => Call_ (ld_blt I hg hm boot_enumerate (PyProof.Rows.callWith_type1 (thn (ha.run pos pins s σ H _ I h) fun us s1 z => ?_) hs rfl))⟩
  obtain ⟨vs, H1, I1, r1, a, xs, rfl, hq, q⟩ := z
  obtain ⟨u, rfl, ru⟩ := vals1 r1
  cases ru
  obtain ⟨its, rv, p', _⟩ := I1.tuple hq
  have p' : s1.heap.IsTuple a its.toArray := p'
  have al : a < s1.heap.objs.size := by obtain ⟨o, z, _⟩ := p'; exact Heap.lt_size z
  refine enum1_begins (begins_tuple a its.toArray) p' fun h1 ie io hz hk => wpAny_pyIter_enum ie ?_
  have I2 : Inv X pins σ H1 { s1 with heap := h1 } := I1.kept (t' := s1.toks) hk
  refine ⟨s1.heap.objs.size + 1, [s1.heap.objs.size + 1, s1.heap.objs.size], _, _, H1, rfl, I2, turn_enumT a (s1.heap.objs.size + 1) s1.heap.objs.size (Nat.ne_of_lt al) (Nat.ne_of_gt (Nat.lt_succ_of_lt al)) (Nat.succ_ne_self _), ⟨⟨.none, ie⟩, ⟨_, io, rfl, rfl⟩⟩, fun b hb => ?_, q⟩
  have bl : s1.heap.objs.size ≤ b := by
    rcases List.mem_cons.mp hb with z | z
    · rw [z]; exact Nat.le_succ _
    · rw [List.mem_singleton.mp z]; exact Nat.le_refl _
  exact I1.fpOk bl (I1.hok.fresh bl)
/-- either of two walks -/
def iOr (a b : TI) : TI := fun σ H R => a σ H R ∨ b σ H R
theorem pi_or {tg l : Expr} {a b : TI} (ha : PI X tg l a) (hb : PI X tg l b) : PI X tg l (iOr a b) := ⟨fun pins s σ H R I h => h.elim (ha.run pins s σ H R I) (hb.run pins s σ H R I)⟩
end
section
variable {X : Cx} {K : PySem.W.Frag}
theorem k_piseq {tg l : Expr} {tl : TE} (hl : PE X l tl) (h : X.K = K := by rfl) : PI X tg l (iOr (iList K tl) (iTup K tl)) := by subst h; exact pi_or (pi_list hl) (pi_tup hl)
theorem k_pienum {e : Expr} {ta : TA} {p pos tpos : Pos} {elts : List Expr} {kk : Nat} (hg : Gl X "enumerate") (hm : X.mg "enumerate" = none) (ha : PA X [e] ta) (hs : starEach [e] X.env = [(false, eval e X.env)] := by rfl) (h : X.K = K := by rfl) :
    PI X (.Tuple elts kk tpos) (.Call (.Name "enumerate" p) [e] [] pos) (iOr (iEnum K ta) (iEnumT K ta)) := by subst h; exact pi_or (pi_enum hg hm ha hs) (pi_enumT hg hm ha hs)
end
/-! ### on pure data -/
section
variable {K : PySem.W.Frag} {s c : Addr} {ρ : List Sl} {n n1 : Nat} {tl : TE} {P : D → Prop}
theorem ei_or1 {a b : TI} {PL : List D → Prop} (h : EvI K s c a ρ n n1 PL) : EvI K s c (iOr a b) ρ n n1 PL := fun M0 H0 O σ H R I k => .inl (h M0 H0 O σ H R I k)
theorem ei_or2 {a b : TI} {PL : List D → Prop} (h : EvI K s c b ρ n n1 PL) : EvI K s c (iOr a b) ρ n n1 PL := fun M0 H0 O σ H R I k => .inr (h M0 H0 O σ H R I k)
def dEn : Nat → List D → List D
  | _, [] => []
  | k, d :: l => .tup [.int (k : Nat), d] :: dEn (k + 1) l
theorem en_len : ∀ (k : Nat) (l : List D), (dEn k l).length = l.length
  | _, [] => rfl
  | k, _ :: l => by show (dEn (k + 1) l).length + 1 = l.length + 1; rw [en_len]
theorem en_at : ∀ (k : Nat) (l : List D) (i : Nat), (dEn k l)[i]? = (l[i]?).map fun d => .tup [.int ((k + i : Nat) : Int), d]
  | _, [], _ => rfl
  | k, d :: l, 0 => rfl
  | k, d :: l, i + 1 => by
    show (dEn (k + 1) l)[i]? = (l[i]?).map _
    rw [en_at (k + 1) l i, show k + 1 + i = k + (i + 1) from by omega]
theorem en_at' {l : List D} {i : Nat} {e : D} (h : (dEn 0 l)[i]? = some e) : ∃ d, l[i]? = some d ∧ e = .tup [.int (i : Nat), d] := by
  rw [en_at] at h
  cases q : l[i]? with
  | none => rw [q] at h; cases h
  | some d =>
    rw [q] at h
    cases h
    exact ⟨d, rfl, by rw [Nat.zero_add]⟩
theorem ei_enumL {t : TA} {PL : List D → Prop} {PA : List D → Prop} (h : EvA K s c t ρ n n1 PA) (hp : ∀ l, PA l → ∃ ds, l = [.lst ds] ∧ PL (dEn 0 ds)) : EvI K s c (iEnum K t) ρ n n1 PL := fun M0 H0 O σ H R I k =>
  h M0 H0 O σ H _ I fun vs H1 l g hs r p => by
    obtain ⟨ds, rfl, q⟩ := hp l p
    obtain ⟨v, rfl, a, xs, rfl, m, rd, rl⟩ := r.inv1
    have J := I.next g hs
    refine ⟨a, xs, rfl, SqL.of rd, k _ H1 (dEn 0 ds) g hs (fun A H2 g2 hA => ?_) q⟩
    have rd2 : H2 a = some (.lst xs) := g2 a _ (by rw [minus_out fun z => m (List.mem_append_left _ z)]; exact rd) (.inl fun z => m (List.mem_append_right _ z))
    have rl2 : RepL K (A ++ M0) H2 ds xs := ((rl.minus J.lst).parts hA).gr (g2.mono fun b hb => List.mem_append_right _ hb)
    refine ⟨⟨xs, SqL.of rd2, by rw [en_len]; exact Nat.le_of_eq rl.length.symm⟩, fun i e hi => ?_⟩
    obtain ⟨d, hd, rfl⟩ := en_at' hi
    obtain ⟨x, hx, rx⟩ := rl2.at hd
    refine ⟨⟨xs, x, SqL.of rd2, hx⟩, fun y H3 hy => ?_⟩
    obtain ⟨T, x', rfl, hT, rfl, hy⟩ := hy
    have := hy xs (SqL.of rd2)
    rw [hx] at this; cases this
    exact ⟨Gr.new hT, fun _ z => z.new hT, T, _, rfl, .inl (.inl upd_same), rfl, rx.gr (Gr.new hT), trivial⟩
theorem ei_enumT {t : TA} {PL : List D → Prop} {PA : List D → Prop} (h : EvA K s c t ρ n n1 PA) (hp : ∀ l, PA l → ∃ ds, l = [.tup ds] ∧ PL (dEn 0 ds)) : EvI K s c (iEnumT K t) ρ n n1 PL := fun M0 H0 O σ H R I k =>
  h M0 H0 O σ H _ I fun vs H1 l g hs r p => by
    obtain ⟨ds, rfl, q⟩ := hp l p
    obtain ⟨v, rfl, a, xs, rfl, st, rl⟩ := r.inv1
    have J := I.next g hs
    refine ⟨a, xs, rfl, st, k _ H1 (dEn 0 ds) g hs (fun A H2 g2 hA => ?_) q⟩
    have rd2 : SqT K H2 a xs := gr_t g2 (t_minus J.lst st)
    have rl2 : RepL K (A ++ M0) H2 ds xs := ((rl.minus J.lst).parts hA).gr (g2.mono fun b hb => List.mem_append_right _ hb)
    refine ⟨⟨xs, rd2, by rw [en_len]; exact rl.length.symm⟩, fun i e hi => ?_⟩
    obtain ⟨d, hd, rfl⟩ := en_at' hi
    obtain ⟨x, hx, rx⟩ := rl2.at hd
    refine ⟨⟨xs, x, rd2, hx⟩, fun y H3 hy => ?_⟩
    obtain ⟨T, x', rfl, hT, rfl, hy⟩ := hy
    have := hy xs rd2
    rw [hx] at this; cases this
    exact ⟨Gr.new hT, fun _ z => z.new hT, T, _, rfl, .inl (.inl upd_same), rfl, rx.gr (Gr.new hT), trivial⟩
/-- over a list or a tuple -/
theorem ei_seq {l : List D} {d : D} (h : EvE K s c tl ρ n n1 (fun x => x = d)) (e : seqD d = some l) : EvI K s c (iOr (iList K tl) (iTup K tl)) ρ n n1 (fun ds => ds = l) := by
  cases d with
  | lst l' => cases e; exact ei_or1 (ei_list h fun d e => ⟨_, e, rfl⟩)
  | tup l' => cases e; exact ei_or2 (ei_tup h fun d e => ⟨_, e, rfl⟩)
  | _ => cases e
theorem ei_enum {l : List D} {d : D} {t : TA} (h : EvA K s c t ρ n n1 (fun x => x = [d])) (e : seqD d = some l) : EvI K s c (iOr (iEnum K t) (iEnumT K t)) ρ n n1 (fun ds => ds = dEn 0 l) := by
  cases d with
  | lst l' => cases e; exact ei_or1 (ei_enumL h fun d e => ⟨_, e, rfl⟩)
  | tup l' => cases e; exact ei_or2 (ei_enumT h fun d e => ⟨_, e, rfl⟩)
  | _ => cases e
end
end Pl
/-! text PlT -/
set_option Elab.async false
set_option linter.all false
set_option maxRecDepth 100000
set_option maxHeartbeats 4000000
set_option exponentiation.threshold 5000
/-! PlT: tests on pure data: isinstance, and / or as values, chains, tests of texts. -/
namespace Pl
open PySem PySem.Spec PyProof.Rows L2
def rIsiA (K : PySem.W.Frag) : List V → Hp → VK → Prop := fun xs H Q => rIsi K xs H Q ∨ rIsiT K xs H Q
section
variable {X : Cx} {K : PySem.W.Frag}
theorem k_isi (h : X.K = K := by rfl) : CallR X (.builtin "isinstance") (rIsiA K) := by subst h; exact call_isi.or call_isiT
theorem k_bm0 {T id : String} {name : Str} {r : V → List V → Hp → VK → Prop} {o : Expr} {to : TE} {apos cpos : Pos} (pa : PlainAttrs T) (slot : Slot T name id) (hty : typeOf (.builtin id) = pure (.type "method_descriptor")) (hm : MtR X id r) (ho : PE X o to)
    (hbase : attributeBase o name X.env (eval o X.env) = eval o X.env := by rfl) (hline : (apos.endLine == cpos.line) = true := by rfl) (h : X.K = K := by rfl) : PE X (.Call (.Attribute o name apos) [] [] cpos) (tBM0 K T r to) := by
  subst h
  exact pe_bm0 pa slot hty hm ho hbase hline
end
/-- the name of a value's own type -/
def tyD : D → String
  | .non => "NoneType"
  | .bl _ => "bool"
  | .int _ => "int"
  | .str _ => "str"
  | .tup _ => "tuple"
  | .lst _ => "list"
  | .obj _ => ""
  | .ins _ _ _ => ""
  | .dct _ _ => ""
section
variable {K : PySem.W.Frag} {M : List Addr} {H : Hp}
theorem sqT_ty {a : Addr} {xs : List V} (h : SqT K H a xs) : TyX K H (.ref a) (.type "tuple") := by
  rcases h with (h | ⟨o, h⟩) | ⟨o, its, n, h, c, _⟩
  · exact .base (.tup h)
  · exact .fTuple h
  · exact .kTuple h c
/-- plain at the top -/
def topD : D → Bool
  | .obj _ => false
  | .ins _ _ _ => false
  | .dct _ _ => false
  | _ => true
theorem ty_of : ∀ {d : D} {v : V}, Rep K M H d v → topD d = true → TyX K H v (.type (tyD d))
  | .non, v, r, _ => by
    have r : v = .non := r
    subst r
    exact .base .non
  | .bl b, v, r, _ => by
    have r : v = .bl b := r
    subst r
    exact .base (.bl b)
  | .int i, v, r, _ => by
    have r : v = .int i := r
    subst r
    exact .base (.int i)
  | .str x, v, r, _ => by
    have r : v = .str x := r
    subst r
    exact .base (.str x)
  | .obj _, _, _, h => nomatch (show false = true from h)
  | .ins _ _ _, _, _, h => nomatch (show false = true from h)
  | .dct _ _, _, _, h => nomatch (show false = true from h)
  | .tup l, _, r, h => by
    obtain ⟨a, xs, rfl, e, rl⟩ := r
    exact sqT_ty e
  | .lst l, _, r, h => by
    obtain ⟨a, xs, rfl, m, e, rl⟩ := r
    exact .base (.lst e)
end
def isStr : D → Bool | .str _ => true | _ => false
def isTup : D → Bool | .tup _ => true | _ => false
def isLst : D → Bool | .lst _ => true | _ => false
section
variable {K : PySem.W.Frag}
theorem one_str (d : D) (h : topD d = true) : PySem.W.kitOne K (.type (tyD d)) (.type "str") = some (isStr d) := by
  cases d <;> first | rfl | exact nomatch (show false = true from h)
theorem one_tup (d : D) (h : topD d = true) : PySem.W.kitOne K (.type (tyD d)) (.type "tuple") = some (isTup d) := by
  cases d <;> first | rfl | exact nomatch (show false = true from h)
theorem one_lst (d : D) (h : topD d = true) : PySem.W.kitOne K (.type (tyD d)) (.type "list") = some (isLst d) := by
  cases d <;> first | rfl | exact nomatch (show false = true from h)
end
section
variable {K : PySem.W.Frag} {s c : Addr} {ρ : List Sl} {n n1 n2 n3 : Nat} {te ta tb tc to : TE} {tt tu : TT} {P : D → Prop}
theorem ev_isi {d : D} {T : String} {b : Bool} (h : EvE K s c ta ρ n n1 (fun x => x = d)) (hd : topD d = true) (e : PySem.W.kitOne K (.type (tyD d)) (.type T) = some b) :
    EvE K s c (tCB (rIsiA K) (tCons ta (tCons (tC (.ty T)) tNil))) ρ n n1 (fun x => x = .bl b) := fun M0 H0 O σ H Q I k =>
  h M0 H0 O σ H _ I fun v H1 x g s1 r p => by
    subst p
    exact .inl ⟨v, .ty T, _, _, b, rfl, .ty T, ty_of r hd, e, k _ H1 (.bl b) g s1 rfl rfl⟩
theorem ev_isiT {d : D} {T U : String} {b : Bool} (h : EvE K s c ta ρ n n1 (fun x => x = d)) (hd : topD d = true) (e : PySem.W.kitAny K (.type (tyD d)) [.type T, .type U] = some b) :
    EvE K s c (tCB (rIsiA K) (tCons ta (tCons (tTup (tCons (tC (.ty T)) (tCons (tC (.ty U)) tNil))) tNil))) ρ n n1 (fun x => x = .bl b) := fun M0 H0 O σ H Q I k =>
  h M0 H0 O σ H _ I fun v H1 x g s1 r p => by
    subst p
    refine ⟨by show 2 ≤ sizeLine; decide, fun q hq => ?_⟩
    exact .inr ⟨v, q, [.ty T, .ty U], _, _, b, rfl, upd_same, .cons (.ty T) (.cons (.ty U) .nil), ty_of (r.gr (Gr.new hq)) hd, e, k _ _ (.bl b) (g.trans (Gr.new hq)) (s1.new hq) rfl rfl⟩
theorem any_lt (d : D) (h : topD d = true) : PySem.W.kitAny K (.type (tyD d)) [.type "list", .type "tuple"] = some (isLst d || isTup d) := by
  unfold PySem.W.kitAny
  rw [one_lst d h]
  cases d <;> first | rfl | exact nomatch (show false = true from h)
/-- and, or, not of truths -/
theorem ev_andK {a b : Bool} (h : EvE K s c ta ρ n n1 (fun x => x = .bl a)) (hb : a = true → EvE K s c tb ρ n1 n1 (fun x => x = .bl b)) : EvE K s c (tAndV ta tb) ρ n n1 (fun x => x = .bl (a && b)) := fun M0 H0 O σ H Q I k =>
  h M0 H0 O σ H _ I fun v H1 x g s1 r p => by
    subst p
    have r : v = .bl a := r
    subst r
    refine ⟨a, rfl, ?_⟩
    cases a with
    | true => exact iteT (hb rfl M0 H0 O σ H1 Q (I.next g s1) fun u H2 y g2 s2 r2 p2 => k u H2 y (g.trans g2) s2 r2 p2)
    | false => exact iteF (k _ H1 (.bl false) g s1 rfl rfl)
theorem et_K {b : Bool} (h : EvE K s c te ρ n n1 (fun x => x = .bl b)) : EvT K s c (tTest te) ρ n n1 (fun x => x = b) := (et_test h fun d e => ⟨b, e⟩).imp fun x e => D.bl.inj e
theorem et_BK {b : Bool} (h : EvE K s c te ρ n n1 (fun x => x = .bl b)) : EvT K s c (tB te) ρ n n1 (fun x => x = b) := (et_B h fun d e => ⟨b, e⟩).imp fun x e => D.bl.inj e
theorem et_notK {b : Bool} (h : EvT K s c tt ρ n n1 (fun x => x = b)) : EvT K s c (tNot tt) ρ n n1 (fun x => x = !b) := (et_not h).imp fun x e => by rw [← e, Bool.not_not]
theorem et_orK {a b : Bool} (h : EvT K s c tt ρ n n1 (fun x => x = a)) (hu : a = false → EvT K s c tu ρ n1 n1 (fun x => x = b)) : EvT K s c (tOr tt tu) ρ n n1 (fun x => x = (a || b)) := (et_or h (fun e => hu e.symm) (Nat.le_refl _)).imp fun x e => by
  rcases e with ⟨e, rfl⟩ | ⟨e, rfl⟩
  · rw [← e]; rfl
  · rw [← e]; rfl
theorem et_andK {a b : Bool} (h : EvT K s c tt ρ n n1 (fun x => x = a)) (hu : a = true → EvT K s c tu ρ n1 n1 (fun x => x = b)) : EvT K s c (tAnd tt tu) ρ n n1 (fun x => x = (a && b)) := (et_and h (fun e => hu e.symm) (Nat.le_refl _)).imp fun x e => by
  rcases e with ⟨e, rfl⟩ | ⟨e, rfl⟩
  · rw [← e]; rfl
  · rw [← e]; rfl
/-- a if of a known test -/
theorem s_ifK {t u : TS} {DD : Pn} {b : Bool} (h : EvT K s c tt ρ n n1 (fun x => x = b)) (h1 : b = true → EvS K s c t ρ n1 DD) (h2 : b = false → EvS K s c u ρ n1 DD) : EvS K s c (tIfS tt t u) ρ n DD := s_if h (fun e => h1 e.symm) fun e => h2 e.symm
/-- a op b op c -/
theorem ev_chainK {r r' : R2} {x y z : D} {a b : Bool} (ha : EvE K s c ta ρ n n1 (fun d => d = x)) (hb : EvE K s c tb ρ n1 n1 (fun d => d = y)) (hc : EvE K s c tc ρ n1 n1 (fun d => d = z)) (hy : flat y = true) (h1 : RK K s c r x y (.bl a)) (h2 : RK K s c r' y z (.bl b)) :
    EvE K s c (tChain r r' ta tb tc) ρ n n1 (fun d => d = .bl (a && b)) := fun M0 H0 O σ H Q I k =>
  ha M0 H0 O σ H _ I fun v H1 d g1 s1 r1 p1 => hb M0 H0 O σ H1 _ (I.next g1 s1) fun w H2 e g2 s2 r2 p2 => by
    subst p1; subst p2
    have J := (I.next g1 s1).next g2 s2
    refine h1 (O ++ M0) n1 v w H2 _ ⟨List.mem_append_right _ I.ms.1, List.mem_append_right _ I.ms.2⟩ J.thereA s2 (r1.gr (g2.mono I.sub)) r2 fun u H3 g3 s3 r3 => ?_
    have r3 : u = .bl a := r3
    refine ⟨a, r3, ?_⟩
    have J3 := J.next g3 s3
    cases a with
    | true =>
      exact iteT (hc M0 H0 O σ H3 _ J3 fun w' H4 e4 g4 s4 r4 p4 => by
        subst p4
        exact h2 (O ++ M0) n1 w w' H4 _ ⟨List.mem_append_right _ I.ms.1, List.mem_append_right _ I.ms.2⟩ (J3.next g4 s4).thereA s4 (r2.gr ((g3.trans g4).mono I.sub)) r4 fun u' H5 g5 s5 r5 => k u' H5 (.bl b) ((((g1.trans g2).trans g3).trans g4).trans g5) s5 r5 rfl)
    | false => exact iteF (k _ H3 (.bl false) ((g1.trans g2).trans g3) s3 rfl rfl)
/-- a text's own tests -/
def rTxt (f : Str → Bool) : V → List V → Hp → VK → Prop := fun x xs H Q => ∃ a, x = .str a ∧ xs = [] ∧ True ∧ Q (.bl (f a)) H
theorem ev_txt {z : Str} {f : Str → Bool} (h : EvE K s c to ρ n n1 (fun d => d = .str z)) : EvE K s c (tBM0 K "str" (rTxt f) to) ρ n n1 (fun d => d = .bl (f z)) := fun M0 H0 O σ H Q I k =>
  h M0 H0 O σ H _ I fun v H1 d g s1 r p => by
    subst p
    exact ⟨ty_str _ H1 v r, z, r, rfl, trivial, k _ H1 (.bl (f z)) g s1 rfl rfl⟩
end
/-- a to z, by the tests of a text -/
def lowB (q : Nat) : Bool := decide (97 ≤ q) && decide (q ≤ 122)
theorem lows : ∀ q, q < 128 → (Unicode.isAlpha q && (Unicode.isLower q || !(Unicode.isUpper q || Unicode.isTitle q)) && !(Unicode.isUpper q || Unicode.isTitle q)) = lowB q ∧ (lowB q = true → Unicode.isLower q = true) := by decide +kernel
theorem txt_low {z : Str} (h : z.length ≠ 0) : (Txt.isascii z && (Txt.isalpha z && Txt.islower z)) = z.cps.toList.all lowB := by
  rw [Bool.eq_iff_iff]
  unfold Txt.isascii Txt.isalpha Txt.islower
  simp only [Bool.and_eq_true, ← Array.all_toList, ← Array.any_toList, List.all_eq_true, List.any_eq_true, decide_eq_true_eq, Bool.not_eq_true', List.any_eq_false]
  constructor
  · rintro ⟨h1, ⟨_, h2⟩, _, h4⟩ q hq
    have := (lows q (h1 q hq)).1
    rw [← this, h2 q hq]
    have h5 := h4 q hq
    have h6 : (Unicode.isUpper q || Unicode.isTitle q) = false := by simpa using h5
    rw [h6]
    simp
  · intro hl
    have f : ∀ q ∈ z.cps.toList, q < 128 := fun q hq => by
      have := hl q hq
      unfold lowB at this
      simp only [Bool.and_eq_true, decide_eq_true_eq] at this
      omega
    have g : ∀ q ∈ z.cps.toList, Unicode.isAlpha q = true ∧ (Unicode.isUpper q || Unicode.isTitle q) = false := fun q hq => by
      have := (lows q (f q hq)).1
      rw [hl q hq] at this
      simp only [Bool.and_eq_true, Bool.not_eq_true'] at this
      exact ⟨this.1.1, this.2⟩
    refine ⟨f, ⟨Nat.pos_of_ne_zero h, fun q hq => (g q hq).1⟩, ?_, fun q hq => by rw [(g q hq).2]; simp⟩
    obtain ⟨q, hq⟩ : ∃ q, q ∈ z.cps.toList := List.exists_mem_of_length_pos (by rw [Array.length_toList]; exact Nat.pos_of_ne_zero h)
    exact ⟨q, hq, (lows q (f q hq)).2 (hl q hq)⟩
end Pl
/-! text PlW -/
set_option Elab.async false
set_option linter.all false
set_option maxRecDepth 100000
set_option maxHeartbeats 4000000
set_option exponentiation.threshold 5000
/-! PlW: comprehensions and loops whose every turn is known. -/
namespace Pl
open PySem PySem.Spec PyProof.Rows L2
section
variable {X : Cx}
theorem mt_ascii : MtR X "str.isascii" (rTxt Txt.isascii) := mt_isascii
theorem mt_alpha : MtR X "str.isalpha" (rTxt Txt.isalpha) := mt_isalpha
theorem mt_lower : MtR X "str.islower" (rTxt Txt.islower) := mt_islower
end
section
variable {K : PySem.W.Frag} {s c : Addr} {ρ : List Sl} {n n1 n2 n3 : Nat} {te ta tb tc to : TE} {tt tu : TT} {P : D → Prop}
theorem ck_all {bs : List Bool} : CK K s c (rAll K) [.lst (bs.map .bl)] (.bl (bs.all id)) := fun M n vs H Q hm ht hs r k => by
  obtain ⟨v, rfl, a, xs, rfl, m, e, rl⟩ := r.inv1
  have bls : ∀ (bs : List Bool) (xs : List V), RepL K M H (bs.map .bl) xs → xs = bs.map V.bl := fun bs => by
    induction bs with
    | nil => intro xs h; cases xs with | nil => rfl | cons _ _ => exact h.elim
    | cons b bs ih =>
      intro xs h
      cases xs with
      | nil => exact h.elim
      | cons x xs =>
        have h1 : x = .bl b := h.1
        rw [h1, ih xs h.2]
        rfl
  rw [bls bs xs rl] at e
  exact ⟨a, bs, rfl, SqL.of e, k _ H (Gr.refl _ _) hs rfl⟩
/-- a comprehension whose items, test and element are known -/
theorem en_lcK {wi : TI} {g : TG} {vs : List Nat} {L : List D} (f : D → D) (p : D → Bool) (h : EvI K s c wi ρ n n1 (fun l => l = L)) (hv : noOws ρ vs = true) (hl : L.length ≤ 1000)
    (hs : ∀ (i : Nat) d, L[i]? = some d → ∃ ρ2 js, EvG K s c g d (wipeS ρ vs) ρ2 js ∧ (∀ j ∈ js, j ∈ vs) ∧ EvT K s c tt ρ2 n1 n1 (fun b => b = p d) ∧ (p d = true → EvE K s c te ρ2 n1 n1 (fun x => x = f d))) :
    EvN K s c (tLc wi g tt te vs) ρ n n1 (fun l => l = (L.filter p).map f) := fun M0 H0 O σ H Q I k =>
  en_lc (n2 := n1) h hv (fun ds i acc m => m = n1 ∧ acc = ((L.take i).filter p).map f) (fun ds e => ⟨by rw [e]; exact hl, rfl, by rw [List.take_zero]; rfl⟩) (fun ds e i d acc m hi ha inv => by
      obtain ⟨rfl, rfl⟩ := inv
      rw [e] at hi
      obtain ⟨ρ2, js, h1, h2, h3, h4⟩ := hs i d hi
      refine ⟨ρ2, js, m, _, h1, h2, h3, fun hp => ⟨m, _, h4 hp.symm, fun y hy => ⟨rfl, ?_⟩⟩, fun hp => ⟨rfl, ?_⟩⟩
      · rw [List.take_add_one, hi, List.filter_append, List.map_append, hy]
        show _ = _ ++ (List.filter p [d]).map f
        rw [List.filter_cons_of_pos hp.symm]
        rfl
      · rw [List.take_add_one, hi, List.filter_append, List.map_append]
        show _ = _ ++ (List.filter p [d]).map f
        rw [List.filter_cons_of_neg (by rw [← hp]; exact Bool.false_ne_true)]
        simp) (fun ds e acc m inv => Nat.le_of_eq inv.1) M0 H0 O σ H Q I fun p' H' ds xs g1 s1 h0 h1 r z => k p' H' ds xs g1 s1 h0 h1 r (by
      obtain ⟨l, rfl, m, rfl, e⟩ := z
      rw [e, List.take_length])
theorem en_mapK {wi : TI} {g : TG} {vs : List Nat} {L : List D} (f : D → D) (h : EvI K s c wi ρ n n1 (fun l => l = L)) (hv : noOws ρ vs = true) (hl : L.length ≤ 1000)
    (hs : ∀ (i : Nat) d, L[i]? = some d → ∃ ρ2 js, EvG K s c g d (wipeS ρ vs) ρ2 js ∧ (∀ j ∈ js, j ∈ vs) ∧ EvE K s c te ρ2 n1 n1 (fun x => x = f d)) :
    EvN K s c (tLc wi g tYes te vs) ρ n n1 (fun l => l = L.map f) := fun M0 H0 O σ H Q I k =>
  en_lcK f (fun _ => true) h hv hl (fun i d hi => by
    obtain ⟨ρ2, js, h1, h2, h3⟩ := hs i d hi
    exact ⟨ρ2, js, h1, h2, et_yes, fun _ => h3⟩) M0 H0 O σ H Q I fun p' H' ds xs g1 s1 h0 h1 r z => k p' H' ds xs g1 s1 h0 h1 r (by rw [z, List.filter_eq_self.mpr fun _ _ => rfl])
/-- a new list, known, as data -/
theorem EvN.evK {L : List D} (h : EvN K s c te ρ n n1 (fun l => l = L)) : EvE K s c te ρ n n1 (fun d => d = .lst L) := h.ev.imp fun d e => by
  obtain ⟨l, rfl, rfl⟩ := e
  rfl
/-- a call of a def that draws nothing and answers known data -/
theorem ev_defK {pre : Addr → Addr → List D → Prop} {post : Addr → Addr → List D → D → Prop} {t : TA} {L : List D} {z : D} (ha : EvA K s c t ρ n n1 (fun l => l = L)) (hn : n1 ≤ 2 ^ 40) (hp : pre s c L) (hz : ∀ d, post s c L d → d = z) :
    EvE K s c (tCall (Pr K pre 0 post) [] E0 t) ρ n n1 (fun d => d = z) := (ev_def (k := 0) ha hn fun l e => by rw [e]; exact hp).imp fun d h => by
  obtain ⟨l, rfl, h⟩ := h
  exact hz d h
end
end Pl
/-! text K14h -/
set_option Elab.async false
set_option linter.all false
set_option maxRecDepth 100000
set_option maxHeartbeats 4000000
set_option exponentiation.threshold 5000
namespace K14
open PySem PySem.Spec PyProof.Rows L2 Pl PlS

/-- data of moderate size -/
def len1000 (l : List D) : Bool := decide (l.length ≤ 1000)
mutual
def tame : D → Bool
  | .obj _ => false
  | .ins _ _ _ => false
  | .dct _ _ => false
  | .str z => decide (z.length ≤ 1000) && PyData.strOk z
  | .tup l => len1000 l && tameL l
  | .lst l => len1000 l && tameL l
  | .non => true | .bl _ => true | .int _ => true
def tameL : List D → Bool
  | [] => true
  | d :: l => tame d && tameL l
end
theorem tame_mem : ∀ {l : List D}, tameL l = true → ∀ d ∈ l, tame d = true
  | [], _, _, hd => by simp at hd
  | x :: l, h, d, hd => by
    have h' : (tame x && tameL l) = true := h
    rw [Bool.and_eq_true] at h'
    rcases List.mem_cons.mp hd with rfl | hd
    · exact h'.1
    · exact tame_mem h'.2 d hd
theorem tame_top {d : D} (h : tame d = true) : topD d = true := by
  cases d <;> first | rfl | exact nomatch (show false = true from h)
theorem tame_tup {l : List D} (h : tame (.tup l) = true) : l.length ≤ 1000 ∧ tameL l = true := by
  have h' : (len1000 l && tameL l) = true := h
  rw [Bool.and_eq_true] at h'
  exact ⟨of_decide_eq_true h'.1, h'.2⟩
theorem tame_str {z : Str} (h : tame (.str z) = true) : z.length ≤ 1000 ∧ PyData.strOk z = true := by
  have h' : (decide (z.length ≤ 1000) && PyData.strOk z) = true := h
  rw [Bool.and_eq_true] at h'
  exact ⟨of_decide_eq_true h'.1, h'.2⟩
theorem tame_lst {l : List D} (h : tame (.lst l) = true) : l.length ≤ 1000 ∧ tameL l = true := tame_tup h
theorem small_str {z : Str} (h : z.length ≤ 1000) : z.length ≤ sizeLine := Nat.le_trans h (by decide)
def nameB (d : D) : Bool := match d with
  | .str z => decide ((1 : Int) ≤ (z.length : Int)) && decide ((z.length : Int) ≤ 8) && z.cps.toList.all lowB
  | _ => false
def namesB (lo hi : Int) (d : D) : Bool := match d with
  | .tup l => decide (lo ≤ (l.length : Int)) && decide ((l.length : Int) ≤ hi) && l.all nameB
  | _ => false
def atomB (d : D) : Bool := match d with
  | .tup [t, v] => nameB t && namesB 1 3 v
  | _ => false
def preName (s c : Addr) (ds : List D) : Prop := ∃ x, ds = [x] ∧ tame x = true
def postName (s c : Addr) (ds : List D) (z : D) : Prop := ∃ x, ds = [x] ∧ z = .bl (nameB x)
def preNames (s c : Addr) (ds : List D) : Prop := ∃ x, ∃ lo hi : Int, ds = [x, .int lo, .int hi] ∧ tame x = true
def postNames (s c : Addr) (ds : List D) (z : D) : Prop := ∃ x, ∃ lo hi : Int, ds = [x, .int lo, .int hi] ∧ z = .bl (namesB lo hi x)
def preIsAtom (s c : Addr) (ds : List D) : Prop := ∃ x, ds = [x] ∧ tame x = true
def postIsAtom (s c : Addr) (ds : List D) (z : D) : Prop := ∃ x, ds = [x] ∧ z = .bl (atomB x)
section
variable {P : Program} {w : World} {K : PySem.W.Frag} {mg : Str → Option Value} {base : Heap} {A : Adr}
theorem ok_is_name (T : Txt A K mg) : FnOk P w K mg base CX0 1 A.f_is_name A.fd_is_name ["value"] (Pr K preName 0 postName) := by
  refine T.F_is_name.ok sc_is_name (fun vs H Q E h => pr_len h fun s c ds hp => ?_) (fun cdv A' outer st H vs Q E hr h => have hw : _ := hr.units; ⟨_, (pss_cons (ps_if (PW.pt (pw_or (pt_not (pt_val (pe_callB (k_isi (K := K)) (by rfl) T.m_isinstance (by decide +kernel) (pa_cons (pv 0) (pa_cons (pe_bltn (v := .ty "str") (u := .type "str") (by rfl) T.m_str (by decide +kernel) rfl) pa_nil))))) (pw_or1 (pt_not (pt_chain op_le op_le pe_int (pe_callB (k_len K) (by rfl) T.m_len (by decide +kernel) (pa_cons (pv 0) pa_nil)) (pe_glob (v := .int 8) rfl T.m_LONGEST_NAME.choose_spec ⟨_, rfl⟩)))))) (pss_one (ps_ret pe_bl)) pss_nil)
      (pss_one (ps_ret (pe_and (k_bm0 (K := K) PySem.F.plainAttrs_str PySem.F.slot_str_isascii PySem.F.type_str_isascii mt_ascii (pv 0)) (pe_and (k_bm0 (K := K) PySem.F.plainAttrs_str PySem.F.slot_str_isalpha PySem.F.type_str_isalpha mt_alpha (pv 0)) (pe_one (k_bm0 (K := K) PySem.F.plainAttrs_str PySem.F.slot_str_islower PySem.F.type_str_islower mt_lower (pv 0)))))))), body_ok h fun s c n ds hn hp => ?_⟩)
  · obtain ⟨x, rfl, _⟩ := hp
    rfl
  · obtain ⟨x, rfl, tx⟩ := hp
    have fin : ∀ b, b = nameB x → (⟨fun _ m => m ≤ n + 0 ∧ postName s c [x] .non, fun d m => m ≤ n + 0 ∧ postName s c [x] d, fun _ _ => False, fun _ _ => False⟩ : Pn).rt (.bl b) n := fun b e => ⟨Nat.le_refl _, x, rfl, by rw [e]⟩
    cases x with
    | str z =>
      have lz : z.length ≤ 1000 := (tame_str tx).1
      have nb : nameB (.str z) = (decide ((1 : Int) ≤ (z.length : Int)) && decide ((z.length : Int) ≤ 8) && z.cps.toList.all lowB) := rfl
      refine s_seq (N := fun ρ' m => n = m ∧ ρ' = [.va (.str z)] ∧ (1 : Int) ≤ z.length ∧ (z.length : Int) ≤ 8) (s_ifK (b := !true || !(decide ((1 : Int) ≤ (z.length : Int)) && decide ((z.length : Int) ≤ 8))) (et_orK (et_notK (et_BK (ev_isi (ev_var rfl) rfl (one_str _ rfl)))) fun _ => et_notK (et_K (ev_chainK ev_int (ev_callK (ea_one (ev_var rfl)) (ck_lenS (small_str lz))) ev_int rfl rk_le rk_le))) (fun e => ?_) fun e => ?_) fun ρ1 n1 h1 => ?_
      · refine s_ret ev_bl fun d hd => ?_
        rw [hd]
        refine fin _ ?_
        show false = _
        have e' : (!(decide ((1 : Int) ≤ (z.length : Int)) && decide ((z.length : Int) ≤ 8))) = true := e
        rw [Bool.not_eq_true'] at e'
        rw [nb, e']
        rfl
      · refine s_next ⟨rfl, rfl, ?_⟩
        have e' : (!(decide ((1 : Int) ≤ (z.length : Int)) && decide ((z.length : Int) ≤ 8))) = false := e
        rw [Bool.not_eq_false', Bool.and_eq_true, decide_eq_true_eq, decide_eq_true_eq] at e'
        exact e'
      · obtain ⟨rfl, rfl, h1, h2⟩ := h1
        refine s_ret (ev_andK (b := Txt.isalpha z && Txt.islower z) (ev_txt (ev_var rfl)) fun _ => ev_andK (ev_txt (ev_var rfl)) fun _ => ev_txt (ev_var rfl)) fun d hd => ?_
        rw [hd]
        refine fin _ ?_
        rw [txt_low (by omega)]
        rw [nb, decide_eq_true h1, decide_eq_true h2]
        rfl
    | _ =>
      refine s_seq (N := fun _ _ => False) (s_ifK (b := !false || false) (et_orK (et_notK (et_BK (ev_isi (ev_var rfl) (tame_top tx) (one_str _ (tame_top tx))))) fun e => by cases e) (fun e => s_ret ev_bl fun d hd => by rw [hd]; exact fin _ rfl) fun e => by cases e) fun ρ1 n1 h1 => h1.elim
end

end K14
/-! text K14i -/
set_option Elab.async false
set_option linter.all false
set_option maxRecDepth 100000
set_option maxHeartbeats 4000000
set_option exponentiation.threshold 5000
namespace K14
open PySem PySem.Spec PyProof.Rows L2 Pl PlS

theorem canLay_of : ∀ {d : D}, tame d = true → (py d).canLay0 = true := by
  intro d
  exact (D.rec (motive_1 := fun d => tame d = true → (py d).canLay0 = true) (motive_2 := fun l => tameL l = true → PyData.canLayAll0 (pyL l) = true)
    (fun _ => rfl) (fun _ _ => rfl) (fun _ _ => rfl) (fun z h => (tame_str h).2) (fun _ h => nomatch (show false = true from h)) (fun l ih h => ih (tame_tup h).2) (fun l ih h => ih (tame_lst h).2) (fun _ _ _ _ h => nomatch (show false = true from h)) (fun _ _ _ h => nomatch (show false = true from h))
    (fun _ => rfl) (fun d l h1 h2 h => by
      have h' : (tame d && tameL l) = true := h
      rw [Bool.and_eq_true] at h'
      show ((py d).canLay0 && PyData.canLayAll0 (pyL l)) = true
      rw [h1 h'.1, h2 h'.2]
      rfl) d)
theorem plain_of : ∀ {d : D}, tame d = true → plain d = true := by
  intro d
  exact (D.rec (motive_1 := fun d => tame d = true → plain d = true) (motive_2 := fun l => tameL l = true → plainL l = true)
    (fun _ => rfl) (fun _ _ => rfl) (fun _ _ => rfl) (fun z h => rfl) (fun _ h => nomatch (show false = true from h)) (fun l ih h => ih (tame_tup h).2) (fun l ih h => ih (tame_lst h).2) (fun _ _ _ _ h => nomatch (show false = true from h)) (fun _ _ _ h => nomatch (show false = true from h))
    (fun _ => rfl) (fun d l h1 h2 h => by
      have h' : (tame d && tameL l) = true := h
      rw [Bool.and_eq_true] at h'
      show (plain d && plainL l) = true
      rw [h1 h'.1, h2 h'.2]
      rfl) d)
def dp (d : D) : Nat := (py d).depth
theorem depth_mem : ∀ {l : List D}, ∀ d ∈ l, dp d ≤ PyData.depthAll (pyL l)
  | [], d, h => by simp at h
  | x :: l, d, h => by
    show _ ≤ max (dp x) (PyData.depthAll (pyL l))
    rcases List.mem_cons.mp h with rfl | h
    · exact Nat.le_max_left _ _
    · exact Nat.le_trans (depth_mem d h) (Nat.le_max_right _ _)
theorem depth_all {k : Nat} : ∀ {l : List D}, (∀ d ∈ l, dp d ≤ k) → PyData.depthAll (pyL l) ≤ k
  | [], _ => Nat.zero_le _
  | x :: l, h => Nat.max_le.mpr ⟨h x List.mem_cons_self, depth_all fun d hd => h d (List.mem_cons_of_mem _ hd)⟩
theorem shaped_of {d : D} (h : tame d = true) (k : dp d ≤ 64) : SeqAt.shaped (py d) = true := by
  unfold SeqAt.shaped
  rw [canLay_of h, decide_eq_true (show (py d).depth ≤ 64 from k)]
  rfl
theorem tameL_of : ∀ {l : List D}, (∀ d ∈ l, tame d = true) → tameL l = true
  | [], _ => rfl
  | x :: l, h => by
    show (tame x && tameL l) = true
    rw [h x List.mem_cons_self, tameL_of fun d hd => h d (List.mem_cons_of_mem _ hd)]
    rfl
theorem tame_lstOf {l : List D} (h : ∀ d ∈ l, tame d = true) (k : l.length ≤ 1000) : tame (.lst l) = true := by
  show (len1000 l && tameL l) = true
  rw [tameL_of h, Bool.and_true]
  exact decide_eq_true k
theorem tame_tupOf {l : List D} (h : ∀ d ∈ l, tame d = true) (k : l.length ≤ 1000) : tame (.tup l) = true := tame_lstOf h k
theorem dp_seq {l : List D} {k : Nat} (h : ∀ d ∈ l, dp d ≤ k) : dp (.lst l) ≤ k + 1 ∧ dp (.tup l) ≤ k + 1 := ⟨Nat.succ_le_succ (depth_all h), Nat.succ_le_succ (depth_all h)⟩
theorem dp_mem {l : List D} {d : D} (h : d ∈ l) : dp d < dp (.lst l) ∧ dp d < dp (.tup l) := ⟨Nat.lt_succ_of_le (depth_mem d h), Nat.lt_succ_of_le (depth_mem d h)⟩
theorem eqv_nil (l : List D) : PyData.eqv (py (.lst l)) (py (.lst [])) = l.isEmpty := by
  cases l <;> rfl
/-- xs == [] -/
theorem rk_eqNil {K : PySem.W.Frag} {s c : Addr} {l : List D} (h : ∀ d ∈ l, tame d = true) (k : l.length ≤ 1000) (k2 : ∀ d ∈ l, dp d ≤ 60) : RK K s c (rEqA K) (.lst l) (.lst []) (.bl l.isEmpty) := by
  have z := rk_eqD (K := K) (s := s) (c := c) (plain_of (tame_lstOf h k)) (y := .lst []) rfl (shaped_of (tame_lstOf h k) (Nat.le_trans (dp_seq k2).1 (by decide))) rfl
  rw [eqv_nil] at z
  exact z
theorem rk_neNil {K : PySem.W.Frag} {s c : Addr} {l : List D} (h : ∀ d ∈ l, tame d = true) (k : l.length ≤ 1000) (k2 : ∀ d ∈ l, dp d ≤ 60) : RK K s c (rNeA K) (.lst l) (.lst []) (.bl (!l.isEmpty)) := by
  have z := rk_neD (K := K) (s := s) (c := c) (plain_of (tame_lstOf h k)) (y := .lst []) rfl (shaped_of (tame_lstOf h k) (Nat.le_trans (dp_seq k2).1 (by decide))) rfl
  rw [eqv_nil] at z
  exact z
theorem none_left (l : List D) (p : D → Bool) : ((l.filter fun d => !p d).map fun d => d).isEmpty = l.all p := by
  induction l with
  | nil => rfl
  | cons x l ih =>
    rw [List.all_cons, ← ih]
    cases h : p x with
    | true => rw [List.filter_cons_of_neg (by rw [h]; exact Bool.false_ne_true), Bool.true_and]
    | false => rw [List.filter_cons_of_pos (by rw [h]; rfl), Bool.false_and]; rfl
/-! ### the letters of a text -/
def dSigns (z : Str) : List D := z.cps.toList.map fun q => .str ⟨#[q]⟩
theorem ei_str {K : PySem.W.Frag} {s c : Addr} {ρ : List Sl} {n n1 : Nat} {tl : TE} {z : Str} (h : EvE K s c tl ρ n n1 (fun d => d = .str z)) : EvI K s c (iStr tl) ρ n n1 (fun ds => ds = dSigns z) := fun M0 H0 O σ H R I k =>
  h M0 H0 O σ H _ I fun v H1 d g hs r p => by
    subst p
    refine ⟨z, r, k _ H1 (dSigns z) g hs (fun A H2 g2 hA => ⟨?_, fun i e hi => ?_⟩) rfl⟩
    · show z.cps.size ≤ (dSigns z).length
      unfold dSigns
      rw [List.length_map, Array.length_toList]
      exact Nat.le_refl _
    · unfold dSigns at hi
      rw [List.getElem?_map] at hi
      cases q : z.cps.toList[i]? with
      | none => rw [q] at hi; cases hi
      | some u =>
        rw [q] at hi
        cases hi
        have q' : z.cps[i]? = some u := by rw [← q, Array.getElem?_toList]
        refine ⟨(Array.getElem?_eq_some_iff.mp q').1, fun y H3 hy => ?_⟩
        obtain ⟨rfl, u', hu, rfl⟩ := hy
        rw [q'] at hu
        cases hu
        exact ⟨Gr.refl _ _, fun _ z => z, rfl⟩
def rNotSg : R2 := fun x y H Q => ∃ (c : Nat) (z : Str), x = .str ⟨#[c]⟩ ∧ y = .str z ∧ Q (.bl (!decide (c ∈ z.cps.toList))) H
theorem op_notSg {X : Cx} : OpR X (compareOp .NotIn) rNotSg := op_notIn_sign
theorem rk_notSg {K : PySem.W.Frag} {s c : Addr} {q : Nat} {z : Str} : RK K s c rNotSg (.str ⟨#[q]⟩) (.str z) (.bl (!decide (q ∈ z.cps.toList))) := fun M n v w H Q hm ht hs rx ry k => ⟨q, z, rx, ry, k _ H (Gr.refl _ _) hs rfl⟩
theorem abc : (Str.ofString "abcdefghijklmnopqrstuvwxyz").cps.toList = (List.range 26).map (97 + ·) := by decide +kernel
theorem abc_low (q : Nat) : decide (q ∈ (Str.ofString "abcdefghijklmnopqrstuvwxyz").cps.toList) = lowB q := by
  rw [abc, Bool.eq_iff_iff, decide_eq_true_eq, List.mem_map]
  unfold lowB
  rw [Bool.and_eq_true, decide_eq_true_eq, decide_eq_true_eq]
  constructor
  · rintro ⟨a, ha, rfl⟩
    have := List.mem_range.mp ha
    omega
  · intro h
    exact ⟨q - 97, List.mem_range.mpr (by omega), by omega⟩
/-- the variables of an atom -/
def varsD (d : D) : List Str := match d with
  | .tup [_, .tup l] => l.map fun x => match x with | .str z => z | _ => ⟨#[]⟩
  | _ => []
theorem varsD_of (a : Str × List Str) : varsD (dAtom a) = a.2 := by
  show (dStrs a.2).map _ = _
  unfold dStrs
  rw [List.map_map]
  exact List.map_id _
theorem vars_all (as : List (Str × List Str)) : (as.map dAtom).flatMap varsD = as.flatMap (·.2) := by
  induction as with
  | nil => rfl
  | cons a as ih => rw [List.map_cons, List.flatMap_cons, List.flatMap_cons, ih, varsD_of]
def preDiff (s c : Addr) (ds : List D) : Prop := ∃ x, ∃ as : List (Str × List Str), ds = [x] ∧ seqD x = some (as.map dAtom) ∧ (as.flatMap (·.2)).length < 64
def postDiff (s c : Addr) (ds : List D) (z : D) : Prop := ∃ x, ∃ as : List (Str × List Str), ds = [x] ∧ seqD x = some (as.map dAtom) ∧ z = .lst (dStrs (usort (as.flatMap (·.2))))
def preWords (s c : Addr) (ds : List D) : Prop := ∃ x, ∃ lo hi : Int, ds = [x, .int lo, .int hi] ∧ tame x = true ∧ dp x ≤ 60
end K14
/-! text K14j -/
set_option Elab.async false
set_option linter.all false
set_option maxRecDepth 100000
set_option maxHeartbeats 4000000
set_option exponentiation.threshold 5000
namespace K14
open PySem PySem.Spec PyProof.Rows L2 Pl PlS

def signB (d : D) : Bool := match d with | .str z => z.cps.toList.all lowB | _ => false
theorem sign_all (z : Str) : (dSigns z).all signB = z.cps.toList.all lowB := by
  unfold dSigns
  rw [List.all_map]
  congr 1
  funext q
  show (lowB q && true) = lowB q
  rw [Bool.and_true]
theorem sign_tame {z : Str} (h : PyData.strOk z = true) : ∀ d ∈ (dSigns z), tame d = true ∧ dp d ≤ 60 := fun d hd => by
  obtain ⟨q, hq, rfl⟩ := List.mem_map.mp hd
  have h1 : q < 0x110000 := by
    have := h
    unfold PyData.strOk at this
    rw [← Array.all_toList, List.all_eq_true] at this
    exact of_decide_eq_true (this q hq)
  refine ⟨?_, Nat.zero_le _⟩
  show (decide ((⟨#[q]⟩ : Str).length ≤ 1000) && PyData.strOk ⟨#[q]⟩) = true
  have e : PyData.strOk ⟨#[q]⟩ = true := by
    unfold PyData.strOk
    rw [← Array.all_toList]
    show (decide (q < 0x110000) && true) = true
    rw [decide_eq_true h1]
    rfl
  rw [e]
  rfl
theorem filt {l : List D} {p : D → Bool} {Q : D → Prop} (h : ∀ d ∈ l, Q d) : ∀ d ∈ (l.filter p).map (fun d => d), Q d := fun d hd => by
  rw [List.map_id'] at hd
  exact h d (List.mem_filter.mp hd).1
theorem filt_len {l : List D} {p : D → Bool} {k : Nat} (h : l.length ≤ k) : ((l.filter p).map (fun d => d)).length ≤ k := by
  rw [List.length_map]
  exact Nat.le_trans (List.length_filter_le _ _) h
def preIsAtomD (s c : Addr) (ds : List D) : Prop := ∃ x, ds = [x] ∧ tame x = true ∧ dp x ≤ 60
section
variable {P : Program} {w : World} {K : PySem.W.Frag} {mg : Str → Option Value} {base : Heap} {A : Adr}
theorem ok__law_is_word (T : Txt A K mg) : FnOk P w K mg base CX0 1 A.f__law_is_word A.fd__law_is_word ["value"] (Pr K preName 0 postName) := by
  refine T.F__law_is_word.ok sc__law_is_word (fun vs H Q E h => pr_len h fun s c ds hp => ?_) (fun cdv A' outer st H vs Q E hr h => have hw : _ := hr.units; ⟨_, (pss_cons (ps_if (PW.pt (pw_or (pt_not (pt_val (pe_callB (k_isi (K := K)) (by rfl) T.m_isinstance (by decide +kernel) (pa_cons (pv 0) (pa_cons (pe_bltn (v := .ty "str") (u := .type "str") (by rfl) T.m_str (by decide +kernel) rfl) pa_nil))))) (pw_or (pt_cmpR op_lt (pe_callB (k_len K) (by rfl) T.m_len (by decide +kernel) (pa_cons (pv 0) pa_nil)) pe_int (nomark _)) (pw_or1 (pt_cmpR op_gt (pe_callB (k_len K) (by rfl) T.m_len (by decide +kernel) (pa_cons (pv 0) pa_nil)) pe_int (nomark _)))))) (pss_one (ps_ret pe_bl)) pss_nil)
      (pss_one (ps_ret (pe_cmpR (k_eqA hw) (pe_lc (own := [("letter", 1)]) rfl sc__law_is_word.nd (pi_str (pv 0)) (blkOk_by (N := ["value", "letter"]) (sc := defScope s__law_is_word) (by decide +kernel)) (fun _ _ _ _ _ => (pg_name (i := 1) sc__law_is_word.nd rfl (by first | exact Or.inl rfl | exact Or.inr rfl))) (fun _ _ _ _ _ => (pts_one (pt_cmpR op_notSg (pv 1) pe_str rfl))) (fun _ _ _ _ _ => (pv 1))) (pe_lst pa_nil) (nomark _))))), body_ok h fun s c n ds hn hp => ?_⟩)
  · obtain ⟨x, rfl, _⟩ := hp
    rfl
  · obtain ⟨x, rfl, tx⟩ := hp
    have fin : ∀ b, b = nameB x → (⟨fun _ m => m ≤ n + 0 ∧ postName s c [x] .non, fun d m => m ≤ n + 0 ∧ postName s c [x] d, fun _ _ => False, fun _ _ => False⟩ : Pn).rt (.bl b) n := fun b e => ⟨Nat.le_refl _, x, rfl, by rw [e]⟩
    cases x with
    | str z =>
      obtain ⟨lz, oz⟩ := tame_str tx
      have nb : nameB (.str z) = (decide ((1 : Int) ≤ (z.length : Int)) && decide ((z.length : Int) ≤ 8) && z.cps.toList.all lowB) := rfl
      refine s_seq (N := fun ρ' m => n = m ∧ ρ' = [.va (.str z), .no] ∧ (1 : Int) ≤ z.length ∧ (z.length : Int) ≤ 8) (s_ifK (b := !true || (decide ((z.length : Int) < 1) || decide (8 < (z.length : Int)))) (et_orK (et_notK (et_BK (ev_isi (ev_var rfl) rfl (one_str _ rfl)))) fun _ => et_orK (et_K (ev_opK (ev_callK (ea_one (ev_var rfl)) (ck_lenS (small_str lz))) ev_int rk_lt)) fun _ => et_K (ev_opK (ev_callK (ea_one (ev_var rfl)) (ck_lenS (small_str lz))) ev_int rk_gt)) (fun e => ?_) fun e => ?_) fun ρ1 n1 h1 => ?_
      · refine s_ret ev_bl fun d hd => ?_
        rw [hd]
        refine fin _ ?_
        have e' : (decide ((z.length : Int) < 1) || decide (8 < (z.length : Int))) = true := e
        rw [Bool.or_eq_true, decide_eq_true_eq, decide_eq_true_eq] at e'
        rw [nb]
        rcases e' with e' | e'
        · rw [decide_eq_false (by omega : ¬ (1 : Int) ≤ (z.length : Int))]; rfl
        · rw [decide_eq_false (by omega : ¬ (z.length : Int) ≤ 8), Bool.and_false]; rfl
      · refine s_next ⟨rfl, rfl, ?_⟩
        have e' : (decide ((z.length : Int) < 1) || decide (8 < (z.length : Int))) = false := e
        rw [Bool.or_eq_false_iff, decide_eq_false_iff_not, decide_eq_false_iff_not] at e'
        omega
      · obtain ⟨rfl, rfl, h1, h2⟩ := h1
        refine s_ret (ev_opK (EvN.evK (en_lcK (fun d => d) (fun d => !signB d) (ei_str (ev_var rfl)) rfl (by unfold dSigns; rw [List.length_map, Array.length_toList]; exact lz) fun i d hi => ?_)) (ev_lstE ea_nil (Nat.zero_le _)) (rk_eqNil (filt fun d hd => (sign_tame oz d hd).1) (filt_len (by unfold dSigns; rw [List.length_map, Array.length_toList]; exact lz)) (filt fun d hd => (sign_tame oz d hd).2))) fun d hd => ?_
        · obtain ⟨q, hq, rfl⟩ := List.mem_map.mp (List.mem_of_getElem? hi)
          refine ⟨_, _, eg_name (j := 1) rfl, fun j hj => hj, (et_K (ev_opK (ev_var rfl) ev_str rk_notSg)).imp fun b e => ?_, fun _ => ev_var rfl⟩
          rw [e, abc_low]
          show _ = !(lowB q && true)
          rw [Bool.and_true]
        · rw [hd]
          refine fin _ ?_
          rw [none_left, sign_all, nb, decide_eq_true h1, decide_eq_true h2]
          rfl
    | _ =>
      refine s_seq (N := fun _ _ => False) (s_ifK (b := !false || false) (et_orK (et_notK (et_BK (ev_isi (ev_var rfl) (tame_top tx) (one_str _ (tame_top tx))))) fun e => by cases e) (fun e => s_ret ev_bl fun d hd => by rw [hd]; exact fin _ rfl) fun e => by cases e) fun ρ1 n1 h1 => h1.elim
end

end K14
/-! text PlX -/
set_option Elab.async false
set_option linter.all false
set_option maxRecDepth 100000
set_option maxHeartbeats 4000000
set_option exponentiation.threshold 5000
/-! PlX: membership of texts, slices of lists and tuples, loops that end at a first hit. -/
namespace Pl
open PySem PySem.Spec PyProof.Rows L2 PlS
section
variable {X : Cx} {K : PySem.W.Frag}
theorem k_nin (h : X.K = K := by rfl) : OpR X (compareOp .NotIn) (rIn K true) := by subst h; exact op_notIn_seq
theorem k_in (h : X.K = K := by rfl) : OpR X (compareOp .In) (rIn K false) := by subst h; exact op_in_seq
end
theorem inV_strs (z : Str) : ∀ ys : List Str, inV (.str z) (ys.map V.str) = decide (z ∈ ys)
  | [] => rfl
  | y :: ys => by
    show (eqV (.str y) (.str z) || inV (.str z) (ys.map V.str)) = _
    rw [inV_strs z ys, Bool.eq_iff_iff, Bool.or_eq_true, decide_eq_true_eq, decide_eq_true_eq, List.mem_cons]
    have e : eqV (.str y) (.str z) = true ↔ z = y := by
      show (y == z) = true ↔ _
      rw [beq_iff_eq]
      exact eq_comm
    rw [e]
theorem flat_strsV : ∀ ys : List Str, (ys.map V.str).all flatV = true
  | [] => rfl
  | y :: ys => by
    show (flatV (.str y) && (ys.map V.str).all flatV) = true
    rw [flat_strsV ys]
    rfl
section
variable {K : PySem.W.Frag} {s c : Addr} {ρ : List Sl} {n n1 n2 n3 : Nat} {te ta tb tc to : TE} {tt tu : TT} {P : D → Prop}
theorem rk_nin {z : Str} {d : D} {ys : List Str} (e : seqD d = some (dStrs ys)) : RK K s c (rIn K true) (.str z) d (.bl (!decide (z ∈ ys))) := fun M n v w H Q hm ht hs rx ry k => by
  obtain ⟨a, xs, rfl, sq, rl⟩ := rep_seq e ry
  rw [dStrs_rep rl] at sq
  have rx : v = .str z := rx
  subst rx
  refine ⟨a, _, rfl, sq, rfl, flat_strsV ys, k _ H (Gr.refl _ _) hs ?_⟩
  show V.bl _ = V.bl _
  rw [if_pos rfl, inV_strs]
theorem rk_in {z : Str} {d : D} {ys : List Str} (e : seqD d = some (dStrs ys)) : RK K s c (rIn K false) (.str z) d (.bl (decide (z ∈ ys))) := fun M n v w H Q hm ht hs rx ry k => by
  obtain ⟨a, xs, rfl, sq, rl⟩ := rep_seq e ry
  rw [dStrs_rep rl] at sq
  have rx : v = .str z := rx
  subst rx
  refine ⟨a, _, rfl, sq, rfl, flat_strsV ys, k _ H (Gr.refl _ _) hs ?_⟩
  show V.bl _ = V.bl _
  rw [if_neg Bool.false_ne_true, inV_strs]
theorem ev_slS {to tu : TO} {y : D} {l : List D} {lo hi : Option Int} (e : seqD y = some l) (h : EvE K s c te ρ n n1 (fun d => d = y)) (hl : EvO K s c to ρ n1 n2 lo) (hh : EvO K s c tu ρ n2 n3 hi) :
    ∃ y', seqD y' = some (Pl.cutD l lo hi) ∧ EvE K s c (tSl (rSlAny K) te to tu) ρ n n3 (fun d => d = y') := by
  cases y with
  | lst l' => cases e; exact ⟨_, rfl, ev_slL h hl hh⟩
  | tup l' => cases e; exact ⟨_, rfl, ev_slT h hl hh⟩
  | _ => cases e
theorem ck_intB {b : Bool} : CK K s c (fun xs H Q => (∃ i, xs = [.int i] ∧ Q (.int i) H) ∨ ∃ k, xs = [.bl k] ∧ Q (.int (if k then 1 else 0)) H) [.bl b] (.int (if b then 1 else 0)) := fun M n vs H Q hm ht hs r k => by
  obtain ⟨v, rfl, rv⟩ := r.inv1
  have rv : v = .bl b := rv
  subst rv
  exact .inr ⟨b, rfl, k _ H (Gr.refl _ _) hs rfl⟩
end
/-- the first index below m where p is true -/
def firstT (p : Nat → Bool) (m : Nat) : Option Nat := (List.range m).find? p
theorem firstT_hit {p : Nat → Bool} {m i : Nat} (h : i < m) (hp : p i = true) (hn : ∀ j, j < i → p j = false) : firstT p m = some i := by
  unfold firstT
  rw [List.find?_range_eq_some]
  exact ⟨hp, List.mem_range.mpr h, fun j hj => by rw [hn j hj]; rfl⟩
theorem firstT_none {p : Nat → Bool} {m : Nat} (hn : ∀ j, j < m → p j = false) : firstT p m = none := by
  unfold firstT
  rw [List.find?_eq_none]
  intro j hj
  rw [hn j (List.mem_range.mp hj)]
  exact Bool.false_ne_true
theorem usort_app (a b : List Str) : usort (usort a ++ b) = usort (a ++ b) := asc_uniq (usort_asc _) (usort_asc _) fun z => by
  rw [usort_mem, usort_mem, List.mem_append, List.mem_append, usort_mem]
theorem cut_pre {l : List D} {k : Nat} : Pl.cutD l none (some (k : Int)) = l.take k := by
  unfold Pl.cutD
  rw [HT.sIx_none, HT.sIx_nat, List.drop_zero, Nat.sub_zero]
  by_cases q : k ≤ l.length
  · rw [Nat.min_eq_left q]
  · rw [Nat.min_eq_right (by omega), List.take_length, List.take_of_length_le (by omega)]
theorem atI_at {α : Type} {l : List α} {i : Nat} {d : α} (h : l[i]? = some d) : atI l (i : Int) = some d := atI_nat h
end Pl
/-! text PlY -/
set_option Elab.async false
set_option linter.all false
set_option maxRecDepth 100000
set_option maxHeartbeats 4000000
set_option exponentiation.threshold 5000
/-! PlY: repeated tuples and lists; data of bounded depth. -/
namespace Pl
open PySem PySem.Spec PyProof.Rows L2 PlS
theorem times_same (lo : Addr) (its : Array Value) (sz : Nat) (di : Option Addr) (so : Array (Option Value)) (k : Int) (tk : Tok) (r0 : (decide (k < -(2 ^ 63)) || decide (k ≥ 2 ^ 63)) = false) (r1 : (its.isEmpty || k == 1) = true) :
    Meets (Builtin.«tuple.__mul__» ⟨[.ref lo, .int k tk], []⟩) (fun _ R st => st.heap.get? lo = some ⟨.type "tuple", di, .seq its sz, so⟩ ∧ R (.ok (.ret (Value.ref lo))) st) :=
  .of_wp fun prog w Ar R st hyp => by
    obtain ⟨hp, gl, dc, tks, os⟩ := st
    obtain ⟨g1, g2⟩ := hyp
    have ix := AutoSeq1.idx_int
    wp_walk using AutoSeq1.wpAny_loadPart' g1
    repeat (first
      | (refine wpAny_ite_false (decide_eq_false (by rw [r0]; exact Bool.false_ne_true)) ?_; wp_walk using AutoSeq1.wpAny_loadPart' g1)
      | (refine wpAny_ite_true (decide_eq_true (by rw [r1])) ?_; wp_walk using AutoSeq1.wpAny_loadPart' g1))
    exact ⟨_, rfl, g2⟩
def rRep1 (K : PySem.W.Frag) : R2 := fun x y H Q => ∃ l k xs, x = .ref l ∧ y = .int k ∧ SqT K H l xs ∧ (xs = [] ∨ k = 1) ∧ 0 ≤ k ∧ k ≤ 1000 ∧ Q (.ref l) H
section
variable {X : Cx} {K : PySem.W.Frag}
theorem op_rep1 : OpR X (binaryOp .Mult) (rRep1 X.K) := by
  intro pins s σ H x y v u Q I rx ry h
  obtain ⟨lo, k, xs, rfl, rfl, hT, how, g1, g2, q⟩ := h
  cases rx
  obtain ⟨t, rfl⟩ := ry
  obtain ⟨its, r, ⟨⟨cls, di, data, so⟩, ho, hc, sz, hd⟩, _⟩ := I.tuple hT
  simp only at hc hd
  subst hc hd
  have r0 : (decide (k < -(2 ^ 63)) || decide (k ≥ 2 ^ 63)) = false := by
    rw [decide_eq_false (by omega), decide_eq_false (by omega)] <;> rfl
  have r1 : (its.toArray.isEmpty || k == 1) = true := by
    rcases how with rfl | rfl
    · cases r
      rfl
    · rw [Bool.or_eq_true]
      exact .inr rfl
  exact wpAny_binaryOp_repeat_ref (T := "tuple") (U := "int") (by decide) ⟨_, ho, rfl⟩ (fun s' => typeIs_int s' k t) noFill_tuple_mul F.fills_int_mul F.slot_int_rmul repeat_tuple F.slot_int_index.lookup
    (call_meets F.slot_int_rmul (typeIs_int s k t) F.entry_int_rmul (F.args_int_rmul_2 _ _) (int_rmul_tuple k t lo its.toArray sz di so)
      ⟨ho, rfl, ⟨_, ho, rfl⟩, call_meets F.slot_tuple_mul ⟨_, ho, rfl⟩ F.entry_tuple_mul (F.args_tuple_mul_2 _ _) (times_same lo its.toArray sz di so k t r0 r1) ⟨ho, .ref lo, H, I, rfl, q⟩⟩)
def rMulB (K : PySem.W.Frag) : R2 := fun x y H Q => rMulA K x y H Q ∨ rRep1 K x y H Q
theorem k_mulB (h : X.K = K := by rfl) : OpR X (binaryOp .Mult) (rMulB K) := by subst h; exact op_mulA.or op_rep1
end
section
variable {K : PySem.W.Frag} {s c : Addr} {M : List Addr} {H : Hp}
theorem RepL.app : ∀ {l m : List D} {xs ys : List V}, RepL K M H l xs → RepL K M H m ys → RepL K M H (l ++ m) (xs ++ ys)
  | [], _, [], _, _, h => h
  | _ :: _, _, _ :: _, _, h, k => ⟨h.1, RepL.app h.2 k⟩
  | [], _, _ :: _, _, h, _ => h.elim
  | _ :: _, _, [], _, h, _ => h.elim
theorem RepL.times {l : List D} {xs : List V} (h : RepL K M H l xs) : ∀ k : Nat, RepL K M H (List.replicate k l).flatten (List.replicate k xs).flatten
  | 0 => trivial
  | k + 1 => by
    rw [List.replicate_succ, List.replicate_succ, List.flatten_cons, List.flatten_cons]
    exact RepL.app h (RepL.times h k)
theorem rk_timesT {l : List D} {k : Int} (g0 : 1 ≤ k) (g1 : k ≤ 1000) (gl : l.length ≤ 1000) : RK K s c (rMulB K) (.tup l) (.int k) (.tup (List.replicate k.toNat l).flatten) := fun M n v w H Q hm ht hs rx ry kk => by
  obtain ⟨a, xs, rfl, st, rl⟩ := rx
  have ry : w = .int k := ry
  subst ry
  by_cases hz : l = [] ∨ k = 1
  · refine .inr ⟨a, k, xs, rfl, rfl, st, ?_, by omega, g1, kk _ H (Gr.refl _ _) hs ⟨a, xs, rfl, st, ?_⟩⟩
    · rcases hz with e | e
      · exact .inl (rl.nil_iff.mpr e)
      · exact .inr e
    · rcases hz with rfl | rfl
      · have e : (List.replicate k.toNat ([] : List D)).flatten = [] := by
          induction k.toNat with
          | zero => rfl
          | succ m ih => rw [List.replicate_succ, List.flatten_cons, ih]; rfl
        rw [e]
        exact rl
      · show RepL K M H (l ++ []) xs
        rw [List.append_nil]
        exact rl
  · have h1 : l ≠ [] := fun e => hz (.inl e)
    have h2 : k ≠ 1 := fun e => hz (.inr e)
    refine .inl (.inr (.inr ⟨a, k, xs, rfl, rfl, st, fun e => h1 (rl.nil_iff.mp e), by omega, g1, by rw [← rl.length]; exact gl, fun p hp => kk (.ref p) _ (Gr.new hp) (hs.new hp) ⟨p, _, rfl, .inl (.inl upd_same), (RepL.times rl k.toNat).gr (Gr.new hp)⟩⟩))
theorem rk_timesL {l : List D} {k : Int} (g0 : 0 ≤ k) (g1 : k ≤ 1000) (gl : l.length ≤ 1000) : RK K s c (rMulB K) (.lst l) (.int k) (.lst (List.replicate k.toNat l).flatten) := fun M n v w H Q hm ht hs rx ry kk => by
  obtain ⟨a, xs, rfl, ma, ea, rl⟩ := rx
  have ry : w = .int k := ry
  subst ry
  refine .inl (.inr (.inl ⟨a, k, xs, rfl, rfl, ea, by omega, by omega, ?_, fun p hp => kk (.ref p) _ (Gr.new hp) (hs.new hp) ⟨p, _, rfl, fun z => ?_, upd_same, (RepL.times rl k.toNat).gr (Gr.new hp)⟩⟩))
  · rw [← rl.length, sizeLine_eq]
    have := Nat.mul_le_mul gl (show k.toNat ≤ 1000 by omega)
    omega
  · obtain ⟨o, e⟩ := ht p z
    rw [hp] at e
    cases e
theorem rk_mulI {i j : Int} (h : CMulW i j) : RK K s c (rMulB K) (.int i) (.int j) (.int (i * j)) := fun M n v w H Q a b d e f k => .inl (rk_mul h M n v w H Q a b d e f k)
end
end Pl
/-! text PlD -/
set_option Elab.async false
set_option linter.all false
set_option maxRecDepth 100000
set_option maxHeartbeats 4000000
set_option exponentiation.threshold 5000
/-! PlD: a def's own dict of flat values beside its data: d the dict's address, kvs what stands in it. -/
namespace Pl
open PySem PySem.Spec PyProof.Rows L2 PlS
section
variable {K : PySem.W.Frag} {M : List Addr} {H : Hp} {p : Addr} {kvs : List (Key × V)}
mutual
/-- the address of a dict may be set apart -/
theorem Rep.apartD (hp : H p = some (.dK kvs)) : ∀ {d : D} {v : V}, Rep K M H d v → Rep K (p :: M) H d v
  | .non, _, h => h
  | .bl _, _, h => h
  | .int _, _, h => h
  | .str _, _, h => h
  | .obj _, _, h => h
  | .tup _, _, h => by
    obtain ⟨a, xs, e, q, r⟩ := h
    exact ⟨a, xs, e, q, RepL.apartD hp r⟩
  | .lst _, _, h => by
    obtain ⟨a, xs, e, m, q, r⟩ := h
    refine ⟨a, xs, e, fun z => ?_, q, RepL.apartD hp r⟩
    rcases List.mem_cons.mp z with z | z
    · rw [z, hp] at q; cases q
    · exact m z
  | .ins _ _ _, _, h => by
    obtain ⟨a, dx, fs, e, m, q, k, r⟩ := h
    refine ⟨a, dx, fs, e, fun z => ?_, q, k, RepL.apartD hp r⟩
    rcases List.mem_cons.mp z with z | z
    · rw [z, hp] at q; cases q
    · exact m z
  | .dct _ _, _, h => by
    obtain ⟨a, o, fs, e, q, k, r⟩ := h
    exact ⟨a, o, fs, e, q, k, RepL.apartD hp r⟩
theorem RepL.apartD (hp : H p = some (.dK kvs)) : ∀ {ds : List D} {vs : List V}, RepL K M H ds vs → RepL K (p :: M) H ds vs
  | [], [], h => h
  | _ :: _, _ :: _, h => ⟨Rep.apartD hp h.1, RepL.apartD hp h.2⟩
  | [], _ :: _, h => h.elim
  | _ :: _, [], h => h.elim
end
theorem gr_dict {kv2 : List (Key × V)} (hp : H p = some (.dK kvs)) : Gr (p :: M) H (upd H p (.dK kv2)) := fun a o e m => by
  have ne : a ≠ p := fun z => by
    rw [z, hp] at e
    cases e
    rcases m with m | m
    · exact m (by rw [z]; exact List.mem_cons_self)
    · cases m
  rw [upd_ne ne]
  exact e
theorem Rep.dput {kv2 : List (Key × V)} (hp : H p = some (.dK kvs)) {d : D} {v : V} (r : Rep K M H d v) : Rep K M (upd H p (.dK kv2)) d v :=
  (Rep.gr (gr_dict hp) (r.apartD hp)).mono fun a ha => List.mem_cons_of_mem _ ha
theorem RepL.dput {kv2 : List (Key × V)} (hp : H p = some (.dK kvs)) {d : List D} {v : List V} (r : RepL K M H d v) : RepL K M (upd H p (.dK kv2)) d v :=
  (RepL.gr (gr_dict hp) (r.apartD hp)).mono fun a ha => List.mem_cons_of_mem _ ha
end
section
variable {K : PySem.W.Frag} {s c d : Addr} {M0 : List Addr} {H0 : Hp} {O : List Addr} {ρ : List Sl} {n n1 n2 : Nat} {σ : L2.St} {H : Hp} {kvs kv2 : List (Key × V)}
theorem Src.neD (h : Src s c n H) (hd : H d = some (.dK kvs)) : d ≠ s ∧ d ≠ c := by
  obtain ⟨t, ns, h1, h2, _⟩ := h.ex
  exact ⟨fun z => (by rw [z, h1] at hd; cases hd), fun z => (by rw [z, h2] at hd; cases hd)⟩
theorem Ok.notO (I : Ok K s c M0 H0 O ρ n σ H) (hd : H d = some (.dK kvs)) : d ∉ O := fun z => by
  obtain ⟨xs, e⟩ := I.lst d z
  rw [hd] at e
  cases e
theorem Ok.two (I : Ok K s c M0 H0 O ρ n σ H) (hd : H d = some (.dK kvs)) : d ∉ [s, c] := not_two (I.src.neD hd).1 (I.src.neD hd).2
/-- the dict grows -/
theorem Ok.dput (I : Ok K s c M0 H0 O ρ n σ H) (h0 : H0 d = none) (hd : H d = some (.dK kvs)) : Ok K s c M0 H0 O ρ n σ (upd H d (.dK kv2)) where
  ms := I.ms
  tr := I.tr
  src := I.src.put (I.src.neD hd).1 (I.src.neD hd).2
  gr := fun a o e m => by
    rw [upd_ne fun z => by rw [z, h0] at e; cases e]
    exact I.gr a o e m
  fr := I.fr
  nd := I.nd
  sl := SlR.imp (fun _ _ r => r.dput hd) (fun _ _ r => r.dput hd) (fun o ho xs e => by rw [upd_ne fun z => I.notO hd (by rw [← z]; exact ho)]; exact e) I.sl
theorem Gr.dict {H' : Hp} (g : Gr [s, c] H H') (I : Ok K s c M0 H0 O ρ n σ H) (hd : H d = some (.dK kvs)) : H' d = some (.dK kvs) := g d _ hd (.inl (I.two hd))
/-! ### judgements with the dict -/
def EvTX (K : PySem.W.Frag) (s c d : Addr) (tt : TT) (ρ : List Sl) (n : Nat) (kvs : List (Key × V)) (P : Bool → List (Key × V) → Prop) : Prop := ∀ M0 H0 O σ H (Q : Bool → Hp → Prop), Ok K s c M0 H0 O ρ n σ H → H0 d = none → H d = some (.dK kvs) →
  (∀ b H' kv2, Ok K s c M0 H0 O ρ n σ H' → H' d = some (.dK kv2) → P b kv2 → Q b H') → tt σ H Q
structure PnX where
  nx : List Sl → Nat → List (Key × V) → Prop
  rt : D → Nat → Prop
structure GoX (K : PySem.W.Frag) (s c d : Addr) (M0 : List Addr) (H0 : Hp) (B : PnX) (Dn : Ends) : Prop where
  nx : ∀ O' ρ' n' σ' H' kv, Ok K s c M0 H0 O' ρ' n' σ' H' → H' d = some (.dK kv) → B.nx ρ' n' kv → Dn.nx σ' H'
  rt : ∀ v H' x n', Gr [s, c] H0 H' → Src s c n' H' → Rep K M0 H' x v → B.rt x n' → Dn.rt v H'
def EvSX (K : PySem.W.Frag) (s c d : Addr) (ts : TS) (ρ : List Sl) (n : Nat) (kvs : List (Key × V)) (B : PnX) : Prop := ∀ M0 H0 O σ H (Dn : Ends), Ok K s c M0 H0 O ρ n σ H → H0 d = none → H d = some (.dK kvs) → GoX K s c d M0 H0 B Dn → ts Dn σ H
theorem sx_if {tt : TT} {t u : TS} {B : PnX} {P : Bool → List (Key × V) → Prop} (h : EvTX K s c d tt ρ n kvs P) (h1 : ∀ kv, P true kv → EvSX K s c d t ρ n kv B) (h2 : ∀ kv, P false kv → EvSX K s c d u ρ n kv B) : EvSX K s c d (tIfS tt t u) ρ n kvs B := fun M0 H0 O σ H Dn I h0 hd G =>
  h M0 H0 O σ H _ I h0 hd fun b H' kv J hd' p => by
    cases b with
    | true => exact iteT (h1 kv p M0 H0 O σ H' Dn J h0 hd' G)
    | false => exact iteF (h2 kv p M0 H0 O σ H' Dn J h0 hd' G)
theorem sx_next {B : PnX} (h : B.nx ρ n kvs) : EvSX K s c d tNext ρ n kvs B := fun M0 H0 O σ H Dn I h0 hd G => G.nx O ρ n σ H kvs I hd h
theorem sx_ret {te : TE} {B : PnX} {P : D → Prop} (h : EvE K s c te ρ n n1 P) (k : ∀ x, P x → B.rt x n1) : EvSX K s c d (tRet te) ρ n kvs B := fun M0 H0 O σ H Dn I h0 hd G =>
  h M0 H0 O σ H _ I fun v H' x gr hs r p => G.rt v H' x n1 (I.gr.trans gr) hs (r.mono fun a ha => List.mem_append_right _ ha) (k x p)
/-- d.setdefault(t, v) != u, ints in the dict -/
theorem tx_setd {i : Nat} {ty tx tz : TE} {t : Str} {v u : Int} (hp : ρ[i]? = some (.va (.obj d))) (hy : EvE K s c ty ρ n n (fun x => x = .str t)) (hx : EvE K s c tx ρ n n (fun x => x = .int v)) (hz : EvE K s c tz ρ n n (fun x => x = .int u)) (hl : kvs.length < 1000)
    (hk : ∀ w, valV kvs (.inr t) = some w → ∃ j : Int, w = .int j) :
    EvTX K s c d (tTest (tOp (rNeA K) (tDSetd (tVar i) ty tx) tz)) ρ n kvs (fun b kv => (∃ j : Int, valV kvs (.inr t) = some (.int j) ∧ kv = kvs ∧ b = !decide (j = u)) ∨ (valV kvs (.inr t) = none ∧ kv = putK kvs (.inr t) (.int v) ∧ b = !decide (v = u))) := fun M0 H0 O σ H Q I h0 hd k => by
  obtain ⟨w, hw, rw'⟩ := I.sl.get hp
  have rw' : w = .ref d := rw'
  subst rw'
  refine ⟨.ref d, hw, d, rfl, .inl ⟨kvs, .inl hd⟩, hy M0 H0 O σ H _ I fun y H1 e g1 s1 r1 p1 => hx M0 H0 O σ H1 _ (I.next g1 s1) fun x H2 e2 g2 s2 r2 p2 => ?_⟩
  subst p1; subst p2
  have r1 : y = .str t := r1
  have r2 : x = .int v := r2
  subst r1; subst r2
  have J := (I.next g1 s1).next g2 s2
  have hd2 : H2 d = some (.dK kvs) := g2.dict (I.next g1 s1) (g1.dict I hd)
  have ne : ∀ {j : Int} {kv : List (Key × V)} {H3 : Hp}, Ok K s c M0 H0 O ρ n σ H3 → H3 d = some (.dK kv) → ((∃ j' : Int, valV kvs (.inr t) = some (.int j') ∧ kv = kvs ∧ (!decide (j = u)) = !decide (j' = u)) ∨ (valV kvs (.inr t) = none ∧ kv = putK kvs (.inr t) (.int v) ∧ (!decide (j = u)) = !decide (v = u))) →
      tz σ H3 fun z H4 => rNeA K (.int j) z H4 fun x' H' => ∃ k', x' = .bl k' ∧ Q k' H' := fun {j kv H3} J3 hd3 pf =>
    hz M0 H0 O σ H3 _ J3 fun z H4 e4 g4 s4 r4 p4 => by
      subst p4
      exact rk_neI (O ++ M0) n (.int j) z H4 _ ⟨List.mem_append_right _ I.ms.1, List.mem_append_right _ I.ms.2⟩ (J3.next g4 s4).thereA s4 rfl r4 fun q H5 g5 s5 r5 => ⟨_, r5, k _ H5 kv ((J3.next g4 s4).next g5 s5) (g5.dict (J3.next g4 s4) (g4.dict J3 hd3)) pf⟩
  refine ⟨kvs, .inr t, hd2, rfl, Nat.lt_of_lt_of_le hl (by decide), fun w hw => ?_, fun hn => ?_⟩
  · obtain ⟨j, rfl⟩ := hk w hw
    exact ne J hd2 (.inl ⟨j, hw, rfl, rfl⟩)
  · exact ne (J.dput h0 hd2) upd_same (.inr ⟨hn, rfl, rfl⟩)
/-- a walk with the dict at hand -/
theorem sx_for {wi : TI} {g : TG} {tb : TS} {B : PnX} {L : List D} (h : EvI K s c wi ρ n n1 (fun l => l = L)) (Inv : Nat → List Sl → Nat → List (Key × V) → Prop) (i0 : Inv 0 ρ n1 kvs)
    (hs : ∀ (i : Nat) (e : D) (ρ' : List Sl) (m : Nat) (kv : List (Key × V)), L[i]? = some e → Inv i ρ' m kv → ∃ ρ2 js, EvG K s c g e ρ' ρ2 js ∧ EvSX K s c d tb ρ2 m kv ⟨fun ρ m kv => Inv (i + 1) ρ m kv, B.rt⟩)
    (hd' : ∀ ρ' m kv, Inv L.length ρ' m kv → B.nx ρ' m kv) : EvSX K s c d (tFor wi g tb) ρ n kvs B := fun M0 H0 O σ H Dn I h0 hd G => by
  -- the walk is asked for with the dict set apart
  have A : Ok K s c (d :: M0) (minus H O) O ρ n σ H := by
    refine ⟨⟨List.mem_cons_of_mem _ I.ms.1, List.mem_cons_of_mem _ I.ms.2⟩, fun a ha => ?_, I.src, I.focus.gr, I.focus.fr, I.nd, ?_⟩
    · rcases List.mem_cons.mp ha with rfl | ha
      · exact .inr (.inr ⟨_, by rw [minus_out (I.notO hd)]; exact hd⟩)
      · exact I.focus.tr a ha
    · have mv : ∀ a ∈ O ++ (d :: M0), a ∈ d :: (O ++ M0) := fun a ha => by
        rcases List.mem_append.mp ha with z | z
        · exact List.mem_cons_of_mem _ (List.mem_append_left _ z)
        · rcases List.mem_cons.mp z with z | z
          · rw [z]; exact List.mem_cons_self
          · exact List.mem_cons_of_mem _ (List.mem_append_right _ z)
      exact SlR.imp (fun _ _ r => (r.apartD hd).mono mv) (fun _ _ r => (r.apartD hd).mono mv) (fun _ _ _ e => e) I.sl
  refine h (d :: M0) (minus H O) O σ H _ A fun J H1 ds g1 s1 w p => ?_
  subst p
  have I1 := I.next g1 s1
  have hd1 : H1 d = some (.dK kvs) := g1.dict I hd
  -- what stands from here on: all of H1 but the own lists and the dict
  have F : Ok K s c M0 (minus H1 (d :: O)) O ρ n1 σ H1 := by
    refine ⟨I1.ms, fun a ha => ?_, I1.src, fun a o e m => (minus_some e).2, fun o ho => ⟨?_, (I1.fr o ho).2⟩, I1.nd, I1.sl⟩
    · rcases I1.focus.tr a ha with z | z | ⟨o, z⟩
      · exact .inl z
      · exact .inr (.inl z)
      · by_cases e : a = d
        · exact absurd hd1 (by
            rcases I1.tr a ha with y | y | ⟨o', y⟩
            · rw [← e, y]; intro q; have := (I1.src.neD q).1; exact this rfl
            · rw [← e, y]; intro q; have := (I1.src.neD q).2; exact this rfl
            · rw [e, h0] at y; cases y)
        · refine .inr (.inr ⟨o, ?_⟩)
          have z' := minus_some z
          rw [minus_out fun q => ?_]
          · exact z'.2
          · rcases List.mem_cons.mp q with q | q
            · exact e q
            · exact z'.1 q
    · exact minus_in (List.mem_cons_of_mem _ ho)
  have back : ∀ {H3 : Hp}, Gr [s, c] (minus H1 (d :: O)) H3 → Gr [s, c] H0 H3 := fun {H3} g a o e m => g a o (by
    rw [minus_out fun q => ?_]
    · exact I1.gr a o e m
    · rcases List.mem_cons.mp q with q | q
      · rw [q, h0] at e; cases e
      · rw [(I1.fr a q).1] at e; cases e) m
  refine ⟨fun i k σ' H' => ∃ O' ρ' m kv, Ok K s c M0 (minus H1 (d :: O)) O' ρ' m σ' H' ∧ H' d = some (.dK kv) ∧ Inv i ρ' m kv ∧ i ≤ ds.length ∧ k = ds.length - i, ⟨ds.length, O, ρ, n1, kvs, F, hd1, i0, Nat.zero_le _, rfl⟩, ?_⟩
  rintro i k σ' H' ⟨O', ρ', m, kv, J', hd2, inv, hi, rfl⟩
  have nd' : ∀ o ∈ O', o ≠ d := fun o ho z => J'.notO hd2 (by rw [← z]; exact ho)
  obtain ⟨w1, w2⟩ := w O' H' (fun a o e mm => by
    by_cases q : a = d
    · exfalso
      have e' := (minus_some e).2
      rw [q, hd1] at e'
      cases e'
      rcases mm with mm | mm
      · exact mm (by rw [q]; exact List.mem_cons_self)
      · cases mm
    · refine J'.gr a o ?_ (mm.imp (fun z y => z (List.mem_cons_of_mem _ (two_sub I.ms a y))) id)
      rw [minus_out fun y => ?_]
      · exact (minus_some e).2
      · rcases List.mem_cons.mp y with y | y
        · exact q y
        · exact (minus_some e).1 y) fun o ho => by
    have f := (J'.fr o ho).1
    by_cases q : o ∈ O
    · exact minus_in q
    · rw [minus_out q]
      rw [minus_out fun y => ?_] at f
      · exact f
      · rcases List.mem_cons.mp y with y | y
        · exact nd' o ho y
        · exact q y
  by_cases hlt : i < ds.length
  · obtain ⟨w3, w4⟩ := w2 i ds[i] (List.getElem?_eq_getElem hlt)
    refine .inr ⟨w3, fun σ2 H2 => ∃ O' ρ' m kv, Ok K s c M0 (minus H1 (d :: O)) O' ρ' m σ2 H2 ∧ H2 d = some (.dK kv) ∧ Inv (i + 1) ρ' m kv, fun σ2 H2 ⟨O2, ρ2, m2, kv2, J2, hd3, inv2⟩ => ⟨ds.length - (i + 1), by omega, O2, ρ2, m2, kv2, J2, hd3, inv2, hlt, rfl⟩, fun x H2 hy => ?_⟩
    obtain ⟨g2, s2, r2⟩ := w4 x H2 hy
    have J2 := J'.next g2 (s2 _ J'.src)
    have hd3 := g2.dict J' hd2
    obtain ⟨ρ2, js, eg, es⟩ := hs i _ ρ' m kv (List.getElem?_eq_getElem hlt) inv
    refine eg M0 _ O' m σ' H2 x _ J2 (r2.mono fun a ha => ?_) fun σ2 J3 _ => ?_
    · rcases List.mem_append.mp ha with z | z
      · exact List.mem_append_left _ z
      · exact List.mem_append_right _ (List.mem_cons_of_mem _ z)
    · exact es M0 _ O' σ2 H2 _ J3 (minus_in List.mem_cons_self) hd3 ⟨fun O3 ρ3 m3 σ3 H3 kv3 J4 hd4 q => ⟨O3, ρ3, m3, kv3, J4, hd4, q⟩, fun v H3 y n3 g3 s3 r3 q => G.rt v H3 y n3 (back g3) s3 r3 q⟩
  · have e : i = ds.length := by omega
    subst e
    refine .inl ⟨w1, G.nx O' ρ' m σ' H' kv ⟨I1.ms, I1.tr, J'.src, back J'.gr, fun o ho => ⟨?_, (J'.fr o ho).2⟩, J'.nd, J'.sl⟩ hd2 (hd' ρ' m kv inv)⟩
    cases q : H0 o with
    | none => rfl
    | some u =>
      have f := (J'.fr o ho)
      have e1 := I1.gr o u q (.inl (not_two f.2.1 f.2.2))
      rw [minus_out fun y => ?_] at f
      · rw [e1] at f; cases f.1
      · rcases List.mem_cons.mp y with y | y
        · exact nd' o ho y
        · rw [(I1.fr o y).1] at q; cases q
/-- x = {}, then what is done with it -/
theorem s_dict {i : Nat} {t : TS} {Nx : List Sl → Nat → Prop} {R : D → Nat → Prop} (ho : isOw ρ[i]? = false) (hu : ∀ d, EvSX K s c d t (ρ.set i (.va (.obj d))) n [] ⟨fun ρ' m _ => Nx ρ' m, R⟩) : EvS K s c (tSeq (tAsg tDNewK (gName i)) t) ρ n ⟨Nx, R, fun _ _ => False, fun _ _ => False⟩ := fun M0 H0 O σ H Dn I G => by
  intro p hp
  have J : Ok K s c M0 H0 O ρ n σ (upd H p (.dK [])) := I.next (Gr.new hp) (I.src.new hp)
  have p0 : H0 p = none := I.gr.none hp fun z => (I.new_out hp) (I.sub p z)
  refine eg_name ho M0 H0 O n σ (upd H p (.dK [])) (.ref p) _ J (d := .obj p) rfl fun σ2 J2 _ => ?_
  exact hu p M0 H0 O σ2 _ Dn J2 p0 upd_same ⟨fun O' ρ' n' σ' H' kv J3 _ q => G.nx O' ρ' n' σ' H' J3 q, fun v H' x n' g1 s1 r1 q => G.rt v H' x n' g1 s1 r1 q⟩
/-- .. with the dict, then without it -/
theorem sx_seq {t u : TS} {Nx : List Sl → Nat → Prop} {R : D → Nat → Prop} {N : List Sl → Nat → Prop} (h : EvSX K s c d t ρ n kvs ⟨fun ρ' m _ => N ρ' m, R⟩) (hu : ∀ ρ1 n1, N ρ1 n1 → EvS K s c u ρ1 n1 ⟨Nx, R, fun _ _ => False, fun _ _ => False⟩) : EvSX K s c d (tSeq t u) ρ n kvs ⟨fun ρ' m _ => Nx ρ' m, R⟩ := fun M0 H0 O σ H Dn I h0 hd G =>
  h M0 H0 O σ H { Dn with nx := u Dn } I h0 hd ⟨fun O1 ρ1 m σ1 H1 kv J hd1 p => hu ρ1 m p M0 (minus H1 O1) O1 σ1 H1 Dn J.focus
      ⟨fun O2 ρ2 m2 σ2 H2 J2 q => G.nx O2 ρ2 m2 σ2 H2 kv (J.unfocus J2) (J2.gr d _ (by rw [minus_out (J.notO hd1)]; exact hd1) (.inl (J.two hd1))) q, fun v H2 x m2 g2 s2 r2 q => G.rt v H2 x m2 (gr_unfocus (a := 0) J g2) s2 r2 q, fun _ _ _ _ _ _ q => q.elim, fun _ _ _ _ _ _ q => q.elim⟩, G.rt⟩
end
end Pl
/-! text PlR -/
set_option Elab.async false
set_option linter.all false
set_option maxRecDepth 100000
set_option maxHeartbeats 4000000
set_option exponentiation.threshold 5000
/-! PlR: repr of lists and tuples of data, where no repr is under way (the room's guards are empty). -/
namespace Pl
open PySem PySem.Spec PyProof.Rows L2
def rReprD (K : PySem.W.Frag) : List V → Hp → VK → Prop := fun xs H Q => ∃ (a : Addr) (d : PyData), xs = [.ref a] ∧ Dp K H (.ref a) d ∧ d.showable = true ∧ d.hasDict = false ∧ d.depth ≤ 64 ∧ d.shown.length ≤ sizeLine ∧ Q (.str d.shown) H
theorem call_reprD {X : Cx} (hg : X.A.guards = some []) (hu : X.A.units + 66 < cLine) : CallR X (.builtin "repr") (rReprD X.K) := by
  intro pins s σ H xs us Q I r h
  obtain ⟨a, d, rfl, hd, h1, h2, h3, h4, q⟩ := h
  obtain ⟨u, rfl, ru⟩ := vals1 r
  obtain ⟨as, rd⟩ := Dp.reads I d _ u hd ru
  obtain rfl : u = Value.ref a := ru
  exact repr_of_reads' rd h1 (fun z => by rw [h2] at z; cases z) hg (by omega) (fun _ _ e => e) (fun h' t tk k => ⟨.str d.shown, H, I.kept (t' := tk) k, ⟨t, rfl⟩, q⟩) h4
section
variable {K : PySem.W.Frag} {s c : Addr}
theorem ck_repr {x : D} (hp : plain x = true) (hs : isTup x = true ∨ isLst x = true) (h1 : (py x).showable = true) (h2 : (py x).hasDict = false) (h3 : (py x).depth ≤ 64) (h4 : (py x).shown.length ≤ sizeLine) : CK K s c (rReprD K) [x] (.str (py x).shown) := fun M n vs H Q hm ht hh r k => by
  obtain ⟨v, rfl, rv⟩ := r.inv1
  have hd := rep_dp rv hp
  have ref : ∃ a, v = .ref a := by
    cases x with
    | tup l => obtain ⟨a, xs, e, _⟩ := rv; exact ⟨a, e⟩
    | lst l => obtain ⟨a, xs, e, _⟩ := rv; exact ⟨a, e⟩
    | _ => rcases hs with h | h <;> cases h
  obtain ⟨a, rfl⟩ := ref
  exact ⟨a, py x, rfl, hd, h1, h2, h3, h4, k _ H (Gr.refl _ _) hh rfl⟩
end
end Pl
/-! text K14l -/
set_option Elab.async false
set_option linter.all false
set_option maxRecDepth 100000
set_option maxHeartbeats 4000000
set_option exponentiation.threshold 5000
namespace K14
open PySem PySem.Spec PyProof.Rows L2 Pl PlS

def E1 (z : Str) : D := .tup [.str z]
def E2 (z : Str) (k : Nat) : D := .tup [.str z, .int k]
theorem name_is {d : D} (h : nameB d = true) : ∃ z, d = .str z ∧ isName z := by
  cases d with
  | str z =>
    have h' : (decide ((1 : Int) ≤ (z.length : Int)) && decide ((z.length : Int) ≤ 8) && z.cps.toList.all lowB) = true := h
    rw [Bool.and_eq_true, Bool.and_eq_true, decide_eq_true_eq, decide_eq_true_eq, List.all_eq_true] at h'
    refine ⟨z, rfl, by omega, by omega, fun q hq => ?_⟩
    have := h'.2 q hq
    unfold lowB at this
    rw [Bool.and_eq_true, decide_eq_true_eq, decide_eq_true_eq] at this
    exact this
  | _ => exact absurd (show false = true from h) Bool.false_ne_true
theorem any_left (l : List D) (p : D → Bool) : (!((l.filter p).map fun d => d).isEmpty) = l.any p := by
  induction l with
  | nil => rfl
  | cons x l ih =>
    rw [List.any_cons, ← ih]
    cases h : p x with
    | true => rw [List.filter_cons_of_pos h]; rfl
    | false => rw [List.filter_cons_of_neg (by rw [h]; exact Bool.false_ne_true), Bool.false_or]
theorem name_tame {z : Str} (h : isName z) : tame (.str z) = true ∧ dp (.str z) ≤ 60 := by
  refine ⟨?_, Nat.zero_le _⟩
  show (decide (z.length ≤ 1000) && PyData.strOk z) = true
  have e : PyData.strOk z = true := by
    unfold PyData.strOk
    rw [← Array.all_toList, List.all_eq_true]
    intro q hq
    have := h.2.2 q hq
    unfold low at this
    exact decide_eq_true (by omega)
  have := h.2.1
  rw [e, decide_eq_true (by omega)]
  rfl
/-- how heavy data of depth k may be -/
def W : Nat → Nat
  | 0 => 10 | 1 => 140 | 2 => 2400 | 3 => 10000 | 4 => 410000 | _ => 900000
theorem W_step : ∀ k, W k ≤ W (k + 1)
  | 0 => by decide | 1 => by decide | 2 => by decide | 3 => by decide | 4 => by decide | _ + 5 => Nat.le_refl _
theorem W_le {k j : Nat} (h : k ≤ j) : W k ≤ W j := by
  induction h with
  | refl => exact Nat.le_refl _
  | step _ ih => exact Nat.le_trans ih (W_step _)
theorem W_pos (k : Nat) : 10 ≤ W k := W_le (Nat.zero_le k)
def wt (d : D) : Nat := (py d).weight
def ls (d : D) : Bool := (py d).leavesShort 13 && (py d).showable
theorem wt_all {k : Nat} : ∀ {l : List D}, (∀ d ∈ l, wt d ≤ k) → PyData.weightAll (pyL l) ≤ l.length * (k + 1)
  | [], _ => Nat.zero_le _
  | d :: l, h => by
    have h1 := h d List.mem_cons_self
    have h2 := wt_all (l := l) fun x hx => h x (List.mem_cons_of_mem _ hx)
    show wt d + 1 + PyData.weightAll (pyL l) ≤ (l.length + 1) * (k + 1)
    rw [Nat.succ_mul]
    omega
theorem ls_all : ∀ {l : List D}, (∀ d ∈ l, ls d = true) → (PyData.leavesShortAll 13 (pyL l) && PyData.showableAll (pyL l)) = true
  | [], _ => rfl
  | d :: l, h => by
    have h1 := h d List.mem_cons_self
    have h2 := ls_all (l := l) fun x hx => h x (List.mem_cons_of_mem _ hx)
    show (((py d).leavesShort 13 && PyData.leavesShortAll 13 (pyL l)) && ((py d).showable && PyData.showableAll (pyL l))) = true
    unfold ls at h1
    rw [Bool.and_eq_true] at h1 h2
    rw [h1.1, h1.2, h2.1, h2.2]
    rfl
/-- data of moderate size and depth -/
def ok (k : Nat) (d : D) : Prop := tame d = true ∧ dp d ≤ k ∧ ls d = true ∧ wt d ≤ W k
theorem ok_le {k j : Nat} {d : D} (h : ok k d) (l : k ≤ j) : ok j d := ⟨h.1, Nat.le_trans h.2.1 l, h.2.2.1, Nat.le_trans h.2.2.2 (W_le l)⟩
theorem ok_tup {k : Nat} {l : List D} (h : ∀ d ∈ l, ok k d) (ll : l.length ≤ 1000 ∧ l.length * (W k + 1) ≤ W (k + 1)) : ok (k + 1) (.tup l) := ⟨tame_tupOf (fun d hd => (h d hd).1) ll.1, (dp_seq fun d hd => (h d hd).2.1).2, ls_all fun d hd => (h d hd).2.2.1, Nat.le_trans (wt_all fun d hd => (h d hd).2.2.2) ll.2⟩
theorem ok_lst {k : Nat} {l : List D} (h : ∀ d ∈ l, ok k d) (ll : l.length ≤ 1000 ∧ l.length * (W k + 1) ≤ W (k + 1)) : ok (k + 1) (.lst l) := ⟨tame_lstOf (fun d hd => (h d hd).1) ll.1, (dp_seq fun d hd => (h d hd).2.1).1, ls_all fun d hd => (h d hd).2.2.1, Nat.le_trans (wt_all fun d hd => (h d hd).2.2.2) ll.2⟩
theorem ls_str {z : Str} (h : tame (.str z) = true) : ls (.str z) = true := by
  have o := (tame_str h).2
  unfold PyData.strOk at o
  rw [← Array.all_toList, List.all_eq_true] at o
  show ((z.cps.toList.all fun c => decide (c < 16 ^ 8)) && true) = true
  rw [Bool.and_true, List.all_eq_true]
  intro q hq
  have := of_decide_eq_true (o q hq)
  exact decide_eq_true (by omega)
theorem ok_str {z : Str} (k : Nat) (h : (tame (.str z) && decide (z.length ≤ 10)) = true) : ok k (.str z) := by
  rw [Bool.and_eq_true, decide_eq_true_eq] at h
  exact ⟨h.1, Nat.zero_le _, ls_str h.1, Nat.le_trans h.2 (W_pos k)⟩
theorem ok_name {z : Str} (h : isName z) (k : Nat) : ok k (.str z) := ok_str k (by
  have := h.2.1
  rw [(name_tame h).1, decide_eq_true (by omega : z.length ≤ 10)]
  rfl)
theorem ok_0 {d : D} (h : (tame d && (decide (dp d = 0) && (ls d && decide (wt d ≤ 10)))) = true) (k : Nat) : ok k d := by
  rw [Bool.and_eq_true, Bool.and_eq_true, Bool.and_eq_true, decide_eq_true_eq, decide_eq_true_eq] at h
  exact ⟨h.1, by rw [h.2.1]; exact Nat.zero_le _, h.2.2.1, Nat.le_trans h.2.2.2 (W_pos k)⟩
theorem no_dict : ∀ d : D, (py d).hasDict = false := fun d => D.rec (motive_1 := fun d => (py d).hasDict = false) (motive_2 := fun l => PyData.hasDictAll (pyL l) = false)
  rfl (fun _ => rfl) (fun _ => rfl) (fun _ => rfl) (fun _ => rfl) (fun _ ih => ih) (fun _ ih => ih) (fun _ _ _ _ => rfl) (fun _ _ _ => rfl) rfl (fun d l h1 h2 => by
    show ((py d).hasDict || PyData.hasDictAll (pyL l)) = false
    rw [h1, h2]
    rfl) d
/-- repr of such data -/
theorem ck_reprOk {K : PySem.W.Frag} {s c : Addr} {x : D} (h : ok 5 x) (hs : isTup x = true ∨ isLst x = true) : CK K s c (rReprD K) [x] (.str (py x).shown) := by
  have l := h.2.2.1
  unfold ls at l
  rw [Bool.and_eq_true] at l
  exact ck_repr (plain_of h.1) hs l.2 (no_dict x) (Nat.le_trans h.2.1 (by decide)) (PyData.shown_fits (B := 13) (by decide) (by decide) l.1 (Nat.le_trans h.2.2.2 (by decide)))
def allOk (k m : Nat) (l : List D) : Prop := l.length = m ∧ ∀ d ∈ l, ok k d
section
variable {K : PySem.W.Frag} {s c : Addr} {ρ : List Sl} {n n1 n2 : Nat} {te : TE} {tr : TA} {P : D → Prop}
theorem o_int {i : Int} {k : Nat} (h : (tame (.int i) && (decide (dp (.int i) = 0) && (ls (.int i) && decide (wt (.int i) ≤ 10)))) = true) : EvE K s c (tC (.int i)) ρ n n (ok k) := ev_int.imp fun d e => by rw [e]; exact ok_0 h k
theorem o_bl {b : Bool} {k : Nat} : EvE K s c (tC (.bl b)) ρ n n (ok k) := ev_bl.imp fun d e => by rw [e]; exact ok_0 rfl k
theorem o_non {k : Nat} : EvE K s c (tC .non) ρ n n (ok k) := ev_non.imp fun d e => by rw [e]; exact ok_0 rfl k
theorem o_str {z : Str} {k : Nat} (h : (tame (.str z) && decide (z.length ≤ 10)) = true) : EvE K s c (tC (.str z)) ρ n n (ok k) := ev_str.imp fun d e => by rw [e]; exact ok_str k h
theorem o_nil {k : Nat} : EvA K s c tNil ρ n n (allOk k 0) := ea_nil.imp fun l e => by rw [e]; exact ⟨rfl, fun d hd => by simp at hd⟩
theorem o_cons {k m : Nat} (h : EvE K s c te ρ n n1 (ok k)) (hr : EvA K s c tr ρ n1 n2 (allOk k m)) : EvA K s c (tCons te tr) ρ n n2 (allOk k (m + 1)) := (ea_cons h hr).imp fun l e => by
  obtain ⟨d, r, rfl, h1, h2, h3⟩ := e
  refine ⟨by rw [List.length_cons, h2], fun x hx => ?_⟩
  rcases List.mem_cons.mp hx with rfl | hx
  · exact h1
  · exact h3 x hx
theorem o_tup {k m : Nat} (h : EvA K s c tr ρ n n1 (allOk k m)) (hm : m ≤ 1000 ∧ m * (W k + 1) ≤ W (k + 1)) : EvE K s c (tTup tr) ρ n n1 (ok (k + 1)) := (ev_tup h fun l e => by rw [e.1]; exact hm.1).imp fun d e => by
  obtain ⟨l, rfl, h1, h2⟩ := e
  exact ok_tup h2 (by rw [h1]; exact hm)
theorem o_lst {k m : Nat} (h : EvA K s c tr ρ n n1 (allOk k m)) (hm : m ≤ 1000 ∧ m * (W k + 1) ≤ W (k + 1)) : EvE K s c (tLst tr) ρ n n1 (ok (k + 1)) := (ev_lst h fun l e => by rw [e.1]; exact hm.1).imp fun d e => by
  obtain ⟨l, rfl, h1, h2⟩ := e
  exact ok_lst h2 (by rw [h1]; exact hm)
/-- a list of such data -/
theorem o_lstL {k m : Nat} (h : EvA K s c tr ρ n n1 (allOk k m)) (hm : m ≤ 1000) : EvE K s c (tLst tr) ρ n n1 (fun d => ∃ l, d = .lst l ∧ allOk k m l) := ev_lst h fun l e => by rw [e.1]; exact hm
theorem o_addL {k m j : Nat} {te2 : TE} (h : EvE K s c te ρ n n1 (fun d => ∃ l, d = .lst l ∧ allOk k m l)) (h2 : EvE K s c te2 ρ n1 n2 (fun d => ∃ l, d = .lst l ∧ allOk k j l)) (hm : m + j ≤ 2000) : EvE K s c (tOp (rAddA K) te te2) ρ n n2 (fun d => ∃ l, d = .lst l ∧ allOk k (m + j) l) := ev_opP h h2 fun x y e1 e2 => by
  obtain ⟨l, rfl, a1, a2⟩ := e1
  obtain ⟨r, rfl, b1, b2⟩ := e2
  refine ⟨_, rk_addL (by rw [a1, b1]; exact hm), _, rfl, by rw [List.length_append, a1, b1], fun d hd => ?_⟩
  rcases List.mem_append.mp hd with hd | hd
  · exact a2 d hd
  · exact b2 d hd
theorem o_var {k : Nat} {i : Nat} {d : D} (e : ρ[i]? = some (.va d)) (h : ok k d) : EvE K s c (tVar i) ρ n n (ok k) := (ev_var e).imp fun x q => by rw [q]; exact h
theorem o_varL {k m : Nat} {i : Nat} {l : List D} (e : ρ[i]? = some (.va (.lst l))) (h : allOk k m l) : EvE K s c (tVar i) ρ n n (fun d => ∃ l, d = .lst l ∧ allOk k m l) := (ev_var e).imp fun x q => ⟨l, q, h⟩
/-- one picked of such a list -/
theorem o_pick {k m : Nat} {ta tb : TE} (ha : EvE K s c ta ρ n n1 (fun d => d = .obj s)) (hb : EvE K s c tb ρ n1 n2 (fun d => ∃ l, d = .lst l ∧ allOk k m l)) (hn : n2 + 1 ≤ 2 ^ 40) (h0 : 1 ≤ m) (h1 : m ≤ 1000) :
    EvE K s c (tCall (Pr K prePick 1 postPick) [] E0 (tCons ta (tCons tb tNil))) ρ n (n2 + 1) (ok k) :=
  (ev_def (A := fun l => ∃ L, l = [.obj s, .lst L] ∧ allOk k m L) ((ea_cons ha (ea_cons hb ea_nil)).imp fun l e => by
    obtain ⟨d, r, rfl, rfl, d2, r2, rfl, ⟨L, rfl, hL⟩, rfl⟩ := e
    exact ⟨L, rfl, hL⟩) hn fun l e => by
    obtain ⟨L, rfl, hL⟩ := e
    exact ⟨.lst L, L, rfl, rfl, fun z => by rw [z] at hL; have := hL.1; simp at this; omega, by rw [hL.1]; exact h1⟩).imp fun z h => by
    obtain ⟨l, ⟨L, rfl, hL⟩, d, l2, e2, e3, e4⟩ := h
    cases e2
    cases e3
    exact hL.2 z e4
theorem o_pickL {k j m : Nat} {ta tb : TE} (ha : EvE K s c ta ρ n n1 (fun d => d = .obj s)) (hb : EvE K s c tb ρ n1 n2 (fun d => ∃ l, d = .lst l ∧ allOk k m l)) (hn : n2 + 1 ≤ 2 ^ 40) (h0 : 1 ≤ m) (h1 : m ≤ 1000) (hj : k ≤ j) :
    EvE K s c (tCall (Pr K prePick 1 postPick) [] E0 (tCons ta (tCons tb tNil))) ρ n (n2 + 1) (ok j) := (o_pick ha hb hn h0 h1).imp fun d h => ok_le h hj
theorem times_ok {k j : Nat} {l : List D} (h : ∀ d ∈ l, ok k d) (hl : l.length * j ≤ 1000 ∧ l.length * j * (W k + 1) ≤ W (k + 1)) : ok (k + 1) (.tup (List.replicate j l).flatten) := ok_tup (fun d hd => by
    obtain ⟨l', h1, h2⟩ := List.mem_flatten.mp hd
    rw [(List.mem_replicate.mp h1).2] at h2
    exact h d h2) (by
    have e : (List.replicate j l).flatten.length = j * l.length := by
      clear h hl
      induction j with
      | zero => simp
      | succ j ih => rw [List.replicate_succ, List.flatten_cons, List.length_append, ih, Nat.succ_mul, Nat.add_comm]
    rw [e, Nat.mul_comm]
    exact hl)
theorem o_times {k : Nat} {z : Str} {i : Int} {tb : TE} (h : (tame (.str z) && decide (z.length ≤ 10)) = true) (hb : EvE K s c tb ρ n n1 (fun d => d = .int i)) (h1 : 1 ≤ i) (h2 : i ≤ 4) (hk : 4 * (W k + 1) ≤ W (k + 1)) : EvE K s c (tOp (rMulB K) (tTup (tCons (tC (.str z)) tNil)) tb) ρ n n1 (ok (k + 1)) :=
  (ev_opK (ev_tupE (ea_one ev_str) (by exact (by decide : (1 : Nat) ≤ 1000))) hb (rk_timesT h1 (by omega) (by exact (by decide : (1 : Nat) ≤ 1000)))).imp fun d e => by
    rw [e]
    exact times_ok (fun d hd => by rw [List.mem_singleton.mp hd]; exact ok_str k h) (by
      show 1 * i.toNat ≤ 1000 ∧ 1 * i.toNat * (W k + 1) ≤ _
      rw [Nat.one_mul]
      exact ⟨by omega, Nat.le_trans (Nat.mul_le_mul_right _ (show i.toNat ≤ 4 by omega)) hk⟩)
end

theorem allOk_app {k m j : Nat} {l r : List D} (h : allOk k m l) (h2 : allOk k j r) : allOk k (m + j) (l ++ r) := ⟨by rw [List.length_append, h.1, h2.1], fun d hd => by
  rcases List.mem_append.mp hd with hd | hd
  · exact h.2 d hd
  · exact h2.2 d hd⟩
theorem allOk_one {k : Nat} {d : D} (h : ok k d) : allOk k 1 [d] := ⟨rfl, fun x hx => by rw [List.mem_singleton.mp hx]; exact h⟩
theorem cut_suf {l : List D} {k : Nat} (h : k ≤ l.length) : Pl.cutD l (some (k : Int)) none = l.drop k := by
  unfold Pl.cutD
  rw [HT.sIx_none, HT.sIx_nat, Nat.min_eq_left h, List.take_of_length_le (by rw [List.length_drop]; omega)]
theorem allOk_take {k m j : Nat} {l : List D} (h : allOk k m l) (hj : j ≤ m) : allOk k j (l.take j) := ⟨by rw [List.length_take, h.1]; omega, fun d hd => h.2 d (List.mem_of_mem_take hd)⟩
theorem allOk_drop {k m j : Nat} {l : List D} (h : allOk k m l) : allOk k (m - j) (l.drop j) := ⟨by rw [List.length_drop, h.1], fun d hd => h.2 d (List.mem_of_mem_drop hd)⟩
theorem times_okL {k j : Nat} {l : List D} (h : ∀ d ∈ l, ok k d) (hl : l.length * j ≤ 1000 ∧ l.length * j * (W k + 1) ≤ W (k + 1)) : ok (k + 1) (.lst (List.replicate j l).flatten) := by
  have z := times_ok (k := k) (j := j) h hl
  exact z
end K14
/-! text PlG -/
set_option Elab.async false
set_option linter.all false
set_option maxRecDepth 100000
set_option maxHeartbeats 4000000
set_option exponentiation.threshold 5000
/-! PlG: a def run in one known place (the law itself, whose caller prints nothing): as the library's promise of a def, but for this one place. -/
namespace Pl
open PySem PySem.Spec PyProof.Rows L2
/-- the def at f, called in the place A by no frame of ours -/
def RunsAt (P : Program) (w : World) (K : PySem.W.Frag) (mg : Str → Option Value) (base : Heap) (A : Around) (f : Addr) (fd : FuncData) (ps : List Str) (sp : Sp) : Prop :=
  ∀ (st : Shared) (H : Hp) (us : List Value) (vs : List V) (Q : VK), Env0 P w K mg base A [] st H → BindsTo st fd ⟨us, []⟩ (ps.zip us) → Vals vs us → sp vs H Q E0 →
    codeAny (model P w) A (.call (.ref f) ⟨us, []⟩) (CR CX0 [] P w H st Q E0) st
theorem runs_at {P : Program} {w : World} {K : PySem.W.Frag} {mg : Str → Option Value} {base : Heap} {A : Around} {x qual : Str} {dst : Stmt} {f : Addr} {fd : FuncData} {N ps : List Str} {k : Nat} {sp : Sp} (F : Fun K x qual dst f fd) (S : FnScope N ps (defScope dst)) (room : Room (k + 1) A)
    (len : ∀ vs H Q E, sp vs H Q E → vs.length = ps.length)
    (body : ∀ (cdv : Value) (st : Shared) (H : Hp) (vs : List V) (Q : VK), Room k (A.deeper (envOfC qual (defScope dst) st.heap.objs.size f cdv)) → sp vs H Q E0 →
      ∃ t, PSs (cxOf CX0 P w K mg base N qual (defScope dst) f cdv A [] st H E0).nox (defBody dst) t ∧ t { nx := fun _ H' => Q .non H', rt := Q } (L2.start N vs) H) : RunsAt P w K mg base A f fd ps sp := by
  obtain ⟨oc, od, kV, doc, pm, an, cdv, ct, so, rfl, look, code⟩ := F.ex
  intro st H us vs Q start0 bound rel wish
  have few := len _ _ _ _ wish
  have inK : K.In st.heap := start0.mod.kin.keeps fun b o z => (start0.bs b o z).1
  have free : st.heap.NoLimit := start0.mod.nolimit.keeps fun b o z => (start0.bs b o z).1
  have kinds : ∀ y ∈ ps.zip us, (defScope dst).names.lookup y.1 = some .local ∨ ((defScope dst).names.lookup y.1 = some .cell ∧ ((cellsFrom (st.heap.objs.size + 1) (defScope dst).names []).lookup y.1).isSome = true) := by
    rintro ⟨nm, v⟩ hy
    exact (S.par nm (List.of_mem_zip hy).1).imp id fun q => ⟨q, PySem.W.cellsFrom_some _ _ _ (.inl q)⟩
  refine codeAny_call_function room.depth (inK _ _ look) rfl S.co S.gen rfl (PySem.W.codeRec_of inK code) (bound _ _ _ _ ?_)
  refine wpAny_newFunctionEnv_cells S.kind kinds fun env henv s1 born => ?_
  subst henv
  refine ⟨free.keeps born.toInCall.keep, codeAny_func ?_⟩
  obtain ⟨t, ht, reading⟩ := body cdv st H vs Q (room.deeper _) wish
  refine wpAny_mono (ht.nox.run [] s1 _ H _ (inv_start S room.hd start0 few rel born) reading) (fun flow s2 hs => ?_) fun _ _ hs => hs
  cases flow with
  | ret u =>
    obtain ⟨v, σ2, H2, J, rv, q⟩ := hs
    exact ⟨v, H2, J.os, J.bare, J.base, J.hok, rv, q⟩
  | next =>
    obtain ⟨σ2, H2, J, q⟩ := hs
    exact ⟨.non, H2, J.os, J.bare, J.base, J.hok, rfl, q⟩
  | brk =>
    obtain ⟨_, _, _, no⟩ := hs
    exact no.elim
  | cont =>
    obtain ⟨_, _, _, no⟩ := hs
    exact no.elim
/-- the law's answer, from what its def does in the caller's place -/
theorem law_at {P : Program} {w : World} {K : PySem.W.Frag} {mg mb : Str → Option Value} {fa a : Addr} {fd : FuncData} {x : Str} {sp : Sp} {st : Shared} {vals : List Value} {ns : List Int}
    (inK : K.In st.heap) (glob : st.heap.Ns mainGlobals mg) (blt : st.heap.Ns builtinsNs mb) (bltE : ∀ x : Str, x ≠ "__name__" → mb x = bootBuiltins x) (free : st.heap.NoLimit) (noGens : st.gens = #[])
    (script : st.heap.get? a = some { cls := .type "list", data := .seq vals.toArray }) (ia : IntsAre vals ns) (short : ns.length ≤ sizeLine)
    (runs : ∀ base : Heap, K.In base → base.Ns mainGlobals mg → RunsAt P w K mg base callerA fa fd [x] sp) (binds : ∀ (s : Shared) (u : Value), BindsTo s fd ⟨[u], []⟩ [(x, u)])
    (wish : ∀ H : Hp, Only H → SqL K H a (ns.map V.int) → sp [.ref a] H (fun v _ => v = .bl true) E0) :
    codeAny (model P w) callerA (.call (.ref fa) ⟨[.ref a], []⟩) (fun r s' => r = .ok (.ret (.bool true)) ∧ OldK st.heap s'.heap ∧ s'.os = st.os ∧ AllBare s'.gens) st := by
  have rel := vals_ints ia
  have len := ia.length
  -- H tells of the script alone, or of nothing where the module itself holds it
  have main : ∀ H : Hp, Only H → SqL K H a (ns.map V.int) → HOk P w H st.heap → (∀ b, b ≠ a → H b = none) → (H a ≠ none → K.lookup a = none) →
      codeAny (model P w) callerA (.call (.ref fa) ⟨[.ref a], []⟩) (fun r s' => r = .ok (.ret (.bool true)) ∧ OldK st.heap s'.heap ∧ s'.os = st.os ∧ AllBare s'.gens) st := fun H only sq fits others mine => by
    have dicts : ∀ {b : Addr} {o : Obj} {es : Array DictEntry} {ep : Nat}, st.heap.get? b = some o → o.data = .dict es ep → H b = none := fun {b o es ep} g dd => by
      by_cases same : b = a
      · subst same
        rw [script] at g
        cases g
        exact nomatch (show Data.seq vals.toArray _ = Data.dict es ep from dd)
      · exact others b same
    have seen : ∀ {b : Addr} {m : Str → Option Value}, st.heap.Ns b m → (hidT st.heap H).Ns b m := fun {b m} q => by
      obtain ⟨o, es, ep, g, dd, r⟩ := q
      exact ⟨o, es, ep, hidT_get g (dicts g dd), dd, r⟩
    have kin : K.In (hidT st.heap H) := fun b o look => hidT_get (inK b o look) (by
      by_cases same : b = a
      · subst same
        cases q : H b with
        | none => rfl
        | some u => rw [mine (by rw [q]; exact fun z => nomatch z)] at look; cases look
      · exact others b same)
    have modl : Mod K mg (hidT st.heap H) := ⟨kin, seen glob, ⟨mb, seen blt, bltE⟩, by
      obtain ⟨mc, q1, q2⟩ := free
      exact ⟨mc, seen q1, q2⟩⟩
    have start0 : Env0 P w K mg (hidT st.heap H) callerA [] st H := ⟨rfl, modl, fun b o z => of_hidT z, Nat.le_of_eq (hidT_size _ _), trivial, fun b hb => by simp [frs] at hb, fits, .of_eq noGens⟩
    refine codeAny_mono (runs _ kin (seen glob) st H [.ref a] [.ref a] _ start0 (binds st (.ref a)) (.cons rfl .nil) (wish H only sq)) fun r s2 fin => ?_
    match r, fin with
    | .error _, fin => exact False.elim fin
    | .ok .next, fin => exact False.elim fin
    | .ok .brk, fin => exact False.elim fin
    | .ok .cont, fin => exact False.elim fin
    | .ok (.ret u), fin =>
      obtain ⟨v, H2, os, bare, un, fits2, ru, hv⟩ := fin
      have hv : v = .bl true := hv
      subst hv
      obtain rfl : u = Value.bool true := ru
      refine ⟨rfl, OldK.of_keep fun b o g => ?_, os, bare⟩
      rcases only b with q | ⟨ob, xs, q⟩
      · exact un.keep b o g q (by simp [frs]) (by simp)
      · have old := (fits b _ q).1
        have new := (fits2 b _ (un.frzs b ob _ q)).1
        rw [g] at old
        cases old
        exact new
  cases look : K.lookup a with
  | some o =>
    have g := inK a o look
    rw [script] at g
    cases g
    exact main (fun _ => none) (fun _ => .inl rfl) (.inr ⟨_, vals.toArray, _, look, rfl, rfl, rfl, by rw [List.size_toArray, len]; exact short, by simpa using rel⟩) (fun b u z => nomatch (show (none : Option HO) = some u from z)) (fun _ _ => rfl) fun z => (z rfl).elim
  | none =>
    let H : Hp := fun b => if b = a then some (.frz { cls := .type "list", data := .seq vals.toArray } (.lst (ns.map V.int))) else none
    have ha : H a = some (.frz { cls := .type "list", data := .seq vals.toArray } (.lst (ns.map V.int))) := if_pos rfl
    have hb : ∀ b, b ≠ a → H b = none := fun b ne => if_neg ne
    refine main H (fun b => ?_) (.inl (.inr ⟨_, ha⟩)) (fun b u z => ?_) hb fun _ => look
    · by_cases same : b = a
      · exact .inr ⟨_, _, by rw [same]; exact ha⟩
      · exact .inl (hb b same)
    · by_cases same : b = a
      · subst same
        rw [ha] at z
        cases z
        exact ⟨script, by rw [List.length_map]; exact short, vals, _, rel, script⟩
      · rw [hb b same] at z
        cases z
/-- the goal that the head leaves, from what the law's def does in the caller's place -/
theorem walk_at {l : PySem.W.OpenLaw} {n : Nat} {q : Program} {loose : List Str} {XP : (Str → Option Value) → Heap → Prop} {YP : World → Heap → Prop} {d : DefRec} {K : Params → PySem.W.Frag} {sp : World → Sp} {x : Str}
    (most : l.most = some n) (short : n ≤ sizeLine) (plain : d.params.defaults = []) (written : ∀ (w : World) (h : Heap), YP w h → (K w.params).In h)
    (runs : ∀ (w : World) (mg : Str → Option Value) (fa : Addr) (h : Heap), (K w.params).In h → h.Ns mainGlobals mg → mg d.name = some (.ref fa) →
      ∃ fd : FuncData, (∀ (s : Shared) (u : Value), BindsTo s fd ⟨[u], []⟩ [(x, u)]) ∧ ∀ base : Heap, (K w.params).In base → base.Ns mainGlobals mg → RunsAt l.prog w (K w.params) mg base callerA fa fd [x] (sp w))
    (wish : ∀ (w : World) (H : Hp) (a : Addr) (ns : List Int), ns.length ≤ n → Only H → SqL (K w.params) H a (ns.map V.int) → sp w [.ref a] H (fun v _ => v = .bl true) E0) :
    PySem.W.WalkO q loose XP YP l.row.toRowW d [] (fun f vs => PySem.call f vs) := by
  refine Att.attach_call most plain fun w _ st mg mb fa _ _ _ _ a vals ns G Y _ _ _ named script ia few noGens => ?_
  have inK := written w _ Y
  obtain ⟨fd, binds, r⟩ := runs w mg fa _ inK G.T.g named
  exact law_at inK G.T.g G.T.b G.T.builtins G.T.nolimit noGens script ia (Nat.le_trans few short) r binds fun H only sq => wish w H a ns few only sq
end Pl
/-! text PlH -/
set_option Elab.async false
set_option linter.all false
set_option maxRecDepth 100000
set_option maxHeartbeats 4000000
set_option exponentiation.threshold 5000
/-! PlH: a caught error that outlives its except suite: its object is told of in the heap from the suite's end on. -/
namespace Pl
open PySem PySem.Spec PyProof.Rows L2
/-- at a: an error of the class cls, its own dict at d -/
def Xv (cls : Value) (d : Option Addr) (a : Addr) : HO := .ext fun h => ∃ (oe : Obj) (vs : Array Value), h.get? a = some oe ∧ Zc cls d oe ∧ oe.data = .fields vs
theorem xv_ok {P : Program} {w : World} {H : Hp} {h : Heap} {a : Addr} {cls : Value} {d : Option Addr} {oe : Obj} {vs : Array Value} (he : h.get? a = some oe) (hz : Zc cls d oe) (hd : oe.data = .fields vs) : ObjOk P w H h a (Xv cls d a) :=
  ⟨⟨oe, vs, he, hz, hd⟩, ⟨oe, he⟩, fun h1 h2 p k => by
    obtain ⟨o, us, q1, q2, q3⟩ := p
    exact ⟨o, us, k o q1, q2, q3⟩⟩
section
variable {X : Cx} {pins : List (Addr × Obj)} {σ : L2.St} {H : Hp} {s : Shared}
theorem Inv.hold {a : Addr} {oe : Obj} {vs : Array Value} {cls : Value} {d : Option Addr} (I : Inv X pins σ H s) (he : s.heap.get? a = some oe) (hz : Zc cls d oe) (hd : oe.data = .fields vs) (na : H a = none) (nL : a ≠ X.env.locals) (np : ∀ p ∈ X.pn ++ pins, p.1 ≠ a) (fresh : X.s_0.heap.get? a = none) :
    Inv X pins σ (upd H a (Xv cls d a)) s where
  ok := I.ok
  os := I.os
  bare := I.bare
  base := by
    have out : ∀ {b : Addr} {o : HO}, H b = some o → upd H a (Xv cls d a) b = some o := fun {b o} e => by
      rw [upd_ne fun z => by rw [z, na] at e; cases e]
      exact e
    exact ⟨I.base.keep, I.base.slot, fun b o e n x => by
      rw [upd_ne fun z => by rw [z, fresh] at e; cases e]
      exact I.base.free b o e n x, I.base.there, fun b xs e => out (I.base.tups b xs e), fun b o u e => out (I.base.frzs b o u e), fun b ps e => by
      obtain ⟨more, q⟩ := I.base.tbls b ps e
      exact ⟨more, out q⟩⟩
  loc := I.loc
  cell := I.cell
  free := by
    rw [upd_ne (Ne.symm nL)]
    exact I.free
  freeC := fun x c e => by
    rw [upd_ne fun z => ?_]
    · exact I.freeC x c e
    · obtain ⟨v, o, q1, q2⟩ := I.cell x c e
      rw [z, he] at q1
      cases q1
      rw [hd] at q2
      cases q2
  pin := fun p hp => by
    obtain ⟨q1, q2, q3⟩ := I.pin p hp
    refine ⟨q1, ?_, q3⟩
    rw [upd_ne (np p hp)]
    exact q2
  hok := fun b u e => by
    by_cases z : b = a
    · subst z
      rw [upd_same] at e
      cases e
      exact xv_ok he hz hd
    · rw [upd_ne z] at e
      have out : ∀ {b : Addr} {o : HO}, H b = some o → upd H a (Xv cls d a) b = some o := fun {b o} e => by
        rw [upd_ne fun z => by rw [z, na] at e; cases e]
        exact e
      exact (I.hok b u e).stay (fun _ _ _ q => q) (fun _ q => out q) fun _ _ q => out q
  len := I.len
end
/-- what 'except x as n: suite' asks of every error of the body; behind the suite the error's object is told of -/
def wHold (K : PySem.W.Frag) (c : Value) (i : Nat) (ts : Addr → Value → Option Addr → TS) (Dn : Ends) : WX := fun cls d σ H => PySem.W.exmOne K cls c = some true ∧
  ∀ a, H a = none → ts a cls d { nx := fun σ' H' => Dn.nx (σ'.set i none) (upd H' a (Xv cls d a)), rt := fun _ _ => False } (σ.set i (some (.ref a))) H
section
variable {X : Cx} {x n : Str} {c : Value} {i : Nat} {body suite : List Stmt} {b₀ : Stmt} {np pos pos' : Pos} {tb : WX → TS} {ts : Addr → Value → Option Addr → TS}
theorem ps_try_hold (exE : X.ex = []) (stk : X.stack = X.env :: X.outer) (frm : X.env.frame = some X.env.locals) (nd : X.N.Nodup) (slot : X.N[i]? = some n) (loc : X.env.kindOf n = some .local) (named : Names X x c)
    (bodyP : ∀ (W : WX) (pn : List (Addr × Obj)) (xe : Value → Shared → Prop), Takes (X.tr pn xe) W → PassesOwn (model X.prog X.w) X.A X.env xe → PSs (X.tr pn xe) body (tb W))
    (suiteP : ∀ (a : Addr) (oe : Obj) (cls : Value) (d : Option Addr) (pn : List (Addr × Obj)), Zc cls d oe → (∃ vs, oe.data = .fields vs) → PSs (X.suite a ((a, oe) :: pn)) (b₀ :: suite) (ts a cls d)) :
    PS X (.Try body [.ExceptHandler (some (.Name x np)) (some n) (b₀ :: suite) pos'] [] [] pos) (fun Dn σ H => tb (wHold X.K c i ts Dn) Dn σ H) := by
  constructor
  intro pins s σ H Dn I h
  have ok := I.ok
  have frs0 : X.A.frames = some (X.env :: X.outer) := by rw [ok.frames, stk]
  have locn : Loc X.env.scope n := .inl loc
  refine wpAny_Try_except (wpAny_mono ((bodyP (wHold X.K c i ts Dn) (X.pn ++ pins) (fun e s1 => wpAny (model X.prog X.w) X.A (noteFrame e X.env) (fun _ s2 => wpAny (model X.prog X.w) X.A (setFlight e none) (fun _ s3 =>
    wpAny (model X.prog X.w) X.A (handleBy e X.env [.ExceptHandler (some (.Name x np)) (some n) (b₀ :: suite) pos']) (SP X pins Dn) X.xe s3) X.xe s2) X.xe s1) (fun u s2 air => ?_) PassesOwn.looking).run [] s σ H Dn (I.toTry _) h) (fun fl s1 out => ?_) fun _ _ z => z)
  · obtain ⟨a, B, sI, pins2, σ2, H2, cls, d, rfl, J0, nb, up, sky, na, os, ag, hm, wish⟩ := air
    have J : Inv X pins σ2 H2 sI := J0.ofTry ok
    rw [stk] at sky
    refine Sky.land Zc.steady frs0 frm sky fun h3 fl3 up3 => ?_
    have ground : B.get? a = none := fl3.2.1
    have off : ∀ {h : Heap} {o : Obj} {vs : Array Value}, h.FunFrames B (X.env :: X.outer) → h.get? a = some o → o.data = .fields vs → a ∉ frs (X.env :: X.outer) := fun {h o vs} ff e dd hin => by
      obtain ⟨_, o2, e2, no⟩ := ff.mem hin
      rw [e] at e2
      cases e2
      exact no _ dd
    obtain ⟨oe3, vs3, he3, hz3, hd3⟩ := fl3.there
    have offA := off fl3.2.2.1 he3 hd3
    have newI : sI.heap.get? a = none := by
      cases q : sI.heap.get? a with
      | none => rfl
      | some o =>
        have := nb a o q (by
          show a ∉ frs X.stack
          rw [stk]
          exact offA)
        rw [ground] at this
        cases this
    have new0 : X.s_0.heap.get? a = none := by
      cases q : X.s_0.heap.get? a with
      | none => rfl
      | some o =>
        have hex : a ∉ X.ex := by
          rw [exE]
          simp
        obtain ⟨o2, q2⟩ := J.base.there a o q hex
        rw [newI] at q2
        cases q2
    have J3 : Inv X pins σ2 H2 { s2 with heap := h3 } := J.landed nb fl3.1 (up.trans up3) os ag
    have notL : a ≠ X.env.locals := fun z => offA (List.mem_filterMap.mpr ⟨X.env, List.mem_cons_self, by rw [frm, z]⟩)
    have notF : a ∉ X.fs := fun hin => by
      obtain ⟨e, he, q⟩ := List.mem_filterMap.mp hin
      exact offA (List.mem_filterMap.mpr ⟨e, List.mem_cons_of_mem _ he, q⟩)
    have notP : ∀ p ∈ X.pn ++ pins, p.1 ≠ a := fun p hp z => by
      have := (J.pin p hp).1
      rw [z, newI] at this
      cases this
    have S3 := J3.suite he3 hd3 na notL notF
    refine wpAny_handleBy_cons (codeAny_handlers_test ?_) (fun q => nomatch q)
    have ty : PySem.W.Looks (model X.prog X.w) h3 (typeOf (.ref a)) cls := fun Ar Q E s9 k q => wpAny_typeOf_ref (k _ _ he3) (by
      rw [hz3.1]
      exact q)
    have class_ : ∀ {Q : Value → Shared → Prop} {E : Value → Shared → Prop}, Q c { s2 with heap := h3 } → wpAny (model X.prog X.w) (X.A.mark (some (.ref a))) (eval (.Name x np) X.env) Q E { s2 with heap := h3 } := fun {Q E} q => by
      obtain ⟨g1, g2, g3 | ⟨g3, g4, g5⟩⟩ := named
      · exact ld_glob (X := X.suite a ((a, oe3) :: (X.pn ++ pins))) S3 g1 g3 q g2
      · exact ld_blt (X := X.suite a ((a, oe3) :: (X.pn ++ pins))) S3 g1 g3 g4 q g5 g2
    refine class_ ((PySem.W.exm_one (M := model X.prog X.w) J3.kIn ty hm).here (codeAny_handlers_suite_as ?_))
    refine HandSPX.lands_againZ fl3 fun h4 fl4 up4 => ?_
    have J4 : Inv X pins σ2 H2 { s2 with heap := h4 } := J.landed nb fl4.1 ((up.trans up3).trans up4) os ag
    obtain ⟨oe4, vs4, he4, hz4, hd4⟩ := fl4.there
    refine store_ok (X := X.suite a ((a, oe4) :: (X.pn ++ pins))) (v := .ref a) (J4.suite he4 hd4 na notL notF) nd slot locn rfl (fun s5 S5 => ?_) (.inr loc)
    refine wpAny_mono ((suiteP a oe4 cls d (X.pn ++ pins) hz4 ⟨_, hd4⟩).run [] s5 _ H2 _ S5 (wish a na)) (fun fl s6 out => ?_) (fun _ _ z => False.elim z)
    cases fl with
    | next =>
      obtain ⟨σ6, H6, S6, q6⟩ := out
      have at6 := S6.pin (a, oe4) (List.mem_append_left _ List.mem_cons_self)
      exact gone_ok (Pl.Inv.hold (S6.unsuite ok) at6.1 hz4 hd4 at6.2.1 notL notP new0) nd slot loc fun s7 J7 => ⟨_, _, J7, q6⟩
    | brk =>
      obtain ⟨_, _, _, no⟩ := out
      exact no.elim
    | cont =>
      obtain ⟨_, _, _, no⟩ := out
      exact no.elim
    | ret u =>
      obtain ⟨_, _, _, _, _, no⟩ := out
      exact no.elim
  · cases fl with
    | next =>
      obtain ⟨σ2, H2, J, q⟩ := out
      exact wpAny_execs_nil ⟨σ2, H2, J.ofTry ok, q⟩
    | brk =>
      obtain ⟨σ2, H2, J, q⟩ := out
      exact ⟨σ2, H2, J.ofTry ok, q⟩
    | cont =>
      obtain ⟨σ2, H2, J, q⟩ := out
      exact ⟨σ2, H2, J.ofTry ok, q⟩
    | ret u =>
      obtain ⟨v, σ2, H2, J, r, q⟩ := out
      exact ⟨v, σ2, H2, J.ofTry ok, r, q⟩
end
end Pl
/-! text PlI -/
set_option Elab.async false
set_option linter.all false
set_option maxRecDepth 100000
set_option maxHeartbeats 4000000
set_option exponentiation.threshold 5000
/-! PlI: isinstance of an error that is held as a value (it may have a dict of its own), and its fields. -/
namespace Pl
open PySem PySem.Spec PySem.Calls PyProof.Rows
section
variable {prog : Program} {w : World} {Ar : Around} {Ex : Value → Shared → Prop} {st : Shared} {K : PySem.W.Frag} {x D : Addr} {ox : Obj} {od : Option Obj}
theorem find_dat {C : Addr} {nm : Str} {at1 get1 : Value} (known : (PySem.W.clsIn K C).isSome = true) (has : PySem.W.findIn K (.ref C) nm = some (some at1)) (gets : PySem.W.specialIn K at1 "__get__" = some (some get1)) (takes : PySem.W.takesIn K at1 = some true) :
    PySem.W.findObj K C od nm = some (.bind get1 at1) := by
  obtain ⟨cd, known⟩ := Option.isSome_iff_exists.mp known
  unfold PySem.W.findObj
  simp [known, has, gets, takes]
theorem class_ofX {Qv : Option Value → Shared → Prop} (T : L2.ExcC K D) (inK : K.In st.heap) (inst : PySem.W.InstAt st.heap x ox D od) (fin : Qv (some (.ref D)) { st with toks := st.toks + 1 }) :
    wpAny (model prog w) Ar (getAttr? (.ref x) "__class__") Qv Ex st := by
  have found : PySem.W.findObj K D od "__class__" = some (.bind (.builtin "getset_descriptor.__get__") (.builtin "object.__class__")) := find_dat (by
    obtain ⟨cd, c, _⟩ := PySem.W.any_some T.hd
    rw [c]
    rfl) T.ha T.hn T.ht
  obtain ⟨hp, gl, dr, tk, os⟩ := st
  have look0 := inst.type (M := model prog w)
  have look1 := PySem.W.looks_findIn (M := model prog w) inK T.hg
  have look2 := PySem.W.looks_findIn (M := model prog w) inK T.hk
  have look3 := PySem.W.looks_find (M := model prog w) inK inst found
  have isE : PySem.W.Looks (model prog w) hp (isInstance (.ref x) (.type "BaseException")) true := look0.andThen (PySem.W.looks_subIn inK T.hs)
  have no2 : (Value.builtin "BaseException.__getattribute__" == Value.builtin "object.__getattribute__") = false := by decide +kernel
  have no1 : (onTheHeap (Value.ref D) && Value.builtin "BaseException.__getattribute__" == Value.builtin "object.__getattribute__") = false := (congrArg (fun b => onTheHeap (Value.ref D) && b) no2).trans (Bool.and_false _)
  have no0 : (false && onTheHeap (Value.builtin "BaseException.__getattribute__")) = false := rfl
  unfold getAttr? getAttrBy? getAttrBy
  apply wpAny_bind; apply wpAny_mkText; apply wpAny_bind; apply wpAny_attempt; apply wpAny_holding; apply wpAny_bind
  refine look0.at ?_
  apply wpAny_bind
  refine look1.at ?_
  show wpAny _ _ (if (onTheHeap (Value.ref D) && Value.builtin "BaseException.__getattribute__" == Value.builtin "object.__getattribute__") = true then _ else _) _ _ _
  rw [if_neg (by rw [no1]; exact Bool.false_ne_true)]
  unfold getAttrByItsOwn hookBefore
  apply wpAny_bind
  have onH : onTheHeap (Value.ref D) = true := rfl
  rw [if_pos onH]
  refine look2.at ?_
  apply wpAny_bind; apply wpAny_attempt; apply wpAny_holding
  unfold callGetattribute
  rw [if_neg (by rw [no0]; exact Bool.false_ne_true)]
  unfold boundAndCalled
  rw [PySem.F.excAttr_ValueError.ga.bind (.ref x)]
  apply wpAny_bind; apply wpAny_pure
  show wpAny _ _ (call (.builtin "BaseException.__getattribute__") [.ref x, .str "__class__" tk]) _ _ _
  apply wpAny_call
  refine codeAny_call_builtin PySem.F.excAttr_ValueError.ga.plain PySem.F.entry_bexc_ga (@PySem.W.check_slot (model prog w) _ _ ⟨hp, gl, dr, tk + 1, os⟩ "BaseException.__getattribute__" "BaseException" "__getattribute__" (.ref x) [.str "__class__" tk] [] _ (by decide +kernel) (by decide +kernel) isE (PySem.F.args_bexc_ga (.ref x) (.str "__class__" tk)) ?_)
  unfold Builtin.«object.__getattribute__»
  apply wpAny_bind
  refine wpAny_of_eq (a := ((Value.ref x : Value), [Value.str "__class__" tk])) (by first | rfl | (simp only [slotArgs]; rfl)) ?_
  apply wpAny_bind; apply wpAny_pure; apply wpAny_bind
  refine look0.at ?_
  apply wpAny_bind
  refine look3.at ?_
  show wpAny _ _ (holding [Value.builtin "object.__class__"] (call (.builtin "getset_descriptor.__get__") [.builtin "object.__class__", .ref x, .ref D]) >>= ret) _ _ _
  apply wpAny_bind; apply wpAny_holding; apply wpAny_call
  refine PySem.W.class_get (s := ⟨hp, gl, dr, tk + 1, os⟩) (ox := ox) (od := od) inK inst T.hm ?_
  apply wpAny_pure
  show wpAny _ _ (handedOut (.ref D)) _ _ _
  rw [PySem.W.handedOut_of (v := .ref D) rfl]
  first
    | exact wpAny_pure (wpAny_pure fin)
    | exact wpAny_pure fin
    | exact wpAny_pure (wpAny_bind (wpAny_pure (wpAny_pure fin)))
theorem class_there {K : PySem.W.Frag} {D : Addr} (h : PySem.W.hasDictIn K D = true) : ∃ (cv : Value) (dv : Option Addr) (cd : ClassData) (sl : Array (Option Value)), K.lookup D = some ⟨cv, dv, .cls cd, sl⟩ := by
  obtain ⟨cd, q, _⟩ := PySem.W.any_some h
  unfold PySem.W.clsIn at q
  split at q
  · rename_i cv dv cd2 sl e
    exact ⟨cv, dv, _, sl, e⟩
  · cases q
theorem kitx_errX (T : L2.ExcC K D) : PySem.W.KitX K (.ref x) (.ref D) (fun h => PySem.W.InstAt h x ox D od) where
  ty := fun _ _ _ inst => inst.type
  it := fun _ h inK _ => by
    obtain ⟨cv, dv, cd, sl, e⟩ := class_there T.hd
    intro Ar Qv Ex st k q
    unfold isType loadHead
    exact wpAny_bind (wpAny_loadPart (k _ _ (inK _ _ e)) (wpAny_pure q))
  ne := fun h tp dd its n sl inK at_ => by
    obtain ⟨cv, dv, cd, sl2, e⟩ := class_there T.hd
    cases same : (Value.ref D == Value.ref tp) with
    | false => rfl
    | true =>
      have q : D = tp := Value.ref.inj (beq_iff_eq.mp same)
      subst q
      have z := inK _ _ e
      rw [at_] at z
      cases z
  ca := fun inK inst k => class_ofX T inK inst k
end
end Pl
namespace Pl
open PySem PySem.Spec PyProof.Rows L2
/-- isinstance(e, c), e an error that is held as a value -/
def rIsX (K : PySem.W.Frag) : List V → Hp → VK → Prop := fun xs H Q => ∃ (a D : Addr) (d : Option Addr) (c : V) (u : Value) (b : Bool), xs = [.ref a, c] ∧ ClsV c u ∧ H a = some (Xv (.ref D) d a) ∧ (∀ dd, d = some dd → ∃ fs, H dd = some (.xd fs)) ∧ ExcC K D ∧ PySem.W.kitOne K (.ref D) u = some b ∧ Q (.bl b) H
theorem inst_of {X : Cx} {pins : List (Addr × Obj)} {σ : L2.St} {H : Hp} {s : Shared} {a D : Addr} {d : Option Addr} (I : Inv X pins σ H s) (ha : H a = some (Xv (.ref D) d a)) (hd : ∀ dd, d = some dd → ∃ fs, H dd = some (.xd fs)) : ∃ ox od, PySem.W.InstAt s.heap a ox D od := by
  obtain ⟨⟨oe, vs, e1, e2, e3⟩, _⟩ := I.hok a _ ha
  have no : PySem.W.notCls oe = true := by
    unfold PySem.W.notCls
    rw [e3]
  cases d with
  | none => exact ⟨oe, none, e1, e2.1, no, by rw [e2.2]; trivial⟩
  | some dd =>
    obtain ⟨fs, hx⟩ := hd dd rfl
    obtain ⟨mA, ns, _⟩ := (show ObjOk X.prog X.w H s.heap dd (.xd fs) from I.hok dd _ hx)
    obtain ⟨o, es, ep, q, _⟩ := ns
    exact ⟨oe, some o, e1, e2.1, no, by rw [e2.2]; exact q⟩
theorem call_isX {X : Cx} : CallR X (.builtin "isinstance") (rIsX X.K) := by
  intro pins s σ H xs us Q I r h
  obtain ⟨a, D, d, c, u, b, rfl, cl, ha, hd, T, e, q⟩ := h
  obtain ⟨u1, u2, rfl, r1, r2⟩ := vals2 r
  cases r1
  have e2 := cl.eq r2
  subst e2
  obtain ⟨ox, od, inst⟩ := inst_of I ha hd
  exact PySem.W.kia_one (kitx_errX T) I.kIn inst e (fun z => nomatch z) fun tk => ⟨.bl b, H, I.tok tk, rfl, q⟩
/-- e.f, e an error that is held as a value -/
def tFx (K : PySem.W.Frag) (te : TE) (f : Str) : TE := fun σ H Q => te σ H fun x H1 => ∃ (a D dd : Addr) (fs : List (Str × V)) (v : V), x = .ref a ∧ H1 a = some (Xv (.ref D) (some dd) a) ∧ H1 dd = some (.xd fs) ∧ XfC K D ∧ PySem.W.findIn K (.ref D) f = some none ∧ fs.lookup f = some v ∧ Q v H1
theorem pe_fx {X : Cx} {e : Expr} {te : TE} {pos : Pos} {f : Str} (he : PE X e te) (hb : attributeBase e f X.env (eval e X.env) = eval e X.env := by rfl) : PE X (.Attribute e f pos) (tFx X.K te f) := by
  refine ⟨fun pins s σ H Q I h => attr_of hb (thn (he.run pins s σ H _ I h) fun u s1 z => ?_)⟩
  obtain ⟨x, H1, I1, rx, a, D, dd, fs, v, rfl, ha, hx, T, no, look, q⟩ := z
  obtain rfl : u = Value.ref a := rx
  obtain ⟨⟨oe, vs, e1, e2, e3⟩, _⟩ := I1.hok a _ ha
  obtain ⟨mA, ns, rel⟩ := (show ObjOk X.prog X.w H1 s1.heap dd (.xd fs) from I1.hok dd _ hx)
  obtain ⟨od, at1, look1⟩ := lookIn_ns ns
  obtain ⟨u, hu, ru⟩ := RelO.some_of (v := v) (o := mA f) (by rw [← look]; exact rel f)
  have inst : PySem.W.InstAt s1.heap a oe D (some od) := ⟨e1, e2.1, by unfold PySem.W.notCls; rw [e3], by rw [e2.2]; exact at1⟩
  exact HandSPX.exc_get I1.kIn inst T.ga T.gg T.exC (PySem.W.findObj_own T.hdC no rfl (by rw [look1, hu])) (handed_of ru) ⟨v, H1, I1.tok _, ru, q⟩
end Pl
/-! text PlQ -/
set_option Elab.async false
set_option linter.all false
set_option maxRecDepth 100000
set_option maxHeartbeats 4000000
set_option exponentiation.threshold 5000
/-! PlQ: an instance is made by an __init__ that may raise, where what is wished of the error hangs on the slots (in a try). -/
namespace Pl
open PySem PySem.Spec PyProof.Rows L2
/-- C(e, ..): the instance, or what the slots' wish says of an error -/
def tMakeS (C : Addr) (sp : Sp) (E : L2.St → XK) (t : TA) : TE := fun σ H Q => t σ H fun zs G => ∀ i d, G i = none → G d = none → d ≠ i →
  sp (.ref i :: zs) (upd (upd G d (.own i)) i (.ins C d [])) (fun v G2 => v = .non ∧ Q (.ref i) G2) (E σ)
section
variable {X : Cx} {CX : CXT} {k : Nat} {f C : Addr} {fd : FuncData} {ps : List Str} {sp : Sp} {E : L2.St → XK} {x : Str} {p pos : Pos} {e : Expr} {es : List Expr} {t : TA}
theorem made_at {pins : List (Addr × Obj)} {σ : L2.St} {G : Hp} {st : Shared} {Q : VK} {us : List Value} {zs : List V} (kit : Mk X.K C f) (ini : FnOk X.prog X.w X.K X.mg X.base CX k f fd ps sp) (room : Room (k + 1) X.A) (bnd : Binds X.K fd ps [])
    (out : PassesAt CX X σ (E σ)) (J : Inv X pins σ G st) (rel : Vals zs us)
    (wish : ∀ i d, G i = none → G d = none → d ≠ i → sp (.ref i :: zs) (upd (upd G d (.own i)) i (.ins C d [])) (fun v G2 => v = .non ∧ Q (.ref i) G2) (E σ)) :
    wpAny (model X.prog X.w) X.A (call (.ref C) us) (EP X pins σ Q) X.xe st := by
  have want := wish (st.heap.objs.size + 1) st.heap.objs.size (J.hok.fresh (Nat.le_succ _)) (J.hok.fresh (Nat.le_refl _)) (Nat.ne_of_lt (Nat.lt_succ_self _))
  have J2 := Inv.made (C := C) J
  have rel2 : Vals (V.ref (st.heap.objs.size + 1) :: zs) (Value.ref (st.heap.objs.size + 1) :: us) := .cons rfl rel
  have count : (Value.ref (st.heap.objs.size + 1) :: us).length = ps.length := rel2.length.symm.trans (ini.len _ _ _ _ want)
  have bound := bnd _ (Value.ref (st.heap.objs.size + 1) :: us) J2.kIn (by rw [List.append_nil]; exact count)
  rw [List.append_nil] at bound
  refine wpAny_call (make_map (f := f) J.kIn kit.makes kit.init (beq_iff_eq.mp kit.fn) (codeAny_mono (ini.run _ X.stack _ _ ⟨Value.ref (st.heap.objs.size + 1) :: us, []⟩ (Value.ref (st.heap.objs.size + 1) :: us) _ _ (E σ)
    (room.make C us []) (J2.env0.make C us []) bound rel2 want) fun flow s2 end_ => ?_))
  match flow, end_ with
  | .error u, end_ => exact out pins _ _ u s2 J2 end_
  | .ok (.ret u), end_ =>
    obtain ⟨v, G2, J3, rv, hv, q⟩ := J2.after end_
    subst hv
    exact ⟨rv, ⟨.ref (st.heap.objs.size + 1), G2, J3, rfl, q⟩⟩
  | .ok .next, end_ => exact False.elim end_
  | .ok .brk, end_ => exact False.elim end_
  | .ok .cont, end_ => exact False.elim end_
theorem pe_makeS (kit : Mk X.K C f) (ini : FnOk X.prog X.w X.K X.mg X.base CX k f fd ps sp) (room : Room (k + 1) X.A) (hg : Gl X x) (hm : X.mg x = some (.ref C)) (bnd : Binds X.K fd ps []) (out : ∀ σ, PassesAt CX X σ (E σ))
    (ha : PA X (e :: es) t) (hdb : (x == ("__debug__" : Str)) = false := by decide) (he : starEach (e :: es) X.env = (false, eval e X.env) :: starEach es X.env := by rfl) (hpl : (backTo pos (starEach es X.env)).any (·.1) = false := by rfl) :
    PE X (.Call (.Name x p) (e :: es) [] pos) (tMakeS C sp E t) := ⟨fun pins st σ G Q J h =>
  wpAny_Call_Name_kw (ld_glob J hg hm (PySem.W.callWith_K (h₀ := X.base) J.ok.mod.kin kit.kp (thn (ha.run pos pins st σ G _ J h) fun us s1 z => by
    obtain ⟨zs, G1, J1, rel, q⟩ := z
    exact ⟨J1.kIn, made_at kit ini room bnd (out σ) J1 rel q⟩) he hpl) hdb)⟩
end
end Pl
/-! text PlJ -/
set_option Elab.async false
set_option linter.all false
set_option maxRecDepth 100000
set_option maxHeartbeats 4000000
set_option exponentiation.threshold 5000
/-! PlJ: own instances: != by an own __eq__ alone, == and str by own defs, both answers. -/
namespace Pl
open PySem PySem.Spec PySem.Calls PySem.W PyProof.Rows Builtin
section
variable {prog : Program} {w : World} {A : Around} {E : Value → Shared → Prop} {st : Shared} {K : Frag} {x C L f : Addr} {h₀ : Heap} {m : Str → Option Value} {ox : Obj} {od : Option Obj} {b tb : Value}
/-- a special that the class has from object, called -/
theorem ifBound_B {M : Model} {name : Str} {id : String} {args : List Value} {Q : Option Value → Shared → Prop} (X : K.In st.heap) (I : InstAt st.heap x ox C od) (S : Slot "object" name id) (hs : findIn K (.ref C) name = some (some (.builtin id)))
    (h : wpAny M A (call (.builtin id) (.ref x :: args)) (fun v => Q (some v)) E st) : wpAny M A (callSpecialIfBound? (.ref x) name args) Q E st := by
  unfold callSpecialIfBound? bindSpecialIfBound?
  refine wpAny_holding (wpAny_bind (wpAny_bind (wpAny_bind (I.type.here ((looks_findIn X hs).here ?_)))))
  dsimp only
  rw [S.bind]
  refine wpAny_bind (wpAny_askSetting (wpAny_ite ?_))
  have out : wpAny M A (call (.builtin id) ([.ref x] ++ args) >>= fun v => pure (some v)) Q E st := wpAny_bind (wpAny_mono h (fun _ _ z => wpAny_pure z) fun _ _ z => z)
  split
  · exact wpAny_bind (wpAny_pure (wpAny_pure out))
  · exact wpAny_tryCatch (wpAny_bind (wpAny_pure (wpAny_pure out)))
theorem inst_isObj {M : Model} (X : K.In st.heap) (I : InstAt st.heap x ox C od) (hm : mroIn K C (.type "object") = some true) : Looks M st.heap (isInstance (.ref x) (.type "object")) true := by
  refine I.type.andThen ?_
  exact looks_mroIn X hm
/-- x != b: by the own __eq__, turned -/
theorem ne_own {Q : Value → Shared → Prop} (hu : A.units + 1 < cLine) (F : Fr h₀ L st.heap m) (X₀ : K.In h₀) (I : InstAt st.heap x ox C od) (hb : Looks (model prog w) st.heap (typeOf b) tb) (hn : notFirst K C tb = true)
    (hne : findIn K (.ref C) "__ne__" = some (some (.builtin "object.__ne__"))) (heq : findIn K (.ref C) "__eq__" = some (some (.ref f))) (hf : isFn K (.ref f) = true) (hm : mroIn K C (.type "object") = some true)
    (h : wpAny (model prog w) A.in1 (call (.ref f) [.ref x, b]) (fun v s' => ∃ c, v = .bool c ∧ Q (.bool (!c)) s') E st) : wpAny (model prog w) A (richCompare .NotEq (.ref x) b) Q E st := by
  have X := X₀.keeps F.keep
  have one : wpAny (model prog w) A (tryCompare (.ref x) "__ne__" b) (fun r s' => ∃ v, r = some v ∧ Q v s') E st := by
    unfold tryCompare
    refine wpAny_bind (ifBound_B X I PySem.F.cmp_object.ne hne (wpAny_call (codeAny_call_builtin PySem.F.cmp_object.ne.plain PySem.F.cmpEntry_ne (PySem.W.check_slot PySem.F.cmpKind_ne PySem.F.cmpSplit_ne (inst_isObj X I hm) (PySem.F.cmpArgs_ne _ _) ?_))))
    unfold Builtin.«object.__ne__»
    repeat (first
      | with_reducible refine wpAny_cRoomFor hu ?_
      | (refine wpAny_bind (m := callSpecialIfBound? (.ref x) (Str.ofString "__eq__") [b]) (ifBound_K X I heq hf (wpAny_mono h (fun r s' hr => by
          obtain ⟨c, rfl, hq⟩ := hr
          have z : ∃ v, (Value.bool !c) = v ∧ Q v s' := ⟨_, rfl, hq⟩
          repeat (first | exact ⟨_, rfl, hq⟩ | exact wpAny_pure ⟨_, rfl, hq⟩ | exact wpAny_pure (wpAny_pure ⟨_, rfl, hq⟩) | exact wpAny_truthy_bool hq | (refine wpAny_bind (m := truthy (.bool _)) (wpAny_truthy_bool ?_)) | wp_step)) fun _ _ e => e)))
      | wp_step)
  unfold richCompare
  simp only [oneThing_ref]
  refine wpAny_holding (wpAny_bind (wpAny_cRoomFor (Nat.lt_of_succ_lt hu) ?_))
  refine wpAny_bind (I.type.here (wpAny_bind (hb.here ?_)))
  split
  · rename_i q
    have e : subIn K tb (.ref C) = some false := by
      rcases Bool.or_eq_true_iff.mp hn with e | e
      · rw [beq_iff_eq.mp e] at q; simp at q
      · exact beq_iff_eq.mp e
    refine wpAny_bind ((looks_subIn X e).here ?_)
    simp only [Bool.false_eq_true, if_false]
    refine wpAny_bind (wpAny_mono one (fun r s' z => ?_) fun _ _ e => e)
    obtain ⟨v, rfl, hq⟩ := z
    exact wpAny_pure hq
  · refine wpAny_bind (wpAny_pure ?_)
    simp only [Bool.false_eq_true, if_false]
    refine wpAny_bind (wpAny_mono one (fun r s' z => ?_) fun _ _ e => e)
    obtain ⟨v, rfl, hq⟩ := z
    exact wpAny_pure hq
end
end Pl
/-! text PlJ2 -/
set_option Elab.async false
set_option linter.all false
set_option maxRecDepth 100000
set_option maxHeartbeats 4000000
set_option exponentiation.threshold 5000
/-! PlJ2: the rules: ==, != with an own instance on the left, str of one; what a def of them promises. -/
namespace Pl
open PySem PySem.Spec PyProof.Rows L2
section
variable {X : Cx} {C f : Addr} {fd : FuncData} {ps : List Str} {sp : Sp} {k : Nat}
/-- a def is called one room further in -/
theorem run_in1 {pins : List (Addr × Obj)} {σ : L2.St} {H : Hp} {st : Shared} {A' : Around} {Q : VK} {us : List Value} {vs : List V} (F : FnOk X.prog X.w X.K X.mg X.base CX0 k f fd ps sp) (room : Room k A') (hb : Binds X.K fd ps []) (J : Inv X pins σ H st)
    (env : Env0 X.prog X.w X.K X.mg X.base A' X.stack st H) (r : Vals vs us) (h : sp vs H Q E0) : wpAny (model X.prog X.w) A' (call (.ref f) us) (EP X pins σ Q) X.xe st := by
  have count : us.length = ps.length := r.length.symm.trans (F.len _ _ _ _ h)
  have bound := hb st us J.kIn (by rw [List.append_nil]; exact count)
  rw [List.append_nil] at bound
  refine wpAny_call (codeAny_mono (F.run A' X.stack st H ⟨us, []⟩ us vs Q E0 room env bound r h) fun flow s2 z => ?_)
  match flow, z with
  | .error u, z => exact False.elim z
  | .ok (.ret u), z => exact J.after z
  | .ok .next, z => exact False.elim z
  | .ok .brk, z => exact False.elim z
  | .ok .cont, z => exact False.elim z
def rEqI (K : PySem.W.Frag) (C : Addr) (sp : Sp) : R2 := fun x y H Q => ∃ a dx fs ty, x = .ref a ∧ H a = some (.ins C dx fs) ∧ TyX K H y ty ∧ PySem.W.notFirst K C ty = true ∧ sp [x, y] H (fun v H' => ∃ b, v = .bl b ∧ Q (.bl b) H') E0
def rNeI (K : PySem.W.Frag) (C : Addr) (sp : Sp) : R2 := fun x y H Q => ∃ a dx fs ty, x = .ref a ∧ H a = some (.ins C dx fs) ∧ TyX K H y ty ∧ PySem.W.notFirst K C ty = true ∧ sp [x, y] H (fun v H' => ∃ b, v = .bl b ∧ Q (.bl (!b)) H') E0
theorem op_eqI (F : FnOk X.prog X.w X.K X.mg X.base CX0 k f fd ps sp) (room : Room (k + 1) X.A) (heq : PySem.W.findIn X.K (.ref C) "__eq__" = some (some (.ref f))) (hf : PySem.W.isFn X.K (.ref f) = true) (hb : Binds X.K fd ps []) : OpR X (compareOp .Eq) (rEqI X.K C sp) := by
  intro pins st σ H x y v u Q J rx ry h
  obtain ⟨a, dx, fs, ty, rfl, ha, hy, nf, q⟩ := h
  obtain rfl : v = .ref a := rx
  obtain ⟨mA, O, _⟩ := ins_get J.hok ha
  obtain ⟨od, inst, _⟩ := O.look
  obtain ⟨Pk, kx, pk, _⟩ := kit_of J ry hy
  obtain ⟨m, fr⟩ := J.fr
  have un : X.A.units < cLine := by have := room.un; omega
  show wpAny (model X.prog X.w) X.A (richCompare .Eq (.ref a) u) (EP X pins σ Q) X.xe st
  refine PySem.W.cmp_K (op := .Eq) (tb := ty) un fr J.ok.mod.kin inst (kx.ty _ _ J.kIn pk) nf heq hf (wpAny_mono (run_in1 (vs := [V.ref a, y]) F (room.mono (Nat.le_succ k)) hb J J.env0 (.cons rfl (.cons ry .nil)) q) (fun r s2 z => ?_) fun _ _ z => z)
  obtain ⟨w2, H2, J2, r2, b, rfl, q2⟩ := z
  obtain rfl : r = .bool b := r2
  exact ⟨.bl b, H2, J2, rfl, q2⟩
theorem op_neI (F : FnOk X.prog X.w X.K X.mg X.base CX0 k f fd ps sp) (room : Room (k + 1) X.A) (heq : PySem.W.findIn X.K (.ref C) "__eq__" = some (some (.ref f))) (hne : PySem.W.findIn X.K (.ref C) "__ne__" = some (some (.builtin "object.__ne__"))) (hm : PySem.W.mroIn X.K C (.type "object") = some true)
    (hf : PySem.W.isFn X.K (.ref f) = true) (hb : Binds X.K fd ps []) : OpR X (compareOp .NotEq) (rNeI X.K C sp) := by
  intro pins st σ H x y v u Q J rx ry h
  obtain ⟨a, dx, fs, ty, rfl, ha, hy, nf, q⟩ := h
  obtain rfl : v = .ref a := rx
  obtain ⟨mA, O, _⟩ := ins_get J.hok ha
  obtain ⟨od, inst, _⟩ := O.look
  obtain ⟨Pk, kx, pk, _⟩ := kit_of J ry hy
  obtain ⟨m, fr⟩ := J.fr
  have un : X.A.units + 1 < cLine := by have := room.un; omega
  show wpAny (model X.prog X.w) X.A (richCompare .NotEq (.ref a) u) (EP X pins σ Q) X.xe st
  refine ne_own (tb := ty) un fr J.ok.mod.kin inst (kx.ty _ _ J.kIn pk) nf hne heq hf hm (wpAny_mono (run_in1 (vs := [V.ref a, y]) F room.in1 hb J J.env0.in1 (.cons rfl (.cons ry .nil)) q) (fun r s2 z => ?_) fun _ _ z => z)
  obtain ⟨w2, H2, J2, r2, b, rfl, q2⟩ := z
  obtain rfl : r = .bool b := r2
  exact ⟨b, rfl, .bl (!b), H2, J2, rfl, q2⟩
/-- str(x), x an own instance -/
def rStrI (C : Addr) (sp : Sp) : List V → Hp → VK → Prop := fun xs H Q => ∃ a dx fs, xs = [.ref a] ∧ H a = some (.ins C dx fs) ∧ sp xs H (fun v H' => ∃ z, v = .str z ∧ Q (.str z) H') E0
theorem call_strI (F : FnOk X.prog X.w X.K X.mg X.base CX0 k f fd ps sp) (room : Room (k + 2) X.A) (hs : PySem.W.findIn X.K (.ref C) "__str__" = some (some (.ref f))) (hf : PySem.W.isFn X.K (.ref f) = true) (hb : Binds X.K fd ps []) : CallR X (.type "str") (rStrI C sp) := by
  intro pins st σ H xs us Q J r h
  obtain ⟨a, dx, fs, rfl, ha, q⟩ := h
  obtain ⟨u, rfl, ru⟩ := vals1 r
  obtain rfl : u = .ref a := ru
  obtain ⟨mA, O, _⟩ := ins_get J.hok ha
  obtain ⟨od, inst, _⟩ := O.look
  have un : X.A.in1.in1.units < cLine := by
    have := room.un
    show X.A.units + 1 + 1 < cLine
    omega
  refine PySem.W.kso_call un J.kIn inst hs hf (wpAny_mono (run_in1 (vs := [V.ref a]) F room.in1.in1 hb J J.env0.in1.in1 (.cons rfl .nil) q) (fun r s2 z => ?_) fun _ _ z => z)
  obtain ⟨w2, H2, J2, r2, x, rfl, q2⟩ := z
  obtain ⟨t, rfl⟩ := r2
  exact ⟨.str x, H2, J2, ⟨t, rfl⟩, q2⟩
end
end Pl
/-! text PlM -/
set_option Elab.async false
set_option linter.all false
set_option maxRecDepth 100000
set_option maxHeartbeats 4000000
set_option exponentiation.threshold 5000
/-! PlM: own classes' instances as data: made by an __init__ that fills them or raises, their fields, their properties. -/
namespace Pl
open PySem PySem.Spec PyProof.Rows L2
section
variable {s c a C dx : Addr} {H H' : Hp}
theorem gr_wide (g : Gr [s, c] H H') : Gr [s, c, a] H H' := g.mono fun b hb => by
  rcases List.mem_cons.mp hb with e | hb
  · rw [e]; exact List.mem_cons_self
  · rw [List.mem_singleton.mp hb]; exact List.mem_cons_of_mem _ List.mem_cons_self
theorem gr_store {fs : List (Str × V)} {o : HO} (g : Gr [s, c] H H') (hi : H a = some (.ins C dx fs)) : Gr [s, c, a] H (upd H' a o) := fun b u e m => by
  have ne : b ≠ a := fun z => by
    rw [z, hi] at e
    cases e
    rcases m with m | m
    · exact m (by rw [z]; exact List.mem_cons_of_mem _ (List.mem_cons_of_mem _ List.mem_cons_self))
    · cases m
  rw [upd_ne ne]
  exact (gr_wide g) b u e m
theorem three_sub {M : List Addr} (hm : s ∈ M ∧ c ∈ M) (ha : a ∈ M) : ∀ b ∈ [s, c, a], b ∈ M := fun b hb => by
  rcases List.mem_cons.mp hb with e | hb
  · rw [e]; exact hm.1
  · rcases List.mem_cons.mp hb with e | hb
    · rw [e]; exact hm.2
    · rw [List.mem_singleton.mp hb]; exact ha
theorem gr_all {L M : List Addr} {n : Nat} (g : Gr L H H') (src : Src s c n H') (other : ∀ b ∈ L, b = s ∨ b = c ∨ ∃ o, H' b = some o) (ht : ∀ b ∈ M, ∃ o, H b = some o) : ∀ b ∈ M, ∃ o, H' b = some o := fun b hb => by
  obtain ⟨o, e⟩ := ht b hb
  by_cases q : b ∈ L
  · rcases other b q with z | z | z
    · rw [z]; exact src.s_some
    · rw [z]; exact src.c_some
    · exact z
  · exact ⟨o, g b o e (.inl q)⟩
theorem gr_two {M : List Addr} {n : Nat} (g : Gr [s, c] H H') (src : Src s c n H') (ht : ∀ b ∈ M, ∃ o, H b = some o) : ∀ b ∈ M, ∃ o, H' b = some o := gr_all g src (fun b hb => by
  rcases List.mem_cons.mp hb with e | hb
  · exact .inl e
  · exact .inr (.inl (List.mem_singleton.mp hb))) ht
/-- behind the making of an instance at i, its dict at d -/
theorem gr_made {i d : Addr} {H2 : Hp} {o u : HO} (hd : H d = none) (hi : H i = none) (g : Gr [s, c, i] (upd (upd H d o) i u) H2) : Gr [s, c] H H2 := fun b q e m => by
  have ei : b ≠ i := ne_of_none e hi
  have ed : b ≠ d := ne_of_none e hd
  refine g b q (by rw [upd_ne ei, upd_ne ed]; exact e) ?_
  rcases m with m | m
  · refine .inl fun z => ?_
    rcases List.mem_cons.mp z with z | z
    · exact m (by rw [z]; exact List.mem_cons_self)
    · rcases List.mem_cons.mp z with z | z
      · exact m (by rw [z]; exact List.mem_cons_of_mem _ List.mem_cons_self)
      · exact ei (List.mem_singleton.mp z)
  · exact .inr m
end
theorem putF_new (f : Str) (v : V) : ∀ fs : List (Str × V), f ∉ fs.map (·.1) → putF f v fs = fs ++ [(f, v)]
  | [], _ => rfl
  | (g, u) :: fs, h => by
    have hg : ¬ g = f := fun z => h (by rw [← z]; exact List.mem_cons_self)
    have ih := putF_new f v fs fun z => h (List.mem_cons_of_mem _ z)
    show (if g = f then (g, v) :: fs else (g, u) :: putF f v fs) = _
    rw [if_neg hg, ih]
    rfl
section
variable {K : PySem.W.Frag} {s c a C dx : Addr} {M : List Addr} {n : Nat} {σ : L2.St} {ρ : List Sl} {H : Hp}
theorem ok_now (hm : s ∈ M ∧ c ∈ M) (ht : ∀ b ∈ M, ∃ o, H b = some o) (src : Src s c n H) (sl : SlR K M H ρ σ []) : Ok K s c M H [] ρ n σ H :=
  ⟨hm, fun b hb => .inr (.inr (ht b hb)), src, Gr.refl _ _, fun o ho => by simp at ho, List.nodup_nil, sl⟩
theorem RepL.snoc {l : List D} {xs : List V} {d : D} {v : V} (h : RepL K M H l xs) (r : Rep K M H d v) : RepL K M H (l ++ [d]) (xs ++ [v]) := h.append (RepL.one r)
/-- self.f = e, f not there as yet -/
theorem fld_new {ks : List Str} {l : List D} {fs : List (Str × V)} {te : TE} {f : Str} {d : D} {Dn : Ends} (hm : s ∈ M ∧ c ∈ M) (ht : ∀ b ∈ M, ∃ o, H b = some o) (src : Src s c n H) (sl : SlR K M H ρ σ [])
    (ha : a ∈ M) (nas : a ≠ s) (nac : a ≠ c) (hi : H a = some (.ins C dx fs)) (cl : Cls K C) (no : NoAttr K C f) (hk : fs.map (·.1) = ks) (hl : ks.length < 900) (hf : f ∉ ks) (rl : RepL K M H l (fs.map (·.2))) (h0 : σ[0]? = some (some (.ref a)))
    (he : EvE K s c te ρ n n (fun x => x = d))
    (k : ∀ H' fs', fs'.map (·.1) = ks ++ [f] → Gr [s, c, a] H H' → Src s c n H' → (∀ b ∈ M, ∃ o, H' b = some o) → SlR K M H' ρ σ [] → H' a = some (.ins C dx fs') → RepL K M H' (l ++ [d]) (fs'.map (·.2)) → Dn.nx σ H') : sFld K (tVar 0) te f Dn σ H :=
  he M H [] σ H _ (ok_now hm ht src sl) fun v H1 d' g1 s1 r1 p1 => by
    subst p1
    have ia : H1 a = some (.ins C dx fs) := g1 a _ hi (.inl (not_two nas nac))
    have g3 : Gr [s, c, a] H (upd H1 a (.ins C dx (putF f v fs))) := gr_store g1 hi
    have src' : Src s c n (upd H1 a (.ins C dx (putF f v fs))) := s1.put nas nac
    have gM := g3.mono (three_sub hm ha)
    have lk : fs.length < 1000 := by
      have := congrArg List.length hk
      rw [List.length_map] at this
      omega
    have e : putF f v fs = fs ++ [(f, v)] := putF_new f v fs (by rw [hk]; exact hf)
    have g13 : Gr M H1 (upd H1 a (.ins C dx (putF f v fs))) := fun b u eb m => by
      by_cases z : b = a
      · rw [z, ia] at eb
        cases eb
        rcases m with m | m
        · exact absurd (by rw [z]; exact ha) m
        · cases m
      · rw [upd_ne z]; exact eb
    refine ⟨.ref a, h0, a, C, dx, fs, rfl, ia, cl, no, lk, k _ (putF f v fs) (by rw [e, List.map_append, hk]; rfl) g3 src' (gr_all g3 src' (fun b hb => by
      rcases List.mem_cons.mp hb with e | hb
      · exact .inl e
      · rcases List.mem_cons.mp hb with e | hb
        · exact .inr (.inl e)
        · exact .inr (.inr ⟨_, by rw [List.mem_singleton.mp hb]; exact upd_same⟩)) ht) (sl.imp (fun _ _ r => r.gr gM) (fun _ _ r => r.gr gM) fun o ho => by simp at ho) upd_same ?_⟩
    have e2 : (putF f v fs).map (·.2) = fs.map (·.2) ++ [v] := by rw [e, List.map_append]; rfl
    rw [e2]
    exact (rl.gr gM).append (RepL.one (r1.gr g13))
end
/-- an __init__ on the data ds: it fills the instance (keys ks, data l with val ds l), or raises an error with one field -/
def PrC (K : PySem.W.Frag) (C : Addr) (ks : List Str) (pre : Addr → Addr → List D → Prop) (val : List D → List D → Prop) (bad : List D → Addr → Str → D → Prop) : Sp := fun vs H Q E => ∃ (a dx s c : Addr) (M : List Addr) (n : Nat) (ws : List V) (ds : List D),
  vs = .ref a :: ws ∧ (s ∈ M ∧ c ∈ M) ∧ a ∈ M ∧ a ≠ s ∧ a ≠ c ∧ (∀ b ∈ M, ∃ o, H b = some o) ∧ Src s c n H ∧ n ≤ 2 ^ 40 ∧ H a = some (.ins C dx []) ∧ RepL K M H ds ws ∧ pre s c ds ∧
  (∀ l H' fs, val ds l → Gr [s, c, a] H H' → Src s c n H' → H' a = some (.ins C dx fs) → fs.map (·.1) = ks → RepL K M H' l (fs.map (·.2)) → Q .non H') ∧
  (∀ CE nm e d H' v, bad ds CE nm e → Gr [s, c, a] H H' → Src s c n H' → H' d = none → Rep K M H' e v → E (.ref CE) (some d) (upd H' d (.xd [(nm, v)])))
theorem pass_no {X : Cx} : Passes (L2.CX X.prog X.w) X (fun _ _ _ => False) := fun _ _ _ _ _ _ _ h => by
  obtain ⟨_, _, _, _, _, _, _, _, _, _, _, _, z⟩ := h
  exact z.elim
section
variable {K : PySem.W.Frag} {s c C : Addr} {ρ : List Sl} {n n1 n2 : Nat} {ks : List Str} {pre : Addr → Addr → List D → Prop} {val : List D → List D → Prop} {bad : List D → Addr → Str → D → Prop} {t : TA} {ds : List D}
/-- what PrC asks at a call, from data in a state -/
theorem prc_at {M0 : List Addr} {H0 : Hp} {O : List Addr} {σ : L2.St} {H1 : Hp} {ws : List V} {Q : V → Hp → Prop} {E : XK} {x dx : Addr} (J : Ok K s c M0 H0 O ρ n1 σ H1) (hn : n1 ≤ 2 ^ 40) (rl : RepL K (O ++ M0) H1 ds ws) (hp : pre s c ds) (nx : H1 x = none) (nd : H1 dx = none) (ne : dx ≠ x)
    (good : ∀ l H', val ds l → Gr [s, c] H1 H' → Src s c n1 H' → Rep K (O ++ M0) H' (.ins C ks l) (.ref x) → Q (.ref x) H')
    (err : ∀ CE nm e d H' v, bad ds CE nm e → Gr [s, c] H1 H' → Src s c n1 H' → H' d = none → Rep K (O ++ M0) H' e v → E (.ref CE) (some d) (upd H' d (.xd [(nm, v)]))) :
    PrC K C ks pre val bad (.ref x :: ws) (upd (upd H1 dx (.own x)) x (.ins C dx [])) (fun v H2 => v = .non ∧ Q (.ref x) H2) E := by
  have nx' : upd H1 dx (.own x) x = none := by rw [upd_ne (Ne.symm ne)]; exact nx
  have G0 : Gr (x :: (O ++ M0)) H1 (upd (upd H1 dx (.own x)) x (.ins C dx [])) := (Gr.new nd).trans (Gr.new nx')
  have xs : x ≠ s := fun z => by
    obtain ⟨o, e⟩ := J.src.s_some
    rw [← z, nx] at e
    cases e
  have xc : x ≠ c := fun z => by
    obtain ⟨o, e⟩ := J.src.c_some
    rw [← z, nx] at e
    cases e
  refine ⟨x, dx, s, c, x :: (O ++ M0), n1, ws, ds, rfl, ⟨List.mem_cons_of_mem _ (List.mem_append_right _ J.ms.1), List.mem_cons_of_mem _ (List.mem_append_right _ J.ms.2)⟩, List.mem_cons_self, xs, xc, fun b hb => ?_, (J.src.new nd).new nx', hn, upd_same, (rl.apart nx).gr G0, hp,
    fun l H' fs hv g sr hi hk r => ⟨rfl, good l H' hv (gr_made nd nx g) sr ⟨x, dx, fs, rfl, J.new_out nx, hi, hk, r.mono fun b hb => List.mem_cons_of_mem _ hb⟩⟩,
    fun CE nm e d H' v hb g sr hd r => err CE nm e d H' v hb (gr_made nd nx g) sr hd (r.mono fun b hb => List.mem_cons_of_mem _ hb)⟩
  by_cases e : b = x
  · rw [e]; exact ⟨_, upd_same⟩
  · rcases List.mem_cons.mp hb with z | z
    · exact absurd z e
    · obtain ⟨o, he⟩ := J.thereA b z
      exact ⟨o, by rw [upd_ne e, upd_ne (ne_of_none he nd)]; exact he⟩
/-- C(..) that can't raise -/
theorem ev_makeC {E : XK} (ha : EvA K s c t ρ n n1 (fun l => l = ds)) (hn : n1 ≤ 2 ^ 40) (hp : pre s c ds) (hb : ∀ CE nm e, ¬ bad ds CE nm e) :
    EvE K s c (tMake C (PrC K C ks pre val bad) [] E t) ρ n n1 (fun d => ∃ l, val ds l ∧ d = .ins C ks l) := fun M0 H0 O σ H Q I k =>
  ha M0 H0 O σ H _ I fun vs H1 l g1 s1 rl e => by
    subst e
    intro x dx nx nd ne
    rw [List.append_nil]
    exact prc_at (I.next g1 s1) hn rl hp nx nd ne (fun m H' hv g sr r => k (.ref x) H' _ (g1.trans g) sr r ⟨m, hv, rfl⟩) fun CE nm e _ _ _ z => (hb CE nm e z).elim
/-- try: x = C(..) except E as y: suite -/
theorem s_tryMake {D : Pn} {cE : Value} {i j : Nat} {ts : Addr → Value → Option Addr → TS} {Wout : WX} (ha : EvA K s c t ρ n n1 (fun l => l = ds)) (hn : n1 ≤ 2 ^ 40) (hp : pre s c ds) (oj : isOw ρ[j]? = false) (oi : isOw ρ[i]? = false)
    (good : ∀ l, val ds l → D.nx (ρ.set j (.va (.ins C ks l))) n1)
    (err : ∀ CE nm e, bad ds CE nm e → PySem.W.exmOne K (.ref CE) cE = some true ∧ ∀ x d, EvS K s c (ts x (.ref CE) (some d)) (ρ.set i (.va (.obj x))) n1 ⟨fun ρ' m => isOw ρ'[i]? = false ∧ D.nx (ρ'.set i .no) m, D.rt, fun _ _ => False, fun _ _ => False⟩) :
    EvS K s c (fun Dn σ H => tAsg (tMakeS C (PrC K C ks pre val bad) (WE (wAs K cE i ts Wout Dn)) t) (gName j) Dn σ H) ρ n D := fun M0 H0 O σ H Dn I G =>
  ha M0 H0 O σ H _ I fun vs H1 l g1 s1 rl e => by
    subst e
    intro x dx nx nd ne
    have J := I.next g1 s1
    refine prc_at (Q := fun v H' => gName j v σ H' Dn.nx) J hn rl hp nx nd ne (fun m H' hv g sr r => ?_) fun CE nm e d H' v hb g sr hd r => ?_
    · exact eg_name oj M0 H0 O n1 σ H' (.ref x) _ (J.next g sr) r fun σ2 J2 _ => G.nx O _ n1 σ2 H' J2 (good m hv)
    · obtain ⟨ex, suite⟩ := err CE nm e hb
      refine ⟨true, ex, fun _ a ha' => ?_, fun q => nomatch q⟩
      have J3 := (J.next g sr).next (Gr.new (o := .xd [(nm, v)]) hd) (sr.new hd)
      refine eg_name (d := .obj a) oi M0 H0 O n1 σ _ (.ref a) (fun σ' H'' => ts a (.ref CE) (some d) { nx := fun σ' H' => Dn.nx (σ'.set i none) H', rt := Dn.rt, bk := fun σ' H' => Dn.bk (σ'.set i none) H', ct := fun σ' H' => Dn.ct (σ'.set i none) H' } σ' H'') J3 rfl fun σ2 J4 _ => ?_
      refine suite a d M0 H0 O σ2 _ _ J4 ⟨fun O' ρ' n' σ' H'' J5 q => ?_, G.rt, fun _ _ _ _ _ _ q => q.elim, fun _ _ _ _ _ _ q => q.elim⟩
      exact G.nx O' _ n' _ H'' ⟨J5.ms, J5.tr, J5.src, J5.gr, J5.fr, J5.nd, J5.sl.off q.1⟩ q.2
/-- a field of an instance, by its property -/
theorem ins_field {M : List Addr} {H : Hp} {l : List D} {v : V} {f : Str} {d : D} (r : Rep K M H (.ins C ks l) v) (e : (ks.zip l).lookup f = some d) : ∃ a dx fs u, v = .ref a ∧ H a = some (.ins C dx fs) ∧ fs.lookup f = some u ∧ Rep K M H d u := by
  obtain ⟨a, dx, fs, rfl, _, hi, hk, rl⟩ := r
  subst hk
  refine ⟨a, dx, fs, ?_⟩
  suffices z : ∃ u, fs.lookup f = some u ∧ Rep K M H d u by
    obtain ⟨u, h1, h2⟩ := z
    exact ⟨u, rfl, hi, h1, h2⟩
  clear hi
  induction fs generalizing l with
  | nil => simp at e
  | cons p fs ih =>
    obtain ⟨g, w⟩ := p
    cases l with
    | nil => exact rl.elim
    | cons x l =>
      have e' : List.lookup f ((g, x) :: ((fs.map (·.1)).zip l)) = some d := e
      rw [List.lookup_cons] at e'
      rw [List.lookup_cons]
      cases q : (f == g) with
      | true =>
        rw [q] at e'
        cases e'
        exact ⟨w, rfl, rl.1⟩
      | false =>
        rw [q] at e'
        exact ih rl.2 e'
theorem ev_prop {te : TE} {E : XK} {l : List D} {f : Str} {d : D} (h : EvE K s c te ρ n n1 (fun x => x = .ins C ks l)) (e : (ks.zip l).lookup f = some d) : EvE K s c (tProp C (getSp C f) [] E te) ρ n n1 (fun x => x = d) := fun M0 H0 O σ H Q I k =>
  h M0 H0 O σ H _ I fun v H1 x g1 s1 r1 p => by
    subst p
    obtain ⟨a, dx, fs, u, rfl, hi, hl, ru⟩ := ins_field r1 e
    exact ⟨a, dx, fs, rfl, hi, a, dx, fs, u, rfl, hi, hl, k u H1 d g1 s1 ru rfl⟩
theorem ev_fldI {te : TE} {l : List D} {f : Str} {d : D} (h : EvE K s c te ρ n n1 (fun x => x = .ins C ks l)) (cl : Cls K C) (no : NoAttr K C f) (e : (ks.zip l).lookup f = some d) : EvE K s c (tFld K te f) ρ n n1 (fun x => x = d) := fun M0 H0 O σ H Q I k =>
  h M0 H0 O σ H _ I fun v H1 x g1 s1 r1 p => by
    subst p
    obtain ⟨a, dx, fs, u, rfl, hi, hl, ru⟩ := ins_field r1 e
    exact ⟨a, C, dx, fs, u, rfl, hi, cl, no, hl, k u H1 d g1 s1 ru rfl⟩
end
end Pl
/-! text PlZ -/
set_option Elab.async false
set_option linter.all false
set_option maxRecDepth 100000
set_option maxHeartbeats 4000000
set_option exponentiation.threshold 5000
/-! PlZ: methods of texts (split, partition, words, strip), stars in displays, slices of texts. -/
namespace Pl
open PySem PySem.Spec PyProof.Rows L2
def rSplitS : V → List V → Hp → VK → Prop := fun x xs H Q => ∃ a b, x = .str a ∧ xs = [.str b] ∧ (b.length == 0) = false ∧ a.length + 2 ≤ sizeLine ∧ rNewStrs (Txt.split a b) H Q
def rWordsS : V → List V → Hp → VK → Prop := fun x xs H Q => ∃ a, x = .str a ∧ xs = [] ∧ a.length + 2 ≤ sizeLine ∧ rNewStrs (Txt.words a) H Q
def rPartS : V → List V → Hp → VK → Prop := fun x xs H Q => ∃ a b, x = .str a ∧ xs = [.str b] ∧ (b.length == 0) = false ∧ a.length ≤ sizeLine ∧
    ∀ p, H p = none → Q (.ref p) (upd H p (.tup [.str (Txt.partition a b).1, .str (Txt.partition a b).2.1, .str (Txt.partition a b).2.2]))
def rStripS : V → List V → Hp → VK → Prop := fun x xs H Q => ∃ a, x = .str a ∧ xs = [] ∧ a.length ≤ sizeLine ∧ Q (.str (Txt.strip a)) H
section
variable {X : Cx}
theorem k_star {K : PySem.W.Frag} {e : Expr} {es : List Expr} {te : TE} {t : TA} {p : Pos} (he : PE X e te) (hr : PA X es t) (hs : starEach (.Starred e p :: es) X.env = (true, eval e X.env) :: starEach es X.env := by rfl) (h : X.K = K := by rfl) : PA X (.Starred e p :: es) (StX.tStar K te t) := by subst h; exact StX.pa_star he hr hs
theorem ms_split : MtR X "str.split" rSplitS := mt_split
theorem ms_words : MtR X "str.split" rWordsS := mt_words
theorem ms_part : MtR X "str.partition" rPartS := mt_partition
theorem ms_strip : MtR X "str.strip" rStripS := mt_strip
end
section
variable {K : PySem.W.Frag} {s c : Addr} {ρ : List Sl} {n n1 n2 n3 : Nat} {te to : TE}
theorem repS_out {M : List Addr} {n : Nat} {H : Hp} (hm : s ∈ M ∧ c ∈ M) (ht : ∀ a ∈ M, ∃ o, H a = some o) {p : Addr} (hp : H p = none) : p ∉ M := fun z => by
  obtain ⟨o, e⟩ := ht p z
  rw [hp] at e
  cases e
theorem mk_split {a b : Str} (hb : (b.length == 0) = false) (ha : a.length + 2 ≤ sizeLine) : MK K s c "str" rSplitS (.str a) [.str b] (.lst (dStrs (Txt.split a b))) := ⟨ty_str, fun M n v vs H Q hm ht hs rx r k => by
  obtain ⟨u, rfl, ru⟩ := r.inv1
  exact ⟨a, b, rx, by rw [show u = .str b from ru], hb, ha, fun p hp => k (.ref p) _ (Gr.new hp) (hs.new hp) ⟨p, _, rfl, repS_out (n := n) hm ht hp, upd_same, rep_dStrs _⟩⟩⟩
theorem mk_words {a : Str} (ha : a.length + 2 ≤ sizeLine) : MK K s c "str" rWordsS (.str a) [] (.lst (dStrs (Txt.words a))) := ⟨ty_str, fun M n v vs H Q hm ht hs rx r k => by
  cases vs with
  | cons u us => exact r.elim
  | nil => exact ⟨a, rx, rfl, ha, fun p hp => k (.ref p) _ (Gr.new hp) (hs.new hp) ⟨p, _, rfl, repS_out (n := n) hm ht hp, upd_same, rep_dStrs _⟩⟩⟩
theorem mk_part {a b : Str} (hb : (b.length == 0) = false) (ha : a.length ≤ sizeLine) : MK K s c "str" rPartS (.str a) [.str b] (.tup (dStrs [(Txt.partition a b).1, (Txt.partition a b).2.1, (Txt.partition a b).2.2])) := ⟨ty_str, fun M n v vs H Q hm ht hs rx r k => by
  obtain ⟨u, rfl, ru⟩ := r.inv1
  exact ⟨a, b, rx, by rw [show u = .str b from ru], hb, ha, fun p hp => k (.ref p) _ (Gr.new hp) (hs.new hp) ⟨p, _, rfl, .inl (.inl upd_same), rep_dStrs [_, _, _]⟩⟩⟩
theorem mk_strip {a : Str} (ha : a.length ≤ sizeLine) : MK K s c "str" rStripS (.str a) [] (.str (Txt.strip a)) := ⟨ty_str, fun M n v vs H Q hm ht hs rx r k => by
  cases vs with
  | cons u us => exact r.elim
  | nil => exact ⟨a, rx, rfl, ha, k _ H (Gr.refl _ _) hs rfl⟩⟩
theorem ev_methK {T : String} {r : V → List V → Hp → VK → Prop} {t : TA} {x z : D} {l : List D} (ho : EvE K s c to ρ n n1 (fun d => d = x)) (ha : EvA K s c t ρ n1 n2 (fun m => m = l)) (hr : MK K s c T r x l z) : EvE K s c (tBM K T r to t) ρ n n2 (fun d => d = z) :=
  ev_methP ho ha (fun x' l' e1 e2 => ⟨z, by rw [e1, e2]; exact hr, rfl⟩) fun x' e => by rw [e]; exact hr.1
theorem ev_meth0K {T : String} {r : V → List V → Hp → VK → Prop} {x z : D} (ho : EvE K s c to ρ n n1 (fun d => d = x)) (hr : MK K s c T r x [] z) : EvE K s c (tBM0 K T r to) ρ n n1 (fun d => d = z) := fun M0 H0 O σ H Q I k =>
  ho M0 H0 O σ H _ I fun v H1 d g1 s1 r1 p => by
    subst p
    exact ⟨hr.1 _ H1 v r1, hr.2 (O ++ M0) n1 v [] H1 Q ⟨List.mem_append_right _ I.ms.1, List.mem_append_right _ I.ms.2⟩ (I.next g1 s1).thereA s1 r1 trivial fun u H2 g2 s2 r2 => k u H2 z (g1.trans g2) s2 r2 rfl⟩
theorem RepL.join : ∀ {l m : List D} {xs ys : List V} {M : List Addr} {H : Hp}, RepL K M H l xs → RepL K M H m ys → RepL K M H (l ++ m) (xs ++ ys) := fun h k => h.append k
/-- *xs, e, .. in a display or a call -/
theorem ea_star {t : TA} {d : D} {l m : List D} (h : EvE K s c te ρ n n1 (fun x => x = d)) (e : seqD d = some l) (ht : EvA K s c t ρ n1 n2 (fun x => x = m)) : EvA K s c (StX.tStar K te t) ρ n n2 (fun x => x = l ++ m) := fun M0 H0 O σ H Q I k =>
  h M0 H0 O σ H _ I fun v H1 x g1 s1 r1 p => by
    subst p
    obtain ⟨a, xs, rfl, sq, rl⟩ := rep_seq e r1
    refine ⟨a, xs, rfl, sq.symm, ht M0 H0 O σ H1 _ (I.next g1 s1) fun ws H2 m' g2 s2 r2 q => ?_⟩
    subst q
    exact k _ H2 _ (g1.trans g2) s2 ((rl.gr (g2.mono I.sub)).append r2) rfl
end
theorem tl_of (z : Str) : TL.tl z = z.cps.toList := rfl
theorem small_s {a : Str} (h : a.length ≤ 100000) : a.length + 2 ≤ sizeLine := by
  have : sizeLine = 16777216 := sizeLine_eq
  omega
end Pl
/-! text PlTx -/
set_option Elab.async false
set_option linter.all false
set_option maxRecDepth 100000
set_option maxHeartbeats 4000000
set_option exponentiation.threshold 5000
/-! PlTx: the signs of parts of a text are signs of the text. -/
namespace Pl
open PySem PySem.Spec PyProof.Rows L2
def SubT (a x : Str) : Prop := ∀ q ∈ TL.tl a, q ∈ TL.tl x
theorem SubT.trans {a b x : Str} (h : SubT a b) (k : SubT b x) : SubT a x := fun q hq => k q (h q hq)
theorem SubT.ok {a x : Str} (h : SubT a x) (k : PyData.strOk x = true) : PyData.strOk a = true := by
  unfold PyData.strOk at k ⊢
  rw [← Array.all_toList, List.all_eq_true] at k ⊢
  exact fun q hq => k q (h q hq)
theorem sub_sub (x : Str) (i j : Nat) : SubT (PySem.Builtin.Str.strSub x i j) x := fun q hq => by
  rw [TL.tl_strSub] at hq
  exact List.mem_of_mem_drop (List.mem_of_mem_take hq)
theorem sub_strip (x : Str) : SubT (Txt.strip x) x := by
  unfold Txt.strip Txt.stripBy
  split
  · exact fun q hq => hq
  · unfold PySem.stripped
    exact sub_sub x _ _
theorem sub_part (x y : Str) : SubT (Txt.partition x y).1 x ∧ SubT (Txt.partition x y).2.2 x := by
  unfold Txt.partition
  split
  · exact ⟨sub_sub x _ _, sub_sub x _ _⟩
  · exact ⟨fun q hq => hq, fun q hq => by cases hq⟩
theorem wfin_mem : ∀ (l : List Nat) (st : List (List Nat) × List Nat) (p : List Nat) (q : Nat), p ∈ TL.wfin (l.foldl TL.wstep st) → q ∈ p → q ∈ l ∨ (∃ w ∈ st.1, q ∈ w) ∨ q ∈ st.2
  | [], st, p, q, hp, hq => by
    have hp : p ∈ TL.wfin st := hp
    unfold TL.wfin at hp
    split at hp
    · exact .inr (.inl ⟨p, hp, hq⟩)
    · rcases List.mem_append.mp hp with h | h
      · exact .inr (.inl ⟨p, h, hq⟩)
      · rw [List.mem_singleton.mp h] at hq
        exact .inr (.inr hq)
  | c :: l, st, p, q, hp, hq => by
    rw [List.foldl_cons] at hp
    rcases wfin_mem l _ p q hp hq with h | ⟨w, h1, h2⟩ | h
    · exact .inl (List.mem_cons_of_mem _ h)
    · unfold TL.wstep at h1
      split at h1
      · split at h1
        · exact .inr (.inl ⟨w, h1, h2⟩)
        · rcases List.mem_append.mp h1 with h | h
          · exact .inr (.inl ⟨w, h, h2⟩)
          · rw [List.mem_singleton.mp h] at h2
            exact .inr (.inr h2)
      · exact .inr (.inl ⟨w, h1, h2⟩)
    · unfold TL.wstep at h
      split at h
      · split at h
        · exact .inr (.inr h)
        · cases h
      · rcases List.mem_append.mp h with h | h
        · exact .inr (.inr h)
        · rw [List.mem_singleton.mp h]
          exact .inl List.mem_cons_self
theorem sub_words {x a : Str} (h : a ∈ Txt.words x) : SubT a x := fun q hq => by
  have e : TL.tl a ∈ (Txt.words x).map TL.tl := List.mem_map.mpr ⟨a, h, rfl⟩
  rw [TL.words_tl] at e
  rcases wfin_mem _ _ _ q e hq with h | ⟨w, h1, _⟩ | h
  · exact h
  · cases h1
  · cases h
theorem spl_mem (S : List Nat) : ∀ (l : List Nat) (k : Nat) (acc p : List Nat) (q : Nat), p ∈ TL.spl S k acc l → q ∈ p → q ∈ l ∨ q ∈ acc
  | [], k, acc, p, q, hp, hq => by
    rw [TL.spl_nil, List.mem_singleton] at hp
    rw [hp] at hq
    exact .inr hq
  | c :: l, 0, acc, p, q, hp, hq => by
    cases h : TL.pre S (c :: l) with
    | true =>
      rw [TL.spl_hit h] at hp
      rcases List.mem_cons.mp hp with e | hp
      · rw [e] at hq; exact .inr hq
      · rcases spl_mem S l _ _ p q hp hq with h | h
        · exact .inl (List.mem_cons_of_mem _ h)
        · cases h
    | false =>
      rw [TL.spl_miss h] at hp
      rcases spl_mem S l _ _ p q hp hq with h | h
      · exact .inl (List.mem_cons_of_mem _ h)
      · rcases List.mem_append.mp h with h | h
        · exact .inr h
        · rw [List.mem_singleton.mp h]
          exact .inl List.mem_cons_self
  | c :: l, k + 1, acc, p, q, hp, hq => by
    rcases spl_mem S l k acc p q hp hq with h | h
    · exact .inl (List.mem_cons_of_mem _ h)
    · exact .inr h
theorem sub_split {x y a : Str} (hy : TL.tl y ≠ []) (hk : y.cps.all (· < 256) = true) (h : a ∈ Txt.split x y) : SubT a x := fun q hq => by
  have e : TL.tl a ∈ (Txt.split x y).map TL.tl := List.mem_map.mpr ⟨a, h, rfl⟩
  rw [TL.split_spl x y hy (TL.kind_ok hk)] at e
  rcases spl_mem _ _ _ _ _ q e hq with h | h
  · exact h
  · cases h
end Pl
/-! text PlN2 -/
set_option Elab.async false
set_option linter.all false
set_option maxRecDepth 100000
set_option maxHeartbeats 4000000
set_option exponentiation.threshold 5000
/-! PlN2: errors raised where none is handled (their context is None), so that a suite may raise another from None; an own class called by a local name (cls). -/
namespace Pl
open PySem PySem.Spec PyProof.Rows L2
section
variable {X : Cx} {CX' : CXT} {x : Str} {e : Expr} {es : List Expr} {ta : TA} {p pos : Pos} {C fI : Addr} {k : Nat} {fd : FuncData} {ps : List Str} {sp : Sp}
/-- C(e, ..), an own error by its own __init__, made where nothing is handled -/
theorem pmk_oexN (own : OexC X.K C) (ini : PySem.W.findIn X.K (.ref C) "__init__" = some (some (.ref fI))) (fnI : PySem.W.typeIn X.K (.ref fI) = some (.type "function")) (Fi : FnOk X.prog X.w X.K X.mg X.base CX' k fI fd ps sp) (room : Room (k + 1) X.A)
    (bnd : Binds X.K fd ps []) (none_ : Passes CX' X (fun _ _ _ => False)) (hg : Gl X x) (hm : X.mg x = some (.ref C)) (ha : PA X (e :: es) ta)
    (hdb : (x == ("__debug__" : Str)) = false := by decide) (he : starEach (e :: es) X.env = (false, eval e X.env) :: starEach es X.env := by rfl) (hpl : (backTo pos (starEach es X.env)).any (·.1) = false := by rfl) :
    L2N.PMk X (.Call (.Name x p) (e :: es) [] pos) (tMkO C sp [] ta) := fun pins st σ G Q J h => by
  obtain ⟨n1, n2, n3, n4, bm, n5, n6, n7, n8, n9, m0, m1, m2, m3, m5, lookC, refs⟩ := own.cls
  refine wpAny_Call_Name_kw (ld_glob J hg hm (PySem.W.callWith_K (h₀ := X.base) J.ok.mod.kin own.kC (thn (ha.run pos pins st σ G _ J h) fun us s1 z => ?_) he hpl) hdb)
  obtain ⟨zs, G1, J1, rel, few, more⟩ := z
  refine ⟨J1.kIn, ?_⟩
  obtain ⟨hp, gs, dr, tk, os⟩ := s1
  have next : hp.objs.size ≤ hp.objs.size + 1 := Nat.le_succ _
  have want := more (hp.objs.size + 1) (J1.hok.fresh next)
  rw [List.append_nil] at want
  have old : ∀ b o, hp.get? b = some o → ((hp.push (PySem.W.kdv_tup us)).push (PySem.HandSPX.excO C hp.objs.size)).get? b = some o := fun b o z => Heap.get?_push_of_some _ (Heap.get?_push_of_some _ z)
  have there : ((hp.push (PySem.W.kdv_tup us)).push (PySem.HandSPX.excO C hp.objs.size)).get? (hp.objs.size + 1) = some (PySem.HandSPX.excO C hp.objs.size) := by heap_get
  have J2 : Inv X pins σ (upd G1 (hp.objs.size + 1) (exo (hp.objs.size + 1) C none)) ⟨(hp.push (PySem.W.kdv_tup us)).push (PySem.HandSPX.excO C hp.objs.size), gs, dr, tk, os⟩ := J1.laid (t' := tk) old next (exo_ok there)
  have rel2 : Vals (V.ref (hp.objs.size + 1) :: zs) (Value.ref (hp.objs.size + 1) :: us) := .cons rfl rel
  have count : (Value.ref (hp.objs.size + 1) :: us).length = ps.length := rel2.length.symm.trans (Fi.len _ _ _ _ want)
  have bound := bnd _ (Value.ref (hp.objs.size + 1) :: us) J2.kIn (by rw [List.append_nil]; exact count)
  rw [List.append_nil] at bound
  have line : us.length ≤ sizeLine := by
    have := Paired.length rel
    rw [sizeLine_eq]
    omega
  refine wpAny_call (PySem.HandSPX.call_own F.excBase_ValueError (fun Y => PySem.HandSPX.refsVE_contains Y bm refs) (J1.kIn _ _ lookC) (PySem.W.looks_findIn J1.kIn ini) (fun self => PySem.W.bind_fn J1.kIn self fnI) line
    (codeAny_mono (Fi.run _ X.stack _ _ ⟨Value.ref (hp.objs.size + 1) :: us, []⟩ (Value.ref (hp.objs.size + 1) :: us) _ _ (fun _ _ _ => False) (room.make C us []) (J2.env0.make C us []) bound rel2 want) fun flow s2 fin => ?_))
  match flow, fin with
  | .error u, fin => exact none_ pins σ _ _ u s2 J2 fin
  | .ok .next, fin => exact False.elim fin
  | .ok .brk, fin => exact False.elim fin
  | .ok .cont, fin => exact False.elim fin
  | .ok (.ret u), fin =>
    obtain ⟨v, G2, os2, bare2, un2, ok2, rv, ev, d, fs, ea, ed, nd, q⟩ := fin
    subst ev
    obtain ⟨h2, g2, d2, t2, os'⟩ := s2
    obtain ⟨t0, B, J3, kB, gone, at_, na⟩ := mk_end0 (d2 := d2) (t2 := t2) J1 next old un2 ok2 os2 bare2 ea ed nd
    exact ⟨rv, hp.objs.size + 1, _, _, ⟨B, g2, d2, t2, os'⟩, _, .ref C, some d, rfl, J3, kB, gone, at_, ⟨rfl, rfl, fun vs hv => by cases hv; rfl⟩, rfl, rfl, na, rfl, bare2, raises_own own.exC own.tyC, q⟩
end
section
variable {P : Program} {w : World} {K : PySem.W.Frag} {mg : Str → Option Value} {base : Heap}
/-- a def that may raise, where nothing is handled -/
theorem okN {x qual : Str} {dst : Stmt} {f : Addr} {fd : FuncData} {N ps : List Str} {k : Nat} {sp : Sp} (F : Fun K x qual dst f fd) (S : FnScope N ps (defScope dst)) (len : ∀ vs H Q E, sp vs H Q E → vs.length = ps.length)
    (body : ∀ (cdv : Value) (A : Around) (outer : List Env) (st : Shared) (H : Hp) (vs : List V) (Q : VK) (E : XK), Room k (A.deeper (envOfC qual (defScope dst) st.heap.objs.size f cdv)) → sp vs H Q E →
      ∃ t, PSs (cxOf (L2N.CX P w) P w K mg base N qual (defScope dst) f cdv A outer st H E) (defBody dst) t ∧ t { nx := fun _ H' => Q .non H', rt := Q } (L2.start N vs) H) : FnOk P w K mg base (L2N.CX P w) (k + 1) f fd ps sp := by
  obtain ⟨oc, od, kV, doc, pm, an, cdv, ct, osl, rfl, look, code⟩ := F.ex
  exact fn_of look code S len fun A outer st H vs Q E room wish => body cdv A outer st H vs Q E room wish
theorem cxN_cx {outer : List Env} {H : Hp} {st s' : Shared} {E : XK} {u : Value} (h : L2N.CX P w outer H st E u s') : L2.CX P w outer H st E u s' := by
  obtain ⟨a, B, H', cls, d, rfl, fl, r⟩ := h
  exact ⟨a, B, H', cls, d, rfl, L2H.flyingZ_imp (fun o z => z.zc) fl, r⟩
/-- .. is one that may raise -/
theorem fnN_fn {f : Addr} {fd : FuncData} {ps : List Str} {k : Nat} {sp : Sp} (F : FnOk P w K mg base (L2N.CX P w) k f fd ps sp) : FnOk P w K mg base (L2.CX P w) k f fd ps sp :=
  ⟨F.len, fun A outer st H args us vs Q E room env bnd rel wish => codeAny_mono (F.run A outer st H args us vs Q E room env bnd rel wish) fun r s' z => by
    match r, z with
    | .error u, z => exact cxN_cx z
    | .ok (.ret u), z => exact z
    | .ok .next, z => exact z
    | .ok .brk, z => exact z
    | .ok .cont, z => exact z⟩
end
section
variable {X : Cx} {CX' : CXT} {k i : Nat} {f C : Addr} {fd : FuncData} {ps : List Str} {sp : Sp} {E : L2.St → XK} {x : Str} {p pos : Pos} {e : Expr} {es : List Expr} {t : TA}
/-- cls(e, ..), the class in slot i -/
def tMakeL (i : Nat) (C : Addr) (sp : Sp) (E : L2.St → XK) (t : TA) : TE := fun σ H Q => σ[i]? = some (some (.ref C)) ∧ tMakeS C sp E t σ H Q
theorem pe_makeL (kit : Mk X.K C f) (ini : FnOk X.prog X.w X.K X.mg X.base CX' k f fd ps sp) (room : Room (k + 1) X.A) (hN : X.N[i]? = some x) (hv : Vis X.env.scope x) (bnd : Binds X.K fd ps []) (out : ∀ σ, PassesAt CX' X σ (E σ))
    (ha : PA X (e :: es) t) (hdb : (x == ("__debug__" : Str)) = false := by decide) (hcd : (x == ("__classdict__" : Str)) = false := by decide) (he : starEach (e :: es) X.env = (false, eval e X.env) :: starEach es X.env := by rfl) (hpl : (backTo pos (starEach es X.env)).any (·.1) = false := by rfl) :
    PE X (.Call (.Name x p) (e :: es) [] pos) (tMakeL i C sp E t) := ⟨fun pins st σ G Q J h => by
  obtain ⟨at_, h⟩ := h
  refine wpAny_Call_Name_kw (thn ((pe_var (pos := p) hN hv hdb hcd).run pins st σ G (fun v G1 => v = .ref C ∧ G1 = G) J ⟨.ref C, at_, rfl, rfl⟩) fun u s1 z => ?_)
  obtain ⟨v, G1, J1, rv, rfl, rfl⟩ := z
  obtain rfl : u = Value.ref C := rv
  refine PySem.W.callWith_K (h₀ := X.base) J.ok.mod.kin kit.kp (thn (ha.run pos pins s1 σ _ _ J1 h) fun us s2 z => ?_) he hpl
  obtain ⟨zs, G2, J2, rel, q⟩ := z
  exact ⟨J2.kIn, made_at kit ini room bnd (out σ) J2 rel q⟩⟩
end
section
variable {X : Cx} {C : Addr} {bmB : List Value} {Bs newId initId : String}
/-- X('..'), an own error without an __init__, where another is handled -/
theorem pmk5_text {x m : Str} {j : Nat} {p p2 pos : Pos} (fb : ExcBaseFacts Bs newId initId bmB) (known : PySem.W.excIn X.K C bmB newId = true) (gC : X.mg x = some (.ref C)) (kC : PySem.W.keepIn X.K (.ref C) = true) (r : Raises X (.ref C)) (hg : Gl X x)
    (hdb : (x == ("__debug__" : Str)) = false := by decide) : L2H.PMk5 X (.Call (.Name x p) [.Constant (.str m) j p2] [] pos) (fun _ H Q => Q (.ref C) none H) := fun pins st σ G Q J wish => by
  have args : PA X [.Constant (.str m) j p2] (tCons (tC (.str m)) tNil) := pa_cons pe_str pa_nil
  refine wpAny_Call_Name_kw (ld_glob J hg gC (PySem.W.callWith_K (h₀ := X.base) J.ok.mod.kin kC (thn (args.run pos pins st σ G (fun vs G1 => vs = [V.str m] ∧ G = G1) J ⟨rfl, rfl⟩) fun us s1 z => ?_)) hdb)
  obtain ⟨vs, G1, J1, rel, ev, eG⟩ := z
  subst ev
  subst eG
  refine ⟨J1.kIn, ?_⟩
  obtain ⟨u, rfl, _⟩ := vals1 rel
  obtain ⟨hp, gs, dr, tk, os⟩ := s1
  obtain ⟨bm, N, nm, qn, bs, hd, sn, sub, ab, col, dd, m0, m1, m2, m3, m5, mN, atC, nsC, noInit, tail⟩ := exc_obj J1.kIn known
  exact wpAny_call_exc_subT fb tail atC nsC noInit (fun h' e made => L2H.mk_of5 J1 made r wish (J1.hok.gone made.new)) (by show 1 ≤ sizeLine; rw [sizeLine_eq]; omega)
end
end Pl
/-! text PlE2 -/
set_option Elab.async false
set_option linter.all false
set_option maxRecDepth 100000
set_option maxHeartbeats 4000000
set_option exponentiation.threshold 5000
/-! PlE2: == of lists of texts is equality; isinstance of an own class, for built-in data and for instances. -/
namespace Pl
open PySem PySem.Spec PyProof.Rows L2
theorem eqv_strsL : ∀ a b : List Str, PyData.eqvAll (pyL (dStrs a)) (pyL (dStrs b)) = decide (a = b)
  | [], [] => rfl
  | [], _ :: _ => rfl
  | _ :: _, [] => rfl
  | x :: a, y :: b => by
    show ((x == y) && PyData.eqvAll (pyL (dStrs a)) (pyL (dStrs b))) = _
    rw [eqv_strsL a b, Bool.eq_iff_iff]
    simp
theorem eqv_strsT (a b : List Str) : PyData.eqv (py (.tup (dStrs a))) (py (.tup (dStrs b))) = decide (a = b) := eqv_strsL a b
theorem sum_le {k : Nat} : ∀ {ys : List Str}, (∀ y ∈ ys, y.length ≤ k) → (ys.map (·.length)).sum ≤ k * ys.length
  | [], _ => Nat.zero_le _
  | y :: ys, h => by
    have h1 := h y List.mem_cons_self
    have h2 := sum_le (ys := ys) fun z hz => h z (List.mem_cons_of_mem _ hz)
    simp only [List.map_cons, List.sum_cons, List.length_cons]
    have : k * (ys.length + 1) = k * ys.length + k := Nat.mul_succ _ _
    omega
/-- what an own class must be for its name behind isinstance, and its instances before it -/
structure IsC (K : PySem.W.Frag) (C : Addr) : Prop where
  cl : Cls K C
  ha : PySem.W.findIn K (.ref C) "__class__" = some (some (.builtin "object.__class__"))
  hn : PySem.W.specialIn K (.builtin "object.__class__") "__get__" = some (some (.builtin "getset_descriptor.__get__"))
  ht : PySem.W.takesIn K (.builtin "object.__class__") = some true
  hm : PySem.W.mroIn K C (.type "object") = some true
  ic : PySem.W.isClsIn K C = true
  ty : PySem.W.typeIn K (.ref C) = some (.type "type")
  no : ∀ d : D, topD d = true → PySem.W.subIn K (.type (tyD d)) (.ref C) = some false
section
variable {K : PySem.W.Frag} {s c C : Addr} {ρ : List Sl} {n n1 : Nat} {ta : TE}
theorem IsC.kit (I : IsC K C) {d : D} (h : topD d = true) : PySem.W.kitOne K (.type (tyD d)) (.ref C) = some false := by
  show PySem.W.kitCls K (.type (tyD d)) (.ref C) = some false
  have h1 : (PySem.W.clsIn K C).isSome = true := I.ic
  show (if ((PySem.W.clsIn K C).isSome && PySem.W.typeIn K (.ref C) == some (.type "type")) = true then PySem.W.subIn K (.type (tyD d)) (.ref C) else none) = some false
  rw [h1, I.ty, if_pos (by rfl)]
  exact I.no d h
theorem IsC.self (C : Addr) : PySem.W.kitOne K (.ref C) (.ref C) = some true := by
  unfold PySem.W.kitOne
  rw [if_pos (beq_self_eq_true _)]
theorem IsC.ins (I : IsC K C) {M : List Addr} {H : Hp} {ks : List Str} {l : List D} {v : V} (r : Rep K M H (.ins C ks l) v) : TyX K H v (.ref C) := by
  obtain ⟨a, dx, fs, rfl, _, e, _⟩ := r
  exact .base (.ins e I.cl I.ha I.hn I.ht I.hm)
theorem ev_isiC (I : IsC K C) {d : D} {b : Bool} (h : EvE K s c ta ρ n n1 (fun x => x = d)) (hd : (topD d = true ∧ b = false) ∨ ((∃ ks l, d = .ins C ks l) ∧ b = true)) :
    EvE K s c (tCB (rIsiA K) (tCons ta (tCons (tC (.ref C)) tNil))) ρ n n1 (fun x => x = .bl b) := fun M0 H0 O σ H Q J k =>
  h M0 H0 O σ H _ J fun v H1 x g s1 r p => by
    subst p
    rcases hd with ⟨hd, rfl⟩ | ⟨⟨ks, l, rfl⟩, rfl⟩
    · exact .inl ⟨v, .ref C, _, _, false, rfl, .own C, ty_of r hd, I.kit hd, k _ H1 (.bl false) g s1 rfl rfl⟩
    · exact .inl ⟨v, .ref C, _, _, true, rfl, .own C, I.ins r, IsC.self C, k _ H1 (.bl true) g s1 rfl rfl⟩
theorem IsC.first (I : IsC K C) {d : D} (h : topD d = true) : PySem.W.notFirst K C (.type (tyD d)) = true := by
  unfold PySem.W.notFirst
  rw [I.no d h]
  simp
theorem IsC.first' (C : Addr) : PySem.W.notFirst K C (.ref C) = true := by
  unfold PySem.W.notFirst
  simp
/-- x == y, x != y, x an own instance: what its __eq__ promises -/
theorem rk_eqIns {ks : List Str} {l : List D} {y : D} {b : Bool} {pre : Addr → Addr → List D → Prop} {post : Addr → Addr → List D → D → Prop} (I : IsC K C) (hy : topD y = true ∨ ∃ ks' l', y = .ins C ks' l') (hp : pre s c [.ins C ks l, y]) (hq : ∀ z, post s c [.ins C ks l, y] z → z = .bl b) :
    ∀ M n v w H (Q : VK), s ∈ M ∧ c ∈ M → (∀ a ∈ M, ∃ o, H a = some o) → Src s c n H → n ≤ 2 ^ 40 → Rep K M H (.ins C ks l) v → Rep K M H y w → (∀ u H', Gr [s, c] H H' → Src s c n H' → Rep K M H' (.bl b) u → Q u H') → rEqI K C (Pr K pre 0 post) v w H Q := fun M n v w H Q hm ht hs hn rx ry k => by
  obtain ⟨a, dx, fs, rfl, ma, e, hk, rl⟩ := rx
  have r0 : Rep K M H (.ins C ks l) (.ref a) := ⟨a, dx, fs, rfl, ma, e, hk, rl⟩
  have ty : ∃ t, TyX K H w t ∧ PySem.W.notFirst K C t = true := by
    rcases hy with hy | ⟨ks', l', rfl⟩
    · exact ⟨_, ty_of ry hy, I.first hy⟩
    · exact ⟨_, I.ins ry, IsC.first' C⟩
  obtain ⟨t, ty, nf⟩ := ty
  refine ⟨a, dx, fs, t, rfl, e, ty, nf, s, c, M, n, [.ins C ks l, y], hm.1, hm.2, ht, hs, hn, ⟨r0, ry, trivial⟩, hp, fun u H' d g sr r q => ?_⟩
  have := hq d q
  subst this
  have r : u = .bl b := r
  subst r
  exact ⟨b, rfl, k _ H' g sr rfl⟩
theorem rk_neI' {ks : List Str} {l : List D} {y : D} {b : Bool} {pre : Addr → Addr → List D → Prop} {post : Addr → Addr → List D → D → Prop} (I : IsC K C) (hy : topD y = true ∨ ∃ ks' l', y = .ins C ks' l') (hp : pre s c [.ins C ks l, y]) (hq : ∀ z, post s c [.ins C ks l, y] z → z = .bl b) :
    ∀ M n v w H (Q : VK), s ∈ M ∧ c ∈ M → (∀ a ∈ M, ∃ o, H a = some o) → Src s c n H → n ≤ 2 ^ 40 → Rep K M H (.ins C ks l) v → Rep K M H y w → (∀ u H', Gr [s, c] H H' → Src s c n H' → Rep K M H' (.bl (!b)) u → Q u H') → rNeI K C (Pr K pre 0 post) v w H Q := fun M n v w H Q hm ht hs hn rx ry k => by
  obtain ⟨a, dx, fs, rfl, ma, e, hk, rl⟩ := rx
  have r0 : Rep K M H (.ins C ks l) (.ref a) := ⟨a, dx, fs, rfl, ma, e, hk, rl⟩
  have ty : ∃ t, TyX K H w t ∧ PySem.W.notFirst K C t = true := by
    rcases hy with hy | ⟨ks', l', rfl⟩
    · exact ⟨_, ty_of ry hy, I.first hy⟩
    · exact ⟨_, I.ins ry, IsC.first' C⟩
  obtain ⟨t, ty, nf⟩ := ty
  refine ⟨a, dx, fs, t, rfl, e, ty, nf, s, c, M, n, [.ins C ks l, y], hm.1, hm.2, ht, hs, hn, ⟨r0, ry, trivial⟩, hp, fun u H' d g sr r q => ?_⟩
  have := hq d q
  subst this
  have r : u = .bl b := r
  subst r
  exact ⟨b, rfl, k _ H' g sr rfl⟩
/-- str(x), x an own instance -/
theorem ck_strI {ks : List Str} {l : List D} {z : Str} {pre : Addr → Addr → List D → Prop} {post : Addr → Addr → List D → D → Prop} (hp : pre s c [.ins C ks l]) (hq : ∀ d, post s c [.ins C ks l] d → d = .str z) :
    ∀ M n vs H (Q : VK), s ∈ M ∧ c ∈ M → (∀ a ∈ M, ∃ o, H a = some o) → Src s c n H → n ≤ 2 ^ 40 → RepL K M H [.ins C ks l] vs → (∀ u H', Gr [s, c] H H' → Src s c n H' → Rep K M H' (.str z) u → Q u H') → rStrI C (Pr K pre 0 post) vs H Q := fun M n vs H Q hm ht hs hn rl k => by
  obtain ⟨v, rfl, rx⟩ := rl.inv1
  obtain ⟨a, dx, fs, rfl, ma, e, hk, rl'⟩ := rx
  have r0 : Rep K M H (.ins C ks l) (.ref a) := ⟨a, dx, fs, rfl, ma, e, hk, rl'⟩
  refine ⟨a, dx, fs, rfl, e, s, c, M, n, [.ins C ks l], hm.1, hm.2, ht, hs, hn, ⟨r0, trivial⟩, hp, fun u H' d g sr r q => ?_⟩
  have := hq d q
  subst this
  have r : u = .str z := r
  subst r
  exact ⟨z, rfl, k _ H' g sr rfl⟩
theorem ev_strI {ks : List Str} {l : List D} {z : Str} {pre : Addr → Addr → List D → Prop} {post : Addr → Addr → List D → D → Prop} (h : EvE K s c ta ρ n n1 (fun x => x = .ins C ks l)) (hn : n1 ≤ 2 ^ 40) (hp : pre s c [.ins C ks l]) (hq : ∀ d, post s c [.ins C ks l] d → d = .str z) :
    EvE K s c (tCB (rStrI C (Pr K pre 0 post)) (tCons ta tNil)) ρ n n1 (fun x => x = .str z) := fun M0 H0 O σ H Q J k =>
  h M0 H0 O σ H _ J fun v H1 x g1 s1 r p => by
    subst p
    exact ck_strI hp hq (O ++ M0) n1 [v] H1 Q ⟨List.mem_append_right _ J.ms.1, List.mem_append_right _ J.ms.2⟩ (J.next g1 s1).thereA s1 hn ⟨r, trivial⟩ fun u H2 g2 s2 r2 => k u H2 _ (g1.trans g2) s2 r2 rfl
theorem ev_eqI {tb : TE} {n2 : Nat} {ks : List Str} {l : List D} {y : D} {b : Bool} {pre : Addr → Addr → List D → Prop} {post : Addr → Addr → List D → D → Prop} (I : IsC K C) (ha : EvE K s c ta ρ n n1 (fun x => x = .ins C ks l)) (hb : EvE K s c tb ρ n1 n2 (fun x => x = y)) (hn : n2 ≤ 2 ^ 40) (hy : topD y = true ∨ ∃ ks' l', y = .ins C ks' l')
    (hp : pre s c [.ins C ks l, y]) (hq : ∀ z, post s c [.ins C ks l, y] z → z = .bl b) : EvE K s c (tOp (rEqI K C (Pr K pre 0 post)) ta tb) ρ n n2 (fun x => x = .bl b) := fun M0 H0 O σ H Q J k =>
  ha M0 H0 O σ H _ J fun v H1 x g1 s1 r1 p => hb M0 H0 O σ H1 _ (J.next g1 s1) fun w H2 x2 g2 s2 r2 p2 => by
    subst p
    subst p2
    exact rk_eqIns I hy hp hq (O ++ M0) n2 v w H2 Q ⟨List.mem_append_right _ J.ms.1, List.mem_append_right _ J.ms.2⟩ ((J.next g1 s1).next g2 s2).thereA s2 hn (r1.gr (g2.mono J.sub)) r2 fun u H3 g3 s3 r3 => k u H3 _ ((g1.trans g2).trans g3) s3 r3 rfl
theorem ev_neI {tb : TE} {n2 : Nat} {ks : List Str} {l : List D} {y : D} {b : Bool} {pre : Addr → Addr → List D → Prop} {post : Addr → Addr → List D → D → Prop} (I : IsC K C) (ha : EvE K s c ta ρ n n1 (fun x => x = .ins C ks l)) (hb : EvE K s c tb ρ n1 n2 (fun x => x = y)) (hn : n2 ≤ 2 ^ 40) (hy : topD y = true ∨ ∃ ks' l', y = .ins C ks' l')
    (hp : pre s c [.ins C ks l, y]) (hq : ∀ z, post s c [.ins C ks l, y] z → z = .bl b) : EvE K s c (tOp (rNeI K C (Pr K pre 0 post)) ta tb) ρ n n2 (fun x => x = .bl (!b)) := fun M0 H0 O σ H Q J k =>
  ha M0 H0 O σ H _ J fun v H1 x g1 s1 r1 p => hb M0 H0 O σ H1 _ (J.next g1 s1) fun w H2 x2 g2 s2 r2 p2 => by
    subst p
    subst p2
    exact rk_neI' I hy hp hq (O ++ M0) n2 v w H2 Q ⟨List.mem_append_right _ J.ms.1, List.mem_append_right _ J.ms.2⟩ ((J.next g1 s1).next g2 s2).thereA s2 hn (r1.gr (g2.mono J.sub)) r2 fun u H3 g3 s3 r3 => k u H3 _ ((g1.trans g2).trans g3) s3 r3 rfl
end
end Pl
/-! text PlP -/
set_option Elab.async false
set_option linter.all false
set_option maxRecDepth 100000
set_option maxHeartbeats 4000000
set_option exponentiation.threshold 5000
/-! PlP: defs that may raise an error without fields; classmethods; try around them. -/
namespace Pl
open PySem PySem.Spec PyProof.Rows L2
/-- from the data of the arguments: a value, or an error of a class without fields -/
def PrX (K : PySem.W.Frag) (pre : Addr → Addr → List D → Prop) (k : Nat) (val : List D → D → Prop) (bad : List D → Addr → Prop) : Sp := fun vs H Q E => ∃ s c M n ds, s ∈ M ∧ c ∈ M ∧ (∀ a ∈ M, ∃ o, H a = some o) ∧ Src s c n H ∧ n + k ≤ 2 ^ 40 ∧ RepL K M H ds vs ∧ pre s c ds ∧
  (∀ v H' d, Gr [s, c] H H' → Src s c (n + k) H' → Rep K M H' d v → val ds d → Q v H') ∧ (∀ C H', Gr [s, c] H H' → Src s c (n + k) H' → bad ds C → E (.ref C) none H')
section
variable {X : Cx} {CX' : CXT} {k : Nat} {g C p : Addr} {sp : Sp} {E : L2.St → XK} {mc : Value} {m : Str} {fd : FuncData} {ps : List Str} {o e : Expr} {es : List Expr} {apos pos : Pos} {ta : TE} {t : TA}
/-- C.m(..), m a classmethod that may raise -/
def tCMethS (C : Addr) (sp : Sp) (E : L2.St → XK) (ta : TE) (t : TA) : TE := fun σ H Q => ta σ H fun x H1 => x = .ref C ∧ t σ H1 fun vs H2 => sp (.ref C :: vs) H2 Q (E σ)
theorem run_at {pins : List (Addr × Obj)} {σ : L2.St} {H : Hp} {st : Shared} {Q : VK} {us : List Value} {vs : List V} (F : FnOk X.prog X.w X.K X.mg X.base CX' k g fd ps sp) (room : Room k X.A) (bnd : Binds X.K fd ps []) (out : PassesAt CX' X σ (E σ)) (J : Inv X pins σ H st)
    (rel : Vals vs us) (wish : sp vs H Q (E σ)) : codeAny (model X.prog X.w) X.A (.call (.ref g) ⟨us, []⟩) (fun r s' => match r with | .ok (.ret v) => EP X pins σ Q v s' | .ok _ => False | .error e => X.xe e s') st := by
  have count : us.length = ps.length := rel.length.symm.trans (F.len _ _ _ _ wish)
  have bound := bnd st us J.kIn (by rw [List.append_nil]; exact count)
  rw [List.append_nil] at bound
  refine codeAny_mono (F.run X.A X.stack st H ⟨us, []⟩ us vs Q (E σ) room J.env0 bound rel wish) fun flow s2 z => ?_
  match flow, z with
  | .error u, z => exact out pins _ _ u s2 J z
  | .ok (.ret u), z => exact J.after z
  | .ok .next, z => exact False.elim z
  | .ok .brk, z => exact False.elim z
  | .ok .cont, z => exact False.elim z
theorem pe_cmethS {pl : Sem Bool} (ho : PE X o ta) (r : ClX.CRead X.K C mc) (c : ClX.CMet X.K C mc m p g) (F : FnOk X.prog X.w X.K X.mg X.base CX' k g fd ps sp) (room : Room k X.A) (bnd : Binds X.K fd ps []) (out : ∀ σ, PassesAt CX' X σ (E σ)) (ha : PA X (e :: es) t)
    (he : starEach (e :: es) X.env = (false, eval e X.env) :: starEach es X.env := by rfl) (hpl : (backTo pos (starEach es X.env)).any (·.1) = false := by rfl)
    (hc : eval (.Call (.Attribute o m apos) (e :: es) [] pos) X.env = (do let w ← eval o X.env; standAt apos.atName; let (q, own) ← holding [w] (getMethod w m pl); callWith pos q own (backTo pos (starEach (e :: es) X.env)) (backToKw pos (keywordEach [] X.env))) := by rfl) :
    PE X (.Call (.Attribute o m apos) (e :: es) [] pos) (tCMethS C sp E ta t) := ⟨fun pins st σ G Q J h => by
  refine PySem.W.methodCall_KW (pl := pl) (thn (ho.run pins st σ G _ J h) fun u s1 z => ?_) hc
  obtain ⟨y, G1, J1, ry, rfl, q⟩ := z
  obtain rfl : u = Value.ref C := ry
  refine ClX.getmethcm_ok J1 r c fun s2 J2 => ?_
  refine ClX.callwith_cm J2 (ClX.base_none J1 (Nat.le_refl _)) c.fi (thn (ha.run pos _ s2 σ G1 _ J2 q) fun us s3 z => ?_) he hpl
  obtain ⟨vs, G2, J3, rv, q2⟩ := z
  refine ⟨⟨ClX.pin_at J3, J3.kIn⟩, ?_⟩
  have ran : wpAny (model X.prog X.w) X.A (call (.ref s1.heap.objs.size) us) (EP X ((s1.heap.objs.size, PySem.W.methodObj (.ref g) (.ref C)) :: pins) σ Q) X.xe s3 :=
    wpAny_call (PySem.W.method_call (ClX.pin_at J3) (run_at (us := .ref C :: us) (vs := .ref C :: vs) F room bnd (out σ) J3 (.cons rfl rv) q2))
  exact thn ran fun _ _ z => ClX.unpinE z⟩
end
end Pl
/-! text PlP2 -/
set_option Elab.async false
set_option linter.all false
set_option maxRecDepth 100000
set_option maxHeartbeats 4000000
set_option exponentiation.threshold 5000
/-! PlP2: statements that may raise an error without fields. -/
namespace Pl
open PySem PySem.Spec PyProof.Rows L2
/-- a statement, from which an error of a class C with R C may leave (E: what is wished of it) -/
def EvSE (K : PySem.W.Frag) (s c : Addr) (E : XK) (R : Addr → Nat → Prop) (ts : TS) (ρ : List Sl) (n : Nat) (D : Pn) : Prop := ∀ M0 H0 O σ H (Dn : Ends), Ok K s c M0 H0 O ρ n σ H → Go K s c M0 H0 D Dn →
  (∀ C H' n', Gr [s, c] H0 H' → Src s c n' H' → R C n' → E (.ref C) none H') → ts Dn σ H
section
variable {K : PySem.W.Frag} {s c : Addr} {E : XK} {R : Addr → Nat → Prop} {ρ : List Sl} {n n1 n2 : Nat} {t u : TS} {D : Pn}
theorem EvS.e (h : EvS K s c t ρ n D) : EvSE K s c E R t ρ n D := fun M0 H0 O σ H Dn I G _ => h M0 H0 O σ H Dn I G
theorem se_seq {N : List Sl → Nat → Prop} (h : EvSE K s c E R t ρ n { D with nx := N }) (hu : ∀ ρ1 n1, N ρ1 n1 → EvSE K s c E R u ρ1 n1 D) : EvSE K s c E R (tSeq t u) ρ n D := fun M0 H0 O σ H Dn I G w =>
  h M0 H0 O σ H _ I (G.nx' fun O' ρ' n' σ' H' J q => hu ρ' n' q M0 H0 O' σ' H' Dn J G w) w
theorem se_if {tt : TT} {b : Bool} (h : EvT K s c tt ρ n n1 (fun x => x = b)) (h1 : b = true → EvSE K s c E R t ρ n1 D) (h2 : b = false → EvSE K s c E R u ρ n1 D) : EvSE K s c E R (tIfS tt t u) ρ n D := fun M0 H0 O σ H Dn I G w =>
  h M0 H0 O σ H _ I fun x H1 g1 s1 e => by
    subst e
    have J := (I.next g1 s1)
    cases x with
    | true => exact h1 rfl M0 H0 O σ H1 Dn J G w
    | false => exact h2 rfl M0 H0 O σ H1 Dn J G w
/-- raise X('..') -/
theorem se_raise {C : Addr} (h : R C n) : EvSE K s c E R (fun _ σ H => (fun _ H' Q' => Q' (Value.ref C) none H' : L2.St → Hp → XK → Prop) σ H fun cls d H' => E cls d H') ρ n D := fun M0 H0 O σ H Dn I G w => w C H n I.gr I.src h
/-- a body keeps the promise -/
theorem body_okE {N : List Str} {t : TS} {pre : Addr → Addr → List Pl.D → Prop} {k : Nat} {val : List Pl.D → Pl.D → Prop} {bad : List Pl.D → Addr → Prop} {vs : List V} {H : Hp} {Q : VK} {E : XK} (h : PrX K pre k val bad vs H Q E)
    (hb : ∀ s c n ds, n + k ≤ 2 ^ 40 → pre s c ds → EvSE K s c E (fun C m => m ≤ n + k ∧ bad ds C) t (slots N.length ds) n ⟨fun _ m => m ≤ n + k ∧ val ds .non, fun d m => m ≤ n + k ∧ val ds d, fun _ _ => False, fun _ _ => False⟩) : t { nx := fun _ H' => Q .non H', rt := Q } (L2.start N vs) H := by
  obtain ⟨s, c, M, n, ds, h1, h2, h3, h4, h5, h6, h7, good, err⟩ := h
  refine hb s c n ds h5 h7 M H [] (L2.start N vs) H _ ⟨⟨h1, h2⟩, fun a ha => .inr (.inr (h3 a ha)), h4, Gr.refl _ _, fun o ho => by simp at ho, List.nodup_nil, ?_⟩ ⟨fun O' ρ' m σ' H' J hp => ?_, fun v H' d m g hs r hp => good v H' d g (hs.mono hp.1) r hp.2, fun _ _ _ _ _ _ hp => hp.elim, fun _ _ _ _ _ _ hp => hp.elim⟩ fun C H' m g hs hp => err C H' g (hs.mono hp.1) hp.2
  · unfold slots L2.start
    rw [h6.length]
    exact sl_start h6
  · exact good .non H' .non J.gr (J.src.mono hp.1) rfl hp.2
theorem prx_len {pre : Addr → Addr → List Pl.D → Prop} {k m : Nat} {val : List Pl.D → Pl.D → Prop} {bad : List Pl.D → Addr → Prop} {vs : List V} {H : Hp} {Q : VK} (h : PrX K pre k val bad vs H Q E) (hp : ∀ s c ds, pre s c ds → ds.length = m) : vs.length = m := by
  obtain ⟨s, c, M, n, ds, _, _, _, _, _, rl, h7, _⟩ := h
  rw [← rl.length]
  exact hp s c ds h7
/-- try: x = cls(..) except Y: raise Z('..') from None -/
theorem se_tryMakeL {C CZ : Addr} {ks : List Str} {pre : Addr → Addr → List Pl.D → Prop} {val : List Pl.D → List Pl.D → Prop} {bad : List Pl.D → Addr → Str → Pl.D → Prop} {ta : TA} {ds : List Pl.D} {cE : Value} {i j : Nat} (ha : EvA K s c ta ρ n n1 (fun l => l = ds)) (hi : ρ[i]? = some (.va (.obj C))) (hn : n1 ≤ 2 ^ 40) (hp : pre s c ds) (oj : isOw ρ[j]? = false)
    (good : ∀ l, val ds l → D.nx (ρ.set j (.va (.ins C ks l))) n1) (err : ∀ CE nm e, bad ds CE nm e → PySem.W.exmOne K (.ref CE) cE = some true ∧ R CZ n1) :
    EvSE K s c E R (fun Dn σ H => tAsg (tMakeL i C (PrC K C ks pre val bad) (WE (wOnly K cE (fun _ _ _ => (fun _ σ H => (fun _ H' Q' => Q' (Value.ref CZ) none H' : L2.St → Hp → XK → Prop) σ H fun cls d H' => E cls d H' : TS)) (fun cls d _ H => E cls d H) Dn)) ta) (gName j) Dn σ H) ρ n D := fun M0 H0 O σ H Dn I G w => by
  obtain ⟨v, hv, rv⟩ := I.sl.get hi
  have rv : v = .ref C := rv
  subst rv
  refine ⟨hv, ha M0 H0 O σ H _ I fun vs H1 l g1 s1 rl e => ?_⟩
  subst e
  intro x dx nx nd ne
  have J := I.next g1 s1
  refine prc_at (Q := fun v H' => gName j v σ H' Dn.nx) J hn rl hp nx nd ne (fun m H' hv g sr r => ?_) fun CE nm e d H' v hb g sr hd r => ?_
  · exact eg_name oj M0 H0 O n1 σ H' (.ref x) _ (J.next g sr) r fun σ2 J2 _ => G.nx O _ n1 σ2 H' J2 (good m hv)
  · obtain ⟨ex, hR⟩ := err CE nm e hb
    exact ⟨true, ex, fun _ a _ => w CZ _ n1 ((J.gr.trans g).trans (Gr.new hd)) (sr.new hd) hR, fun q => nomatch q⟩
end
end Pl
/-! text PlWh -/
set_option Elab.async false
set_option linter.all false
set_option maxRecDepth 100000
set_option maxHeartbeats 4000000
set_option exponentiation.threshold 5000
/-! PlWh: while; slices of texts; x[i] = .. of an own list. -/
namespace Pl
open PySem PySem.Spec PyProof.Rows L2
theorem RepL.set {K : PySem.W.Frag} {M : List Addr} {H : Hp} {d : D} {v : V} (rd : Rep K M H d v) : ∀ {ds : List D} {vs : List V} {m : Nat}, RepL K M H ds vs → RepL K M H (ds.set m d) (vs.set m v)
  | [], [], _, _ => trivial
  | _ :: _, _ :: _, 0, h => ⟨rd, h.2⟩
  | _ :: _, _ :: _, m + 1, h => ⟨h.1, RepL.set rd h.2⟩
  | [], _ :: _, _, h => h.elim
  | _ :: _, [], _, h => h.elim
section
variable {K : PySem.W.Frag} {s c : Addr} {ρ : List Sl} {n n1 n2 n3 : Nat} {te ti : TE} {P : D → Prop}
/-- z[lo:hi] -/
theorem ev_slZ {to tu : TO} {z : Str} {lo hi : Option Int} (hz : z.length ≤ sizeLine) (h : EvE K s c te ρ n n1 (fun d => d = .str z)) (hl : EvO K s c to ρ n1 n2 lo) (hh : EvO K s c tu ρ n2 n3 hi) : EvE K s c (tSl (rSlAny K) te to tu) ρ n n3 (fun d => d = .str (cutS z lo hi)) := fun M0 H0 O σ H Q I k =>
  h M0 H0 O σ H _ I fun v H1 d g1 s1 r1 p1 => hl M0 H0 O σ H1 _ (I.next g1 s1) fun H2 g2 s2 => hh M0 H0 O σ H2 _ ((I.next g1 s1).next g2 s2) fun H3 g3 s3 => by
    subst p1
    have r1 : v = .str z := r1
    subst r1
    exact .inr (.inr ⟨z, rfl, hz, k (.str _) H3 (.str _) ((g1.trans g2).trans g3) s3 rfl rfl⟩)
/-- x[i] = e of an own list -/
theorem s_putL {i : Nat} {l : List D} {D : Pn} {j : Int} {m : Nat} (e : ρ[i]? = some (.ow l)) (h : EvE K s c te ρ n n1 P) (hi : EvE K s c ti ρ n1 n2 (fun d => d = .int j)) (hj : ixN l.length j = some m) (k : ∀ d, P d → D.nx (ρ.set i (.ow (l.set m d))) n2) :
    EvS K s c (tAsg te (gSub (tVar i) ti rSetL)) ρ n D := fun M0 H0 O σ H Dn I G =>
  h M0 H0 O σ H _ I fun v H1 d g s1 r1 p1 => by
    have I1 := I.next g s1
    obtain ⟨p, xs, hp, e2, hx, r⟩ := I1.sl.own e
    refine ⟨.ref p, e2, hi M0 H0 O σ H1 _ I1 fun u H2 d2 g2 s2 r2 p2 => ?_⟩
    subst p2
    have r2 : u = .int j := r2
    subst r2
    have J := I1.next g2 s2
    have hx2 : H2 p = some (.lst xs) := g2 p _ hx (.inl (not_two (I.fr p hp).2.1 (I.fr p hp).2.2))
    have rr := r.gr (g2.mono I.sub)
    have rd := r1.gr (g2.mono I.sub)
    refine ⟨p, xs, j, m, rfl, rfl, hx2, by rw [← r.length]; exact hj, ?_⟩
    exact G.nx O _ n2 σ _ (J.put e e2 hp (RepL.set rd rr)) (k d p1)
/-- -i -/
theorem ev_neg {i : Int} (h : EvE K s c te ρ n n1 (fun d => d = .int i)) : EvE K s c (tUn (rU fun i => .int (-i)) te) ρ n n1 (fun d => d = .int (-i)) := fun M0 H0 O σ H Q I k =>
  h M0 H0 O σ H _ I fun v H1 d g s1 r p => by
    subst p
    have r : v = .int i := r
    subst r
    exact ⟨i, rfl, k (.int (-i)) H1 (.int (-i)) g s1 rfl rfl⟩
theorem sz {z : Str} (h : z.length ≤ 5000) : z.length ≤ sizeLine := by have := @small_s z (by omega); omega
/-- while -/
theorem s_while {tt : TT} {tb : TS} {D : Pn} (Inv : Nat → List Sl → Nat → Prop) {m0 : Nat} (h0 : Inv m0 ρ n)
    (hs : ∀ m ρ' k, Inv m ρ' k → ∃ k1 T, EvT K s c tt ρ' k k1 T ∧ (T true → EvS K s c tb ρ' k1 { D with nx := fun ρ2 k2 => ∃ m', m' < m ∧ Inv m' ρ2 k2, ct := fun ρ2 k2 => ∃ m', m' < m ∧ Inv m' ρ2 k2, bk := D.nx }) ∧ (T false → D.nx ρ' k1)) :
    EvS K s c (tWhile tt tb) ρ n D := fun M0 H0 O σ H Dn I G => by
  refine ⟨fun m σ' H' => ∃ O' ρ' k, Ok K s c M0 H0 O' ρ' k σ' H' ∧ Inv m ρ' k, ⟨m0, O, ρ, n, I, h0⟩, ?_⟩
  rintro m σ' H' ⟨O', ρ', k, J, inv⟩
  obtain ⟨k1, T, et, h1, h2⟩ := hs m ρ' k inv
  refine et M0 H0 O' σ' H' _ J fun b H1 g s1 t => ?_
  have J1 := J.next g s1
  cases b with
  | true =>
    rw [if_pos rfl]
    refine ⟨fun σ2 H2 => ∃ m', m' < m ∧ ∃ O2 ρ2 k2, Ok K s c M0 H0 O2 ρ2 k2 σ2 H2 ∧ Inv m' ρ2 k2, fun σ2 H2 q => q, ?_⟩
    exact h1 t M0 H0 O' σ' H1 _ J1 ⟨fun O3 ρ3 m3 σ3 H3 J4 ⟨m', hm, q⟩ => ⟨m', hm, O3, ρ3, m3, J4, q⟩, G.rt, G.nx, fun O3 ρ3 m3 σ3 H3 J4 ⟨m', hm, q⟩ => ⟨m', hm, O3, ρ3, m3, J4, q⟩⟩
  | false =>
    rw [if_neg Bool.false_ne_true]
    exact G.nx O' ρ' k1 σ' H1 J1 (h2 t)
end
end Pl
/-! text PsA -/
set_option Elab.async false
set_option linter.all false
set_option maxRecDepth 100000
set_option maxHeartbeats 4000000
/-! PsA: sets whose items are nested tuples (NestedKey): how one is looked for and put in. -/
namespace Ps
open PySem PySem.Spec PyProof.Rows L2 PlS
section
variable {P : Program} {w : World}
theorem flat_cls {n : Nat} {v : Value} (h : ∀ a, v ≠ .ref a) : ofAClassStatement n v = pure false := by
  cases v with
  | ref a => exact absurd rfl (h a)
  | _ => cases n <;> rfl
mutual
theorem noCls : ∀ (k : NestedKey) (v : Value) (n : Nat) (st : Shared), NestedIs st.heap k v → k.depth ≤ n → ∀ (B : Around) (Fx : Value → Shared → Prop) (Z : Bool → Shared → Prop), Z false st → wpAny (model P w) B (ofAClassStatement n v) Z Fx st
  | .none, _, _, _, x, _, B, Fx, Z, z => by cases x; rw [flat_cls (by intro a e; cases e)]; exact wpAny_pure z
  | .num _, _, _, _, x, _, B, Fx, Z, z => by cases x <;> (rw [flat_cls (by intro a e; cases e)]; exact wpAny_pure z)
  | .text _, _, _, _, x, _, B, Fx, Z, z => by cases x; rw [flat_cls (by intro a e; cases e)]; exact wpAny_pure z
  | .tup ks, _, n, st, x, hn, B, Fx, Z, z => by
    cases x with
    | @tup a o vs m _ hg hc hd hk =>
      simp only [NestedKey.depth] at hn
      cases n with
      | zero => omega
      | succ n =>
        have ty : st.TypeIs (.ref a) "tuple" := ⟨o, hg, hc⟩
        have is : (("tuple" : String) == "tuple") = true := by decide
        unfold ofAClassStatement
        refine wpAny_bind (wpAny_typeOf ty ?_)
        dsimp only
        simp only [is, if_true, Bool.not_true, Bool.false_eq_true, if_false]
        try refine wpAny_bind (wpAny_pure ?_)
        try simp only [Bool.not_true, Bool.false_eq_true, if_false]
        show wpAny _ _ (seqItems? (.ref a) >>= _) _ _ st
        refine wpAny_bind (wpAny_seqItems hg hd (wpAny_bind ?_))
        show wpAny _ _ (forIn vs _ _) _ _ st
        rw [← Array.forIn_toList]
        refine wpAny_forIn_list _ (fun l r u => r.1 = Option.none ∧ u = st ∧ ∀ y ∈ l, y ∈ vs.toList) _ (fun y l r u h => ?_) (fun r u h => ?_) _ _ ⟨rfl, rfl, fun y hy => hy⟩
        · obtain ⟨h1, rfl, h3⟩ := h
          refine wpAny_bind (noClss ks _ n u hk (by omega) y (h3 y List.mem_cons_self) _ _ _ ?_)
          simp only [Bool.false_eq_true, if_false]
          exact wpAny_pure ⟨rfl, rfl, fun c hc' => h3 c (List.mem_cons_of_mem _ hc')⟩
        · obtain ⟨r1, r2⟩ := r
          obtain ⟨h1, rfl, _⟩ := h
          simp only at h1
          subst h1
          exact wpAny_pure z
theorem noClss : ∀ (ks : List NestedKey) (vs : List Value) (n : Nat) (st : Shared), NestedAll st.heap ks vs → NestedKey.depthAll ks ≤ n → ∀ v ∈ vs, ∀ (B : Around) (Fx : Value → Shared → Prop) (Z : Bool → Shared → Prop), Z false st → wpAny (model P w) B (ofAClassStatement n v) Z Fx st
  | [], _, _, _, x, _, v, hv, _, _, _, _ => by cases x; cases hv
  | k :: ks, _, n, st, x, hn, v, hv, B, Fx, Z, z => by
    cases x with
    | cons x1 x2 =>
      simp only [NestedKey.depthAll] at hn
      rcases List.mem_cons.mp hv with e | hv
      · rw [e]; exact noCls k _ n st x1 (by omega) B Fx Z z
      · exact noClss ks _ n st x2 (by omega) v hv B Fx Z z
end
theorem flat_hash {n : Nat} {k : NestedKey} {v : Value} {h : Heap} (x : NestedIs h k v) (nt : ∀ ks, k ≠ .tup ks) : ∃ b, hashByValue n v = pure b := by
  cases x with
  | none => exact ⟨true, by cases n <;> rfl⟩
  | bool _ => exact ⟨true, by cases n <;> rfl⟩
  | int _ _ => exact ⟨true, by cases n <;> rfl⟩
  | text _ _ => exact ⟨false, by cases n <;> rfl⟩
  | tup _ _ _ _ => exact absurd rfl (nt _)
mutual
theorem byHash : ∀ (k : NestedKey) (v : Value) (n : Nat) (st : Shared), NestedIs st.heap k v → k.depth ≤ n → ∀ (B : Around) (Fx : Value → Shared → Prop) (Z : Bool → Shared → Prop), (∀ b, Z b st) → wpAny (model P w) B (hashByValue n v) Z Fx st
  | .none, _, _, _, x, _, B, Fx, Z, z => by obtain ⟨b, e⟩ := flat_hash x (by intro ks q; cases q); rw [e]; exact wpAny_pure (z b)
  | .num _, _, _, _, x, _, B, Fx, Z, z => by obtain ⟨b, e⟩ := flat_hash x (by intro ks q; cases q); rw [e]; exact wpAny_pure (z b)
  | .text _, _, _, _, x, _, B, Fx, Z, z => by obtain ⟨b, e⟩ := flat_hash x (by intro ks q; cases q); rw [e]; exact wpAny_pure (z b)
  | .tup ks, _, n, st, x, hn, B, Fx, Z, z => by
    cases x with
    | @tup a o vs m _ hg hc hd hk =>
      simp only [NestedKey.depth] at hn
      cases n with
      | zero => omega
      | succ n =>
        have ty : st.TypeIs (.ref a) "tuple" := ⟨o, hg, hc⟩
        unfold hashByValue
        refine wpAny_bind (wpAny_specialOf ty F.slot_tuple_hash.lookup ?_)
        show wpAny _ _ (seqItems? (.ref a) >>= _) _ _ st
        refine wpAny_bind (wpAny_seqItems hg hd (wpAny_bind ?_))
        show wpAny _ _ (forIn vs _ _) _ _ st
        rw [← Array.forIn_toList]
        refine wpAny_forIn_list _ (fun l r u => r.1 = Option.none ∧ u = st ∧ ∀ y ∈ l, y ∈ vs.toList) _ (fun y l r u h => ?_) (fun r u h => ?_) _ _ ⟨rfl, rfl, fun y hy => hy⟩
        · obtain ⟨h1, rfl, h3⟩ := h
          refine wpAny_bind (byHashs ks _ n u hk (by omega) y (h3 y List.mem_cons_self) _ _ _ fun b => ?_)
          cases b with
          | true =>
            simp only [Bool.not_true, Bool.false_eq_true, if_false]
            exact wpAny_pure ⟨rfl, rfl, fun c hc' => h3 c (List.mem_cons_of_mem _ hc')⟩
          | false =>
            simp only [Bool.not_false, if_true]
            first
              | exact wpAny_pure (wpAny_pure (z false))
              | exact wpAny_pure (wpAny_pure (wpAny_pure (z false)))
        · obtain ⟨r1, r2⟩ := r
          obtain ⟨h1, rfl, _⟩ := h
          simp only at h1
          subst h1
          exact wpAny_pure (z true)
theorem byHashs : ∀ (ks : List NestedKey) (vs : List Value) (n : Nat) (st : Shared), NestedAll st.heap ks vs → NestedKey.depthAll ks ≤ n → ∀ v ∈ vs, ∀ (B : Around) (Fx : Value → Shared → Prop) (Z : Bool → Shared → Prop), (∀ b, Z b st) → wpAny (model P w) B (hashByValue n v) Z Fx st
  | [], _, _, _, x, _, v, hv, _, _, _, _ => by cases x; cases hv
  | k :: ks, _, n, st, x, hn, v, hv, B, Fx, Z, z => by
    cases x with
    | cons x1 x2 =>
      simp only [NestedKey.depthAll] at hn
      rcases List.mem_cons.mp hv with e | hv
      · rw [e]; exact byHash k _ n st x1 (by omega) B Fx Z z
      · exact byHashs ks _ n st x2 (by omega) v hv B Fx Z z
end
end
end Ps
/-! text PsB -/
set_option Elab.async false
set_option linter.all false
set_option maxRecDepth 100000
set_option maxHeartbeats 8000000
/-! PsB: sets of nested tuples: the search for one, a larger table, putting one in. -/
namespace Ps
open PySem PySem.Spec PyProof.Rows L2 PlS
section
variable {P : Program} {w : World} {A : Around} {E : Value → Shared → Prop} {s : Shared}
/-- the tuple at b is the key k, of a depth that the model asks in full -/
def At (h : Heap) (k : NestedKey) (b : Addr) : Prop := NestedIs h k (.ref b) ∧ k.depth ≤ 8
theorem At.stay {h h' : Heap} {k : NestedKey} {b : Addr} (x : At h k b) (go : ∀ c o vs n, h.get? c = some o → o.data = .seq vs n → h'.get? c = some o) : At h' k b := ⟨NestedIs.at go k _ x.1, x.2⟩
theorem At.off {h h' : Heap} {k : NestedKey} {a b : Addr} {o : Obj} {es : Array (Int × Value)} {ep : Nat} {t : SetTable} (x : At h k b) (ho : h.get? a = some o) (hd : o.data = .set es ep t) (same : Heap.SameBut a h h') : At h' k b :=
  x.stay fun c u vs n e q => (same.2 c fun z => by
    subst z
    rw [ho] at e
    cases e
    rw [hd] at q
    cases q).trans e
theorem unseen {k : NestedKey} {b : Addr} {Z : Bool → Shared → Prop} (x : At s.heap k b) {ys : List Value} (hy : ∀ y ∈ ys, ∃ j c, y = Value.ref c ∧ At s.heap j c) (z : Z false s) : wpAny (model P w) A (searchCouldBeSeen (.ref b) ys) Z E s := by
  unfold searchCouldBeSeen
  refine wpAny_bind (wpAny_forIn_list _ (fun l r u => r.1 = Option.none ∧ u = s ∧ ∀ y ∈ l, ∃ j c, y = Value.ref c ∧ At s.heap j c) _ (fun y l r u h => ?_) (fun r u h => ?_) _ _ ⟨rfl, rfl, hy⟩)
  · obtain ⟨h1, rfl, h3⟩ := h
    obtain ⟨j, c, rfl, xc⟩ := h3 y List.mem_cons_self
    have more : ∀ y ∈ l, ∃ j c, y = Value.ref c ∧ At u.heap j c := fun v hv => h3 v (List.mem_cons_of_mem _ hv)
    dsimp only
    by_cases very : (b == c || (carriedByValue (.ref b) && carriedByValue (.ref c))) = true
    · exact wp_if_pos very (wpAny_pure ⟨rfl, rfl, more⟩)
    · refine wp_if_neg very (wpAny_bind (quiet_key k _ 8 u x.1 x.2 _ _ _ ?_))
      simp only [Bool.not_true, Bool.false_eq_true, if_false]
      refine wpAny_bind (quiet_key j _ 8 u xc.1 xc.2 _ _ _ ?_)
      simp only [Bool.not_true, Bool.false_eq_true, if_false]
      refine wpAny_bind (noCls k _ 8 u x.1 x.2 _ _ _ ?_)
      simp only [Bool.false_eq_true, if_false]
      refine wpAny_bind (noCls j _ 8 u xc.1 xc.2 _ _ _ ?_)
      simp only [Bool.false_eq_true, if_false]
      exact wpAny_pure ⟨rfl, rfl, more⟩
  · obtain ⟨r1, r2⟩ := r
    obtain ⟨h1, rfl, _⟩ := h
    simp only at h1
    subst h1
    exact wpAny_pure z
/-- the rows of a set's payload for its items -/
def rows (w : World) (L : List (Addr × NestedKey)) : List (Int × Value) := L.map fun p => (p.2.hash w, .ref p.1)
theorem rows_len (L : List (Addr × NestedKey)) : (rows w L).length = L.length := List.length_map _
def hashL (w : World) (L : List (Addr × NestedKey)) : List Int := L.map fun p => p.2.hash w
structure SetN (w : World) (h : Heap) (a : Addr) (L : List (Addr × NestedKey)) (es : Array (Int × Value)) (ep : Nat) (t : SetTable) : Prop where
  at_ : ∃ o, h.get? a = some o ∧ o.ExactSet ∧ o.data = .set es ep t
  rows : es.toList = rows w L
  tab : TabOk t (hashL w L)
  once : (L.map (·.2)).Nodup
  item : ∀ p ∈ L, At h p.2 p.1
  led : w.params.followText "set-order" = true ∨ t.led = true
  room : L.length * 5 < t.mask * 3
  few : L.length < 64
theorem size_of {L : List (Addr × NestedKey)} {es : Array (Int × Value)} (h : es.toList = rows w L) : es.size = L.length := by
  rw [← Array.length_toList, h, rows_len]
theorem entry_of {L : List (Addr × NestedKey)} {es : Array (Int × Value)} (h : es.toList = rows w L) {i : Nat} {p : Addr × NestedKey} (e : L[i]? = some p) : es[i]? = some (p.2.hash w, .ref p.1) := by
  rw [← Array.getElem?_toList, h]
  unfold rows
  rw [List.getElem?_map, e]
  rfl
theorem fits_of {L : List (Addr × NestedKey)} {es : Array (Int × Value)} {t : SetTable} (h : es.toList = rows w L) (T : TabOk t (hashL w L)) (le : L.length ≤ t.mask) : t.fits es.size = true := by
  have q := T.sz
  unfold hashL at q
  rw [List.length_map] at q
  have z := size_of h
  unfold SetTable.fits SetTable.fill
  rw [T.dm, Bool.and_eq_true, beq_iff_eq, decide_eq_true_eq]
  refine ⟨by omega, ?_⟩
  show t.place.size + 0 ≤ t.mask
  omega
variable {a : Addr} {L : List (Addr × NestedKey)} {es : Array (Int × Value)} {ep : Nat} {t : SetTable}
theorem SetN.fits {h : Heap} (R : SetN w h a L es ep t) : t.fits es.size = true := fits_of R.rows R.tab (by have := R.room; omega)
theorem keeps_way {m : Nat} {g : Int} (c : Nat) : (nth m (runAt m (SetTable.bits g % (m + 1)) (SetTable.bits g)) c).dummy = none := by
  have step : ∀ (n : Nat) (p : SetTable.Probe), p.dummy = none → (nth m p n).dummy = none := fun n => by
    induction n with
    | zero => exact fun p h => h
    | succ n ih =>
      intro p h
      refine ih (adv m p) ?_
      unfold adv
      split <;> exact h
  exact step c _ rfl
/-- where the c-th look for the hash g stands -/
abbrev look (m : Nat) (g : Int) (c : Nat) : SetTable.Probe := nth m (runAt m (SetTable.bits g % (m + 1)) (SetTable.bits g)) c
theorem look_add (m : Nat) (g : Int) (c q : Nat) : nth m (look m g c) q = look m g (c + q) := (nth_add m c _ q).symm
/-- from the c-th look on -/
theorem seek (R : SetN w s.heap a L es ep t) {x : Addr} {k : NestedKey} (hx : At s.heap k x) (hu : A.units + 8 < cLine) {g : Int} (eg : g = k.hash w) {N : Nat} (small : N < 10 * SetTable.turns t.mask) (free : way t.mask g N ∉ t.place.toList)
    (taken : ∀ c, c < N → way t.mask g c ∈ t.place.toList) {Z : SetFound → Shared → Prop} (yes : k ∈ L.map (·.2) → Z (.there none) s) (no : k ∉ L.map (·.2) → Z (.free (way t.mask g N) false) s) :
    ∀ (f c : Nat) (start : Option SetTable.Probe), start.getD (t.probeStart g) = look t.mask g c → c ≤ N → N - c < f → (∀ (i : Nat) p, L[i]? = some p → p.2 = k → ∃ d, c ≤ d ∧ d < N ∧ t.place.toList[i]? = some (way t.mask g d)) →
      wpAny (model P w) A (setSearchFrom a (.ref x) g true f start) Z E s := by
  intro f
  induction f with
  | zero => exact fun c _ _ _ lt _ => absurd lt (Nat.not_lt_zero _)
  | succ f ih =>
    intro c start st le lt ahead
    obtain ⟨o, ho, ex, hd⟩ := R.at_
    have mo := mask_odd R.tab.mok
    have stays : ¬ t.gaveWay = true := by
      unfold SetTable.gaveWay
      rw [mo]
      decide
    rw [setSearchFrom_succ]
    refine wpAny_bind (wpAny_setState_of ho hd R.fits ?_)
    dsimp only
    refine wp_if_neg stays ?_
    try refine wpAny_bind (wpAny_pure ?_)
    have jAt : ∀ q, (nth t.mask (look t.mask g c) q).j = way t.mask g (c + q) := fun q => congrArg SetTable.Probe.j (look_add t.mask g c q)
    have stop : c + (N - c) = N := by omega
    have two := go_spec t R.tab.ris R.tab.dm (fun i => (es[i]?.map (·.1)).getD 0) g (10 * SetTable.turns t.mask) (N - c) (look t.mask g c) (keeps_way c) (by omega) (fun q hq => by rw [jAt]; exact taken _ (by omega)) (by rw [jAt, stop]; exact free)
    have hashIs : ∀ (i : Nat) p, L[i]? = some p → (es[i]?.map (·.1)).getD 0 = p.2.hash w := fun i p e => by
      rw [entry_of R.rows e]
      rfl
    rcases two with ⟨q, i, hq, hi, hh, before, probe⟩ | ⟨none_, probe⟩
    · rw [jAt] at hi
      have il : i < L.length := by
        have h1 := (List.getElem?_eq_some_iff.mp hi).1
        have h2 := R.tab.sz
        unfold hashL at h2
        rw [Array.length_toList] at h1
        rw [List.length_map] at h2
        omega
      obtain ⟨p, ep⟩ : ∃ p, L[i]? = some p := ⟨_, List.getElem?_eq_getElem il⟩
      have pm := List.mem_of_getElem? ep
      have met : t.probe (fun i => (es[i]?.map (·.1)).getD 0) g (start.getD (t.probeStart g)) = some (.candidate (way t.mask g (c + q)) i (look t.mask g (c + (q + 1)))) := by
        rw [st, ← jAt, ← look_add]
        exact probe
      rw [met]
      dsimp only
      have live : t.slot (way t.mask g (c + q)) = .live i := slot_live R.tab.ris hi
      have onward : wpAny (model P w) A (searchRest a (.ref x) g true f es t (way t.mask g (c + q)) i (look t.mask g (c + (q + 1)))) Z E s := by
        unfold searchRest
        rw [entry_of R.rows ep]
        dsimp only
        refine wpAny_bind (wpAny_holding ((nestedKind P w).eqBool hu (R.item p pm) hx ?_))
        refine wpAny_bind (wpAny_setState_of ho hd R.fits ?_)
        dsimp only
        by_cases same : p.2 = k
        · exact wp_if_pos (by simp [same]) (wpAny_pure (yes (List.mem_map.mpr ⟨p, pm, same⟩)))
        · refine wp_if_neg (by simp [same]) ?_
          try refine wpAny_bind (wpAny_pure ?_)
          rw [sameMem]
          dsimp only
          simp only [if_true, live, entry_of R.rows ep]
          refine wpAny_bind (wpAny_isSame_ref_self (wpAny_bind (wpAny_pure ?_)))
          simp only [if_true]
          refine wp_if_neg (by simp [same]) ?_
          refine ih (c + (q + 1)) _ rfl (by omega) (by omega) fun i0 p0 e0 k0 => ?_
          obtain ⟨d, d1, d2, d3⟩ := ahead i0 p0 e0 k0
          refine ⟨d, ?_, d2, d3⟩
          have h0 : (es[i0]?.map (·.1)).getD 0 = g := by rw [hashIs i0 p0 e0, k0, eg]
          rcases Nat.lt_trichotomy d (c + q) with z | z | z
          · exact absurd h0 (before (d - c) i0 (by omega) (by rw [jAt, show c + (d - c) = d by omega]; exact d3))
          · rw [z] at d3
            have l2 := slot_live R.tab.ris d3
            rw [live] at l2
            injection l2 with l2
            rw [← l2, ep] at e0
            cases e0
            exact absurd k0 same
          · omega
      by_cases led : t.led = true
      · refine wp_if_neg (by simp [led]) ?_
        try refine wpAny_bind (wpAny_pure ?_)
        exact onward
      · refine wp_if_pos (by simp [led]) (wpAny_bind (unseen hx (fun y hy => ?_) ?_))
        · obtain ⟨e, he, rfl⟩ := List.mem_map.mp hy
          have he1 : e ∈ es ∧ e.1 = g := by simpa using he
          have he2 : e ∈ es.toList := by simpa using he1.1
          rw [R.rows] at he2
          obtain ⟨p2, hp2, rfl⟩ := List.mem_map.mp he2
          exact ⟨p2.2, p2.1, rfl, R.item p2 hp2⟩
        · refine wp_if_neg (by decide) ?_
          try refine wpAny_bind (wpAny_pure ?_)
          exact onward
    · have met : t.probe (fun i => (es[i]?.map (·.1)).getD 0) g (start.getD (t.probeStart g)) = some (.empty (way t.mask g N) none) := by
        have e2 : way t.mask g N = (nth t.mask (look t.mask g c) (N - c)).j := by rw [jAt, stop]
        rw [st, e2]
        exact probe
      rw [met]
      dsimp only
      refine wpAny_pure (no fun hm => ?_)
      obtain ⟨p0, m0, k0⟩ := List.mem_map.mp hm
      obtain ⟨i0, e0⟩ := List.mem_iff_getElem?.mp m0
      obtain ⟨d, d1, d2, d3⟩ := ahead i0 p0 e0 k0
      exact none_ (d - c) i0 (by omega) (by rw [jAt, show c + (d - c) = d by omega]; exact d3) (by rw [hashIs i0 p0 e0, k0, eg])
theorem seek_all (R : SetN w s.heap a L es ep t) {x : Addr} {k : NestedKey} (hx : At s.heap k x) (hu : A.units + 8 < cLine) {Z : SetFound → Shared → Prop} (yes : k ∈ L.map (·.2) → Z (.there none) s)
    (no : ∀ N, k ∉ L.map (·.2) → way t.mask (k.hash w) N ∉ t.place.toList → (∀ c, c < N → way t.mask (k.hash w) c ∈ t.place.toList) → Z (.free (way t.mask (k.hash w) N) false) s) : wpAny (model P w) A (setSearch a (.ref x) (k.hash w) true) Z E s := by
  have room := R.room
  have len : (hashL w L).length = L.length := List.length_map _
  obtain ⟨N, n1, n2, n3⟩ := R.tab.first (by rw [len]; omega) (k.hash w)
  have big : N < 100000 := by
    have : 10 * SetTable.turns t.mask ≤ 1420 := by
      unfold SetTable.turns
      rcases R.tab.mok with e | e | e <;> omega
    omega
  unfold setSearch
  refine seek R hx hu rfl n1 n2 n3 yes (fun z => no N z n2 n3) 100000 0 none rfl (Nat.zero_le _) (by omega) fun i p e q => ?_
  have hi : (hashL w L)[i]? = some (k.hash w) := by
    unfold hashL
    rw [List.getElem?_map, e, ← q]
    rfl
  have il : i < t.place.toList.length := by
    have h1 := (List.getElem?_eq_some_iff.mp e).1
    have h2 := R.tab.sz
    rw [len] at h2
    rw [Array.length_toList, h2]
    exact h1
  obtain ⟨c, c1, c2⟩ := R.tab.before n2 hi (List.getElem?_eq_getElem il)
  exact ⟨c, Nat.zero_le _, c1, by rw [List.getElem?_eq_getElem il, c2]⟩
/-- the items in the order of a table that is laid anew -/
theorem in_order (he : es.toList = rows w L) (order : Array Nat) (hp : order.toList.Perm (List.range L.length)) : ∃ M, (order.filterMap (es[·]?)).toList = rows w M ∧ M.Perm L ∧ hashL w M = order.toList.map fun i => (es.map (·.1)).getD i 0 := by
  have key : ∀ l : List Nat, (∀ i ∈ l, i < L.length) → l.filterMap (fun i => es[i]?) = rows w (l.filterMap (fun i => L[i]?)) ∧ hashL w (l.filterMap (fun i => L[i]?)) = l.map fun i => (es.map (·.1)).getD i 0 := fun l => by
    induction l with
    | nil => exact fun _ => ⟨rfl, rfl⟩
    | cons i l ih =>
      intro hl
      have hi := hl i List.mem_cons_self
      have ei := List.getElem?_eq_getElem hi
      have ee := entry_of he ei
      obtain ⟨h1, h2⟩ := ih fun j hj => hl j (List.mem_cons_of_mem _ hj)
      refine ⟨?_, ?_⟩
      · rw [List.filterMap_cons_some ee, List.filterMap_cons_some ei, h1]
        rfl
      · rw [List.filterMap_cons_some ei, List.map_cons, ← h2]
        have : (es.map (·.1)).getD i 0 = (L[i]).2.hash w := by simp [Array.getD_eq_getD_getElem?, ee]
        rw [this]
        rfl
  obtain ⟨h1, h2⟩ := key order.toList fun i hi => List.mem_range.mp (hp.mem_iff.mp hi)
  refine ⟨order.toList.filterMap (fun i => L[i]?), by first | (rw [Array.toList_filterMap]; exact h1) | simpa using h1, ?_, h2⟩
  refine (hp.filterMap _).trans ?_
  have whole : ∀ n, n ≤ L.length → (List.range n).filterMap (fun i => L[i]?) = L.take n := fun n => by
    induction n with
    | zero => exact fun _ => rfl
    | succ n ih =>
      intro hn
      have lt : n < L.length := hn
      have e1 := List.getElem?_eq_getElem lt
      rw [List.range_succ, List.filterMap_append, ih (Nat.le_of_lt lt), List.take_succ, e1, List.filterMap_cons_some e1]
      rfl
  rw [whole L.length (Nat.le_refl _), List.take_length]
/-- a larger table -/
theorem grow {o : Obj} (ho : s.heap.get? a = some o) (ex : o.ExactSet) (hd : o.data = .set es ep t) (he : es.toList = rows w L) (T : TabOk t (hashL w L)) (le : L.length ≤ t.mask) (once : (L.map (·.2)).Nodup) (item : ∀ p ∈ L, At s.heap p.2 p.1)
    (led : w.params.followText "set-order" = true ∨ t.led = true) (few : L.length < 64) {wanted m : Nat} (hw : SetTable.sizeAbove wanted - 1 = m) (mok : MaskOk m) (line : SetTable.sizeAbove wanted ≤ 128) (room : L.length * 5 < m * 3) {Z : Unit → Shared → Prop}
    (z : ∀ h' M es' ep' t', Heap.SameBut a s.heap h' → SetN w h' a M es' ep' t' → M.Perm L → Z () { s with heap := h' }) : wpAny (model P w) A (setRelay a wanted) Z E s := by
  have sz := size_of he
  obtain ⟨t', order, e, hp, T', em, el, _, _⟩ := relaid_ok t (hs := es.map (·.1)) (wanted := wanted) hw mok (by rw [Array.size_map, sz]; omega)
  rw [Array.size_map, sz] at hp
  obtain ⟨M, r1, r2, r3⟩ := in_order he order hp
  rw [← r3] at T'
  have sz2 : (order.filterMap (es[·]?)).size = es.size := by rw [size_of r1, r2.length_eq, sz]
  rw [setRelay_eq]
  refine wpAny_bind (wpAny_setState_of ho hd (fits_of he T le) ?_)
  dsimp only
  refine wp_if_neg (by rw [sizeLine_eq]; omega) ?_
  try refine wpAny_bind (wpAny_pure ?_)
  rw [e]
  dsimp only
  refine wpAny_bind (wp_if_neg (by rw [sz2]; simp) ?_)
  try refine wpAny_bind (wpAny_pure ?_)
  refine wpAny_pure ?_
  dsimp only
  have sb : Heap.SameBut a s.heap (s.heap.update a (Obj.putSet (order.filterMap (es[·]?)) t')) := Heap.SameBut.update ..
  refine wpAny_storeSet_of ho hd (z _ M (order.filterMap (es[·]?)) (ep + 1) t' sb ⟨⟨_, store_at ho hd, ⟨ex.1, ex.2.1, ex.2.2⟩, rfl⟩, r1, T', (r2.map (·.2)).nodup_iff.mpr once, fun p h => (item p (r2.mem_iff.mp h)).off ho hd sb, by rw [el]; exact led, by rw [r2.length_eq, em]; exact room, by rw [r2.length_eq]; exact few⟩ r2) (by rw [sz2, sz, sizeLine_eq]; omega)
/-- what adding does behind the search -/
def stored (a : Addr) (es : Array (Int × Value)) (t : SetTable) (n : Nat) : Sem Bool := do
  storeSet a es t
  if !false && t.tooFull then setRelay a (SetTable.grown n)
  return true
theorem put (R : SetN w s.heap a L es ep t) {x : Addr} {k : NestedKey} (hx : At s.heap k x) (hu : A.units + 8 < cLine) (few : L.length + 1 < 64) {Z : Bool → Shared → Prop}
    (z : ∀ b h' M es' ep' t', Heap.SameBut a s.heap h' → SetN w h' a M es' ep' t' → (k ∈ L.map (·.2) → M = L) → (k ∉ L.map (·.2) → M.Perm ((x, k) :: L)) → Z b { s with heap := h' }) : wpAny (model P w) A (setAddHashed a (.ref x) (k.hash w)) Z E s := by
  obtain ⟨o, ho, ex, hd⟩ := R.at_
  have sz := size_of R.rows
  have room := R.room
  unfold setAddHashed
  refine wpAny_holding ?_
  rw [show (100000 : Nat) = 99999 + 1 from rfl, setAddHashedIn_succ]
  refine wpAny_bind (wpAny_setState_of ho hd R.fits ?_)
  dsimp only
  refine wp_if_neg (by simp [byScan, Value.scannable]) ?_
  try refine wpAny_bind (wpAny_pure ?_)
  refine wpAny_bind (seek_all R hx hu (fun hm => ?_) fun N hm hN taken => ?_)
  · dsimp only
    exact wpAny_pure (z false s.heap L es ep t (Heap.SameBut.refl a s.heap) R (fun _ => rfl) fun q => absurd hm q)
  · dsimp only
    refine wpAny_bind (wpAny_setState_of ho hd R.fits ?_)
    dsimp only
    obtain ⟨q1, q2, q3, q4, q5, q6, q7, q8, q9⟩ := R.tab.put hN taken
    generalize t.put (way t.mask (k.hash w) N) = pt at q1 q3 q4 q5 q6 q7 q8 q9 ⊢
    obtain ⟨t1, p⟩ := pt
    dsimp only at q1 q3 q4 q5 q6 q7 q8 q9 ⊢
    subst q1
    have len : (hashL w L).length = L.length := List.length_map _
    generalize epp : SetTable.below t.place (way t.mask (k.hash w) N) = p at q2 q3 ⊢
    have pm : (L.take p ++ (x, k) :: L.drop p).Perm ((x, k) :: L) := by
      have h : (L.take p ++ (x, k) :: L.drop p).Perm ((x, k) :: (L.take p ++ L.drop p)) := List.perm_middle
      rw [List.take_append_drop] at h
      exact h
    have ins : (SetTable.insertAt es p (k.hash w, Value.ref x)).toList = rows w (L.take p ++ (x, k) :: L.drop p) := by
      rw [SetTable.toList_insertAt, R.rows]
      unfold rows
      rw [List.map_append, List.map_cons, List.map_take, List.map_drop]
    have hs : hashL w (L.take p ++ (x, k) :: L.drop p) = (hashL w L).take p ++ k.hash w :: (hashL w L).drop p := by
      unfold hashL
      rw [List.map_append, List.map_cons, List.map_take, List.map_drop]
    rw [← hs] at q3
    generalize L.take p ++ (x, k) :: L.drop p = L1 at pm ins hs q3
    have len1 : L1.length = L.length + 1 := pm.length_eq
    generalize SetTable.insertAt es p (k.hash w, Value.ref x) = es1 at ins ⊢
    have sz1 := size_of ins
    have once : (L1.map (·.2)).Nodup := (pm.map (·.2)).nodup_iff.mpr (by rw [List.map_cons]; exact List.nodup_cons.mpr ⟨hm, R.once⟩)
    -- what is stored, plain or not
    have after : ∀ t2 : SetTable, t2.place = t1.place → t2.dummies = t1.dummies → t2.mask = t1.mask → t2.led = t1.led → wpAny (model P w) A (stored a es1 t2 (es.size + 1)) Z E s := fun t2 e1 e2 e3 e4 => by
      unfold stored
      have T2 : TabOk t2 (hashL w L1) := ⟨by rw [e1]; exact q3.ris, by rw [e2]; exact q3.dm, by rw [e1]; exact q3.sz, by rw [e3]; exact q3.mok, by rw [e1, e3]; exact q3.bd, by rw [e1, e3]; exact q3.reach⟩
      have led2 : w.params.followText "set-order" = true ∨ t2.led = true := by rw [e4, q5]; exact R.led
      have m2 : t2.mask = t.mask := e3.trans q4
      have fill2 : t2.fill = L.length + 1 := by
        have h1 := T2.sz
        unfold hashL at h1
        rw [List.length_map, len1] at h1
        unfold SetTable.fill
        rw [T2.dm, h1]
        rfl
      refine wpAny_bind (wpAny_storeSet_of ho hd ?_ (by rw [sz1, len1, sizeLine_eq]; omega))
      have sb : Heap.SameBut a s.heap (s.heap.update a (Obj.putSet es1 t2)) := Heap.SameBut.update ..
      have ho1 := store_at (es' := es1) (t' := t2) ho hd
      generalize s.heap.update a (Obj.putSet es1 t2) = h1 at sb ho1 ⊢
      have item1 : ∀ p ∈ L1, At h1 p.2 p.1 := fun p hp => by
        rcases List.mem_cons.mp (pm.mem_iff.mp hp) with e | hp
        · rw [e]; exact hx.off ho hd sb
        · exact (R.item p hp).off ho hd sb
      by_cases full : t2.tooFull = true
      · have f2 := full
        unfold SetTable.tooFull at f2
        rw [decide_eq_true_eq, fill2] at f2
        have which : (t.mask = 7 ∧ L.length = 4) ∨ (t.mask = 31 ∧ L.length = 18) := by
          rcases R.tab.mok with e | e | e
          · left; rw [m2, e] at f2; rw [e] at room; exact ⟨e, by omega⟩
          · right; rw [m2, e] at f2; rw [e] at room; exact ⟨e, by omega⟩
          · exfalso; rw [m2, e] at f2; omega
        have next : ∀ m, SetTable.sizeAbove (SetTable.grown (L.length + 1)) - 1 = m → MaskOk m → SetTable.sizeAbove (SetTable.grown (L.length + 1)) ≤ 128 → (L.length + 1) * 5 < m * 3 →
            wpAny (model P w) A (setRelay a (SetTable.grown (L.length + 1))) (fun _ s' => wpAny (model P w) A (pure true) Z E s') E { s with heap := h1 } := fun m a1 a2 a3 a4 =>
          grow (s := { s with heap := h1 }) ho1 ⟨ex.1, ex.2.1, ex.2.2⟩ rfl ins T2 (by rw [len1, m2]; rcases which with ⟨e, e2⟩ | ⟨e, e2⟩ <;> omega) once item1 led2 (by rw [len1]; exact few) a1 a2 a3 (by rw [len1]; exact a4) fun h2 M es2 ep2 t3 sb2 R2 pm2 =>
            wpAny_pure (z true h2 M es2 ep2 t3 (sb.trans sb2) R2 (fun q => absurd q hm) fun _ => pm2.trans pm)
        rw [sz]
        first
          | (refine wpAny_bind ?_; refine wp_if_pos (by simp [full]) ?_)
          | (refine wp_if_pos (by simp [full]) ?_; refine wpAny_bind ?_)
        rcases which with ⟨_, e2⟩ | ⟨_, e2⟩
        · exact next 31 (by rw [e2, size_20]) (.inr (.inl rfl)) (by rw [e2, size_20]; decide) (by omega)
        · exact next 127 (by rw [e2, size_76]) (.inr (.inr rfl)) (by rw [e2, size_76]; decide) (by omega)
      · have f2 := full
        unfold SetTable.tooFull at f2
        rw [decide_eq_true_eq, fill2] at f2
        first
          | refine wp_if_neg (by simp [full]) ?_
          | (refine wpAny_bind ?_; refine wp_if_neg (by simp [full]) ?_; refine wpAny_pure ?_)
        exact wpAny_pure (z true h1 L1 es1 (ep + 1) t2 sb ⟨⟨_, ho1, ⟨ex.1, ex.2.1, ex.2.2⟩, rfl⟩, ins, T2, once, item1, led2, by rw [len1]; omega, by rw [len1]; exact few⟩ (fun q => absurd q hm) fun _ => pm)
    have tail : ∀ b : Bool, wpAny (model P w) A (stored a es1 (if b = true then t1 else { t1 with plain := false }) (es.size + 1)) Z E s := fun b => by
      cases b with
      | true => exact after t1 rfl rfl rfl rfl
      | false => exact after { t1 with plain := false } rfl rfl rfl rfl
    by_cases pl : t1.plain = true
    · first
        | (refine wpAny_bind ?_; refine wp_if_pos pl ?_; refine byHash k _ 8 s hx.1 hx.2 _ _ _ fun b => ?_)
        | refine wp_if_pos pl (wpAny_bind (byHash k _ 8 s hx.1 hx.2 _ _ _ fun b => ?_))
      exact tail b
    · first
        | (refine wpAny_bind ?_; refine wp_if_neg pl ?_; refine wpAny_pure ?_)
        | refine wp_if_neg pl (wpAny_bind (wpAny_pure ?_))
      exact tail true
end
end Ps
/-! text PsC -/
set_option Elab.async false
set_option linter.all false
set_option maxRecDepth 100000
set_option maxHeartbeats 4000000
/-! PsC: set(a list of nested tuples). -/
namespace Ps
open PySem PySem.Spec PyProof.Rows L2 PlS PySem.Froz
/-- the set at S has of the items ks the first i, each key once -/
def Has (w : World) (h : Heap) (S : Addr) (ks : List (Addr × NestedKey)) (i : Nat) : Prop := ∃ L es ep t, SetN w h S L es ep t ∧ (∀ p ∈ L, p ∈ ks.take i) ∧ (∀ p ∈ ks.take i, p.2 ∈ L.map (·.2)) ∧ L.length ≤ i
theorem SetN.keep {w : World} {h h' : Heap} {S : Addr} {L : List (Addr × NestedKey)} {es : Array (Int × Value)} {ep : Nat} {t : SetTable} (R : SetN w h S L es ep t) (k : ∀ o, h.get? S = some o → h'.get? S = some o) (it : ∀ p ∈ L, At h' p.2 p.1) : SetN w h' S L es ep t := by
  obtain ⟨⟨o, e, r⟩, h2, h3, h4, h5, h6, h7, h8⟩ := R
  exact ⟨⟨o, k o e, r⟩, h2, h3, h4, it, h6, h7, h8⟩
theorem fresh_ok {w : World} {h : Heap} {S : Addr} (e : h.get? S = some (blank w)) : SetN w h S [] #[] 0 (.fresh 0 0 (!w.params.followText "set-order")) := by
  refine ⟨⟨_, e, ⟨rfl, rfl, rfl⟩, rfl⟩, rfl, ⟨List.Pairwise.nil, rfl, rfl, .inl rfl, fun x hx => ?_, fun i h j hi => ?_⟩, List.nodup_nil, fun p hp => (by cases hp), ?_, by show 0 * 5 < 7 * 3; decide, by exact (by decide : (0 : Nat) < 64)⟩
  · exact absurd hx (List.not_mem_nil)
  · simp [hashL] at hi
  · cases q : w.params.followText "set-order" with
    | true => exact .inl rfl
    | false => exact .inr rfl
section
variable {P : Program} {w : World} {A : Around} {R : Result → Shared → Prop} {I : Addr} {fp wr : List Addr} {G : Array GenState → Array GenState → Prop} {n : Nat} {Pv : Nat → Value → Prop} {St : Nat → Shared → Prop} {h0 : Heap}
theorem fillN (W : WalksS P w A.in1 I fp wr G n Pv St) (S : Addr) (hS : S ∉ fp) (ks : List (Addr × NestedKey)) (hn : n = ks.length) (hv : ∀ i v, Pv i v → ∃ p, ks[i]? = some p ∧ v = .ref p.1) (few : n < 63) (hu : A.in1.units + 8 < cLine)
    (old : ∀ b o, h0.get? b = some o → b ∉ wr ∧ b ≠ S) (its : ∀ p ∈ ks, At h0 p.2 p.1) :
    ∀ (k i : Nat) (s : Shared), n = i + k → St i s → (∀ b o, h0.get? b = some o → s.heap.get? b = some o) → Has w s.heap S ks i →
      (∀ s', Moved (S :: wr) G s s' → (∀ b o, h0.get? b = some o → s'.heap.get? b = some o) → Has w s'.heap S ks n → R (.ok (.ret .none)) s') → codeAny (model P w) A (.builtin "set.update.loop" ⟨[.ref S, .ref I], []⟩) R s := by
  have nw : S ∉ wr := fun z => hS (W.sub _ z)
  have up : ∀ b, b ∈ wr → b ∈ S :: wr := fun b hb => List.mem_cons_of_mem _ hb
  have itAt : ∀ {h : Heap}, (∀ b o, h0.get? b = some o → h.get? b = some o) → ∀ p ∈ ks, At h p.2 p.1 := fun kp p hp => (its p hp).stay fun c o vs n e _ => kp c o e
  intro k
  induction k with
  | zero =>
    intro i s hk st kp hs go
    have hi : i = n := hk.symm
    subst hi
    refine codeAny_builtin F.entry_set_update_loop ?_; rw [Around.under_plainId F.plain_set_update_loop _]
    refine wpAny_bind (W.done s _ _ st fun s' mv => wpAny_pure (go s' (mv.mono up) (fun b o e => mv.heap b o (old b o e).1 (kp b o e)) ?_))
    obtain ⟨L, es, ep, t, r, h1, h2, h3⟩ := hs
    exact ⟨L, es, ep, t, r.keep (fun o e => mv.heap S o nw e) (fun p hp => itAt (fun b o e => mv.heap b o (old b o e).1 (kp b o e)) p (List.mem_of_mem_take (h1 p hp))), h1, h2, h3⟩
  | succ k ih =>
    intro i s hk st kp hs go
    refine codeAny_builtin F.entry_set_update_loop ?_; rw [Around.under_plainId F.plain_set_update_loop _]
    refine wpAny_bind (W.item i s _ _ (by omega) st fun v s' pv st' mv => ?_)
    obtain ⟨p, hp, rfl⟩ := hv i v pv
    have pm := List.mem_of_getElem? hp
    have kp1 : ∀ b o, h0.get? b = some o → s'.heap.get? b = some o := fun b o e => mv.heap b o (old b o e).1 (kp b o e)
    obtain ⟨L, es, ep, t, r, h1, h2, h3⟩ := hs
    have r1 : SetN w s'.heap S L es ep t := r.keep (fun o e => mv.heap S o nw e) fun q hq => itAt kp1 q (List.mem_of_mem_take (h1 q hq))
    have xp := itAt kp1 p pm
    show wpAny _ A.in1 (holding [Value.ref p.1] (setAdd S (.ref p.1)) >>= _) _ _ s'
    refine wpAny_bind (wpAny_holding ?_); unfold setAdd
    refine wpAny_holding (wpAny_bind (pyHash_key p.2 _ _ _ _ xp.1 (by have := xp.2; omega) ?_))
    refine put (s := { s' with toks := s'.toks + p.2.draws }) (x := p.1) r1 xp hu (by omega) fun b h' M es' ep' t' sb R2 same more => ?_
    have kp2 : ∀ b o, h0.get? b = some o → h'.get? b = some o := fun b o e => (sb.2 b (old b o e).2).trans (kp1 b o e)
    have tk : ks.take (i + 1) = ks.take i ++ [p] := by rw [List.take_add_one, hp]; rfl
    have ok2 : Has w h' S ks (i + 1) := by
      by_cases hm : p.2 ∈ L.map (·.2)
      · obtain rfl := same hm
        refine ⟨M, es', ep', t', R2, fun q hq => ?_, fun q hq => ?_, by omega⟩
        · rw [tk]; exact List.mem_append_left _ (h1 q hq)
        · rw [tk] at hq
          rcases List.mem_append.mp hq with hq | hq
          · exact h2 q hq
          · rw [List.mem_singleton.mp hq]; exact hm
      · have pmM := more hm
        refine ⟨M, es', ep', t', R2, fun q hq => ?_, fun q hq => ?_, by have := pmM.length_eq; rw [List.length_cons] at this; omega⟩
        · rw [tk]
          rcases List.mem_cons.mp (pmM.mem_iff.mp hq) with e | hq
          · rw [e]; exact List.mem_append_right _ (List.mem_singleton.mpr rfl)
          · exact List.mem_append_left _ (h1 q hq)
        · rw [tk] at hq
          refine ((pmM.map (·.2)).mem_iff).mpr ?_
          rw [List.map_cons]
          rcases List.mem_append.mp hq with hq | hq
          · exact List.mem_cons_of_mem _ (h2 q hq)
          · rw [List.mem_singleton.mp hq]; exact List.mem_cons_self
    have far : ∀ b, b ∈ fp → b ≠ S := fun b hb z => hS (by rw [← z]; exact hb)
    refine wpAny_pure ⟨plainId_quiet F.plain_set_update_loop _, ih (i + 1) _ (by omega) (W.frame _ s' _ _ st' (Nat.le_add_right _ _) fun b hb o e => (sb.2 b (far b hb)).trans e) kp2 ok2 fun s2 mv2 kp3 ok3 => go s2 (Moved.trans W.gtrans ((mv.mono up).then_heap (Nat.le_add_right _ _) fun b o hb e => ?_) mv2) kp3 ok3⟩
    exact (sb.2 b fun z => hb (by rw [z]; exact List.mem_cons_self)).trans e
end
section
variable {P : Program} {w : World} {A : Around} {E : Value → Shared → Prop} {s : Shared}
/-- set(a list of nested tuples) -/
theorem makeN {l : Addr} {items : Array Value} {ks : List (Addr × NestedKey)} {Q : Value → Shared → Prop} (hh : A.handled = none) (hl : s.heap.IsList l items) (hi : items.toList = ks.map fun p => Value.ref p.1) (its : ∀ p ∈ ks, At s.heap p.2 p.1) (few : items.size < 63) (hu : A.units + 20 < cLine)
    (k : ∀ (h' : Heap) (tk : Nat), Has w h' s.heap.objs.size ks ks.length → (∀ b o, s.heap.get? b = some o → h'.get? b = some o) → Q (.ref s.heap.objs.size) { s with heap := h', toks := tk }) :
    wpAny (model P w) A (call (.type "set") [.ref l]) Q E s := by
  have C := F.called_set
  obtain ⟨c, tl, hmro⟩ := C.mro; have hmade := C.made; have hsub := C.sub
  refine wpAny_call (codeAny_of_tree ?_); show wpAny _ _ (callAny (.type "set") _) _ _ _
  refine wpAny_pure ⟨Code.quiet_builtin _ (by decide +kernel), codeAny_builtin F.entry_type_call ?_⟩; rw [Around.under_plain (weight_type_call_type "set" [.ref l] []) rfl]
  have h1 := C.notType; have h2 := C.canCreate; have hct := F.typeCall_set_1 (.ref l)
  repeat (any_goals (first | assumption | wp_step))
  refine codeAny_mono (code_set_led1 (.ref l) (E := E) (Q₁ := fun o s₁ => o = .ref s.heap.objs.size ∧ s₁ = { s with heap := s.heap.push (blank w) }) ⟨rfl, rfl⟩) fun r s₁ hr => ?_
  rcases r with e | fl
  · exact hr
  cases fl with
  | ret obj =>
    obtain ⟨rfl, rfl⟩ := hr
    have at0 : (s.heap.push (blank w)).get? s.heap.objs.size = some (blank w) := Heap.get?_push_size _ rfl
    have hT : Shared.TypeIs { s with heap := s.heap.push (blank w) } (.ref s.heap.objs.size) "set" := ⟨_, at0, rfl⟩
    have hli := C.init.lookup; have hbi := C.init.bind (.ref s.heap.objs.size)
    repeat (any_goals (first | assumption | wp_step))
    refine codeAny_mono (codeAny_call_builtin (R := wants (fun r s₂ => r = .none ∧ ∃ h' tk, s₂ = { s with heap := h', toks := tk } ∧ Has w h' s.heap.objs.size ks ks.length ∧ (∀ b o, s.heap.get? b = some o → h'.get? b = some o)) E) C.init.plain F.entry_set_init (check_set_init_1 hT ?_)) fun r₂ s₂ hr₂ => ?_
    · obtain ⟨⟨oc, od, odt, osl⟩, hol, hcl, nl, hdl⟩ := hl
      cases hcl; cases hdl
      have hol' := Heap.get?_push_of_some (blank w) hol
      have hsls := F.sub_list_set; have hslf := F.sub_list_frozenset
      have hne : (Value.type "list" == Value.type "dict") = false := by decide
      have isl : (s.heap.push (blank w)).IsList l items := ⟨_, hol', rfl, nl, rfl⟩
      unfold Builtin.«set.__init__» noKeywords Builtin.Frozenset.updateFrom
      generalize hPI : pyIter = PI
      wp_walk
      subst hPI
      refine wpAny_pyIter_list isl (wpAny_bind (wpAny_runValue ?_))
      have lt : l < s.heap.objs.size := Heap.lt_size hol
      have h3 : A.in1.in1.in1.handled = none := by simp [hh]
      have sz : (s.heap.push (blank w)).objs.size = s.heap.objs.size + 1 := Heap.size_push ..
      have ap : l ≠ (s.heap.push (blank w)).objs.size := by rw [sz]; exact Nat.ne_of_lt (Nat.lt_succ_of_lt lt)
      have out : s.heap.objs.size ∉ [(s.heap.push (blank w)).objs.size, l] := by
        rw [sz]; intro z
        rcases List.mem_cons.mp z with z | z
        · exact Nat.succ_ne_self _ z.symm
        · exact Nat.ne_of_gt lt (List.mem_singleton.mp z)
      have len : items.size = ks.length := by rw [← Array.length_toList, hi, List.length_map]
      have in2 : ∀ b o, s.heap.get? b = some o → ∀ o2 o3, ((s.heap.push o2).push o3).get? b = some o := fun b o e o2 o3 => Heap.get?_push_of_some _ (Heap.get?_push_of_some _ e)
      refine fillN (h0 := s.heap) ((Walks.list h3 _ l ap items).toS) s.heap.objs.size out ks len (fun i v hv => ?_) few (by show A.units + 1 + 1 + 1 + 8 < cLine; omega) (fun b o e => ⟨fun z => ?_, Nat.ne_of_lt (Heap.lt_size e)⟩) its items.size 0 _ (Nat.zero_add _).symm ⟨⟨_, Heap.get?_push_size _ rfl, rfl, rfl⟩, isl.push _⟩ (fun b o e => in2 b o e _ _) ⟨[], _, _, _, fresh_ok (Heap.get?_push_of_some _ at0), fun p hp => (by cases hp), fun p hp => (by simp at hp), Nat.le_refl _⟩ fun s' mv kp ok => ?_
      · have hv : items[i]? = some v := hv
        rw [← Array.getElem?_toList, hi, List.getElem?_map] at hv
        cases e : ks[i]? with
        | none => rw [e] at hv; cases hv
        | some p =>
          rw [e] at hv
          cases hv
          exact ⟨p, rfl, rfl⟩
      · have below := Heap.lt_size e
        rw [List.mem_singleton.mp z, sz] at below
        exact absurd below (Nat.not_lt.mpr (Nat.le_succ _))
      · obtain ⟨h', g', d', tk', os'⟩ := s'
        cases (show g' = s.gens from mv.gens); cases (show d' = s.drawn from mv.drawn); cases (show os' = s.os from mv.os)
        rw [len] at ok
        exact wpAny_pure (wpAny_pure ⟨rfl, h', tk', rfl, ok, kp⟩)
    · rcases r₂ with e | fl₂
      · exact hr₂
      cases fl₂ with
      | ret r =>
        obtain ⟨rfl, h', tk, rfl, ok, kp⟩ := hr₂
        repeat (any_goals (first | assumption | wp_step))
        exact k _ _ ok kp
      | _ => exact hr₂.elim
  | _ => exact hr.elim
end
end Ps
/-! text PlO -/
set_option Elab.async false
set_option linter.all false
set_option maxRecDepth 100000
set_option maxHeartbeats 4000000
set_option exponentiation.threshold 5000
/-! PlO: sorted of a list of alike data (tuples of texts and tuples ..). -/
namespace Pl
open PySem PySem.Spec PyProof.Rows L2
def rSortD (K : PySem.W.Frag) : List V → Hp → VK → Prop := fun vs H Q => ∃ (a : Addr) (zs : List (V × PyData)), vs = [.ref a] ∧ SqL K H a (zs.map (·.1)) ∧ (∀ z ∈ zs, Dp K H z.1 z.2) ∧ PySem.W.AllAlike (zs.map (·.2)) ∧ PySem.W.Sortable (zs.map (·.2)) ∧ (∀ z ∈ zs, z.2.depth ≤ 64) ∧
  ∀ p, H p = none → Q (.ref p) (upd H p (.lst ((zs.mergeSort (PySem.W.dataLe false (·.2))).map (·.1))))
theorem each_rel : ∀ {zs : List (V × PyData)} {us : List Value}, Vals (zs.map (·.1)) us → PySem.W.EachIs (fun u z => RelV z.1 u) us zs
  | [], _, r => by
    cases r
    exact .nil
  | z :: zs, _, r => by
    cases r with
    | cons r t => exact .cons r (each_rel t)
theorem rel_each : ∀ {zs : List (V × PyData)} {us : List Value}, PySem.W.EachIs (fun u z => RelV z.1 u) us zs → Vals (zs.map (·.1)) us
  | [], _, r => by
    cases r
    exact .nil
  | z :: zs, _, r => by
    cases r with
    | cons r t => exact .cons r (rel_each t)
section
variable {X : Cx}
theorem each_reads {pins : List (Addr × Obj)} {σ : L2.St} {H : Hp} {s : Shared} (I : Inv X pins σ H s) : ∀ {zs : List (V × PyData)} {us : List Value}, Vals (zs.map (·.1)) us → (∀ z ∈ zs, Dp X.K H z.1 z.2) → PySem.W.EachIs (fun u z => ∃ as, Reads s.heap u z.2 as) us zs
  | [], _, r, _ => by
    cases r
    exact .nil
  | z :: zs, _, r, h => by
    cases r with
    | cons r t => exact .cons (Dp.reads I z.2 z.1 _ (h z List.mem_cons_self) r) (each_reads I t fun y hy => h y (List.mem_cons_of_mem _ hy))
theorem call_sortD (hu : X.A.units + 70 < cLine) : CallR X (.builtin "sorted") (rSortD X.K) := by
  intro pins s σ H vs us Q I r h
  obtain ⟨a, zs, rfl, hs, hd, al, so, dp, q⟩ := h
  obtain ⟨u, rfl, ru⟩ := vals1 r
  obtain rfl : u = Value.ref a := ru
  obtain ⟨its, rv, hl, hz⟩ := I.list hs
  have len : its.length = zs.length := by
    rw [← rv.length, List.length_map]
  have hz' : zs.length ≤ sizeLine := by
    rw [List.length_map] at hz
    exact hz
  refine PySem.W.sorted_data (R := fun u z => RelV z.1 u) (enc := (·.2)) hl.isList (each_rel rv) (each_reads I rv hd) al so hz' (fun z hm => by have := dp z hm; omega) fun out ho e => ?_
  obtain ⟨n, at1⟩ := sortedAll_at s.heap its out.toArray
  have new : s.heap.objs.size ≤ s.heap.objs.size + 1 := Nat.le_succ _
  refine ⟨.ref (s.heap.objs.size + 1), _, I.laid (a := s.heap.objs.size + 1) (o := .lst ((zs.mergeSort (PySem.W.dataLe false (·.2))).map (·.1))) (t' := s.toks) (fun b o g => sortedAll_old g) new ⟨?_, out, n, rel_each e, at1⟩, rfl, q _ (I.hok.fresh new)⟩
  rw [List.length_map, List.length_mergeSort]
  exact hz'
end
section
variable {K : PySem.W.Frag} {s c : Addr} {M : List Addr} {H : Hp}
theorem repL_pairs : ∀ ts : List (V × D), (∀ t ∈ ts, Rep K M H t.2 t.1) → RepL K M H (ts.map (·.2)) (ts.map (·.1))
  | [], _ => trivial
  | t :: ts, h => ⟨h t List.mem_cons_self, repL_pairs ts fun x hx => h x (List.mem_cons_of_mem _ hx)⟩
theorem pairs_repL : ∀ {l : List D} {xs : List V}, RepL K M H l xs → ∃ ts : List (V × D), l = ts.map (·.2) ∧ xs = ts.map (·.1) ∧ ∀ t ∈ ts, Rep K M H t.2 t.1
  | [], [], _ => ⟨[], rfl, rfl, fun t ht => by simp at ht⟩
  | d :: l, x :: xs, h => by
    obtain ⟨ts, e1, e2, ht⟩ := pairs_repL h.2
    refine ⟨(x, d) :: ts, by rw [e1]; rfl, by rw [e2]; rfl, fun t hm => ?_⟩
    rcases List.mem_cons.mp hm with rfl | hm
    · exact h.1
    · exact ht t hm
  | [], _ :: _, h => h.elim
  | _ :: _, [], h => h.elim
/-- data in their order -/
def ordD (l : List D) : List D := l.mergeSort (PySem.W.dataLe false py)
theorem ordD_perm (l : List D) : (ordD l).Perm l := List.mergeSort_perm _ _
theorem ck_sortD {l : List D} (hp : plainL l = true) (al : PySem.W.AllAlike (l.map py)) (so : PySem.W.Sortable (l.map py)) (dp : ∀ d ∈ l, (py d).depth ≤ 64) : CK K s c (rSortD K) [.lst l] (.lst (ordD l)) := fun M n vs H Q hm ht hh r k => by
  obtain ⟨v, rfl, a, xs, rfl, ma, ea, rl⟩ := r.inv1
  obtain ⟨ts, rfl, rfl, hts⟩ := pairs_repL rl
  have pl : ∀ t ∈ ts, plain t.2 = true := by
    intro t htm
    have all : ∀ {l : List D}, plainL l = true → ∀ d ∈ l, plain d = true := fun {l} => by
      induction l with
      | nil => intro _ d hd; simp at hd
      | cons x l ih =>
        intro h d hd
        have h' : (plain x && plainL l) = true := h
        rw [Bool.and_eq_true] at h'
        rcases List.mem_cons.mp hd with rfl | hd
        · exact h'.1
        · exact ih h'.2 d hd
    exact all hp t.2 (List.mem_map.mpr ⟨t, htm, rfl⟩)
  let f : V × D → V × PyData := fun t => (t.1, py t.2)
  have e1 : (ts.map f).map (·.1) = ts.map (·.1) := by rw [List.map_map]; rfl
  have e2 : (ts.map f).map (·.2) = (ts.map (·.2)).map py := by rw [List.map_map, List.map_map]; rfl
  have m1 : (ts.map f).mergeSort (PySem.W.dataLe false (·.2)) = (ts.mergeSort (PySem.W.dataLe false (fun t => py t.2))).map f := (List.map_mergeSort (f := f) (r := PySem.W.dataLe false (fun t : V × D => py t.2)) (s := PySem.W.dataLe false (fun z : V × PyData => z.2)) (fun _ _ _ _ => rfl)).symm
  have m2 : ordD (ts.map (·.2)) = (ts.mergeSort (PySem.W.dataLe false (fun t => py t.2))).map (·.2) := (List.map_mergeSort (f := fun t : V × D => t.2) (r := PySem.W.dataLe false (fun t : V × D => py t.2)) (s := PySem.W.dataLe false py) (fun _ _ _ _ => rfl)).symm
  refine ⟨a, ts.map f, rfl, by rw [e1]; exact SqL.of ea, fun z hz => ?_, by rw [e2]; exact al, by rw [e2]; exact so, fun z hz => ?_, fun p hpn => k (.ref p) _ (Gr.new hpn) (hh.new hpn) ⟨p, _, rfl, fun z => ?_, upd_same, ?_⟩⟩
  · obtain ⟨t, htm, rfl⟩ := List.mem_map.mp hz
    exact rep_dp (hts t htm) (pl t htm)
  · obtain ⟨t, htm, rfl⟩ := List.mem_map.mp hz
    exact dp t.2 (List.mem_map.mpr ⟨t, htm, rfl⟩)
  · obtain ⟨o, e⟩ := ht p z
    rw [hpn] at e
    cases e
  · rw [m1, m2, List.map_map]
    show RepL K M _ _ ((ts.mergeSort (PySem.W.dataLe false (fun t => py t.2))).map (·.1))
    exact (repL_pairs _ fun t htm => hts t ((List.mergeSort_perm _ _).mem_iff.mp htm)).gr (Gr.new hpn)
end
end Pl
/-! text PsD -/
set_option Elab.async false
set_option linter.all false
set_option maxRecDepth 100000
set_option maxHeartbeats 4000000
/-! PsD: sets of nested tuples as objects of the layer: set(a list), sorted(a set). -/
namespace Ps
open PySem PySem.Spec PyProof.Rows L2 PlS PySem.Froz
mutual
/-- the key that data is -/
def keyP : PyData → NestedKey
  | .bool b => .num (if b = true then 1 else 0)
  | .int i => .num i
  | .str x => .text x
  | .tuple xs => .tup (keysP xs)
  | .none => .none
  | .list _ => .none
  | .dict _ => .none
def keysP : List PyData → List NestedKey
  | [] => []
  | x :: xs => keyP x :: keysP xs
end
mutual
/-- data that may be a key: texts, ints, None, tuples of such -/
def hab : PyData → Bool
  | .none => true
  | .int _ => true
  | .str _ => true
  | .tuple xs => habs xs
  | .bool _ => false
  | .list _ => false
  | .dict _ => false
def habs : List PyData → Bool
  | [] => true
  | x :: xs => hab x && habs xs
end
mutual
theorem key_inj : ∀ a b : PyData, hab a = true → hab b = true → keyP a = keyP b → a = b
  | .none, b, _, hb, e => by cases b <;> simp_all [keyP, hab]
  | .int i, b, _, hb, e => by cases b <;> simp_all [keyP, hab]
  | .str x, b, _, hb, e => by cases b <;> simp_all [keyP, hab]
  | .tuple xs, b, ha, hb, e => by
    cases b with
    | tuple ys =>
      simp only [keyP, NestedKey.tup.injEq] at e
      rw [keys_inj xs ys ha hb e]
    | _ => simp_all [keyP, hab]
  | .bool _, _, ha, _, _ => by cases ha
  | .list _, _, ha, _, _ => by cases ha
  | .dict _, _, ha, _, _ => by cases ha
theorem keys_inj : ∀ a b : List PyData, habs a = true → habs b = true → keysP a = keysP b → a = b
  | [], [], _, _, _ => rfl
  | [], _ :: _, _, _, e => by cases e
  | _ :: _, [], _, _, e => by cases e
  | x :: xs, y :: ys, ha, hb, e => by
    simp only [habs, Bool.and_eq_true] at ha hb
    simp only [keysP, List.cons.injEq] at e
    rw [key_inj x y ha.1 hb.1 e.1, keys_inj xs ys ha.2 hb.2 e.2]
end
mutual
theorem key_depth : ∀ d : PyData, (keyP d).depth ≤ d.depth
  | .none => Nat.zero_le _
  | .bool _ => Nat.zero_le _
  | .int _ => Nat.zero_le _
  | .str _ => Nat.zero_le _
  | .list _ => Nat.zero_le _
  | .dict _ => Nat.zero_le _
  | .tuple xs => Nat.succ_le_succ (keys_depth xs)
theorem keys_depth : ∀ ds : List PyData, NestedKey.depthAll (keysP ds) ≤ PyData.depthAll ds
  | [] => Nat.le_refl _
  | x :: xs => by
    have h1 := key_depth x
    have h2 := keys_depth xs
    show max (keyP x).depth (NestedKey.depthAll (keysP xs)) ≤ max x.depth (PyData.depthAll xs)
    omega
end
mutual
theorem nested_of {h : Heap} : ∀ (d : PyData) (v : Value) (as : List Addr), Reads h v d as → hab d = true → NestedIs h (keyP d) v
  | .none, _, _, r, _ => by cases r; exact .none
  | .bool _, _, _, _, k => by cases k
  | .int i, _, _, r, _ => by cases r; exact .int _ _
  | .str x, _, _, r, _ => by cases r; exact .text _ _
  | .list _, _, _, _, k => by cases k
  | .dict _, _, _, _, k => by cases k
  | .tuple xs, _, _, r, k => by
    cases r with
    | tuple h1 h2 h3 h4 => exact .tup h1 h2 h3 (nesteds_of xs _ _ h4 k)
theorem nesteds_of {h : Heap} : ∀ (ds : List PyData) (vs : List Value) (as : List Addr), ReadsAll h vs ds as → habs ds = true → NestedAll h (keysP ds) vs
  | [], _, _, r, _ => by cases r; exact .nil
  | d :: ds, _, _, r, k => by
    simp only [habs, Bool.and_eq_true] at k
    cases r with
    | cons h1 h2 => exact .cons (nested_of d _ _ h1 k.1) (nesteds_of ds _ _ h2 k.2)
end
/-- a set's payload without its items -/
structure SetM (w : World) (h : Heap) (a : Addr) (L : List (Addr × NestedKey)) (es : Array (Int × Value)) (ep : Nat) (t : SetTable) : Prop where
  at_ : ∃ o, h.get? a = some o ∧ o.ExactSet ∧ o.data = .set es ep t
  rows : es.toList = rows w L
  tab : TabOk t (hashL w L)
  once : (L.map (·.2)).Nodup
  led : w.params.followText "set-order" = true ∨ t.led = true
  room : L.length * 5 < t.mask * 3
  few : L.length < 64
theorem SetN.bare {w : World} {h : Heap} {a : Addr} {L : List (Addr × NestedKey)} {es : Array (Int × Value)} {ep : Nat} {t : SetTable} (R : SetN w h a L es ep t) : SetM w h a L es ep t := ⟨R.at_, R.rows, R.tab, R.once, R.led, R.room, R.few⟩
theorem SetM.full {w : World} {h : Heap} {a : Addr} {L : List (Addr × NestedKey)} {es : Array (Int × Value)} {ep : Nat} {t : SetTable} (R : SetM w h a L es ep t) (it : ∀ p ∈ L, At h p.2 p.1) : SetN w h a L es ep t := ⟨R.at_, R.rows, R.tab, R.once, it, R.led, R.room, R.few⟩
/-- the items of a set: where they stand, and what they are -/
abbrev Its := List (Addr × PyData)
def Its.keys (M : Its) : List (Addr × NestedKey) := M.map fun p => (p.1, keyP p.2)
def SetO (w : World) (a : Addr) (M : Its) : HO := .ext fun h => ∃ es ep t, SetM w h a M.keys es ep t
theorem setO_new {P : Program} {w : World} {H : Hp} {h : Heap} {a : Addr} {M : Its} (R : ∃ es ep t, SetM w h a M.keys es ep t) : ObjOk P w H h a (SetO w a M) := by
  obtain ⟨es, ep, t, R⟩ := R
  obtain ⟨o, e, _⟩ := R.at_
  refine ⟨⟨es, ep, t, R⟩, ⟨o, e⟩, fun h1 h2 p k => ?_⟩
  obtain ⟨es, ep, t, ⟨o, e, r⟩, h2', h3, h4, h6, h7, h8⟩ := p
  exact ⟨es, ep, t, ⟨o, k _ e, r⟩, h2', h3, h4, h6, h7, h8⟩
mutual
theorem reads_lt {h : Heap} : ∀ (d : PyData) (v : Value) (as : List Addr), Reads h v d as → ∀ b ∈ as, b < h.objs.size
  | .none, _, _, r, b, hb => by cases r; cases hb
  | .bool _, _, _, r, b, hb => by cases r; cases hb
  | .int _, _, _, r, b, hb => by cases r; cases hb
  | .str _, _, _, r, b, hb => by cases r; cases hb
  | .tuple xs, _, _, r, b, hb => by
    cases r with
    | tuple h1 h2 h3 h4 => exact readss_lt xs _ _ h4 b hb
  | .list xs, _, _, r, b, hb => by
    cases r with
    | list h1 h2 h3 h4 =>
      rcases List.mem_cons.mp hb with e | hb
      · rw [e]; exact Heap.lt_size h1
      · exact readss_lt xs _ _ h4 b hb
  | .dict kvs, _, _, r, b, hb => by
    cases r with
    | dict h1 h2 h3 h4 h5 =>
      rcases List.mem_append.mp hb with hb | hb
      · rcases List.mem_cons.mp hb with e | hb
        · rw [e]; exact Heap.lt_size h1
        · exact readsk_lt kvs _ _ h4 b hb
      · exact readsv_lt kvs _ _ h5 b hb
theorem readss_lt {h : Heap} : ∀ (ds : List PyData) (vs : List Value) (as : List Addr), ReadsAll h vs ds as → ∀ b ∈ as, b < h.objs.size
  | [], _, _, r, b, hb => by cases r; cases hb
  | d :: ds, _, _, r, b, hb => by
    cases r with
    | cons h1 h2 =>
      rcases List.mem_append.mp hb with hb | hb
      · exact reads_lt d _ _ h1 b hb
      · exact readss_lt ds _ _ h2 b hb
theorem readsk_lt {h : Heap} : ∀ (ds : List (PyData × PyData)) (vs : List Value) (as : List Addr), ReadsAll h vs (ds.map (·.1)) as → ∀ b ∈ as, b < h.objs.size
  | [], _, _, r, b, hb => by cases r; cases hb
  | (k, v) :: ds, _, _, r, b, hb => by
    cases r with
    | cons h1 h2 =>
      rcases List.mem_append.mp hb with hb | hb
      · exact reads_lt k _ _ h1 b hb
      · exact readsk_lt ds _ _ h2 b hb
theorem readsv_lt {h : Heap} : ∀ (ds : List (PyData × PyData)) (vs : List Value) (as : List Addr), ReadsAll h vs (ds.map (·.2)) as → ∀ b ∈ as, b < h.objs.size
  | [], _, _, r, b, hb => by cases r; cases hb
  | (k, v) :: ds, _, _, r, b, hb => by
    cases r with
    | cons h1 h2 =>
      rcases List.mem_append.mp hb with hb | hb
      · exact reads_lt v _ _ h1 b hb
      · exact readsv_lt ds _ _ h2 b hb
end
section
variable {X : Cx}
/-- a new object p in a later state -/
theorem later_ok {pins : List (Addr × Obj)} {σ : L2.St} {H : Hp} {s s' : Shared} (I : Inv X pins σ H s) {p : Addr} {xs : List V} (kp : ∀ b o, s.heap.get? b = some o → s'.heap.get? b = some o) (eg : s'.gens = s.gens) (eo : s'.os = s.os) (hz : s.heap.objs.size ≤ p) (fr : H p = none)
    (ok : xs.length ≤ sizeLine ∧ ∃ out c, Vals xs out ∧ s'.heap.get? p = some (seqObj "list" out.toArray c)) : Inv X pins σ (upd H p (.lst xs)) s' := by
  have es : s' = { s with heap := s'.heap, gens := s'.gens, drawn := s'.drawn, toks := s'.toks } := by
    cases s'; cases eo; rfl
  obtain ⟨len, out, c, vo, ho⟩ := ok
  rw [es]
  exact I.step (h' := s'.heap) (g' := s'.gens) (d' := s'.drawn) (t' := s'.toks) (ch := []) (fun _ z => nomatch z) (fun b o _ _ _ e n => kp b o e) (fun b o _ _ _ e n => ⟨o.slots, kp b o e⟩) (fun b o _ e n => by rw [upd_ne (fun z => absurd (Heap.lt_size e) (by rw [z]; exact Nat.not_lt_of_le hz))]; exact n) (fun b o _ e => ⟨o, kp b o e⟩) (fun b xs e => by rw [upd_ne (ne_of_none e fr)]; exact e) (fun b o u e => by rw [upd_ne (ne_of_none e fr)]; exact e) (fun b ps e => ⟨#[], by rw [upd_ne (ne_of_none e fr), e]; simp⟩)
    (fun m hm => by
      obtain ⟨o, es, ep, e, r⟩ := hm
      exact ⟨o, es, ep, kp _ _ e, r⟩) (I.hok.laid kp hz ⟨len, out, c, vo, ho⟩) (by rw [eg]; exact I.bare)
theorem item_at {pins : List (Addr × Obj)} {σ : L2.St} {H : Hp} {s : Shared} (I : Inv X pins σ H s) {b : Addr} {d : PyData} (dp : Dp X.K H (.ref b) d) (hd : hab d = true) (small : d.depth ≤ 8) : At s.heap (keyP d) b := by
  obtain ⟨as, r⟩ := Dp.reads I d (.ref b) (.ref b) dp rfl
  exact ⟨nested_of d _ _ r hd, Nat.le_trans (key_depth d) small⟩
/-- set(a list of nested tuples): of the items some, each once, and all that there are -/
def rMakeN (w : World) (K : PySem.W.Frag) : List V → Hp → VK → Prop := fun xs H Q => ∃ (a : Addr) (zs : Its), xs = [.ref a] ∧ SqL K H a (zs.map fun z => V.ref z.1) ∧ (∀ z ∈ zs, Dp K H (.ref z.1) z.2 ∧ hab z.2 = true ∧ z.2.depth ≤ 8) ∧ zs.length < 63 ∧
  ∀ (p : Addr) (M : Its), H p = none → (∀ z ∈ M, z ∈ zs) → (∀ z ∈ zs, z.2 ∈ M.map (·.2)) → (M.map (·.2)).Nodup → Q (.ref p) (upd H p (SetO w p M))
theorem call_makeN (hc : X.calm = true) (hu : X.A.units + 20 < cLine) (K : PySem.W.Frag) (hK : X.K = K := by rfl) : CallR X (.type "set") (rMakeN X.w K) := by
  subst hK
  intro pins s σ H xs us Q I r h
  obtain ⟨a, zs, rfl, hs, hz, few, q⟩ := h
  obtain ⟨its, rv, hl, _⟩ := I.list hs
  rw [Vals.ref1 r]
  have ln := rv.length
  rw [List.length_map] at ln
  have items : its = (Its.keys zs).map fun p => Value.ref p.1 := by
    have refs : ∀ {zs : Its} {us : List Value}, Vals (zs.map fun z => V.ref z.1) us → us = zs.map fun z => Value.ref z.1 := fun {zs} => by
      induction zs with
      | nil => intro us r; cases r; rfl
      | cons z zs ih =>
        intro us r
        cases r with
        | cons r1 r2 =>
          rw [ih r2]
          cases r1
          rfl
    rw [refs rv]
    unfold Its.keys
    rw [List.map_map]
    rfl
  have memk : ∀ {M : Its} {p : Addr × NestedKey}, p ∈ M.keys → ∃ z ∈ M, p = (z.1, keyP z.2) := fun {M} {p} hp => by
    obtain ⟨z, hz, rfl⟩ := List.mem_map.mp hp
    exact ⟨z, hz, rfl⟩
  have lenk : (Its.keys zs).length = zs.length := List.length_map _
  refine makeN (I.ok.hd hc) hl.isList items (fun p hp => ?_) (by rw [List.size_toArray, ← ln]; exact few) hu fun h' tk ok kp => ?_
  · obtain ⟨z, hz', rfl⟩ := memk hp
    obtain ⟨h1, h2, h3⟩ := hz z hz'
    exact item_at I h1 h2 h3
  obtain ⟨L, es, ep, t, R, sub, all, _⟩ := ok
  rw [List.take_length] at sub all
  -- the items that the set has, with what they are
  have back : ∀ L : List (Addr × NestedKey), (∀ p ∈ L, p ∈ Its.keys zs) → ∃ M : Its, M.keys = L ∧ ∀ z ∈ M, z ∈ zs := fun L => by
    induction L with
    | nil => exact fun _ => ⟨[], rfl, fun z h => by cases h⟩
    | cons p L ih =>
      intro h
      obtain ⟨M, e, hM⟩ := ih fun p' h' => h p' (List.mem_cons_of_mem _ h')
      obtain ⟨z, hz', rfl⟩ := memk (h p List.mem_cons_self)
      refine ⟨z :: M, by rw [← e]; rfl, fun y hy => ?_⟩
      rcases List.mem_cons.mp hy with rfl | hy
      · exact hz'
      · exact hM y hy
  obtain ⟨M, rfl, hM⟩ := back L sub
  have nd : (M.map (·.2)).Nodup := by
    have n1 := R.once
    have e : (M.keys).map (·.2) = (M.map (·.2)).map keyP := by
      unfold Its.keys
      rw [List.map_map, List.map_map]
      rfl
    rw [e] at n1
    exact List.Pairwise.of_map keyP (fun _ _ ne e => ne (congrArg keyP e)) n1
  refine ⟨.ref _, upd H s.heap.objs.size (SetO X.w s.heap.objs.size M), I.laid (t' := tk) kp (Nat.le_refl _) (setO_new ⟨es, ep, t, R.bare⟩), rfl, q _ M (I.hok.fresh (Nat.le_refl _)) hM (fun z hz' => ?_) nd⟩
  obtain ⟨p, hp, e⟩ := List.mem_map.mp (all (z.1, keyP z.2) (List.mem_map.mpr ⟨z, hz', rfl⟩))
  obtain ⟨y, hy, rfl⟩ := memk hp
  have e : keyP y.2 = keyP z.2 := e
  exact List.mem_map.mpr ⟨y, hy, key_inj _ _ (hz y (hM y hy)).2.1 (hz z hz').2.1 e⟩
/-- sorted(a set of nested tuples) -/
def rSortN (w : World) (K : PySem.W.Frag) : List V → Hp → VK → Prop := fun xs H Q => ∃ (a : Addr) (M : Its), xs = [.ref a] ∧ H a = some (SetO w a M) ∧ (∀ z ∈ M, Dp K H (.ref z.1) z.2) ∧ PySem.W.AllAlike (M.map (·.2)) ∧ PySem.W.Sortable (M.map (·.2)) ∧ (∀ z ∈ M, PySem.W.alike z.2 z.2 = true ∧ z.2.depth ≤ 64) ∧
  ∀ (p : Addr) (M' : Its), H p = none → M'.Perm M → Q (.ref p) (upd H p (.lst ((M'.mergeSort (PySem.W.dataLe false (·.2))).map fun z => V.ref z.1)))
theorem call_sortN (hc : X.calm = true) (hu : X.A.units + 70 < cLine) (K : PySem.W.Frag) (hK : X.K = K := by rfl) : CallR X (.builtin "sorted") (rSortN X.w K) := by
  subst hK
  intro pins s σ H xs us Q I r h
  obtain ⟨a, M, rfl, hs, hd, al, so, dp, q⟩ := h
  rw [Vals.ref1 r]
  obtain ⟨es, ep, t, R⟩ := (I.hok a _ hs).1
  have len : M.keys.length = M.length := List.length_map _
  have few := R.few
  rw [len] at few
  have line : es.size < scanBound := by
    rw [size_of R.rows, len]
    exact Nat.lt_trans few (by decide)
  obtain ⟨o, ho, ex, hdat⟩ := R.at_
  refine Calls.call_function_entry kind_sorted plain_sorted entry_sorted (args_sorted1 _) ?_; unfold Builtin.«sorted»
  refine wpAny_bind (m := checkCount "sorted" 1 1 _) (wpAny_pure (wpAny_bind (collect_set (A := X.A.in1) (I.ok.hd hc) ⟨o, ho, ex.1, hdat⟩ (fits_of R.rows R.tab (by have := R.room; omega)) line R.tab.ris R.led fun s1 vs k1 z1 g1 o1 pm => ?_)))
  -- the values, with what they are
  have vals : es.toList.map (·.2) = M.map fun z => Value.ref z.1 := by
    rw [R.rows]
    unfold rows Its.keys
    rw [List.map_map, List.map_map]
    rfl
  rw [vals] at pm
  obtain ⟨M', pM, eM⟩ := perm_lift (fun z : Addr × PyData => Value.ref z.1) pm M rfl
  subst eM
  have lenv : (M'.map fun z => Value.ref z.1).length = M.length := by rw [List.length_map]; exact pM.length_eq
  have each : PySem.W.EachIs (fun u z => RelV (.ref z.1) u) (M'.map fun z : Addr × PyData => Value.ref z.1) M' := by
    have go : ∀ N : Its, PySem.W.EachIs (fun u z => RelV (.ref z.1) u) (N.map fun z : Addr × PyData => Value.ref z.1) N := fun N => by
      induction N with
      | nil => exact .nil
      | cons z N ih => exact .cons rfl ih
    exact go M'
  have read : ∀ z ∈ M, ∃ as, Reads s.heap (.ref z.1) z.2 as := fun z hz => Dp.reads I z.2 (.ref z.1) (.ref z.1) (hd z hz) rfl
  refine wpAny_bind (wpAny_newList ?_ (Nat.le_trans (Nat.le_of_lt (by rw [lenv]; exact few)) (by decide)))
  have at0 : (s1.heap.push (seqObj "list" (M'.map fun z => Value.ref z.1).toArray 0)).get? s1.heap.objs.size = some (seqObj "list" (M'.map fun z => Value.ref z.1).toArray 0) := Heap.get?_push_size _ rfl
  have up : ∀ b o, s.heap.get? b = some o → (s1.heap.push (seqObj "list" (M'.map fun z => Value.ref z.1).toArray 0)).get? b = some o := fun b o e => Heap.get?_push_of_some _ (k1 b o e)
  refine wpAny_bind (wpAny_holding (PySem.W.list_sort_data (A := X.A.in1) (R := fun u z => RelV (.ref z.1) u) (enc := fun z : Addr × PyData => z.2) at0 each ?_ (fun d hd d' hd' => al d ((pM.map (·.2)).mem_iff.mp hd) d' ((pM.map (·.2)).mem_iff.mp hd')) (so.imp (fun h d hd => h d ((pM.map (·.2)).mem_iff.mp hd)) fun h d hd => h d ((pM.map (·.2)).mem_iff.mp hd)) (by rw [pM.length_eq]; exact Nat.le_trans (Nat.le_of_lt few) (by decide)) (fun z hz => by have := (dp z (pM.mem_iff.mp hz)).2; show X.A.units + 1 + 1 + z.2.depth < cLine; omega) fun out ho2 eo => ?_))
  · have go : ∀ N : Its, (∀ z ∈ N, z ∈ M) → PySem.W.EachIs (fun v b => ∃ as, Reads (s1.heap.push (seqObj "list" (M'.map fun z => Value.ref z.1).toArray 0)) v b.2 as ∧ s1.heap.objs.size ∉ as) (N.map fun z : Addr × PyData => Value.ref z.1) N := fun N => by
      induction N with
      | nil => exact fun _ => .nil
      | cons z N ih =>
        intro h
        obtain ⟨as, r⟩ := read z (h z List.mem_cons_self)
        refine .cons ⟨as, Reads.keeps up r, fun hin => ?_⟩ (ih fun y hy => h y (List.mem_cons_of_mem _ hy))
        exact absurd (Nat.lt_of_lt_of_le (reads_lt _ _ _ r _ hin) z1) (Nat.lt_irrefl _)
    exact go M' fun z hz => pM.mem_iff.mp hz
  · obtain ⟨c, hcc⟩ := sortedHeap_at (vs := M'.map fun z => Value.ref z.1) (out := out.toArray) at0
    have fr := I.hok.fresh z1
    refine wpAny_pure ⟨_, rfl, .ref s1.heap.objs.size, upd H s1.heap.objs.size (.lst ((M'.mergeSort (PySem.W.dataLe false (·.2))).map fun z => V.ref z.1)), ?_, rfl, q _ M' fr pM⟩
    have kp : ∀ b o, s.heap.get? b = some o → (sortedHeap (s1.heap.push (seqObj "list" (M'.map fun z => Value.ref z.1).toArray 0)) s1.heap.objs.size (M'.map fun z => Value.ref z.1) out.toArray).get? b = some o := fun b o e => by
      have q1 := k1 b o e
      have lt := Heap.lt_size q1
      refine (sortedHeap_old (Nat.ne_of_lt lt) ?_).trans (Heap.get?_push_of_some _ q1)
      rw [Heap.size_push]
      exact Nat.lt_succ_of_lt lt
    have back : Vals ((M'.mergeSort (PySem.W.dataLe false (·.2))).map fun z => V.ref z.1) out := by
      have go : ∀ {N : Its} {us : List Value}, PySem.W.EachIs (fun u z => RelV (.ref z.1) u) us N → Vals (N.map fun z => V.ref z.1) us := fun {N} => by
        induction N with
        | nil => intro us h; cases h; exact .nil
        | cons z N ih => intro us h; cases h with | cons h1 h2 => exact .cons h1 (ih h2)
      exact go eo
    have size : ((M'.mergeSort (PySem.W.dataLe false (·.2))).map fun z => V.ref z.1).length ≤ sizeLine := by
      rw [List.length_map, List.length_mergeSort, pM.length_eq]
      exact Nat.le_trans (Nat.le_of_lt few) (by decide)
    exact later_ok I (s' := { s1 with heap := sortedHeap (s1.heap.push (seqObj "list" (M'.map fun z => Value.ref z.1).toArray 0)) s1.heap.objs.size (M'.map fun z => Value.ref z.1) out.toArray }) kp g1 o1 z1 fr ⟨size, out, c, back, hcc⟩
end
end Ps
/-! text PsF -/
set_option Elab.async false
set_option linter.all false
set_option maxRecDepth 100000
set_option maxHeartbeats 8000000
/-! PsF: sets of nested tuples: set(), in, add. -/
namespace Ps
open PySem PySem.Spec PyProof.Rows L2 PlS PySem.Froz
section
variable {P : Program} {w : World} {A : Around} {E : Value → Shared → Prop} {s : Shared}
variable {a : Addr} {L : List (Addr × NestedKey)} {es : Array (Int × Value)} {ep : Nat} {t : SetTable}
/-- from the c-th look on -/
theorem seekF (R : SetN w s.heap a L es ep t) {x : Addr} {k : NestedKey} (hx : At s.heap k x) (hu : A.units + 8 < cLine) {g : Int} (eg : g = k.hash w) {N : Nat} (small : N < 10 * SetTable.turns t.mask) (free : way t.mask g N ∉ t.place.toList)
    (taken : ∀ c, c < N → way t.mask g c ∈ t.place.toList) {Z : SetFound → Shared → Prop} (yes : ∀ i, k ∈ L.map (·.2) → Z (.there (some i)) s) (no : k ∉ L.map (·.2) → Z (.free (way t.mask g N) false) s) :
    ∀ (f c : Nat) (start : Option SetTable.Probe), start.getD (t.probeStart g) = look t.mask g c → c ≤ N → N - c < f → (∀ (i : Nat) p, L[i]? = some p → p.2 = k → ∃ d, c ≤ d ∧ d < N ∧ t.place.toList[i]? = some (way t.mask g d)) →
      wpAny (model P w) A (setSearchFrom a (.ref x) g false f start) Z E s := by
  intro f
  induction f with
  | zero => exact fun c _ _ _ lt _ => absurd lt (Nat.not_lt_zero _)
  | succ f ih =>
    intro c start st le lt ahead
    obtain ⟨o, ho, ex, hd⟩ := R.at_
    have mo := mask_odd R.tab.mok
    have stays : ¬ t.gaveWay = true := by
      unfold SetTable.gaveWay
      rw [mo]
      decide
    rw [setSearchFrom_succ]
    refine wpAny_bind (wpAny_setState_of ho hd R.fits ?_)
    dsimp only
    refine wp_if_neg stays ?_
    try refine wpAny_bind (wpAny_pure ?_)
    have jAt : ∀ q, (nth t.mask (look t.mask g c) q).j = way t.mask g (c + q) := fun q => congrArg SetTable.Probe.j (look_add t.mask g c q)
    have stop : c + (N - c) = N := by omega
    have two := go_spec t R.tab.ris R.tab.dm (fun i => (es[i]?.map (·.1)).getD 0) g (10 * SetTable.turns t.mask) (N - c) (look t.mask g c) (keeps_way c) (by omega) (fun q hq => by rw [jAt]; exact taken _ (by omega)) (by rw [jAt, stop]; exact free)
    have hashIs : ∀ (i : Nat) p, L[i]? = some p → (es[i]?.map (·.1)).getD 0 = p.2.hash w := fun i p e => by
      rw [entry_of R.rows e]
      rfl
    rcases two with ⟨q, i, hq, hi, hh, before, probe⟩ | ⟨none_, probe⟩
    · rw [jAt] at hi
      have il : i < L.length := by
        have h1 := (List.getElem?_eq_some_iff.mp hi).1
        have h2 := R.tab.sz
        unfold hashL at h2
        rw [Array.length_toList] at h1
        rw [List.length_map] at h2
        omega
      obtain ⟨p, ep⟩ : ∃ p, L[i]? = some p := ⟨_, List.getElem?_eq_getElem il⟩
      have pm := List.mem_of_getElem? ep
      have met : t.probe (fun i => (es[i]?.map (·.1)).getD 0) g (start.getD (t.probeStart g)) = some (.candidate (way t.mask g (c + q)) i (look t.mask g (c + (q + 1)))) := by
        rw [st, ← jAt, ← look_add]
        exact probe
      rw [met]
      dsimp only
      have live : t.slot (way t.mask g (c + q)) = .live i := slot_live R.tab.ris hi
      have onward : wpAny (model P w) A (searchRest a (.ref x) g false f es t (way t.mask g (c + q)) i (look t.mask g (c + (q + 1)))) Z E s := by
        unfold searchRest
        rw [entry_of R.rows ep]
        dsimp only
        refine wpAny_bind (wpAny_holding ((nestedKind P w).eqBool hu (R.item p pm) hx ?_))
        refine wpAny_bind (wpAny_setState_of ho hd R.fits ?_)
        dsimp only
        by_cases same : p.2 = k
        · refine wp_if_neg (by simp) ?_
          try refine wpAny_bind (wpAny_pure ?_)
          rw [sameMem]
          dsimp only
          simp only [if_true, live, entry_of R.rows ep]
          refine wpAny_bind (wpAny_isSame_ref_self (wpAny_bind (wpAny_pure ?_)))
          simp only [if_true]
          exact wp_if_pos (by simp [same]) (wpAny_pure (yes i (List.mem_map.mpr ⟨p, pm, same⟩)))
        · refine wp_if_neg (by simp) ?_
          try refine wpAny_bind (wpAny_pure ?_)
          rw [sameMem]
          dsimp only
          simp only [if_true, live, entry_of R.rows ep]
          refine wpAny_bind (wpAny_isSame_ref_self (wpAny_bind (wpAny_pure ?_)))
          simp only [if_true]
          refine wp_if_neg (by simp [same]) ?_
          refine ih (c + (q + 1)) _ rfl (by omega) (by omega) fun i0 p0 e0 k0 => ?_
          obtain ⟨d, d1, d2, d3⟩ := ahead i0 p0 e0 k0
          refine ⟨d, ?_, d2, d3⟩
          have h0 : (es[i0]?.map (·.1)).getD 0 = g := by rw [hashIs i0 p0 e0, k0, eg]
          rcases Nat.lt_trichotomy d (c + q) with z | z | z
          · exact absurd h0 (before (d - c) i0 (by omega) (by rw [jAt, show c + (d - c) = d by omega]; exact d3))
          · rw [z] at d3
            have l2 := slot_live R.tab.ris d3
            rw [live] at l2
            injection l2 with l2
            rw [← l2, ep] at e0
            cases e0
            exact absurd k0 same
          · omega
      by_cases led : t.led = true
      · refine wp_if_neg (by simp [led]) ?_
        try refine wpAny_bind (wpAny_pure ?_)
        exact onward
      · refine wp_if_pos (by simp [led]) (wpAny_bind (unseen hx (fun y hy => ?_) ?_))
        · obtain ⟨e, he, rfl⟩ := List.mem_map.mp hy
          have he1 : e ∈ es ∧ e.1 = g := by simpa using he
          have he2 : e ∈ es.toList := by simpa using he1.1
          rw [R.rows] at he2
          obtain ⟨p2, hp2, rfl⟩ := List.mem_map.mp he2
          exact ⟨p2.2, p2.1, rfl, R.item p2 hp2⟩
        · refine wp_if_neg (by decide) ?_
          try refine wpAny_bind (wpAny_pure ?_)
          exact onward
    · have met : t.probe (fun i => (es[i]?.map (·.1)).getD 0) g (start.getD (t.probeStart g)) = some (.empty (way t.mask g N) none) := by
        have e2 : way t.mask g N = (nth t.mask (look t.mask g c) (N - c)).j := by rw [jAt, stop]
        rw [st, e2]
        exact probe
      rw [met]
      dsimp only
      refine wpAny_pure (no fun hm => ?_)
      obtain ⟨p0, m0, k0⟩ := List.mem_map.mp hm
      obtain ⟨i0, e0⟩ := List.mem_iff_getElem?.mp m0
      obtain ⟨d, d1, d2, d3⟩ := ahead i0 p0 e0 k0
      exact none_ (d - c) i0 (by omega) (by rw [jAt, show c + (d - c) = d by omega]; exact d3) (by rw [hashIs i0 p0 e0, k0, eg])
theorem seekF_all (R : SetN w s.heap a L es ep t) {x : Addr} {k : NestedKey} (hx : At s.heap k x) (hu : A.units + 8 < cLine) {Z : SetFound → Shared → Prop} (yes : ∀ i, k ∈ L.map (·.2) → Z (.there (some i)) s)
    (no : ∀ N, k ∉ L.map (·.2) → way t.mask (k.hash w) N ∉ t.place.toList → (∀ c, c < N → way t.mask (k.hash w) c ∈ t.place.toList) → Z (.free (way t.mask (k.hash w) N) false) s) : wpAny (model P w) A (setSearch a (.ref x) (k.hash w)) Z E s := by
  have room := R.room
  have len : (hashL w L).length = L.length := List.length_map _
  obtain ⟨N, n1, n2, n3⟩ := R.tab.first (by rw [len]; omega) (k.hash w)
  have big : N < 100000 := by
    have : 10 * SetTable.turns t.mask ≤ 1420 := by
      unfold SetTable.turns
      rcases R.tab.mok with e | e | e <;> omega
    omega
  unfold setSearch
  refine seekF R hx hu rfl n1 n2 n3 yes (fun z => no N z n2 n3) 100000 0 none rfl (Nat.zero_le _) (by omega) fun i p e q => ?_
  have hi : (hashL w L)[i]? = some (k.hash w) := by
    unfold hashL
    rw [List.getElem?_map, e, ← q]
    rfl
  have il : i < t.place.toList.length := by
    have h1 := (List.getElem?_eq_some_iff.mp e).1
    have h2 := R.tab.sz
    rw [len] at h2
    rw [Array.length_toList, h2]
    exact h1
  obtain ⟨c, c1, c2⟩ := R.tab.before n2 hi (List.getElem?_eq_getElem il)
  exact ⟨c, Nat.zero_le _, c1, by rw [List.getElem?_eq_getElem il, c2]⟩
end
section
variable {P : Program} {w : World} {A : Around} {E : Value → Shared → Prop} {s : Shared}
/-- k in a set -/
theorem in_setN {a : Addr} {L : List (Addr × NestedKey)} {es : Array (Int × Value)} {ep : Nat} {t : SetTable} (R : SetN w s.heap a L es ep t) {x : Addr} {k : NestedKey} (hx : At s.heap k x) (hu : A.units + 20 < cLine) {Q : Value → Shared → Prop}
    (h : ∀ tk, Q (.bool (decide (k ∈ L.map (·.2)))) { s with toks := tk }) : wpAny (model P w) A (compareOp .In (.ref x) (.ref a)) Q E s := by
  obtain ⟨o, ho, ex, hd⟩ := R.at_
  have ty : s.TypeIs (.ref a) "set" := ⟨o, ho, ex.1⟩
  have dep := hx.2
  show wpAny _ _ (do return .bool (← contains (.ref a) (.ref x))) Q E s
  refine wpAny_bind ?_
  unfold contains
  try with_reducible refine wpAny_holding ?_
  refine wpAny_bind (wpAny_specialOf ty F.slot_set_contains.lookup ?_)
  show wpAny _ _ (if (some (Value.builtin "set.__contains__") == some Value.none) = true then _ else _) _ E s
  rw [if_neg (by rw [beq_builtin_none]; exact Bool.false_ne_true)]
  refine wpAny_bind (wpAny_callSpecialUnlessNone?_slot (name := Str.ofString "__contains__") ty F.slot_set_contains
    (wpAny_call_entry F.slot_set_contains ty entry_set_contains ?_ (F.args_set_contains_2 _ _)))
  unfold Builtin.«frozenset.__contains__» Builtin.Frozenset.oneOther
  simp only [List.isEmpty_nil, bind_assoc]
  unfold Builtin.Frozenset.addrOf Builtin.Frozenset.withSetAsKey setContains
  refine wpAny_bind (wpAny_pure ?_)
  try dsimp only
  refine wpAny_bind (wpAny_pure ?_)
  try dsimp only
  refine wpAny_bind (wpAny_tryCatch ?_)
  refine wpAny_holding ?_
  refine wpAny_bind (pyHash_key k _ _ _ _ hx.1 (by show A.units + 1 + k.depth < cLine; omega) ?_)
  have R1 : SetN w ({ s with toks := s.toks + k.draws } : Shared).heap a L es ep t := R
  unfold setFind
  refine wpAny_bind ?_
  rw [show (100000 : Nat) = 99999 + 1 from rfl]
  unfold setFindIn
  refine wpAny_bind (wpAny_setState_of ho hd R.fits ?_)
  dsimp only
  refine wp_if_neg (by simp [byScan, Value.scannable]) ?_
  try refine wpAny_bind (wpAny_pure ?_)
  refine wpAny_bind (seekF_all (s := { s with toks := s.toks + k.draws }) R1 hx (by show A.units + 1 + 8 < cLine; omega) (fun i hm => ?_) fun N hm _ _ => ?_)
  · refine wpAny_pure (wpAny_pure ?_)
    show wpAny _ _ (ret (Value.bool true)) _ _ _
    have h1 := h (s.toks + k.draws)
    rw [decide_eq_true hm] at h1
    exact wpAny_pure ⟨_, rfl, wpAny_truthy_bool (wpAny_pure h1)⟩
  · refine wpAny_pure (wpAny_pure ?_)
    show wpAny _ _ (ret (Value.bool false)) _ _ _
    have h1 := h (s.toks + k.draws)
    rw [decide_eq_false hm] at h1
    exact wpAny_pure ⟨_, rfl, wpAny_truthy_bool (wpAny_pure h1)⟩
/-- s.add(k) -/
theorem add_setN {a : Addr} {L : List (Addr × NestedKey)} {es : Array (Int × Value)} {ep : Nat} {t : SetTable} (R : SetN w s.heap a L es ep t) {x : Addr} {k : NestedKey} (hx : At s.heap k x) (hu : A.units + 20 < cLine) (few : L.length + 1 < 64) {Q : Value → Shared → Prop}
    (z : ∀ h' M es' ep' t' tk, Heap.SameBut a s.heap h' → SetN w h' a M es' ep' t' → (k ∈ L.map (·.2) → M = L) → (k ∉ L.map (·.2) → M.Perm ((x, k) :: L)) → Q .none { s with heap := h', toks := tk }) : wpAny (model P w) A (call (.builtin "set.add") [.ref a, .ref x]) Q E s := by
  obtain ⟨o, ho, ex, hd⟩ := R.at_
  have ty : s.TypeIs (.ref a) "set" := ⟨o, ho, ex.1⟩
  have dep := hx.2
  refine wpAny_call_entry F.slot_set_add ty F.entry_set_add ?_ (F.args_set_add_2 _ _)
  unfold Builtin.«set.add» Builtin.Frozenset.oneOther
  simp only [List.isEmpty_nil, bind_assoc]
  unfold Builtin.Frozenset.addrOf setAdd
  refine wpAny_bind (wpAny_pure ?_)
  try dsimp only
  refine wpAny_bind (wpAny_pure ?_)
  try dsimp only
  refine wpAny_bind ?_
  refine wpAny_holding ?_
  refine wpAny_bind (pyHash_key k _ _ _ _ hx.1 (by show A.units + 1 + k.depth < cLine; omega) ?_)
  refine put (s := { s with toks := s.toks + k.draws }) (x := x) R hx (by show A.units + 1 + 8 < cLine; omega) few fun b h' M es' ep' t' sb R2 same more => ?_
  show wpAny _ _ (ret Value.none) _ _ _
  exact wpAny_pure ⟨_, rfl, z h' M es' ep' t' _ sb R2 same more⟩
end
section
variable {X : Cx}
/-- what the items of a set are -/
def ItsOk (K : PySem.W.Frag) (H : Hp) (M : Its) : Prop := ∀ z ∈ M, Dp K H (.ref z.1) z.2 ∧ hab z.2 = true ∧ z.2.depth ≤ 8
theorem full_at {pins : List (Addr × Obj)} {σ : L2.St} {H : Hp} {s : Shared} (I : Inv X pins σ H s) {a : Addr} {M : Its} (hs : H a = some (SetO X.w a M)) (it : ItsOk X.K H M) : ∃ es ep t, SetN X.w s.heap a M.keys es ep t := by
  obtain ⟨es, ep, t, R⟩ := (I.hok a _ hs).1
  refine ⟨es, ep, t, R.full fun p hp => ?_⟩
  obtain ⟨z, hz, rfl⟩ := List.mem_map.mp hp
  obtain ⟨h1, h2, h3⟩ := it z hz
  exact item_at I h1 h2 h3
theorem keys_mem {M : Its} {d : PyData} (it : ∀ z ∈ M, hab z.2 = true) (hd : hab d = true) : keyP d ∈ M.keys.map (·.2) ↔ d ∈ M.map (·.2) := by
  have e : M.keys.map (·.2) = (M.map (·.2)).map keyP := by
    unfold Its.keys
    rw [List.map_map, List.map_map]
    rfl
  rw [e, List.mem_map]
  constructor
  · rintro ⟨y, hy, e⟩
    obtain ⟨z, hz, rfl⟩ := List.mem_map.mp hy
    rw [← key_inj _ _ (it z hz) hd e]
    exact hy
  · exact fun h => ⟨d, h, rfl⟩
def rSInN (w : World) (K : PySem.W.Frag) : R2 := fun x y H Q => ∃ (b : Addr) (d : PyData) (a : Addr) (M : Its), x = .ref b ∧ y = .ref a ∧ H a = some (SetO w a M) ∧ ItsOk K H M ∧ Dp K H (.ref b) d ∧ hab d = true ∧ d.depth ≤ 8 ∧ Q (.bl (decide (keyP d ∈ M.keys.map (·.2)))) H
theorem or_sinN (hu : X.A.units + 20 < cLine) (K : PySem.W.Frag) (hK : X.K = K := by rfl) : OpR X (compareOp .In) (rSInN X.w K) := by
  subst hK
  intro pins s σ H x y v u Q I rx ry h
  obtain ⟨b, d, a, M, rfl, rfl, hs, it, dp, hd, dd, q⟩ := h
  cases rx
  cases ry
  obtain ⟨es, ep, t, R⟩ := full_at I hs it
  refine in_setN R (item_at I dp hd dd) hu fun tk => ?_
  exact ⟨.bl _, H, I.tok _, rfl, q⟩
def rSAddN (w : World) (K : PySem.W.Frag) : V → List V → Hp → VK → Prop := fun x xs H Q => ∃ (b : Addr) (d : PyData) (a : Addr) (M : Its), x = .ref a ∧ xs = [.ref b] ∧ H a = some (SetO w a M) ∧ ItsOk K H M ∧ Dp K H (.ref b) d ∧ hab d = true ∧ d.depth ≤ 8 ∧ M.length + 1 < 64 ∧
  ∀ M' : Its, (d ∈ M.map (·.2) → M' = M) → (d ∉ M.map (·.2) → M'.Perm ((b, d) :: M)) → Q .non (upd H a (SetO w a M'))
theorem mt_saddN (hu : X.A.units + 20 < cLine) (K : PySem.W.Frag) (hK : X.K = K := by rfl) : MtR X "set.add" (rSAddN X.w K) := by
  subst hK
  intro pins s σ H x xs v us Q I rx rxs h
  obtain ⟨b, d, a, M, rfl, rfl, hs, it, dp, hd, dd, few, q⟩ := h
  cases rx
  rw [Vals.ref1 rxs]
  obtain ⟨es, ep, t, R⟩ := full_at I hs it
  refine add_setN R (item_at I dp hd dd) hu (by unfold Its.keys; rw [List.length_map]; exact few) fun h' L' es' ep' t' tk sb R2 same more => ?_
  have km := keys_mem (d := d) (fun z hz => (it z hz).2.1) hd
  obtain ⟨M', e, h1, h2⟩ : ∃ M' : Its, M'.keys = L' ∧ (d ∈ M.map (·.2) → M' = M) ∧ (d ∉ M.map (·.2) → M'.Perm ((b, d) :: M)) := by
    by_cases hm : d ∈ M.map (·.2)
    · exact ⟨M, (same (km.mpr hm)).symm, fun _ => rfl, fun z => absurd hm z⟩
    · have p := more fun z => hm (km.mp z)
      obtain ⟨M', pM, eM⟩ := perm_lift (fun z : Addr × PyData => (z.1, keyP z.2)) p ((b, d) :: M) rfl
      exact ⟨M', eM, fun z => absurd z hm, fun _ => pM⟩
  subst e
  have he : ∃ u, h'.get? a = some u := by
    obtain ⟨o, ho, _⟩ := R2.at_
    exact ⟨o, ho⟩
  exact ⟨.non, upd H a (SetO X.w a M'), I.write (e := a) (t' := tk) (by rw [hs]; trivial) (.inl rfl) (fun b u hb hu => (sb.2 b hb).trans hu) he (setO_new ⟨es', ep', t', R2.bare⟩), rfl, q M' h1 h2⟩
/-- set() -/
def rSet0N (w : World) : List V → Hp → VK → Prop := fun xs H Q => xs = [] ∧ ∀ p, H p = none → Q (.ref p) (upd H p (SetO w p []))
theorem cr_set0N : CallR X (.type "set") (rSet0N X.w) := by
  intro pins s σ H xs us Q I r h
  obtain ⟨rfl, q⟩ := h
  cases r
  refine setR_new fun _ => ?_
  have new := fresh_ok (w := X.w) (h := s.heap.push (blank X.w)) (S := s.heap.objs.size) (Heap.get?_push_size _ rfl)
  exact ⟨.ref _, upd H s.heap.objs.size (SetO X.w s.heap.objs.size []), I.laid (t' := s.toks) (fun b u e => Heap.get?_push_of_some _ e) (Nat.le_refl _) (setO_new ⟨_, _, _, new.bare⟩), rfl, q _ (I.hok.fresh (Nat.le_refl _))⟩
end
def tSAddN (w : World) (K : PySem.W.Frag) (to : TE) (t : TA) : TE := fun σ H Q => to σ H fun x H1 => (∃ a M, x = V.ref a ∧ H1 a = some (SetO w a M)) ∧ t σ H1 fun xs H2 => rSAddN w K x xs H2 Q
section
variable {X : Cx} {o e : Expr} {es : List Expr} {to : TE} {t : TA} {apos cpos : Pos}
theorem pe_saddN (hu : X.A.units + 20 < cLine) (K : PySem.W.Frag) (ho : PE X o to) (ha : PA X (e :: es) t) (hK : X.K = K := by rfl)
    (hbase : attributeBase o "add" X.env (eval o X.env) = eval o X.env := by rfl)
    (hfew : ((backTo cpos (starEach (e :: es) X.env)).all (fun x => !x.1) && (backToKw cpos (keywordEach [] X.env)).all (fun x => x.1.isSome)
      && decide ((e :: es).length + ([] : List Keyword).length + (if ([] : List Keyword).isEmpty then 0 else 1) < 30)) = true := by rfl)
    (hline : (apos.endLine == cpos.line) = true := by rfl) (hs : starEach (e :: es) X.env = (false, eval e X.env) :: starEach es X.env := by rfl) (hplain : (backTo cpos (starEach es X.env)).any (·.1) = false := by rfl) :
    PE X (.Call (.Attribute o "add" apos) (e :: es) [] cpos) (tSAddN X.w K to t) := by
  refine ⟨fun pins s σ H Q I h => ?_⟩
  refine wpAny_Call_method_late hbase hfew hline rfl (thn (ho.run pins s σ H _ I h) fun v s1 ⟨x, H1, I1, r1, ty, q1⟩ => ?_)
  obtain ⟨a, M, rfl, hka⟩ := ty
  obtain ⟨es', ep, tt, R⟩ := (I1.hok a _ hka).1
  obtain ⟨ob, hob, hex, _⟩ := R.at_
  cases r1
  refine ⟨"set", "set.add", F.plainAttrs_set, F.slot_set_add, F.type_set_add, ⟨ob, hob, hex.1⟩, fun b e => (by cases e; exact ⟨ob, hob, hex.2.1⟩), ?_⟩
  have hA := ha.run cpos pins s1 σ H1 _ I1 q1
  rw [hs] at hA ⊢
  refine Calls.callWith_builtin (by show (false || (backTo cpos (starEach es X.env)).any (·.1)) = false; rw [hplain] <;> rfl) (Calls.evalArgs_plain ?_)
  exact thn hA fun us s2 ⟨vs, H2, I2, r2, q2⟩ => mt_saddN hu K hK pins s2 σ H2 (.ref a) vs (.ref a) us Q I2 rfl r2 q2
end
end Ps
/-! text PlPv -/
set_option Elab.async false
set_option linter.all false
set_option maxRecDepth 100000
set_option maxHeartbeats 4000000
set_option exponentiation.threshold 5000
/-! PlPv: a def's own containers beside its data: L their addresses, St what stands in them (x: the state). -/
namespace Pl
open PySem PySem.Spec PyProof.Rows L2 PlS
/-- no data reads it -/
def loose : HO → Bool
  | .dK _ => true
  | .ext _ => true
  | _ => false
section
variable {K : PySem.W.Frag} {M L : List Addr} {H : Hp}
theorem loose_ne {o : HO} (h : loose o = true) : fixed o = false ∧ (∀ xs, o ≠ .lst xs) ∧ ∀ C dx fs, o ≠ .ins C dx fs := by
  cases o <;> first | (refine ⟨rfl, fun _ z => ?_, fun _ _ _ z => ?_⟩ <;> cases z; done) | cases h
mutual
theorem Rep.apartP (hp : ∀ p ∈ L, ∃ o, H p = some o ∧ loose o = true) : ∀ {d : D} {v : V}, Rep K M H d v → Rep K (L ++ M) H d v
  | .non, _, h => h
  | .bl _, _, h => h
  | .int _, _, h => h
  | .str _, _, h => h
  | .obj _, _, h => h
  | .tup _, _, h => by
    obtain ⟨a, xs, e, q, r⟩ := h
    exact ⟨a, xs, e, q, RepL.apartP hp r⟩
  | .lst _, _, h => by
    obtain ⟨a, xs, e, m, q, r⟩ := h
    refine ⟨a, xs, e, fun z => ?_, q, RepL.apartP hp r⟩
    rcases List.mem_append.mp z with z | z
    · obtain ⟨o, e1, lo⟩ := hp a z
      rw [q] at e1
      cases e1
      cases lo
    · exact m z
  | .ins _ _ _, _, h => by
    obtain ⟨a, dx, fs, e, m, q, k, r⟩ := h
    refine ⟨a, dx, fs, e, fun z => ?_, q, k, RepL.apartP hp r⟩
    rcases List.mem_append.mp z with z | z
    · obtain ⟨o, e1, lo⟩ := hp a z
      rw [q] at e1
      cases e1
      cases lo
    · exact m z
  | .dct _ _, _, h => by
    obtain ⟨a, o, fs, e, q, k, r⟩ := h
    exact ⟨a, o, fs, e, q, k, RepL.apartP hp r⟩
theorem RepL.apartP (hp : ∀ p ∈ L, ∃ o, H p = some o ∧ loose o = true) : ∀ {ds : List D} {vs : List V}, RepL K M H ds vs → RepL K (L ++ M) H ds vs
  | [], [], h => h
  | _ :: _, _ :: _, h => ⟨Rep.apartP hp h.1, RepL.apartP hp h.2⟩
  | [], _ :: _, h => h.elim
  | _ :: _, [], h => h.elim
end
theorem gr_loose {p : Addr} {o u : HO} (hp : H p = some o) (lo : loose o = true) : Gr (p :: M) H (upd H p u) := fun a x e m => by
  have ne : a ≠ p := fun z => by
    rw [z, hp] at e
    cases e
    rcases m with m | m
    · exact m (by rw [z]; exact List.mem_cons_self)
    · rw [(loose_ne lo).1] at m; cases m
  rw [upd_ne ne]
  exact e
theorem apart1 {p : Addr} {o : HO} (hp : H p = some o) (lo : loose o = true) : ∀ q ∈ [p], ∃ o, H q = some o ∧ loose o = true := fun q hq => by
  rw [List.mem_singleton.mp hq]
  exact ⟨o, hp, lo⟩
theorem Rep.lput {p : Addr} {o u : HO} (hp : H p = some o) (lo : loose o = true) {d : D} {v : V} (r : Rep K M H d v) : Rep K M (upd H p u) d v :=
  (Rep.gr (gr_loose (M := M) hp lo) (r.apartP (apart1 hp lo))).mono fun a ha => List.mem_cons_of_mem _ ha
theorem RepL.lput {p : Addr} {o u : HO} (hp : H p = some o) (lo : loose o = true) {d : List D} {v : List V} (r : RepL K M H d v) : RepL K M (upd H p u) d v :=
  (RepL.gr (gr_loose (M := M) hp lo) (r.apartP (apart1 hp lo))).mono fun a ha => List.mem_cons_of_mem _ ha
end
section
variable {K : PySem.W.Frag} {s c : Addr} {M0 L : List Addr} {H0 : Hp} {O : List Addr} {ρ : List Sl} {n n1 n2 : Nat} {σ : L2.St} {H : Hp}
theorem Src.neP {p : Addr} {o : HO} (h : Src s c n H) (hd : H p = some o) (lo : loose o = true) : p ≠ s ∧ p ≠ c := by
  obtain ⟨t, ns, h1, h2, _⟩ := h.ex
  exact ⟨fun z => (by rw [z, h1] at hd; cases hd; cases lo), fun z => (by rw [z, h2] at hd; cases hd; cases lo)⟩
theorem Ok.notP {p : Addr} {o : HO} (I : Ok K s c M0 H0 O ρ n σ H) (hd : H p = some o) (lo : loose o = true) : p ∉ O := fun z => by
  obtain ⟨xs, e⟩ := I.lst p z
  rw [hd] at e
  cases e
  cases lo
/-- an own container changes -/
theorem Ok.pput {p : Addr} {o u : HO} (I : Ok K s c M0 H0 O ρ n σ H) (h0 : H0 p = none) (hd : H p = some o) (lo : loose o = true) : Ok K s c M0 H0 O ρ n σ (upd H p u) where
  ms := I.ms
  tr := I.tr
  src := I.src.put (I.src.neP hd lo).1 (I.src.neP hd lo).2
  gr := fun a x e m => by
    rw [upd_ne fun z => by rw [z, h0] at e; cases e]
    exact I.gr a x e m
  fr := I.fr
  nd := I.nd
  sl := SlR.imp (fun _ _ r => r.lput hd lo) (fun _ _ r => r.lput hd lo) (fun o ho xs e => by rw [upd_ne fun z => I.notP hd lo (by rw [← z]; exact ho)]; exact e) I.sl
variable {α : Type} {St : α → Hp → Prop} {x : α}
/-- what a store must keep -/
structure PvOk (s c : Addr) (L : List Addr) (St : α → Hp → Prop) : Prop where
  loc : ∀ x H, St x H → ∀ a ∈ L, ∃ o, H a = some o ∧ loose o = true
  gr : ∀ x H H', St x H → (∀ a o, H a = some o → a ∈ L ∨ fixed o = true → H' a = some o) → St x H'
theorem PvOk.to {H' : Hp} (S : PvOk s c L St) (hx : St x H) (I : Ok K s c M0 H0 O ρ n σ H) (g : Gr [s, c] H H') : St x H' := S.gr x H H' hx fun a o e m => by
  rcases m with m | m
  · obtain ⟨u, e2, lo⟩ := S.loc x H hx a m
    have ne := I.src.neP e2 lo
    exact g a o e (.inl (not_two ne.1 ne.2))
  · exact g a o e (.inr m)
theorem PvOk.to' {H' : Hp} (S : PvOk s c L St) (hx : St x H) (I : Ok K s c M0 H0 O ρ n σ H) (g : Gr [s, c] (minus H O) H') : St x H' := S.gr x H H' hx fun a o e m => by
  rcases m with m | m
  · obtain ⟨u, e2, lo⟩ := S.loc x H hx a m
    have ne := I.src.neP e2 lo
    exact g a o (by rw [minus_out (I.notP e2 lo)]; exact e) (.inl (not_two ne.1 ne.2))
  · refine g a o ?_ (.inr m)
    rw [minus_out]
    · exact e
    · intro z
      obtain ⟨xs, e3⟩ := I.lst a z
      rw [e] at e3
      cases e3
      cases m
theorem PvOk.none (S : PvOk s c L St) (hx : St x H) (I : Ok K s c M0 H0 O ρ n σ H) : ∀ a ∈ L, a ∉ O ∧ a ≠ s ∧ a ≠ c := fun a ha => by
  obtain ⟨o, e, lo⟩ := S.loc x H hx a ha
  exact ⟨I.notP e lo, I.src.neP e lo⟩
def EvTP (K : PySem.W.Frag) (s c : Addr) (L : List Addr) (St : α → Hp → Prop) (tt : TT) (ρ : List Sl) (n : Nat) (x : α) (P : Bool → α → Prop) : Prop := ∀ M0 H0 O σ H (Q : Bool → Hp → Prop), Ok K s c M0 H0 O ρ n σ H → (∀ a ∈ L, H0 a = none) → St x H →
  (∀ b H' y, Ok K s c M0 H0 O ρ n σ H' → St y H' → P b y → Q b H') → tt σ H Q
structure PnP (α : Type) where
  nx : List Sl → Nat → α → Prop
  rt : D → Nat → Prop
structure GoP (K : PySem.W.Frag) (s c : Addr) (L : List Addr) (St : α → Hp → Prop) (M0 : List Addr) (H0 : Hp) (B : PnP α) (Dn : Ends) : Prop where
  nx : ∀ O' ρ' n' σ' H' y, Ok K s c M0 H0 O' ρ' n' σ' H' → St y H' → B.nx ρ' n' y → Dn.nx σ' H'
  rt : ∀ v H' d n', Gr [s, c] H0 H' → Src s c n' H' → Rep K M0 H' d v → B.rt d n' → Dn.rt v H'
def EvSP (K : PySem.W.Frag) (s c : Addr) (L : List Addr) (St : α → Hp → Prop) (ts : TS) (ρ : List Sl) (n : Nat) (x : α) (B : PnP α) : Prop := ∀ M0 H0 O σ H (Dn : Ends), Ok K s c M0 H0 O ρ n σ H → (∀ a ∈ L, H0 a = none) → St x H → GoP K s c L St M0 H0 B Dn → ts Dn σ H
theorem sp_if {tt : TT} {t u : TS} {B : PnP α} {P : Bool → α → Prop} (h : EvTP K s c L St tt ρ n x P) (h1 : ∀ y, P true y → EvSP K s c L St t ρ n y B) (h2 : ∀ y, P false y → EvSP K s c L St u ρ n y B) : EvSP K s c L St (tIfS tt t u) ρ n x B := fun M0 H0 O σ H Dn I h0 hd G =>
  h M0 H0 O σ H _ I h0 hd fun b H' y J hd' p => by
    cases b with
    | true => exact iteT (h1 y p M0 H0 O σ H' Dn J h0 hd' G)
    | false => exact iteF (h2 y p M0 H0 O σ H' Dn J h0 hd' G)
theorem sp_next {B : PnP α} (h : B.nx ρ n x) : EvSP K s c L St tNext ρ n x B := fun M0 H0 O σ H Dn I h0 hd G => G.nx O ρ n σ H x I hd h
theorem sp_seq {t u : TS} {B : PnP α} {N : List Sl → Nat → α → Prop} (h : EvSP K s c L St t ρ n x ⟨N, B.rt⟩) (hu : ∀ ρ1 n1 y, N ρ1 n1 y → EvSP K s c L St u ρ1 n1 y B) : EvSP K s c L St (tSeq t u) ρ n x B := fun M0 H0 O σ H Dn I h0 hd G =>
  h M0 H0 O σ H { Dn with nx := u Dn } I h0 hd ⟨fun O1 ρ1 m σ1 H1 y J hd1 p => hu ρ1 m y p M0 H0 O1 σ1 H1 Dn J h0 hd1 G, G.rt⟩
/-- a statement that leaves the containers alone -/
theorem sp_of (S : PvOk s c L St) {t : TS} {B : PnP α} {Nx : List Sl → Nat → Prop} (h : EvS K s c t ρ n ⟨Nx, B.rt, fun _ _ => False, fun _ _ => False⟩) (k : ∀ ρ1 n1, Nx ρ1 n1 → B.nx ρ1 n1 x) : EvSP K s c L St t ρ n x B := fun M0 H0 O σ H Dn I h0 hd G =>
  h M0 (minus H O) O σ H Dn I.focus ⟨fun O2 ρ2 m2 σ2 H2 J2 q => by
      exact G.nx O2 ρ2 m2 σ2 H2 x (I.unfocus J2) (S.to' hd I J2.gr) (k _ _ q), fun v H2 d m2 g2 s2 r2 q => G.rt v H2 d m2 (gr_unfocus (a := 0) I g2) s2 r2 q, fun _ _ _ _ _ _ q => q.elim, fun _ _ _ _ _ _ q => q.elim⟩
theorem tp_of (S : PvOk s c L St) {tt : TT} {P : Bool → Prop} (h : EvT K s c tt ρ n n P) : EvTP K s c L St tt ρ n x (fun b y => y = x ∧ P b) := fun M0 H0 O σ H Q I h0 hd k =>
  h M0 H0 O σ H _ I fun b H' g s1 p => k b H' x (I.next g s1) (S.to hd I g) ⟨rfl, p⟩
/-- .. with the containers, then without them -/
theorem sp_end {t u : TS} {B : PnP α} {Nx : List Sl → Nat → Prop} (S : PvOk s c L St) (h : EvSP K s c L St t ρ n x ⟨fun ρ' m _ => Nx ρ' m, B.rt⟩) (hu : ∀ ρ1 n1, Nx ρ1 n1 → EvS K s c u ρ1 n1 ⟨fun _ _ => False, B.rt, fun _ _ => False, fun _ _ => False⟩) : EvSP K s c L St (tSeq t u) ρ n x B :=
  sp_seq (N := fun ρ' m _ => Nx ρ' m) h fun ρ1 n1 y q => sp_of S (hu ρ1 n1 q) fun _ _ z => z.elim
/-- a walk with the containers at hand -/
theorem sp_for (S : PvOk s c L St) {wi : TI} {g : TG} {tb : TS} {B : PnP α} {W : List D} (h : EvI K s c wi ρ n n1 (fun l => l = W)) (Inv : Nat → List Sl → Nat → α → Prop) (i0 : Inv 0 ρ n1 x)
    (hs : ∀ (i : Nat) (e : D) (ρ' : List Sl) (m : Nat) (y : α), W[i]? = some e → Inv i ρ' m y → ∃ ρ2 js, EvG K s c g e ρ' ρ2 js ∧ EvSP K s c L St tb ρ2 m y ⟨fun ρ m y => Inv (i + 1) ρ m y, B.rt⟩)
    (hd' : ∀ ρ' m y, Inv W.length ρ' m y → B.nx ρ' m y) : EvSP K s c L St (tFor wi g tb) ρ n x B := fun M0 H0 O σ H Dn I h0 hd G => by
  have out : ∀ a ∈ L, a ∉ O ∧ a ≠ s ∧ a ≠ c := S.none hd I
  -- the walk is asked for with the containers set apart
  have A : Ok K s c (L ++ M0) (minus H O) O ρ n σ H := by
    refine ⟨⟨List.mem_append_right _ I.ms.1, List.mem_append_right _ I.ms.2⟩, fun a ha => ?_, I.src, I.focus.gr, I.focus.fr, I.nd, ?_⟩
    · rcases List.mem_append.mp ha with ha | ha
      · obtain ⟨o, e, _⟩ := S.loc x H hd a ha
        exact .inr (.inr ⟨o, by rw [minus_out (out a ha).1]; exact e⟩)
      · exact I.focus.tr a ha
    · have mv : ∀ a ∈ O ++ (L ++ M0), a ∈ L ++ (O ++ M0) := fun a ha => by
        rcases List.mem_append.mp ha with z | z
        · exact List.mem_append_right _ (List.mem_append_left _ z)
        · rcases List.mem_append.mp z with z | z
          · exact List.mem_append_left _ z
          · exact List.mem_append_right _ (List.mem_append_right _ z)
      exact SlR.imp (fun _ _ r => (r.apartP (S.loc x H hd)).mono mv) (fun _ _ r => (r.apartP (S.loc x H hd)).mono mv) (fun _ _ _ e => e) I.sl
  refine h (L ++ M0) (minus H O) O σ H _ A fun J H1 ds g1 s1 w p => ?_
  subst p
  have I1 := I.next g1 s1
  have hd1 : St x H1 := S.to hd I g1
  have loc1 := S.loc x H1 hd1
  -- what stands from here on: all of H1 but the own lists and the containers
  have F : Ok K s c M0 (minus H1 (L ++ O)) O ρ n1 σ H1 := by
    refine ⟨I1.ms, fun a ha => ?_, I1.src, fun a o e m => (minus_some e).2, fun o ho => ⟨?_, (I1.fr o ho).2⟩, I1.nd, I1.sl⟩
    · rcases I1.focus.tr a ha with z | z | ⟨o, z⟩
      · exact .inl z
      · exact .inr (.inl z)
      · by_cases e : a ∈ L
        · exfalso
          obtain ⟨u, hu, lo⟩ := loc1 a e
          have ne := I1.src.neP hu lo
          rcases I1.tr a ha with y | y | ⟨o', y⟩
          · exact ne.1 y
          · exact ne.2 y
          · rw [h0 a e] at y; cases y
        · refine .inr (.inr ⟨o, ?_⟩)
          have z' := minus_some z
          rw [minus_out fun q => ?_]
          · exact z'.2
          · rcases List.mem_append.mp q with q | q
            · exact e q
            · exact z'.1 q
    · exact minus_in (List.mem_append_right _ ho)
  have back : ∀ {H3 : Hp}, Gr [s, c] (minus H1 (L ++ O)) H3 → Gr [s, c] H0 H3 := fun {H3} g a o e m => g a o (by
    rw [minus_out fun q => ?_]
    · exact I1.gr a o e m
    · rcases List.mem_append.mp q with q | q
      · rw [h0 a q] at e; cases e
      · rw [(I1.fr a q).1] at e; cases e) m
  refine ⟨fun i k σ' H' => ∃ O' ρ' m y, Ok K s c M0 (minus H1 (L ++ O)) O' ρ' m σ' H' ∧ St y H' ∧ Inv i ρ' m y ∧ i ≤ ds.length ∧ k = ds.length - i, ⟨ds.length, O, ρ, n1, x, F, hd1, i0, Nat.zero_le _, rfl⟩, ?_⟩
  rintro i k σ' H' ⟨O', ρ', m, y, J', hd2, inv, hi, rfl⟩
  have nd' : ∀ o ∈ O', o ∉ L := fun o ho z => by
    obtain ⟨u, hu, lo⟩ := S.loc y H' hd2 o z
    exact J'.notP hu lo ho
  obtain ⟨w1, w2⟩ := w O' H' (fun a o e mm => by
    by_cases q : a ∈ L
    · exfalso
      have e' := (minus_some e).2
      obtain ⟨u, hu, lo⟩ := loc1 a q
      rw [hu] at e'
      cases e'
      rcases mm with mm | mm
      · exact mm (List.mem_append_left _ q)
      · rw [(loose_ne lo).1] at mm; cases mm
    · refine J'.gr a o ?_ (mm.imp (fun z y => z (List.mem_append_right _ (two_sub I.ms a y))) id)
      rw [minus_out fun y => ?_]
      · exact (minus_some e).2
      · rcases List.mem_append.mp y with y | y
        · exact q y
        · exact (minus_some e).1 y) fun o ho => by
    have f := (J'.fr o ho).1
    by_cases q : o ∈ O
    · exact minus_in q
    · rw [minus_out q]
      rw [minus_out fun y => ?_] at f
      · exact f
      · rcases List.mem_append.mp y with y | y
        · exact nd' o ho y
        · exact q y
  by_cases hlt : i < ds.length
  · obtain ⟨w3, w4⟩ := w2 i ds[i] (List.getElem?_eq_getElem hlt)
    refine .inr ⟨w3, fun σ2 H2 => ∃ O' ρ' m y, Ok K s c M0 (minus H1 (L ++ O)) O' ρ' m σ2 H2 ∧ St y H2 ∧ Inv (i + 1) ρ' m y, fun σ2 H2 ⟨O2, ρ2, m2, y2, J2, hd3, inv2⟩ => ⟨ds.length - (i + 1), by omega, O2, ρ2, m2, y2, J2, hd3, inv2, hlt, rfl⟩, fun v H2 hy => ?_⟩
    obtain ⟨g2, s2, r2⟩ := w4 v H2 hy
    have J2 := J'.next g2 (s2 _ J'.src)
    have hd3 := S.to hd2 J' g2
    obtain ⟨ρ2, js, eg, es⟩ := hs i _ ρ' m y (List.getElem?_eq_getElem hlt) inv
    refine eg M0 _ O' m σ' H2 v _ J2 (r2.mono fun a ha => ?_) fun σ2 J3 _ => ?_
    · rcases List.mem_append.mp ha with z | z
      · exact List.mem_append_left _ z
      · exact List.mem_append_right _ (List.mem_append_right _ z)
    · exact es M0 _ O' σ2 H2 _ J3 (fun a ha => minus_in (List.mem_append_left _ ha)) hd3 ⟨fun O3 ρ3 m3 σ3 H3 y3 J4 hd4 q => ⟨O3, ρ3, m3, y3, J4, hd4, q⟩, fun v H3 z n3 g3 s3 r3 q => G.rt v H3 z n3 (back g3) s3 r3 q⟩
  · have e : i = ds.length := by omega
    subst e
    refine .inl ⟨w1, G.nx O' ρ' m σ' H' y ⟨I1.ms, I1.tr, J'.src, back J'.gr, fun o ho => ⟨?_, (J'.fr o ho).2⟩, J'.nd, J'.sl⟩ hd2 (hd' ρ' m y inv)⟩
    cases q : H0 o with
    | none => rfl
    | some u =>
      have f := (J'.fr o ho)
      have e1 := I1.gr o u q (.inl (not_two f.2.1 f.2.2))
      rw [minus_out fun y => ?_] at f
      · rw [e1] at f; cases f.1
      · rcases List.mem_append.mp y with y | y
        · exact nd' o ho y
        · rw [(I1.fr o y).1] at q; cases q
end
end Pl
/-! text PlPt -/
set_option Elab.async false
set_option linter.all false
set_option maxRecDepth 100000
set_option maxHeartbeats 4000000
set_option exponentiation.threshold 5000
/-! PlPt: a set of texts, a dict from texts to ints and a set of pairs (text, ints) of a def's own. -/
namespace Pl
open PySem PySem.Spec PyProof.Rows L2 PlS
section
variable {K : PySem.W.Frag} {M : List Addr} {H H' : Hp}
mutual
theorem Rep.fix (g : ∀ a o, H a = some o → fixed o = true → H' a = some o) : ∀ {d : D} {v : V}, Rep K M H d v → flat d = true → Rep K M H' d v
  | .non, _, h, _ => h
  | .bl _, _, h, _ => h
  | .int _, _, h, _ => h
  | .str _, _, h, _ => h
  | .obj _, _, h, _ => h
  | .tup _, _, h, f => by
    obtain ⟨a, xs, e, q, r⟩ := h
    refine ⟨a, xs, e, ?_, RepL.fix g r f⟩
    rcases q with (q | ⟨o, q⟩) | q
    · exact .inl (.inl (g a _ q rfl))
    · exact .inl (.inr ⟨o, g a _ q rfl⟩)
    · exact .inr q
  | .lst _, _, _, f => by cases f
  | .ins _ _ _, _, _, f => by cases f
  | .dct _ _, _, _, f => by cases f
theorem RepL.fix (g : ∀ a o, H a = some o → fixed o = true → H' a = some o) : ∀ {ds : List D} {vs : List V}, RepL K M H ds vs → flatL ds = true → RepL K M H' ds vs
  | [], [], h, _ => h
  | d :: ds, _ :: _, h, f => by
    have f' : (flat d && flatL ds) = true := f
    rw [Bool.and_eq_true] at f'
    exact ⟨Rep.fix g h.1 f'.1, RepL.fix g h.2 f'.2⟩
  | [], _ :: _, h, _ => h.elim
  | _ :: _, [], h, _ => h.elim
end
end
def dIs (l : List Int) : List D := l.map D.int
/-- (text, (int, ..)) -/
def dPair (c : Str × List Int) : D := .tup [.str c.1, .tup (dIs c.2)]
theorem flat_is : ∀ l : List Int, flatL (dIs l) = true
  | [] => rfl
  | _ :: l => flat_is l
theorem flat_pair (c : Str × List Int) : flat (dPair c) = true := by
  show (true && (flatL (dIs c.2) && true)) = true
  rw [flat_is]
  rfl
theorem plain_is : ∀ l : List Int, plainL (dIs l) = true
  | [] => rfl
  | _ :: l => plain_is l
theorem plain_pair (c : Str × List Int) : plain (dPair c) = true := by
  show (true && (plainL (dIs c.2) && true)) = true
  rw [plain_is]
  rfl
def pyP (c : Str × List Int) : PyData := py (dPair c)
theorem py_is : ∀ l : List Int, pyL (dIs l) = l.map PyData.int
  | [] => rfl
  | i :: l => by
    show PyData.int i :: pyL (dIs l) = _
    rw [py_is l]
    rfl
theorem pyP_eq (c : Str × List Int) : pyP c = .tuple [.str c.1, .tuple (c.2.map PyData.int)] := by
  show PyData.tuple [.str c.1, .tuple (pyL (dIs c.2))] = _
  rw [py_is]
theorem pyP_inj {a b : Str × List Int} (h : pyP a = pyP b) : a = b := by
  rw [pyP_eq, pyP_eq] at h
  injection h with h
  injection h with h1 h2
  injection h1 with h1
  injection h2 with h2
  injection h2 with h2
  have := List.map_inj_right (f := PyData.int) (fun x y e => by injection e) |>.mp h2
  exact Prod.ext h1 this
theorem hab_is : ∀ l : List Int, Ps.habs (l.map PyData.int) = true
  | [] => rfl
  | _ :: l => hab_is l
theorem hab_pair (c : Str × List Int) : Ps.hab (pyP c) = true := by
  rw [pyP_eq]
  show (true && (Ps.habs (c.2.map PyData.int) && true)) = true
  rw [hab_is]
  rfl
theorem deep_is : ∀ l : List Int, PyData.depthAll (l.map PyData.int) = 0
  | [] => rfl
  | _ :: l => by
    show max 0 (PyData.depthAll (l.map PyData.int)) = 0
    rw [deep_is l]
    rfl
theorem deep_pair (c : Str × List Int) : (pyP c).depth ≤ 8 := by
  rw [pyP_eq]
  show max 0 (max (PyData.depthAll (c.2.map PyData.int) + 1) 0) + 1 ≤ 8
  rw [deep_is]
  decide
structure Bag where
  ns : List Str
  kv : List (Key × V)
  cs : List (Str × List Int)
def BagAt (P : Program) (w : World) (K : PySem.W.Frag) (p1 p2 p3 : Addr) (y : Bag) (H : Hp) : Prop := (p1 ≠ p2 ∧ p1 ≠ p3 ∧ p2 ≠ p3) ∧ (∃ S m, H p1 = some (SetK P w p1 S m) ∧ (∀ z, S (.inr z) = decide (z ∈ y.ns)) ∧ m ≤ y.ns.length) ∧ H p2 = some (.dK y.kv) ∧
  ∃ M : Ps.Its, H p3 = some (Ps.SetO w p3 M) ∧ (∀ z ∈ M, ∃ c ∈ y.cs, z.2 = pyP c ∧ Rep K [] H (dPair c) (.ref z.1)) ∧ (∀ c ∈ y.cs, pyP c ∈ M.map (·.2)) ∧ M.length ≤ y.cs.length
section
variable {P : Program} {w : World} {K : PySem.W.Frag} {s c p1 p2 p3 : Addr} {M0 : List Addr} {H0 : Hp} {O : List Addr} {ρ : List Sl} {n n1 n2 : Nat} {σ : L2.St} {H : Hp} {y : Bag}
theorem bag_ok : PvOk s c [p1, p2, p3] (BagAt P w K p1 p2 p3) where
  loc := fun y H h a ha => by
    obtain ⟨_, ⟨S, m, e1, _⟩, e2, M, e3, _⟩ := h
    rcases List.mem_cons.mp ha with z | ha
    · rw [z]; exact ⟨_, e1, rfl⟩
    · rcases List.mem_cons.mp ha with z | ha
      · rw [z]; exact ⟨_, e2, rfl⟩
      · rw [List.mem_singleton.mp ha]; exact ⟨_, e3, rfl⟩
  gr := fun y H H' h g => by
    obtain ⟨ne, ⟨S, m, e1, f1, l1⟩, e2, M, e3, f3, g3, l3⟩ := h
    refine ⟨ne, ⟨S, m, g _ _ e1 (.inl List.mem_cons_self), f1, l1⟩, g _ _ e2 (.inl (List.mem_cons_of_mem _ List.mem_cons_self)), M, g _ _ e3 (.inl (List.mem_cons_of_mem _ (List.mem_cons_of_mem _ List.mem_cons_self))), fun z hz => ?_, g3, l3⟩
    obtain ⟨c, hc, e, r⟩ := f3 z hz
    exact ⟨c, hc, e, r.fix (fun a o h f => g a o h (.inr f)) (flat_pair c)⟩
theorem its_of {M : Ps.Its} (h : ∀ z ∈ M, ∃ c ∈ y.cs, z.2 = pyP c ∧ Rep K [] H (dPair c) (.ref z.1)) : Ps.ItsOk K H M := fun z hz => by
  obtain ⟨c, _, e, r⟩ := h z hz
  rw [e]
  exact ⟨rep_dp r (plain_pair c), hab_pair c, deep_pair c⟩
/-- text in the set of texts -/
theorem tp_in {i j : Nat} {z : Str} (hi : ρ[i]? = some (.va (.str z))) (hj : ρ[j]? = some (.va (.obj p1))) : EvTP K s c [p1, p2, p3] (BagAt P w K p1 p2 p3) (tTest (tOp (rSInK P w false) (tVar i) (tVar j))) ρ n y (fun b x => x = y ∧ b = decide (z ∈ y.ns)) := fun M0 H0 O σ H Q I h0 hd k => by
  obtain ⟨u, hu, ru⟩ := I.sl.get hi
  obtain ⟨v, hv, rv⟩ := I.sl.get hj
  have ru : u = .str z := ru
  have rv : v = .ref p1 := rv
  subst ru
  subst rv
  have hd' := hd
  obtain ⟨_, ⟨S, m, e1, f1, l1⟩, _⟩ := hd
  refine ⟨.str z, hu, .ref p1, hv, .inr z, p1, S, m, rfl, rfl, e1, _, rfl, ?_⟩
  exact k _ H y I hd' ⟨rfl, f1 z⟩
/-- the dict's setdefault -/
theorem tp_setd {i : Nat} {ty tx tz : TE} {t : Str} {v u : Int} (hp : ρ[i]? = some (.va (.obj p2))) (hy : EvE K s c ty ρ n n (fun x => x = .str t)) (hx : EvE K s c tx ρ n n (fun x => x = .int v)) (hz : EvE K s c tz ρ n n (fun x => x = .int u)) (hl : y.kv.length < 1000)
    (hk : ∀ w, valV y.kv (.inr t) = some w → ∃ j : Int, w = .int j) :
    EvTP K s c [p1, p2, p3] (BagAt P w K p1 p2 p3) (tTest (tOp (rNeA K) (tDSetd (tVar i) ty tx) tz)) ρ n y (fun b x => (∃ j : Int, valV y.kv (.inr t) = some (.int j) ∧ x = y ∧ b = !decide (j = u)) ∨ (valV y.kv (.inr t) = none ∧ x = { y with kv := putK y.kv (.inr t) (.int v) } ∧ b = !decide (v = u))) := fun M0 H0 O σ H Q I h0 hd k => by
  have S := bag_ok (P := P) (w := w) (K := K) (s := s) (c := c) (p1 := p1) (p2 := p2) (p3 := p3)
  have two : p2 ∈ [p1, p2, p3] := List.mem_cons_of_mem _ List.mem_cons_self
  obtain ⟨w', hw, rw'⟩ := I.sl.get hp
  have rw' : w' = .ref p2 := rw'
  subst rw'
  refine ⟨.ref p2, hw, p2, rfl, .inl ⟨y.kv, .inl hd.2.2.1⟩, hy M0 H0 O σ H _ I fun y1 H1 e g1 s1 r1 q1 => hx M0 H0 O σ H1 _ (I.next g1 s1) fun x1 H2 e2 g2 s2 r2 q2 => ?_⟩
  subst q1; subst q2
  have r1 : y1 = .str t := r1
  have r2 : x1 = .int v := r2
  subst r1; subst r2
  have J := (I.next g1 s1).next g2 s2
  have hd2 : BagAt P w K p1 p2 p3 y H2 := S.to (S.to hd I g1) (I.next g1 s1) g2
  have e2 := hd2.2.2.1
  have ne : ∀ {j : Int} {x : Bag} {H3 : Hp}, Ok K s c M0 H0 O ρ n σ H3 → BagAt P w K p1 p2 p3 x H3 → ((∃ j' : Int, valV y.kv (.inr t) = some (.int j') ∧ x = y ∧ (!decide (j = u)) = !decide (j' = u)) ∨ (valV y.kv (.inr t) = none ∧ x = { y with kv := putK y.kv (.inr t) (.int v) } ∧ (!decide (j = u)) = !decide (v = u))) →
      tz σ H3 fun z H4 => rNeA K (.int j) z H4 fun x' H' => ∃ k', x' = .bl k' ∧ Q k' H' := fun {j x H3} J3 hd3 pf =>
    hz M0 H0 O σ H3 _ J3 fun z H4 e4 g4 s4 r4 p4 => by
      subst p4
      exact rk_neI (O ++ M0) n (.int j) z H4 _ ⟨List.mem_append_right _ I.ms.1, List.mem_append_right _ I.ms.2⟩ (J3.next g4 s4).thereA s4 rfl r4 fun q H5 g5 s5 r5 => ⟨_, r5, k _ H5 x ((J3.next g4 s4).next g5 s5) (S.to (S.to hd3 J3 g4) (J3.next g4 s4) g5) pf⟩
  refine ⟨y.kv, .inr t, e2, rfl, Nat.lt_of_lt_of_le hl (by decide), fun w hw => ?_, fun hn => ?_⟩
  · obtain ⟨j, rfl⟩ := hk w hw
    exact ne J hd2 (.inl ⟨j, hw, rfl, rfl⟩)
  · refine ne (J.pput (h0 p2 two) e2 rfl) ?_ (.inr ⟨hn, rfl, rfl⟩)
    obtain ⟨⟨n12, n13, n23⟩, ⟨S', m, e1, f1, l1⟩, _, M, e3, f3, g3, l3⟩ := hd2
    refine ⟨⟨n12, n13, n23⟩, ⟨S', m, by rw [upd_ne n12]; exact e1, f1, l1⟩, upd_same, M, by rw [upd_ne n23.symm]; exact e3, fun z hz => ?_, g3, l3⟩
    obtain ⟨c, hc, e, r⟩ := f3 z hz
    exact ⟨c, hc, e, r.lput e2 rfl⟩
/-- (text, ints) in the set of pairs -/
theorem tp_inP {ta tb : TE} {j : Nat} {z : Str} {l : List Int} (ha : EvE K s c ta ρ n n (fun d => d = .str z)) (hb : EvE K s c tb ρ n n (fun d => d = .tup (dIs l))) (hj : ρ[j]? = some (.va (.obj p3))) : EvTP K s c [p1, p2, p3] (BagAt P w K p1 p2 p3) (tTest (tOp (Ps.rSInN w K) (tTup (tCons ta (tCons tb tNil))) (tVar j))) ρ n y (fun b x => x = y ∧ b = decide ((z, l) ∈ y.cs)) := fun M0 H0 O σ H Q I h0 hd k => by
  have S := bag_ok (P := P) (w := w) (K := K) (s := s) (c := c) (p1 := p1) (p2 := p2) (p3 := p3)
  show tTup (tCons ta (tCons tb tNil)) σ H (fun v H1 => tVar j σ H1 fun y' H2 => Ps.rSInN w K v y' H2 fun x H' => ∃ k, x = .bl k ∧ Q k H')
  refine ev_tupE (n1 := n) (ea_c ha (ea_one hb)) (by exact (by decide : (2 : Nat) ≤ 1000)) M0 H0 O σ H _ I fun v H1 d g1 s1 r1 q1 => ?_
  subst q1
  have J := I.next g1 s1
  obtain ⟨u, hu, ru⟩ := J.sl.get hj
  have ru : u = .ref p3 := ru
  subst ru
  have hd1 := S.to hd I g1
  have r0 : Rep K [] H1 (dPair (z, l)) v := Rep.flat r1 (flat_pair (z, l))
  obtain ⟨b, xs, rfl, _⟩ := r1
  have hd2 := hd1
  obtain ⟨_, _, _, M, e3, f3, g3, l3⟩ := hd1
  have it := its_of f3
  refine ⟨.ref p3, hu, b, pyP (z, l), p3, M, rfl, rfl, e3, it, rep_dp r0 (plain_pair _), hab_pair _, deep_pair _, _, rfl, k _ H1 y J hd2 ⟨rfl, ?_⟩⟩
  rw [decide_eq_decide, Ps.keys_mem (fun z hz => (it z hz).2.1) (hab_pair _)]
  constructor
  · intro h
    obtain ⟨q, hq, e⟩ := List.mem_map.mp h
    obtain ⟨c', hc, e2, _⟩ := f3 q hq
    rw [e2] at e
    rw [← pyP_inj e]
    exact hc
  · exact fun h => g3 _ h
/-- names.add(text) -/
theorem sp_addK {i j : Nat} {z : Str} {B : PnP Bag} (hj : ρ[j]? = some (.va (.obj p1))) (hi : ρ[i]? = some (.va (.str z))) (few : y.ns.length ≤ 1000) (k : B.nx ρ n { y with ns := z :: y.ns }) : EvSP K s c [p1, p2, p3] (BagAt P w K p1 p2 p3) (tDrop (tSAddK P w (tVar j) (tCons (tVar i) tNil))) ρ n y B := fun M0 H0 O σ H Dn I h0 hd G => by
  have S := bag_ok (P := P) (w := w) (K := K) (s := s) (c := c) (p1 := p1) (p2 := p2) (p3 := p3)
  obtain ⟨u, hu, ru⟩ := I.sl.get hi
  obtain ⟨v, hv, rv⟩ := I.sl.get hj
  have ru : u = .str z := ru
  have rv : v = .ref p1 := rv
  subst ru
  subst rv
  obtain ⟨⟨n12, n13, n23⟩, ⟨S', m, e1, f1, l1⟩, e2, M, e3, f3, g3, l3⟩ := hd
  refine ⟨.ref p1, hv, ⟨p1, S', m, rfl, e1⟩, .str z, hu, p1, .inr z, S', m, rfl, rfl, e1, Nat.lt_of_le_of_lt (Nat.succ_le_succ (Nat.le_trans l1 few)) (by decide), ?_⟩
  refine G.nx O ρ n σ _ { y with ns := z :: y.ns } (I.pput (h0 p1 List.mem_cons_self) e1 rfl) ⟨⟨n12, n13, n23⟩, ⟨_, _, upd_same, fun x => ?_, ?_⟩, by rw [upd_ne n12.symm]; exact e2, M, by rw [upd_ne n13.symm]; exact e3, fun q hq => ?_, g3, l3⟩ k
  · show (S' (.inr x) || decide ((.inr x : Key) = .inr z)) = decide (x ∈ z :: y.ns)
    rw [f1, Bool.eq_iff_iff, Bool.or_eq_true, decide_eq_true_eq, decide_eq_true_eq, decide_eq_true_eq, List.mem_cons]
    constructor
    · rintro (h | h)
      · exact .inr h
      · exact .inl (Sum.inr.inj h)
    · rintro (h | h)
      · exact .inr (by rw [h])
      · exact .inl h
  · show (if S' (.inr z) = true then m else m + 1) ≤ y.ns.length + 1
    split <;> omega
  · obtain ⟨c', hc, e, r⟩ := f3 q hq
    exact ⟨c', hc, e, r.lput e1 rfl⟩
/-- contents.add((text, ints)) -/
theorem sp_addN {j : Nat} {ta tb : TE} {z : Str} {l : List Int} {B : PnP Bag} (hj : ρ[j]? = some (.va (.obj p3))) (ha : EvE K s c ta ρ n n (fun d => d = .str z)) (hb : EvE K s c tb ρ n n (fun d => d = .tup (dIs l))) (few : y.cs.length ≤ 40) (new : (z, l) ∉ y.cs) (k : B.nx ρ n { y with cs := (z, l) :: y.cs }) :
    EvSP K s c [p1, p2, p3] (BagAt P w K p1 p2 p3) (tDrop (Ps.tSAddN w K (tVar j) (tCons (tTup (tCons ta (tCons tb tNil))) tNil))) ρ n y B := fun M0 H0 O σ H Dn I h0 hd G => by
  have S := bag_ok (P := P) (w := w) (K := K) (s := s) (c := c) (p1 := p1) (p2 := p2) (p3 := p3)
  obtain ⟨u, hu, ru⟩ := I.sl.get hj
  have ru : u = .ref p3 := ru
  subst ru
  refine ⟨.ref p3, hu, ?_, ?_⟩
  · obtain ⟨_, _, _, M, e3, _⟩ := hd
    exact ⟨p3, M, rfl, e3⟩
  show tTup (tCons ta (tCons tb tNil)) σ H (fun v H1 => Ps.rSAddN w K (.ref p3) [v] H1 fun _ H2 => Dn.nx σ H2)
  refine ev_tupE (n1 := n) (ea_c ha (ea_one hb)) (by exact (by decide : (2 : Nat) ≤ 1000)) M0 H0 O σ H _ I fun v H1 d g1 s1 r1 q1 => ?_
  subst q1
  have J := I.next g1 s1
  have hd1 := S.to hd I g1
  have r0 : Rep K [] H1 (dPair (z, l)) v := Rep.flat r1 (flat_pair (z, l))
  obtain ⟨b, xs, rfl, _⟩ := r1
  obtain ⟨⟨n12, n13, n23⟩, ⟨S', m, e1, f1, l1⟩, e2, M, e3, f3, g3, l3⟩ := hd1
  have it := its_of f3
  have no : pyP (z, l) ∉ M.map (·.2) := fun h => by
    obtain ⟨q, hq, e⟩ := List.mem_map.mp h
    obtain ⟨c', hc, e2', _⟩ := f3 q hq
    rw [e2'] at e
    exact new (by rw [← pyP_inj e]; exact hc)
  refine ⟨b, pyP (z, l), p3, M, rfl, rfl, e3, it, rep_dp r0 (plain_pair _), hab_pair _, deep_pair _, by omega, fun M' _ more => ?_⟩
  have pm := more no
  refine G.nx O ρ n σ _ { y with cs := (z, l) :: y.cs } (J.pput (h0 p3 (List.mem_cons_of_mem _ (List.mem_cons_of_mem _ List.mem_cons_self))) e3 rfl) ⟨⟨n12, n13, n23⟩, ⟨S', m, by rw [upd_ne n13]; exact e1, f1, l1⟩, by rw [upd_ne n23]; exact e2, M', upd_same, fun q hq => ?_, fun c' hc => ?_, ?_⟩ k
  · rcases List.mem_cons.mp (pm.mem_iff.mp hq) with e | hq
    · rw [e]
      exact ⟨(z, l), List.mem_cons_self, rfl, r0.lput e3 rfl⟩
    · obtain ⟨c', hc, e, r⟩ := f3 q hq
      exact ⟨c', List.mem_cons_of_mem _ hc, e, r.lput e3 rfl⟩
  · refine ((pm.map (·.2)).mem_iff).mpr ?_
    rw [List.map_cons]
    rcases List.mem_cons.mp hc with e | hc
    · rw [e]; exact List.mem_cons_self
    · exact List.mem_cons_of_mem _ (g3 c' hc)
  · have := pm.length_eq
    rw [List.length_cons] at this
    show M'.length ≤ y.cs.length + 1
    omega
/-- names = set(); places = {}; contents = set(); then what is done with them -/
theorem s_bag {i1 i2 i3 : Nat} {t : TS} {Nx : List Sl → Nat → Prop} {R : D → Nat → Prop} (o1 : isOw ρ[i1]? = false)
    (e2 : ∀ d, isOw (ρ.set i1 (.va (.obj d)))[i2]? = false) (e3 : ∀ d e, isOw ((ρ.set i1 (.va (.obj d))).set i2 (.va (.obj e)))[i3]? = false)
    (hu : ∀ p1 p2 p3, EvSP K s c [p1, p2, p3] (BagAt P w K p1 p2 p3) t (((ρ.set i1 (.va (.obj p1))).set i2 (.va (.obj p2))).set i3 (.va (.obj p3))) n ⟨[], [], []⟩ ⟨fun ρ' m _ => Nx ρ' m, R⟩) :
    EvS K s c (tSeq (tAsg (tCB (rSet0K P w) tNil) (gName i1)) (tSeq (tAsg tDNewK (gName i2)) (tSeq (tAsg (tCB (Ps.rSet0N w) tNil) (gName i3)) t))) ρ n ⟨Nx, R, fun _ _ => False, fun _ _ => False⟩ := fun M0 H0 O σ H Dn I G => by
  refine ⟨rfl, fun p1 h1 => ?_⟩
  have J1 : Ok K s c M0 H0 O ρ n σ (upd H p1 (SetK P w p1 (fun _ => false) 0)) := I.next (Gr.new h1) (I.src.new h1)
  have z1 : H0 p1 = none := I.gr.none h1 fun z => (I.new_out h1) (I.sub p1 z)
  refine eg_name o1 M0 H0 O n σ _ (.ref p1) _ J1 (d := .obj p1) rfl fun σ1 J2 _ => ?_
  intro p2 h2
  have ne12 : p2 ≠ p1 := fun z => by rw [z, upd_same] at h2; cases h2
  have J3 := J2.next (Gr.new (o := .dK []) h2) (J2.src.new h2)
  have z2 : H0 p2 = none := J2.gr.none h2 fun z => (J2.new_out h2) (J2.sub p2 z)
  refine eg_name (e2 p1) M0 H0 O n σ1 _ (.ref p2) _ J3 (d := .obj p2) rfl fun σ2 J4 _ => ?_
  refine ⟨rfl, fun p3 h3 => ?_⟩
  have ne13 : p3 ≠ p1 := fun z => by rw [z, upd_ne ne12.symm, upd_same] at h3; cases h3
  have ne23 : p3 ≠ p2 := fun z => by rw [z, upd_same] at h3; cases h3
  have J5 := J4.next (Gr.new (o := Ps.SetO w p3 []) h3) (J4.src.new h3)
  have z3 : H0 p3 = none := J4.gr.none h3 fun z => (J4.new_out h3) (J4.sub p3 z)
  refine eg_name (e3 p1 p2) M0 H0 O n σ2 _ (.ref p3) _ J5 (d := .obj p3) rfl fun σ3 J6 _ => ?_
  refine hu p1 p2 p3 M0 H0 O σ3 _ Dn J6 (fun a ha => ?_) ⟨⟨ne12.symm, ne13.symm, ne23.symm⟩, ⟨_, _, by rw [upd_ne ne13.symm, upd_ne ne12.symm]; exact upd_same, fun z => rfl, Nat.zero_le _⟩, by rw [upd_ne ne23.symm]; exact upd_same, [], upd_same, fun z hz => (by cases hz), fun c hc => (by cases hc), Nat.zero_le _⟩
    ⟨fun O' ρ' n' σ' H' y J3 _ q => G.nx O' ρ' n' σ' H' J3 q, fun v H' x n' g1 s1 r1 q => G.rt v H' x n' g1 s1 r1 q⟩
  rcases List.mem_cons.mp ha with z | ha
  · rw [z]; exact z1
  · rcases List.mem_cons.mp ha with z | ha
    · rw [z]; exact z2
    · rw [List.mem_singleton.mp ha]; exact z3
end
end Pl
/-! text K14p -/
set_option Elab.async false
set_option linter.all false
set_option maxRecDepth 100000
set_option maxHeartbeats 4000000
set_option exponentiation.threshold 5000
namespace K14
open PySem PySem.Spec PyProof.Rows L2 Pl PlS

def isBl : D → Bool | .bl _ => true | _ => false
def isInt : D → Bool | .int _ => true | .bl _ => true | _ => false
theorem one_int {K : PySem.W.Frag} (d : D) (h : topD d = true) : PySem.W.kitOne K (.type (tyD d)) (.type "int") = some (isInt d) := by
  cases d <;> first | rfl | exact nomatch (show false = true from h)
theorem one_bool {K : PySem.W.Frag} (d : D) (h : topD d = true) : PySem.W.kitOne K (.type (tyD d)) (.type "bool") = some (isBl d) := by
  cases d <;> first | rfl | exact nomatch (show false = true from h)
def plainI : D → Bool | .int _ => true | _ => false
theorem plain_int (d : D) : (isInt d && !isBl d) = plainI d := by cases d <;> rfl
def valB : D → Bool | .int i => decide (-1000000000 ≤ i) && decide (i ≤ 1000000000) | _ => false
def valsB : D → Bool | .tup l => decide (1 ≤ (l.length : Int)) && decide ((l.length : Int) ≤ 3) && l.all valB | _ => false
def rowB : D → Bool | .tup [n, t, v] => nameB n && nameB t && valsB v | _ => false
/-- what may be asked whether it is a row -/
def rowOk (x : D) : Prop := tame x = true ∨ ∃ t u ks l, x = .tup [t, u, .dct ks l] ∧ tame t = true ∧ tame u = true
def preV (s c : Addr) (ds : List D) : Prop := ∃ x, ds = [x] ∧ tame x = true
def postPI (s c : Addr) (ds : List D) (z : D) : Prop := ∃ x, ds = [x] ∧ z = .bl (plainI x)
def postV (s c : Addr) (ds : List D) (z : D) : Prop := ∃ x, ds = [x] ∧ z = .bl (valB x)
def preR (s c : Addr) (ds : List D) : Prop := ∃ x, ds = [x] ∧ rowOk x
def postR (s c : Addr) (ds : List D) (z : D) : Prop := ∃ x, ds = [x] ∧ z = .bl (rowB x)
section
variable {K : PySem.W.Frag} {s c : Addr} {ρ : List Sl} {n n1 n2 n3 : Nat} {te ta tb : TE}
theorem ev_notV {b : Bool} (h : EvE K s c te ρ n n1 (fun x => x = .bl b)) : EvE K s c (tNotV te) ρ n n1 (fun x => x = .bl (!b)) := fun M0 H0 O σ H Q I k =>
  h M0 H0 O σ H _ I fun v H1 x g s1 r p => by
    subst p
    have r : v = .bl b := r
    subst r
    exact ⟨b, rfl, k _ H1 (.bl (!b)) g s1 rfl rfl⟩
theorem ev_isiD {ks : List Key} {l : List D} {T : String} {b : Bool} (h : EvE K s c ta ρ n n1 (fun x => x = .dct ks l)) (e : PySem.W.kitOne K (.type "dict") (.type T) = some b) :
    EvE K s c (tCB (rIsiA K) (tCons ta (tCons (tC (.ty T)) tNil))) ρ n n1 (fun x => x = .bl b) := fun M0 H0 O σ H Q I k =>
  h M0 H0 O σ H _ I fun v H1 x g s1 r p => by
    subst p
    obtain ⟨a, o, fs, rfl, e1, _, _⟩ := r
    exact .inl ⟨.ref a, .ty T, _, _, b, rfl, .ty T, .fDict e1, e, k _ H1 (.bl b) g s1 rfl rfl⟩
end
theorem len3 {l : List D} (h : l.length = 3) : ∃ a b d, l = [a, b, d] := by
  match l, h with
  | [a, b, d], _ => exact ⟨a, b, d, rfl⟩
theorem row_not {l : List D} (h : l.length ≠ 3) : rowB (.tup l) = false := by
  match l, h with
  | [], _ => rfl
  | [_], _ => rfl
  | [_, _], _ => rfl
  | [_, _, _], h => exact absurd rfl h
  | _ :: _ :: _ :: _ :: _, _ => rfl
section
variable {P : Program} {w : World} {K : PySem.W.Frag} {mg : Str → Option Value} {base : Heap} {A : Adr}
theorem ok_is_plain_integer (T : Txt A K mg) : FnOk P w K mg base CX0 1 A.f_is_plain_integer A.fd_is_plain_integer ["value"] (Pr K preV 0 postPI) := by
  refine T.F_is_plain_integer.ok sc_is_plain_integer (fun vs H Q E h => pr_len h fun s c ds hp => ?_) (fun cdv A' outer st H vs Q E hr h => have hw : _ := hr.units; ⟨_, (pss_one (ps_ret (pe_and (pe_callB (k_isi (K := K)) (by rfl) T.m_isinstance (by decide +kernel) (pa_cons (pv 0) (pa_cons (pe_bltn (v := .ty "int") (u := .type "int") (by rfl) T.m_int (by decide +kernel) rfl) pa_nil))) (pe_one (pe_not (pe_callB (k_isi (K := K)) (by rfl) T.m_isinstance (by decide +kernel) (pa_cons (pv 0) (pa_cons (pe_bltn (v := .ty "bool") (u := .type "bool") (by rfl) T.m_bool (by decide +kernel) rfl) pa_nil)))))))), body_ok h fun s c n ds hn hp => ?_⟩)
  · obtain ⟨x, rfl, _⟩ := hp
    rfl
  · obtain ⟨x, rfl, tx⟩ := hp
    have fin : ∀ b, b = plainI x → (⟨fun _ m => m ≤ n + 0 ∧ postPI s c [x] .non, fun d m => m ≤ n + 0 ∧ postPI s c [x] d, fun _ _ => False, fun _ _ => False⟩ : Pn).rt (.bl b) n := fun b e => ⟨Nat.le_refl _, x, rfl, by rw [e]⟩
    refine s_ret (ev_andK (a := isInt x) (b := !isBl x) (ev_isi (ev_var rfl) (tame_top tx) (one_int _ (tame_top tx))) fun _ => ev_notV (ev_isi (ev_var rfl) (tame_top tx) (one_bool _ (tame_top tx)))) fun d hd => ?_
    rw [hd]
    exact fin _ (plain_int x)
theorem ok__is_value (T : Txt A K mg) : FnOk P w K mg base CX0 2 A.f__is_value A.fd__is_value ["value"] (Pr K preV 0 postV) := by
  have G_is_plain_integer := ok_is_plain_integer (P := P) (w := w) (base := base) T
  refine T.F__is_value.ok sc__is_value (fun vs H Q E h => pr_len h fun s c ds hp => ?_) (fun cdv A' outer st H vs Q E hr h => have hw : _ := hr.units; ⟨_, (pss_one (ps_ret (pe_and (pe_call G_is_plain_integer (hr.mono (by decide)) (by rfl) T.m_is_plain_integer T.F_is_plain_integer.kp T.b_is_plain_integer .nil pass0 (pa_cons (pv 0) pa_nil)) (pe_one (pe_chain op_le op_le (pe_un un_neg (pe_glob (v := .int 1000000000) rfl T.m_GREATEST_VALUE.choose_spec ⟨_, rfl⟩)) (pv 0) (pe_glob (v := .int 1000000000) rfl T.m_GREATEST_VALUE.choose_spec ⟨_, rfl⟩)))))), body_ok h fun s c n ds hn hp => ?_⟩)
  · obtain ⟨x, rfl, _⟩ := hp
    rfl
  · obtain ⟨x, rfl, tx⟩ := hp
    have fin : ∀ b, b = valB x → (⟨fun _ m => m ≤ n + 0 ∧ postV s c [x] .non, fun d m => m ≤ n + 0 ∧ postV s c [x] d, fun _ _ => False, fun _ _ => False⟩ : Pn).rt (.bl b) n := fun b e => ⟨Nat.le_refl _, x, rfl, by rw [e]⟩
    have pi : ∀ {ρ : List Sl} {t : TE}, EvE K s c t ρ n n (fun d => d = x) → EvE K s c (tCall (Pr K preV 0 postPI) [] E0 (tCons t tNil)) ρ n n (fun d => d = .bl (plainI x)) := fun h =>
      ev_defK (ea_one h) (by omega) ⟨x, rfl, tx⟩ fun d h => by
        obtain ⟨x', e, rfl⟩ := h
        cases e
        rfl
    cases x with
    | int i =>
      refine s_ret (ev_andK (a := true) (pi (ev_var rfl)) fun _ => ev_chainK (y := .int i) (ev_neg ev_int) (ev_var rfl) ev_int rfl rk_le rk_le) fun d hd => ?_
      rw [hd]
      exact fin _ rfl
    | _ =>
      refine s_ret (ev_andK (a := false) (b := true) (pi (ev_var rfl)) fun e => by cases e) fun d hd => ?_
      rw [hd]
      exact fin _ rfl
theorem ok__is_row (T : Txt A K mg) : FnOk P w K mg base CX0 3 A.f__is_row A.fd__is_row ["value"] (Pr K preR 0 postR) := by
  have G__is_value := ok__is_value (P := P) (w := w) (base := base) T
  have G_is_name := ok_is_name (P := P) (w := w) (base := base) T
  refine T.F__is_row.ok sc__is_row (fun vs H Q E h => pr_len h fun s c ds hp => ?_) (fun cdv A' outer st H vs Q E hr h => have hw : _ := hr.units; ⟨_, (pss_cons (ps_if (PW.pt (pw_or (pt_not (pt_val (pe_callB (k_isi (K := K)) (by rfl) T.m_isinstance (by decide +kernel) (pa_cons (pv 0) (pa_cons (pe_bltn (v := .ty "tuple") (u := .type "tuple") (by rfl) T.m_tuple (by decide +kernel) rfl) pa_nil))))) (pw_or1 (pt_cmpR (k_neA hw) (pe_callB (k_len K) (by rfl) T.m_len (by decide +kernel) (pa_cons (pv 0) pa_nil)) pe_int (nomark _))))) (pss_one (ps_ret pe_bl)) pss_nil)
      (pss_cons (ps_asg (pv 0) (k_pgtup K (n := 3) rfl (pgs_cons (pg_name (i := 1) sc__is_row.nd rfl (by first | exact Or.inl rfl | exact Or.inr rfl)) (pgs_cons (pg_name (i := 2) sc__is_row.nd rfl (by first | exact Or.inl rfl | exact Or.inr rfl)) (pgs_cons (pg_name (i := 3) sc__is_row.nd rfl (by first | exact Or.inl rfl | exact Or.inr rfl)) pgs_nil)))))
      (pss_cons (ps_if (PW.pt (pw_or (pt_not (pt_val (pe_call G_is_name (hr.mono (by decide)) (by rfl) T.m_is_name T.F_is_name.kp T.b_is_name .nil pass0 (pa_cons (pv 1) pa_nil)))) (pw_or (pt_not (pt_val (pe_call G_is_name (hr.mono (by decide)) (by rfl) T.m_is_name T.F_is_name.kp T.b_is_name .nil pass0 (pa_cons (pv 2) pa_nil)))) (pw_or1 (pt_not (pt_val (pe_callB (k_isi (K := K)) (by rfl) T.m_isinstance (by decide +kernel) (pa_cons (pv 3) (pa_cons (pe_bltn (v := .ty "tuple") (u := .type "tuple") (by rfl) T.m_tuple (by decide +kernel) rfl) pa_nil))))))))) (pss_one (ps_ret pe_bl)) pss_nil)
      (pss_one (ps_ret (pe_and (pe_chain op_le op_le pe_int (pe_callB (k_len K) (by rfl) T.m_len (by decide +kernel) (pa_cons (pv 3) pa_nil)) (pe_glob (v := .int 3) rfl T.m_MOST_VALUES.choose_spec ⟨_, rfl⟩)) (pe_one (pe_callB (k_all K rfl) (by rfl) T.m_all (by decide +kernel) (pa_cons (pe_lc (own := [("entry", 4)]) rfl sc__is_row.nd (k_pitup K (pv 3)) (blkOk_by (N := ["value", "name", "table", "values", "entry"]) (sc := defScope s__is_row) (by decide +kernel)) (fun _ _ _ _ _ => (pg_name (i := 4) sc__is_row.nd rfl (by first | exact Or.inl rfl | exact Or.inr rfl))) (fun _ _ _ _ _ => pts_nil) (fun _ _ _ _ _ => (pe_call G__is_value (hr.mono (by decide)) (by rfl) T.m__is_value T.F__is_value.kp T.b__is_value .nil pass0 (pa_cons (pv 4) pa_nil)))) pa_nil))))))))), body_ok h fun s c n ds hn hp => ?_⟩)
  · obtain ⟨x, rfl, _⟩ := hp
    rfl
  · obtain ⟨x, rfl, tx⟩ := hp
    have fin : ∀ b, b = rowB x → (⟨fun _ m => m ≤ n + 0 ∧ postR s c [x] .non, fun d m => m ≤ n + 0 ∧ postR s c [x] d, fun _ _ => False, fun _ _ => False⟩ : Pn).rt (.bl b) n := fun b e => ⟨Nat.le_refl _, x, rfl, by rw [e]⟩
    have nm : ∀ {ρ : List Sl} {t : TE} {d : D}, tame d = true → EvE K s c t ρ n n (fun z => z = d) → EvE K s c (tCall (Pr K preName 0 postName) [] E0 (tCons t tNil)) ρ n n (fun z => z = .bl (nameB d)) := fun {ρ t d} td h =>
      ev_defK (ea_one h) (by omega) ⟨d, rfl, td⟩ fun z h => by
        obtain ⟨x', e, rfl⟩ := h
        cases e
        rfl
    by_cases isT : isTup x = true
    · obtain ⟨l, rfl⟩ : ∃ l, x = .tup l := by cases x <;> first | exact ⟨_, rfl⟩ | cases isT
      refine s_seq (N := fun ρ' m => n = m ∧ ρ' = [.va (.tup l), .no, .no, .no, .no] ∧ l.length = 3) (s_ifK (b := !true || !decide ((l.length : Int) = 3)) (et_orK (et_notK (et_BK (ev_isi (ev_var rfl) rfl (one_tup _ rfl)))) fun _ => et_K (ev_opK (ev_callK (ea_one (ev_var rfl)) (ck_len rfl)) ev_int rk_neI)) (fun e => ?_) fun e => ?_) fun ρ1 n1 h1 => ?_
      · refine s_ret ev_bl fun d hd => ?_
        rw [hd]
        refine fin _ ?_
        have e' : (!decide ((l.length : Int) = 3)) = true := e
        rw [Bool.not_eq_true', decide_eq_false_iff_not] at e'
        exact (row_not fun z => e' (by rw [z]; rfl)).symm
      · refine s_next ⟨rfl, rfl, ?_⟩
        have e' : (!decide ((l.length : Int) = 3)) = false := e
        rw [Bool.not_eq_false', decide_eq_true_eq] at e'
        omega
      obtain ⟨rfl, rfl, h3⟩ := h1
      obtain ⟨a, b, v, rfl⟩ := len3 h3
      have rb : rowB (.tup [a, b, v]) = (nameB a && nameB b && valsB v) := rfl
      have tab : tame a = true ∧ tame b = true ∧ (tame v = true ∨ ∃ ks l, v = .dct ks l) := by
        rcases tx with tx | ⟨t, u, ks, l, e, t1, t2⟩
        · have tl := (tame_tup tx).2
          exact ⟨tame_mem tl a List.mem_cons_self, tame_mem tl b (List.mem_cons_of_mem _ List.mem_cons_self), .inl (tame_mem tl v (List.mem_cons_of_mem _ (List.mem_cons_of_mem _ List.mem_cons_self)))⟩
        · cases e
          exact ⟨t1, t2, .inr ⟨ks, l, rfl⟩⟩
      obtain ⟨ta, tb, tv⟩ := tab
      refine s_seq (N := fun ρ' m => n = m ∧ ρ' = [.va (.tup [a, b, v]), .va a, .va b, .va v, .no]) (s_asg (ev_var rfl) fun x hx => by
        rw [hx]
        exact ⟨_, _, eg_tup (egs_cons (eg_name (j := 1) rfl) (egs_cons (eg_name (j := 2) rfl) (egs_cons (eg_name (j := 3) rfl) egs_nil))) rfl, rfl, rfl⟩) fun ρ1 n1 h1 => ?_
      obtain ⟨rfl, rfl⟩ := h1
      -- whether values is a tuple
      have isv : EvE K s c (tCB (rIsiA K) (tCons (tVar 3) (tCons (tC (.ty "tuple")) tNil))) [.va (.tup [a, b, v]), .va a, .va b, .va v, .no] n n (fun x => x = .bl (isTup v)) := by
        rcases tv with tv | ⟨ks, l, rfl⟩
        · exact ev_isi (ev_var rfl) (tame_top tv) (one_tup _ (tame_top tv))
        · exact ev_isiD (ev_var rfl) rfl
      refine s_seq (N := fun ρ' m => n = m ∧ ρ' = [.va (.tup [a, b, v]), .va a, .va b, .va v, .no] ∧ nameB a = true ∧ nameB b = true ∧ isTup v = true) (s_ifK (b := !nameB a || (!nameB b || !isTup v)) (et_orK (et_notK (et_BK (nm ta (ev_var rfl)))) fun _ => et_orK (et_notK (et_BK (nm tb (ev_var rfl)))) fun _ => et_notK (et_BK isv)) (fun e => ?_) fun e => ?_) fun ρ1 n1 h1 => ?_
      · refine s_ret ev_bl fun d hd => ?_
        rw [hd]
        refine fin _ ?_
        rw [rb]
        cases q1 : nameB a with
        | false => rfl
        | true =>
          cases q2 : nameB b with
          | false => rfl
          | true =>
            cases q3 : isTup v with
            | true => rw [q1, q2, q3] at e; cases e
            | false =>
              have : valsB v = false := by cases v <;> first | rfl | cases q3
              rw [this]; rfl
      · refine s_next ⟨rfl, rfl, ?_⟩
        rw [Bool.or_eq_false_iff, Bool.or_eq_false_iff, Bool.not_eq_false', Bool.not_eq_false', Bool.not_eq_false'] at e
        exact ⟨e.1, e.2.1, e.2.2⟩
      obtain ⟨rfl, rfl, na, nb, iv⟩ := h1
      obtain ⟨l, rfl⟩ : ∃ l, v = .tup l := by cases v <;> first | exact ⟨_, rfl⟩ | cases iv
      have tv : tame (.tup l) = true := by
        rcases tv with tv | ⟨ks, l', e⟩
        · exact tv
        · cases e
      obtain ⟨ll, tl⟩ := tame_tup tv
      refine s_ret (ev_andK (a := decide (1 ≤ (l.length : Int)) && decide ((l.length : Int) ≤ 3)) (b := l.all valB) (ev_chainK (y := .int l.length) ev_int (ev_callK (ea_one (ev_var rfl)) (ck_len rfl)) ev_int rfl rk_le rk_le) fun _ => ev_callK (l := [.lst (l.map fun d => .bl (valB d))]) (z := .bl (l.all valB)) (ea_one (EvN.evK (en_mapK _ (ei_tup (ev_var rfl) fun d e => ⟨_, e, rfl⟩) rfl ll fun i d hi => ⟨_, _, eg_name (j := 4) rfl, fun j hj => hj, ev_defK (ea_one (ev_var rfl)) (by omega) ⟨d, rfl, tame_mem tl d (List.mem_of_getElem? hi)⟩ fun z h => ?_⟩))) ?_) fun d hd => ?_
      · obtain ⟨x, e, rfl⟩ := h
        cases e
        rfl
      · have := ck_all (K := K) (s := s) (c := c) (bs := l.map valB)
        rw [List.map_map, List.all_map] at this
        exact this
      · rw [hd]
        refine fin _ ?_
        rw [rb, na, nb]
        rfl
    · have tx : tame x = true := by
        rcases tx with tx | ⟨_, _, _, _, rfl, _, _⟩
        · exact tx
        · exact absurd rfl isT
      have it : isTup x = false := by
        cases q : isTup x with
        | true => exact absurd q isT
        | false => rfl
      have rf : rowB x = false := by cases x <;> first | rfl | cases it
      refine s_seq (N := fun _ _ => False) (s_ifK (b := !isTup x || false) (et_orK (et_notK (et_BK (ev_isi (ev_var rfl) (tame_top tx) (one_tup _ (tame_top tx))))) fun e => by rw [it] at e; cases e) (fun e => s_ret ev_bl fun d hd => by rw [hd]; exact fin _ rf.symm) fun e => by rw [it] at e; cases e) fun ρ1 n1 h1 => h1.elim
end
end K14
/-! text K14q -/
set_option Elab.async false
set_option linter.all false
set_option maxRecDepth 100000
set_option maxHeartbeats 4000000
set_option exponentiation.threshold 5000
namespace K14
open PySem PySem.Spec PyProof.Rows L2 Pl PlS
open ClX

/-! ### the error of rows, on data -/
abbrev Row := Str × Str × List Int
def dRow (r : Row) : D := .tup [.str r.1, .str r.2.1, .tup (dIs r.2.2)]
def okRow (r : Row) : Prop := isName r.1 ∧ isName r.2.1 ∧ 1 ≤ r.2.2.length ∧ r.2.2.length ≤ 3 ∧ ∀ i ∈ r.2.2, -1000000000 ≤ i ∧ i ≤ 1000000000
def intsD (d : D) : List Int := match d with
  | .tup l => l.map fun x => match x with | .int i => i | _ => 0
  | _ => []
theorem intsD_of (l : List Int) : intsD (.tup (dIs l)) = l := by
  show (l.map D.int).map _ = l
  rw [List.map_map]
  exact (List.map_congr_left fun i _ => rfl).trans (List.map_id _)
def unR (d : D) : Row := match d with
  | .tup [.str a, .str b, v] => (a, b, intsD v)
  | _ => (⟨#[]⟩, ⟨#[]⟩, [])
theorem unR_of (r : Row) : unR (dRow r) = r := by
  show (r.1, r.2.1, intsD (.tup (dIs r.2.2))) = r
  rw [intsD_of]
theorem vals_ints : ∀ {l : List D}, l.all valB = true → ∃ is, l = dIs is ∧ ∀ i ∈ is, -1000000000 ≤ i ∧ i ≤ 1000000000
  | [], _ => ⟨[], rfl, fun i h => by simp at h⟩
  | d :: l, h => by
    rw [List.all_cons, Bool.and_eq_true] at h
    obtain ⟨is, rfl, hi⟩ := vals_ints h.2
    cases d with
    | int i =>
      have h1 : (decide (-1000000000 ≤ i) && decide (i ≤ 1000000000)) = true := h.1
      rw [Bool.and_eq_true, decide_eq_true_eq, decide_eq_true_eq] at h1
      refine ⟨i :: is, rfl, fun j hj => ?_⟩
      rcases List.mem_cons.mp hj with rfl | hj
      · exact h1
      · exact hi j hj
    | _ => exact absurd h.1 (by exact Bool.false_ne_true)
theorem is_len (l : List Int) : (dIs l).length = l.length := List.length_map ..
theorem row_is {d : D} (h : rowB d = true) : ∃ r, d = dRow r ∧ okRow r := by
  cases d with
  | tup l =>
    match l, h with
    | [a, b, v], h =>
      have h' : (nameB a && nameB b && valsB v) = true := h
      rw [Bool.and_eq_true, Bool.and_eq_true] at h'
      obtain ⟨za, rfl, ha⟩ := name_is h'.1.1
      obtain ⟨zb, rfl, hb⟩ := name_is h'.1.2
      cases v with
      | tup l =>
        have h2 : (decide (1 ≤ (l.length : Int)) && decide ((l.length : Int) ≤ 3) && l.all valB) = true := h'.2
        rw [Bool.and_eq_true, Bool.and_eq_true, decide_eq_true_eq, decide_eq_true_eq] at h2
        obtain ⟨is, rfl, hi⟩ := vals_ints h2.2
        rw [is_len] at h2
        exact ⟨(za, zb, is), rfl, ha, hb, by show 1 ≤ is.length; omega, by show is.length ≤ 3; omega, hi⟩
      | _ => exact absurd h'.2 (by exact Bool.false_ne_true)
    | [], h => exact absurd (show false = true from h) Bool.false_ne_true
    | [_], h => exact absurd (show false = true from h) Bool.false_ne_true
    | [_, _], h => exact absurd (show false = true from h) Bool.false_ne_true
    | _ :: _ :: _ :: _ :: _, h => exact absurd (show false = true from h) Bool.false_ne_true
  | _ => exact absurd (show false = true from h) Bool.false_ne_true
def clashN (rs : List Row) (r : Row) : Bool := rs.any fun q => decide (q.1 = r.1)
def clashP (rs : List Row) (r : Row) : Bool := rs.any fun q => decide (q.2.1 = r.2.1) && !decide ((q.2.2.length : Int) = (r.2.2.length : Int))
def clashR (rs : List Row) (r : Row) : Bool := rs.any fun q => decide (q.2 = r.2)
def stepE (k : Nat) (rs : List Row) (d : D) : Option D :=
  if rowB d = false then some (E2 "row" k) else if clashN rs (unR d) = true then some (E2 "name" k) else if clashP rs (unR d) = true then some (E2 "places" k) else if clashR rs (unR d) = true then some (E2 "repeated" k) else none
def errR : List Row → Nat → List D → D
  | _, _, [] => .non
  | rs, k, d :: l => match stepE k rs d with
    | some e => e
    | none => errR (rs ++ [unR d]) (k + 1) l
def errT (x : D) : D := match seqD x with
  | none => E1 "rows"
  | some l => if 6 < (l.length : Int) then E1 "rows" else errR [] 0 l
theorem errR_hit {rs : List Row} {k : Nat} {d e : D} {l : List D} (h : stepE k rs d = some e) : errR rs k (d :: l) = e := by
  show (match stepE k rs d with | some e => e | none => _) = e
  rw [h]
theorem errR_go {rs : List Row} {k : Nat} {r : Row} {l : List D} (h : stepE k rs (dRow r) = none) : errR rs k (dRow r :: l) = errR (rs ++ [r]) (k + 1) l := by
  show (match stepE k rs (dRow r) with | some e => e | none => errR (rs ++ [unR (dRow r)]) (k + 1) l) = _
  rw [h, unR_of]
theorem rowB_of {r : Row} (h : okRow r) : rowB (dRow r) = true := by
  obtain ⟨h1, h2, h3, h4, h5⟩ := h
  have nb : ∀ {z : Str}, isName z → nameB (.str z) = true := fun {z} h => by
    show (decide ((1 : Int) ≤ (z.length : Int)) && decide ((z.length : Int) ≤ 8) && z.cps.toList.all lowB) = true
    have a := h.1
    have b := h.2.1
    rw [decide_eq_true (by omega), decide_eq_true (by omega), Bool.true_and, Bool.true_and, List.all_eq_true]
    intro q hq
    have := h.2.2 q hq
    unfold low at this
    unfold lowB
    rw [Bool.and_eq_true, decide_eq_true_eq, decide_eq_true_eq]
    exact this
  have vb : valsB (.tup (dIs r.2.2)) = true := by
    show (decide (1 ≤ ((dIs r.2.2).length : Int)) && decide (((dIs r.2.2).length : Int) ≤ 3) && (dIs r.2.2).all valB) = true
    rw [is_len, decide_eq_true (by omega), decide_eq_true (by omega), Bool.true_and, Bool.true_and, List.all_eq_true]
    intro d hd
    obtain ⟨i, hi, rfl⟩ := List.mem_map.mp hd
    have := h5 i hi
    show (decide (-1000000000 ≤ i) && decide (i ≤ 1000000000)) = true
    rw [decide_eq_true this.1, decide_eq_true this.2]
    rfl
  show (nameB (.str r.1) && nameB (.str r.2.1) && valsB (.tup (dIs r.2.2))) = true
  rw [nb h1, nb h2, vb]
  rfl
/-! ### the dict of places -/
def DictR (rs : List Row) (kv : List (Key × V)) : Prop := (∀ a ∈ rs, valV kv (.inr a.2.1) = some (.int (a.2.2.length : Int))) ∧ ∀ t, (∀ a ∈ rs, a.2.1 ≠ t) → valV kv (.inr t) = none
theorem dictR_some {rs : List Row} {kv : List (Key × V)} {b : Row} {j : Int} (h : DictR rs kv) (hv : valV kv (.inr b.2.1) = some (.int j)) : clashP rs b = !decide (j = (b.2.2.length : Int)) := by
  have all : ∀ a ∈ rs, a.2.1 = b.2.1 → (a.2.2.length : Int) = j := fun a ha e => by
    have := h.1 a ha
    rw [e, hv] at this
    cases this
    rfl
  have one : ∃ a ∈ rs, a.2.1 = b.2.1 := by
    apply Classical.byContradiction
    intro no
    have := h.2 b.2.1 fun a ha e => no ⟨a, ha, e⟩
    rw [hv] at this
    cases this
  unfold clashP
  rw [Bool.eq_iff_iff, List.any_eq_true]
  constructor
  · rintro ⟨a, ha, q⟩
    rw [Bool.and_eq_true, decide_eq_true_eq] at q
    rw [all a ha q.1] at q
    exact q.2
  · intro q
    obtain ⟨a, ha, e⟩ := one
    refine ⟨a, ha, ?_⟩
    rw [all a ha e, decide_eq_true e, q]
    rfl
theorem dictR_none {rs : List Row} {kv : List (Key × V)} {b : Row} (h : DictR rs kv) (hv : valV kv (.inr b.2.1) = none) : clashP rs b = false := by
  unfold clashP
  rw [List.any_eq_false]
  intro a ha q
  rw [Bool.and_eq_true, decide_eq_true_eq] at q
  have := h.1 a ha
  rw [q.1, hv] at this
  cases this
theorem snoc_mem {rs : List Row} {b a : Row} (ha : a ∈ rs ++ [b]) : a ∈ rs ∨ a = b := by
  rcases List.mem_append.mp ha with h | h
  · exact .inl h
  · exact .inr (by simpa using h)
theorem dictR_keep {rs : List Row} {kv : List (Key × V)} {b : Row} (h : DictR rs kv) (hv : valV kv (.inr b.2.1) = some (.int (b.2.2.length : Int))) : DictR (rs ++ [b]) kv :=
  ⟨fun a ha => (snoc_mem ha).elim (h.1 a) fun e => by rw [e]; exact hv, fun t ht => h.2 t fun a ha => ht a (List.mem_append_left _ ha)⟩
theorem dictR_put {rs : List Row} {kv : List (Key × V)} {b : Row} (h : DictR rs kv) (hv : valV kv (.inr b.2.1) = none) : DictR (rs ++ [b]) (putK kv (.inr b.2.1) (.int (b.2.2.length : Int))) := by
  refine ⟨fun a ha => ?_, fun t ht => ?_⟩
  · rw [valV_put]
    by_cases e : (Sum.inr a.2.1 : Key) = .inr b.2.1
    · rw [if_pos e]
      have e' : a.2.1 = b.2.1 := Sum.inr.inj e
      rcases snoc_mem ha with h1 | h1
      · have := h.1 a h1
        rw [e', hv] at this
        cases this
      · rw [h1]
    · rw [if_neg e]
      rcases snoc_mem ha with h1 | h1
      · exact h.1 a h1
      · exact absurd (by rw [h1]) e
  · rw [valV_put, if_neg fun e => ht b (List.mem_append_right _ List.mem_cons_self) (Sum.inr.inj e).symm]
    exact h.2 t fun a ha => ht a (List.mem_append_left _ ha)
/-! ### the def -/
/-- what the top has written of the class Tables, as a class -/
structure CTxt (K : PySem.W.Frag) (mg : Str → Option Value) (CT : Addr) (mcT : Value) : Prop where
  gT : mg "Tables" = some (.ref CT)
  rd : CRead K CT mcT
  cv : ∃ u, CVal K CT mcT "MOST_ROWS" (.int 6) u
  isC : IsC K CT
  any : PySem.W.kitAny K (.ref CT) [.type "list", .type "tuple"] = some false
theorem k_cval {X : Cx} {K : PySem.W.Frag} {e : Expr} {ta : TE} {f : Str} {pos : Pos} (he : PE X e ta) (hb : attributeBase e f X.env (eval e X.env) = eval e X.env := by rfl) (h : X.K = K := by rfl) : PE X (.Attribute e f pos) (tCVal K ta f) := by subst h; exact pe_cval he hb
def rowsOk (CT : Addr) (x : D) : Prop := tame x = true ∨ (∃ ks l, x = .dct ks l) ∨ ∃ ks l, x = .ins CT ks l
def preErr (CT s c : Addr) (ds : List D) : Prop := ∃ x, ds = [x] ∧ rowsOk CT x
def postErr (s c : Addr) (ds : List D) (z : D) : Prop := ∃ x, ds = [x] ∧ z = errT x
theorem rows_items {CT : Addr} {x : D} {l : List D} (h : rowsOk CT x) (e : seqD x = some l) : l.length ≤ 1000 ∧ ∀ d ∈ l, tame d = true := by
  rcases h with h | ⟨ks, l', rfl⟩ | ⟨ks, l', rfl⟩
  · cases x with
    | tup l' => cases e; exact ⟨(tame_tup h).1, tame_mem (tame_tup h).2⟩
    | lst l' => cases e; exact ⟨(tame_lst h).1, tame_mem (tame_lst h).2⟩
    | _ => cases e
  · cases e
  · cases e
section
variable {K : PySem.W.Frag} {mg : Str → Option Value} {CT : Addr} {mcT : Value} {s c : Addr} {ρ : List Sl} {n n1 : Nat} {ta : TE}
/-- isinstance(x, (list, tuple)) -/
theorem ev_isSeq (G : CTxt K mg CT mcT) {x : D} (hx : rowsOk CT x) (h : EvE K s c ta ρ n n1 (fun d => d = x)) :
    EvE K s c (tCB (rIsiA K) (tCons ta (tCons (tTup (tCons (tC (.ty "list")) (tCons (tC (.ty "tuple")) tNil))) tNil))) ρ n n1 (fun d => d = .bl (isLst x || isTup x)) := by
  rcases hx with hx | ⟨ks, l, rfl⟩ | ⟨ks, l, rfl⟩
  · exact ev_isiT h (tame_top hx) (any_lt _ (tame_top hx))
  · exact fun M0 H0 O σ H Q I k => h M0 H0 O σ H _ I fun v H1 x g s1 r p => by
      subst p
      refine ⟨by show 2 ≤ sizeLine; decide, fun q hq => ?_⟩
      have r2 := r.gr (Gr.new (o := .tup [.ty "list", .ty "tuple"]) hq)
      obtain ⟨a, o, fs, rfl, e1, _, _⟩ := r2
      exact .inr ⟨.ref a, q, [.ty "list", .ty "tuple"], _, _, false, rfl, upd_same, .cons (.ty "list") (.cons (.ty "tuple") .nil), .fDict e1, rfl, k _ _ (.bl false) (g.trans (Gr.new hq)) (s1.new hq) rfl rfl⟩
  · exact fun M0 H0 O σ H Q I k => h M0 H0 O σ H _ I fun v H1 x g s1 r p => by
      subst p
      refine ⟨by show 2 ≤ sizeLine; decide, fun q hq => ?_⟩
      exact .inr ⟨v, q, [.ty "list", .ty "tuple"], _, _, false, rfl, upd_same, .cons (.ty "list") (.cons (.ty "tuple") .nil), G.isC.ins (r.gr (Gr.new hq)), G.any, k _ _ (.bl false) (g.trans (Gr.new hq)) (s1.new hq) rfl rfl⟩
theorem ev_most (G : CTxt K mg CT mcT) : EvE K s c (tCVal K (tC (.ref CT)) "MOST_ROWS") ρ n n (fun d => d = .int 6) := fun M0 H0 O σ H Q I k => by
  obtain ⟨u, hu⟩ := G.cv
  exact ⟨CT, mcT, .int 6, u, rfl, G.rd, hu, k _ H (.int 6) (Gr.refl _ _) I.src rfl rfl⟩
end
section
variable {P : Program} {w : World} {K : PySem.W.Frag} {mg : Str → Option Value} {base : Heap} {A : Adr} {CT : Addr} {mcT : Value}
theorem ok__tables_error (T : Txt A K mg) (G : CTxt K mg CT mcT) : FnOk P w K mg base CX0 4 A.f__tables_error A.fd__tables_error ["rows"] (Pr K (preErr CT) 0 postErr) := by
  have G__is_row := ok__is_row (P := P) (w := w) (base := base) T
  refine T.F__tables_error.ok sc__tables_error (fun vs H Q E h => pr_len h fun s c ds hp => ?_) (fun cdv A' outer st H vs Q E hr h => have hw : _ := hr.units; have hs20 : _ := (by have := hr.un; omega : (A'.deeper (envOfC "_tables_error" (defScope s__tables_error) st.heap.objs.size A.f__tables_error cdv)).units + 20 < cLine); ⟨_, (pss_cons (ps_if (PW.pt (pw_or (pt_not (pt_val (pe_callB (k_isi (K := K)) (by rfl) T.m_isinstance (by decide +kernel) (pa_cons (pv 0) (pa_cons (pe_tup (pa_cons (pe_bltn (v := .ty "list") (u := .type "list") (by rfl) T.m_list (by decide +kernel) rfl) (pa_cons (pe_bltn (v := .ty "tuple") (u := .type "tuple") (by rfl) T.m_tuple (by decide +kernel) rfl) pa_nil))) pa_nil))))) (pw_or1 (pt_cmpR op_gt (pe_callB (k_len K) (by rfl) T.m_len (by decide +kernel) (pa_cons (pv 0) pa_nil)) (k_cval (K := K) (pe_glob (v := .ref CT) rfl G.gT rfl)) (nomark _))))) (pss_one (ps_ret (pe_tup (pa_cons pe_str pa_nil)))) pss_nil)
      (pss_cons (ps_set (i := 1) sc__tables_error.nd rfl (by first | exact Or.inl rfl | exact Or.inr rfl) (pe_callTy0 cr_set0K (by rfl) T.m_set (by decide +kernel)))
      (pss_cons (ps_set (i := 2) sc__tables_error.nd rfl (by first | exact Or.inl rfl | exact Or.inr rfl) pe_dnewK)
      (pss_cons (ps_set (i := 3) sc__tables_error.nd rfl (by first | exact Or.inl rfl | exact Or.inr rfl) (pe_callTy0 Ps.cr_set0N (by rfl) T.m_set (by decide +kernel)))
      (pss_cons (ps_for PassesOwn.never rfl (k_pienum (K := K) (by rfl) T.m_enumerate (pa_cons (pv 0) pa_nil)) (k_pgtup K (n := 2) rfl (pgs_cons (pg_name (i := 4) sc__tables_error.nd rfl (by first | exact Or.inl rfl | exact Or.inr rfl)) (pgs_cons (pg_name (i := 5) sc__tables_error.nd rfl (by first | exact Or.inl rfl | exact Or.inr rfl)) pgs_nil))) (pss_cons (ps_if (pt_not (pt_val (pe_call G__is_row (hr.mono (by decide)) (by rfl) T.m__is_row T.F__is_row.kp T.b__is_row .nil pass0 (pa_cons (pv 5) pa_nil)))) (pss_one (ps_ret (pe_tup (pa_cons pe_str (pa_cons (pv 4) pa_nil))))) pss_nil)
      (pss_cons (ps_asg (pv 5) (k_pgtup K (n := 3) rfl (pgs_cons (pg_name (i := 6) sc__tables_error.nd rfl (by first | exact Or.inl rfl | exact Or.inr rfl)) (pgs_cons (pg_name (i := 7) sc__tables_error.nd rfl (by first | exact Or.inl rfl | exact Or.inr rfl)) (pgs_cons (pg_name (i := 8) sc__tables_error.nd rfl (by first | exact Or.inl rfl | exact Or.inr rfl)) pgs_nil)))))
      (pss_cons (ps_if (pt_cmpR or_sinK (pv 6) (pv 1) rfl) (pss_one (ps_ret (pe_tup (pa_cons pe_str (pa_cons (pv 4) pa_nil))))) pss_nil)
      (pss_cons (ps_if (pt_cmpR (k_neA hw) (pe_dsetd (pv 2) (pv 7) (pe_callB (k_len K) (by rfl) T.m_len (by decide +kernel) (pa_cons (pv 8) pa_nil)) (by constructor <;> rfl)) (pe_callB (k_len K) (by rfl) T.m_len (by decide +kernel) (pa_cons (pv 8) pa_nil)) (nomark _)) (pss_one (ps_ret (pe_tup (pa_cons pe_str (pa_cons (pv 4) pa_nil))))) pss_nil)
      (pss_cons (ps_if (pt_cmpR (Ps.or_sinN hs20 K) (pe_tup (pa_cons (pv 7) (pa_cons (pv 8) pa_nil))) (pv 3) rfl) (pss_one (ps_ret (pe_tup (pa_cons pe_str (pa_cons (pv 4) pa_nil))))) pss_nil)
      (pss_cons (ps_expr (pe_saddK (pv 1) (pa_cons (pv 6) pa_nil)))
      (pss_one (ps_expr (Ps.pe_saddN hs20 K (pv 3) (pa_cons (pe_tup (pa_cons (pv 7) (pa_cons (pv 8) pa_nil))) pa_nil)))))))))))
      (pss_one (ps_ret pe_non))))))), body_ok h fun s c n ds hn hp => ?_⟩)
  · obtain ⟨x, rfl, _⟩ := hp
    rfl
  · obtain ⟨x, rfl, hx⟩ := hp
    have fin : ∀ z, z = errT x → (⟨fun _ m => m ≤ n + 0 ∧ postErr s c [x] .non, fun d m => m ≤ n + 0 ∧ postErr s c [x] d, fun _ _ => False, fun _ _ => False⟩ : Pn).rt z n := fun z e => ⟨Nat.le_refl _, x, rfl, e⟩
    -- a list or a tuple, not too long
    refine s_seq (N := fun ρ' m => n = m ∧ ρ' = [.va x, .no, .no, .no, .no, .no, .no, .no, .no] ∧ ∃ l, seqD x = some l ∧ (l.length : Int) ≤ 6) ?_ fun ρ1 n1 h1 => ?_
    · cases q : seqD x with
      | none =>
        have nl : (isLst x || isTup x) = false := by cases x <;> first | rfl | cases q
        refine s_ifK (b := !(isLst x || isTup x) || false) (et_orK (et_notK (et_BK (ev_isSeq G hx (ev_var rfl)))) fun e => by rw [nl] at e; cases e) (fun e => ?_) fun e => by rw [nl] at e; cases e
        refine s_ret (ev_tupE (ea_one ev_str) (by exact (by decide : (1 : Nat) ≤ 1000))) fun d hd => ?_
        rw [hd]
        refine fin _ ?_
        unfold errT
        rw [q]
        all_goals rfl
      | some l =>
        have nl : (isLst x || isTup x) = true := by cases x <;> first | rfl | cases q
        refine s_ifK (b := !(isLst x || isTup x) || decide (6 < (l.length : Int))) (et_orK (et_notK (et_BK (ev_isSeq G hx (ev_var rfl)))) fun _ => et_K (ev_opK (ev_callK (ea_one (ev_var rfl)) (ck_len q)) (ev_most G) rk_gt)) (fun e => ?_) fun e => ?_
        · refine s_ret (ev_tupE (ea_one ev_str) (by exact (by decide : (1 : Nat) ≤ 1000))) fun d hd => ?_
          rw [hd]
          refine fin _ ?_
          rw [nl, Bool.not_true, Bool.false_or, decide_eq_true_eq] at e
          unfold errT
          rw [q]
          show _ = if _ then _ else _
          rw [if_pos e]
          all_goals rfl
        · rw [nl, Bool.not_true, Bool.false_or, decide_eq_false_iff_not] at e
          exact s_next ⟨rfl, rfl, l, rfl, by omega⟩
    obtain ⟨rfl, rfl, l, q, l6⟩ := h1
    obtain ⟨ll, tl⟩ := rows_items hx q
    have erry : errT x = errR [] 0 l := by
      unfold errT
      rw [q]
      show (if _ then _ else _) = _
      rw [if_neg (by omega)]
    refine s_bag (i1 := 1) (i2 := 2) (i3 := 3) rfl (fun _ => rfl) (fun _ _ => rfl) fun p1 p2 p3 => ?_
    have S := bag_ok (P := P) (w := w) (K := K) (s := s) (c := c) (p1 := p1) (p2 := p2) (p3 := p3)
    refine sp_end (Nx := fun ρ' m => n = m ∧ errT x = .non) S ?_ fun ρ1 n1 h1 => ?_
    · refine sp_for S (W := dEn 0 l) (ei_enum (ea_one (ev_var rfl)) q)
        (fun i ρ' m y => n = m ∧ (∃ y4 y5 y6 y7 y8, ρ' = [.va x, .va (.obj p1), .va (.obj p2), .va (.obj p3), y4, y5, y6, y7, y8] ∧ isOw (some y4) = false ∧ isOw (some y5) = false ∧ isOw (some y6) = false ∧ isOw (some y7) = false ∧ isOw (some y8) = false) ∧
          ∃ rs : List Row, errT x = errR rs i (l.drop i) ∧ (∀ z, z ∈ y.ns ↔ z ∈ rs.map (·.1)) ∧ y.ns.length ≤ i ∧ DictR rs y.kv ∧ y.kv.length ≤ i ∧ (∀ z, z ∈ y.cs ↔ z ∈ rs.map (·.2)) ∧ y.cs.length ≤ i)
        ⟨rfl, ⟨.no, .no, .no, .no, .no, rfl, rfl, rfl, rfl, rfl, rfl⟩, [], erry, fun z => Iff.rfl, Nat.le_refl _, ⟨fun a ha => by simp at ha, fun t _ => rfl⟩, Nat.le_refl _, fun z => Iff.rfl, Nat.le_refl _⟩ (fun i e ρ' m y hi inv => ?_) fun ρ' m y inv => ?_
      · obtain ⟨rfl, ⟨y4, y5, y6, y7, y8, rfl, o4, o5, o6, o7, o8⟩, rs, hE, hN, nN, hD, nD, hC, nC⟩ := inv
        obtain ⟨d, hd, rfl⟩ := en_at' hi
        have il := (List.getElem?_eq_some_iff.mp hd).1
        have td := tl d (List.mem_of_getElem? hd)
        have dr : l.drop i = d :: l.drop (i + 1) := by
          rw [List.drop_eq_getElem_cons il]
          rw [List.getElem?_eq_getElem il] at hd
          rw [Option.some.inj hd]
        rw [dr] at hE
        refine ⟨_, _, eg_tup (egs_cons (eg_name (j := 4) o4) (egs_cons (eg_name (j := 5) o5) egs_nil)) rfl, ?_⟩
        have give : ∀ {ρ' : List Sl} {z : Str} {y' : Bag} {B : PnP Bag}, ρ'[4]? = some (.va (.int (i : Nat))) → B.rt = (fun d m => m ≤ n + 0 ∧ postErr s c [x] d) → stepE i rs d = some (E2 z i) → EvSP K s c [p1, p2, p3] (BagAt P w K p1 p2 p3) (tRet (tTup (tCons (tC (.str z)) (tCons (tVar 4) tNil)))) ρ' n y' B := fun {ρ' z y' B} h4 hB hs => by
          refine sp_of S (Nx := fun _ _ => False) (s_ret (ev_tupE (ea_c ev_str (ea_one (ev_var h4))) (by exact (by decide : (2 : Nat) ≤ 1000))) fun d' hd' => ?_) fun _ _ h => h.elim
          rw [hB, hd']
          refine fin _ ?_
          rw [hE, errR_hit hs]
          rfl
        -- a row
        refine sp_seq (N := fun ρ' m y' => n = m ∧ ρ' = [.va x, .va (.obj p1), .va (.obj p2), .va (.obj p3), .va (.int (i : Nat)), .va d, y6, y7, y8] ∧ y' = y ∧ rowB d = true) (sp_if (tp_of S (et_notK (et_BK (ev_defK (ea_one (ev_var rfl)) (by omega) ⟨d, rfl, .inl td⟩ fun z h => by
          obtain ⟨x', e, rfl⟩ := h
          cases e
          rfl)))) (fun y' hy => ?_) fun y' hy => ?_) fun ρ1 n1 y1 h1 => ?_
        · refine give rfl rfl ?_
          have e := hy.2
          rw [eq_comm, Bool.not_eq_true'] at e
          unfold stepE
          rw [if_pos e]
        · have e := hy.2
          rw [eq_comm, Bool.not_eq_false'] at e
          exact sp_next ⟨rfl, rfl, hy.1, e⟩
        obtain ⟨rfl, rfl, rfl, rb⟩ := h1
        obtain ⟨r, rfl, hr'⟩ := row_is rb
        have st : stepE i rs (dRow r) = if clashN rs r = true then some (E2 "name" i) else if clashP rs r = true then some (E2 "places" i) else if clashR rs r = true then some (E2 "repeated" i) else none := by
          unfold stepE
          rw [if_neg (by rw [rb]; simp), unR_of]
        -- its parts
        refine sp_seq (N := fun ρ' m y' => n = m ∧ ρ' = [.va x, .va (.obj p1), .va (.obj p2), .va (.obj p3), .va (.int (i : Nat)), .va (dRow r), .va (.str r.1), .va (.str r.2.1), .va (.tup (dIs r.2.2))] ∧ y' = y1) (sp_of S (Nx := fun ρ' m => n = m ∧ ρ' = [.va x, .va (.obj p1), .va (.obj p2), .va (.obj p3), .va (.int (i : Nat)), .va (dRow r), .va (.str r.1), .va (.str r.2.1), .va (.tup (dIs r.2.2))]) (s_asg (ev_var rfl) fun z hz => by
          rw [hz]
          exact ⟨_, _, eg_tup (egs_cons (eg_name (j := 6) o6) (egs_cons (eg_name (j := 7) o7) (egs_cons (eg_name (j := 8) o8) egs_nil))) rfl, rfl, rfl⟩) fun ρ1 n1 h => ⟨h.1, h.2, rfl⟩) fun ρ1 n1 y2 h1 => ?_
        obtain ⟨rfl, rfl, rfl⟩ := h1
        have cN : clashN rs r = decide (r.1 ∈ y2.ns) := by
          unfold clashN
          rw [Bool.eq_iff_iff, List.any_eq_true, decide_eq_true_eq, hN, List.mem_map]
          exact ⟨fun ⟨a, ha, e⟩ => ⟨a, ha, of_decide_eq_true e⟩, fun ⟨a, ha, e⟩ => ⟨a, ha, decide_eq_true e⟩⟩
        have cR : clashR rs r = decide (r.2 ∈ y2.cs) := by
          unfold clashR
          rw [Bool.eq_iff_iff, List.any_eq_true, decide_eq_true_eq, hC, List.mem_map]
          exact ⟨fun ⟨a, ha, e⟩ => ⟨a, ha, of_decide_eq_true e⟩, fun ⟨a, ha, e⟩ => ⟨a, ha, decide_eq_true e⟩⟩
        -- the name
        refine sp_seq (N := fun ρ' m y' => n = m ∧ ρ' = [.va x, .va (.obj p1), .va (.obj p2), .va (.obj p3), .va (.int (i : Nat)), .va (dRow r), .va (.str r.1), .va (.str r.2.1), .va (.tup (dIs r.2.2))] ∧ y' = y2 ∧ clashN rs r = false) (sp_if (tp_in (i := 6) (j := 1) rfl rfl) (fun y' hy => ?_) fun y' hy => ?_) fun ρ1 n1 y3 h1 => ?_
        · refine give rfl rfl ?_
          rw [st, if_pos (by rw [cN]; exact hy.2.symm)]
        · exact sp_next ⟨rfl, rfl, hy.1, by rw [cN]; exact hy.2.symm⟩
        obtain ⟨rfl, rfl, rfl, fN⟩ := h1
        rw [if_neg (by rw [fN]; exact Bool.false_ne_true)] at st
        -- the places
        have lenE : EvE K s c (tCB (rLenA K) (tCons (tVar 8) tNil)) [.va x, .va (.obj p1), .va (.obj p2), .va (.obj p3), .va (.int (i : Nat)), .va (dRow r), .va (.str r.1), .va (.str r.2.1), .va (.tup (dIs r.2.2))] n n (fun x => x = .int (r.2.2.length : Int)) := ev_is (ev_callK (ea_one (ev_var rfl)) (ck_len rfl)) (by rw [is_len])
        refine sp_seq (N := fun ρ' m y' => n = m ∧ ρ' = [.va x, .va (.obj p1), .va (.obj p2), .va (.obj p3), .va (.int (i : Nat)), .va (dRow r), .va (.str r.1), .va (.str r.2.1), .va (.tup (dIs r.2.2))] ∧ clashP rs r = false ∧ y'.ns = y3.ns ∧ y'.cs = y3.cs ∧ DictR (rs ++ [r]) y'.kv ∧ y'.kv.length ≤ i + 1) (sp_if (tp_setd (i := 2) (t := r.2.1) rfl (ev_var rfl) lenE lenE (by omega) fun w hw => ?_) (fun y' hP => ?_) fun y' hP => ?_) fun ρ1 n1 y4' h1 => ?_
        · apply Classical.byContradiction
          intro no
          have none' : ∀ a ∈ rs, a.2.1 ≠ r.2.1 := fun a ha e => by
            have := hD.1 a ha
            rw [e, hw] at this
            exact no ⟨_, Option.some.inj this⟩
          have := hD.2 r.2.1 none'
          rw [hw] at this
          cases this
        · rcases hP with ⟨j, hv, rfl, e⟩ | ⟨hv, rfl, e⟩
          · refine give rfl rfl ?_
            rw [st, if_pos ((dictR_some hD hv).trans e.symm)]
          · rw [decide_eq_true rfl] at e
            cases e
        · rcases hP with ⟨j, hv, rfl, e⟩ | ⟨hv, rfl, e⟩
          · have cl := (dictR_some hD hv).trans e.symm
            have ej : j = (r.2.2.length : Int) := by
              have := e.symm
              rw [Bool.not_eq_false', decide_eq_true_eq] at this
              exact this
            exact sp_next ⟨rfl, rfl, cl, rfl, rfl, dictR_keep hD (by rw [hv, ej]), by omega⟩
          · refine sp_next ⟨rfl, rfl, dictR_none hD hv, rfl, rfl, dictR_put hD hv, ?_⟩
            have := length_putK y3.kv (.inr r.2.1) (.int (r.2.2.length : Int))
            show (putK y3.kv (.inr r.2.1) (.int (r.2.2.length : Int))).length ≤ i + 1
            omega
        obtain ⟨rfl, rfl, fP, eN, eC, hD', nD'⟩ := h1
        rw [if_neg (by rw [fP]; exact Bool.false_ne_true)] at st
        -- the content
        refine sp_seq (N := fun ρ' m y' => n = m ∧ ρ' = [.va x, .va (.obj p1), .va (.obj p2), .va (.obj p3), .va (.int (i : Nat)), .va (dRow r), .va (.str r.1), .va (.str r.2.1), .va (.tup (dIs r.2.2))] ∧ y' = y4' ∧ clashR rs r = false) (sp_if (tp_inP (z := r.2.1) (l := r.2.2) (j := 3) (ev_var rfl) (ev_var rfl) rfl) (fun y' hy => ?_) fun y' hy => ?_) fun ρ1 n1 y5' h1 => ?_
        · refine give rfl rfl ?_
          rw [st, if_pos (by rw [cR, ← eC]; exact hy.2.symm)]
        · exact sp_next ⟨rfl, rfl, hy.1, by rw [cR, ← eC]; exact hy.2.symm⟩
        obtain ⟨rfl, rfl, rfl, fR⟩ := h1
        rw [if_neg (by rw [fR]; exact Bool.false_ne_true)] at st
        -- the row is kept
        refine sp_seq (N := fun ρ' m y' => n = m ∧ ρ' = [.va x, .va (.obj p1), .va (.obj p2), .va (.obj p3), .va (.int (i : Nat)), .va (dRow r), .va (.str r.1), .va (.str r.2.1), .va (.tup (dIs r.2.2))] ∧ y' = { y5' with ns := r.1 :: y5'.ns }) (sp_addK (j := 1) (i := 6) (z := r.1) rfl rfl (by rw [eN]; omega) ⟨rfl, rfl, rfl⟩) fun ρ1 n1 y6' h1 => ?_
        obtain ⟨rfl, rfl, rfl⟩ := h1
        refine sp_addN (z := r.2.1) (l := r.2.2) (j := 3) rfl (ev_var rfl) (ev_var rfl) (by show y5'.cs.length ≤ 40; rw [eC]; omega) (fun h => ?_) ⟨rfl, ⟨_, _, _, _, _, rfl, rfl, rfl, rfl, rfl, rfl⟩, rs ++ [r], ?_, fun z => ?_, ?_, hD', nD', fun z => ?_, ?_⟩
        · rw [cR, decide_eq_false_iff_not, ← eC] at fR
          exact fR h
        · rw [hE, errR_go st]
        · show z ∈ r.1 :: y5'.ns ↔ _
          rw [List.mem_cons, eN, hN, List.map_append, List.mem_append]
          constructor
          · rintro (h | h)
            · exact .inr (by rw [h]; exact List.mem_cons_self)
            · exact .inl h
          · rintro (h | h)
            · exact .inr h
            · exact .inl (List.mem_singleton.mp h)
        · show (r.1 :: y5'.ns).length ≤ i + 1
          rw [List.length_cons, eN]
          omega
        · show z ∈ (r.2.1, r.2.2) :: y5'.cs ↔ _
          rw [List.mem_cons, eC, hC, List.map_append, List.mem_append]
          constructor
          · rintro (h | h)
            · exact .inr (by rw [h]; exact List.mem_cons_self)
            · exact .inl h
          · rintro (h | h)
            · exact .inr h
            · exact .inl (List.mem_singleton.mp h)
        · show ((r.2.1, r.2.2) :: y5'.cs).length ≤ i + 1
          rw [List.length_cons, eC]
          omega
      · obtain ⟨rfl, _, rs, hE, _⟩ := inv
        rw [en_len, List.drop_length] at hE
        exact ⟨rfl, hE⟩
    · obtain ⟨rfl, e⟩ := h1
      refine s_ret ev_non fun d hd => ?_
      rw [hd]
      exact fin _ e.symm
end
end K14
/-! text K14n -/
set_option Elab.async false
set_option linter.all false
set_option maxRecDepth 100000
set_option maxHeartbeats 4000000
set_option exponentiation.threshold 5000
namespace K14
open PySem PySem.Spec PyProof.Rows L2 Pl PlS
/-- the j-th statement of the class at the i-th -/
def inCls (i j : Nat) : Stmt := match topS i with
  | .ClassDef _ _ _ body _ _ _ _ _ _ _ => body.getD j (.Pass ⟨0, 0, 0, 0⟩)
  | _ => .Pass ⟨0, 0, 0, 0⟩
def clsName (i : Nat) : Str := match topS i with
  | .ClassDef n _ _ _ _ _ _ _ _ _ _ => n
  | _ => Str.ofString ""
theorem cls_err : clsName 2 = "InvalidTables" := by decide +kernel
theorem cls_tab : clsName 11 = "Tables" := by decide +kernel
abbrev s_iq_init : Stmt := inCls 2 0
theorem sc_iq_init : FnScope ["self", "reason"] ["self", "reason"] (defScope s_iq_init) := ⟨rfl, rfl, rfl, by decide +kernel, rfl, by decide +kernel, by decide +kernel⟩
/-- InvalidTables.__init__ -/
def spIq (K : PySem.W.Frag) (C : Addr) : Sp := fun vs H Q _ => ∃ a r, vs = [.ref a, r] ∧ OexC K C ∧ PySem.W.findIn K (.ref C) "reason" = some none ∧ H a = some (exo a C none) ∧ ∀ dx, H dx = none → dx ≠ a → Q .non (upd (upd H dx (exd dx [("reason", r)])) a (exo a C (some dx)))
section
variable {P : Program} {w : World} {K : PySem.W.Frag} {mg : Str → Option Value} {base : Heap}
theorem ok_iq_init {f C : Addr} {fd : FuncData} (F : Fun K "__init__" "InvalidTables.__init__" s_iq_init f fd) : FnOk P w K mg base CX0 1 f fd ["self", "reason"] (spIq K C) := by
  refine F.ok sc_iq_init (fun vs H Q E h => ?_) (fun cdv A' outer st H vs Q E hr h => ⟨_, pss_one (ps_ost (pv 0) (pv 1)), ?_⟩)
  · obtain ⟨a, r, rfl, _⟩ := h
    rfl
  · obtain ⟨a, r, rfl, T, no, ha, q⟩ := h
    exact ⟨r, rfl, .ref a, rfl, a, C, rfl, T, no, .inl ⟨ha, fun dx h1 h2 => q dx h1 h2⟩⟩
/-- InvalidTables(r) on its way: what the library asks, from what is wished of the error with the field reason -/
theorem mk_iq {C : Addr} {r : V} {H1 : Hp} {Q : XK} (T : OexC K C) (no : PySem.W.findIn K (.ref C) "reason" = some none) (q : ∀ d, H1 d = none → Q (.ref C) (some d) (upd H1 d (.xd [("reason", r)]))) :
    [r].length ≤ 1000 ∧ ∀ a, H1 a = none → spIq K C (.ref a :: ([r] ++ [])) (upd H1 a (exo a C none))
      (fun v H2 => v = .non ∧ ∃ (d : Addr) (fs : List (Str × V)), H2 a = some (exo a C (some d)) ∧ H2 d = some (exd d fs) ∧ H1 d = none ∧ Q (.ref C) (some d) (upd (del H2 a) d (.xd fs))) (fun _ _ _ => False) := by
  refine ⟨by exact (by decide : (1 : Nat) ≤ 1000), fun a ha => ⟨a, r, rfl, T, no, upd_same, fun dx h1 h2 => ⟨rfl, dx, _, upd_same, by rw [upd_ne h2]; exact upd_same, by rw [upd_ne h2] at h1; exact h1, ?_⟩⟩⟩
  have h1' : H1 dx = none := by rw [upd_ne h2] at h1; exact h1
  have e : upd (del (upd (upd (upd H1 a (exo a C none)) dx (exd dx [("reason", r)])) a (exo a C (some dx))) a) dx (.xd [("reason", r)]) = upd H1 dx (.xd [("reason", r)]) := by
    funext b
    by_cases eb : b = dx
    · rw [eb, upd_same, upd_same]
    · rw [upd_ne eb, upd_ne eb]
      by_cases ea : b = a
      · rw [ea, del_same, ha]
      · rw [del_ne ea, upd_ne ea, upd_ne eb, upd_ne ea]
  rw [e]
  exact q dx h1'
end
end K14
/-! text PsE -/
set_option Elab.async false
set_option linter.all false
set_option maxRecDepth 100000
set_option maxHeartbeats 4000000
set_option exponentiation.threshold 5000
/-! PsE: sorted(set(l)) over data: l a list of tuples that may be keys. -/
namespace Pl
open PySem PySem.Spec PyProof.Rows L2 Ps
mutual
theorem py_inj : ∀ a b : D, plain a = true → plain b = true → py a = py b → a = b
  | .non, b, _, hb, e => by cases b <;> first | rfl | (cases hb; done) | (simp [py] at e; done)
  | .bl x, b, _, hb, e => by cases b <;> first | (simp [py] at e; done) | (cases hb; done) | (simp only [py, PyData.bool.injEq] at e; rw [e])
  | .int x, b, _, hb, e => by cases b <;> first | (simp [py] at e; done) | (cases hb; done) | (simp only [py, PyData.int.injEq] at e; rw [e])
  | .str x, b, _, hb, e => by cases b <;> first | (simp [py] at e; done) | (cases hb; done) | (simp only [py, PyData.str.injEq] at e; rw [e])
  | .tup l, b, ha, hb, e => by
    cases b with
    | tup m =>
      simp only [py, PyData.tuple.injEq] at e
      rw [pyL_inj l m ha hb e]
    | obj _ => cases hb
    | ins _ _ _ => cases hb
    | dct _ _ => cases hb
    | _ => simp [py] at e
  | .lst l, b, ha, hb, e => by
    cases b with
    | lst m =>
      simp only [py, PyData.list.injEq] at e
      rw [pyL_inj l m ha hb e]
    | obj _ => cases hb
    | ins _ _ _ => cases hb
    | dct _ _ => cases hb
    | _ => simp [py] at e
  | .obj _, _, ha, _, _ => by cases ha
  | .ins _ _ _, _, ha, _, _ => by cases ha
  | .dct _ _, _, ha, _, _ => by cases ha
theorem pyL_inj : ∀ a b : List D, plainL a = true → plainL b = true → pyL a = pyL b → a = b
  | [], [], _, _, _ => rfl
  | [], _ :: _, _, _, e => by cases e
  | _ :: _, [], _, _, e => by cases e
  | x :: a, y :: b, ha, hb, e => by
    have ha : (plain x && plainL a) = true := ha
    have hb : (plain y && plainL b) = true := hb
    rw [Bool.and_eq_true] at ha hb
    simp only [pyL, List.cons.injEq] at e
    rw [py_inj x y ha.1 hb.1 e.1, pyL_inj a b ha.2 hb.2 e.2]
end
theorem plain_mem {l : List D} (h : plainL l = true) : ∀ d ∈ l, plain d = true := by
  induction l with
  | nil => exact fun d hd => by cases hd
  | cons x l ih =>
    intro d hd
    have h' : (plain x && plainL l) = true := h
    rw [Bool.and_eq_true] at h'
    rcases List.mem_cons.mp hd with rfl | hd
    · exact h'.1
    · exact ih h'.2 d hd
theorem tup_pairs {K : PySem.W.Frag} {M : List Addr} {H : Hp} : ∀ {l : List D} {xs : List V}, RepL K M H l xs → (∀ d ∈ l, ∃ ys, d = .tup ys) → ∃ us : List (Addr × D), l = us.map (·.2) ∧ xs = us.map (fun u => V.ref u.1) ∧ ∀ u ∈ us, Rep K M H u.2 (.ref u.1)
  | [], [], _, _ => ⟨[], rfl, rfl, fun u h => by cases h⟩
  | d :: l, x :: xs, r, h => by
    obtain ⟨us, e1, e2, hu⟩ := tup_pairs r.2 fun d hd => h d (List.mem_cons_of_mem _ hd)
    obtain ⟨ys, rfl⟩ := h d List.mem_cons_self
    have r1 := r.1
    obtain ⟨a, zs, rfl, r2⟩ := r1
    refine ⟨(a, .tup ys) :: us, by rw [e1]; rfl, by rw [e2]; rfl, fun u hm => ?_⟩
    rcases List.mem_cons.mp hm with rfl | hm
    · exact r.1
    · exact hu u hm
  | [], _ :: _, r, _ => r.elim
  | _ :: _, [], r, _ => r.elim
/-- es: the items of l, each once, in order -/
def SetOf (l es : List D) : Prop := es.Nodup ∧ (∀ x, x ∈ es ↔ x ∈ l) ∧ ∃ m, es = ordD m
theorem back_map {α β : Type} (f : α → β) : ∀ (M : List β) (l : List α), (∀ z ∈ M, z ∈ l.map f) → ∃ m : List α, M = m.map f ∧ ∀ x ∈ m, x ∈ l
  | [], _, _ => ⟨[], rfl, fun x h => by cases h⟩
  | z :: M, l, h => by
    obtain ⟨m, e, hm⟩ := back_map f M l fun y hy => h y (List.mem_cons_of_mem _ hy)
    obtain ⟨x, hx, rfl⟩ := List.mem_map.mp (h z List.mem_cons_self)
    refine ⟨x :: m, by rw [e]; rfl, fun y hy => ?_⟩
    rcases List.mem_cons.mp hy with rfl | hy
    · exact hx
    · exact hm y hy
section
variable {K : PySem.W.Frag} {s c : Addr} {ρ : List Sl} {n n1 : Nat} {te : TE}
theorem ev_sortsetN {w : World} {l : List D} (h : EvE K s c te ρ n n1 (fun d => d = .lst l)) (pl : plainL l = true) (hl : ∀ d ∈ l, (∃ ys, d = .tup ys) ∧ hab (py d) = true ∧ (py d).depth ≤ 8) (al : PySem.W.AllAlike (l.map py)) (so : PySem.W.Sortable (l.map py)) (few : l.length < 63) :
    EvE K s c (tCB (rSortN w K) (tCons (tCB (rMakeN w K) (tCons te tNil)) tNil)) ρ n n1 (fun d => ∃ es, d = .lst es ∧ SetOf l es) := fun M0 H0 O σ H Q I k =>
  h M0 H0 O σ H _ I fun v H1 d g1 s1 r1 p1 => by
    subst p1
    obtain ⟨a, xs, rfl, ma, ea, rl⟩ := r1
    have J := I.next g1 s1
    obtain ⟨us, rfl, rfl, hu⟩ := tup_pairs rl fun d hd => (hl d hd).1
    have pm := plain_mem pl
    let f : Addr × D → Addr × PyData := fun u => (u.1, py u.2)
    have inD : ∀ u ∈ us, u.2 ∈ us.map (·.2) := fun u hu' => List.mem_map.mpr ⟨u, hu', rfl⟩
    have dpOf : ∀ {H' : Hp}, Gr (O ++ M0) H1 H' → ∀ u ∈ us, Dp K H' (.ref u.1) (py u.2) := fun g u hu' => rep_dp ((hu u hu').gr g) (pm u.2 (inD u hu'))
    refine ⟨a, us.map f, rfl, by rw [List.map_map]; exact SqL.of ea, fun z hz => ?_, by rw [List.length_map] at few ⊢; exact few, fun p M hp sub all nd => ?_⟩
    · obtain ⟨u, hu', rfl⟩ := List.mem_map.mp hz
      exact ⟨dpOf (Gr.refl _ _) u hu', (hl u.2 (inD u hu')).2.1, (hl u.2 (inD u hu')).2.2⟩
    obtain ⟨m, rfl, hm⟩ := back_map f M us sub
    have e2 : (m.map f).map (·.2) = (m.map (·.2)).map py := by rw [List.map_map, List.map_map]; rfl
    have subP : ∀ d, d ∈ (m.map (·.2)).map py → d ∈ (us.map (·.2)).map py := fun d hd => by
      obtain ⟨x, hx, rfl⟩ := List.mem_map.mp hd
      obtain ⟨u, hu', rfl⟩ := List.mem_map.mp hx
      exact List.mem_map.mpr ⟨u.2, inD u (hm u hu'), rfl⟩
    have gp : Gr (O ++ M0) H1 (upd H1 p (SetO w p (m.map f))) := Gr.new hp
    refine ⟨p, m.map f, rfl, upd_same, fun z hz => ?_, ?_, ?_, fun z hz => ?_, fun q M' hq pM => ?_⟩
    · obtain ⟨u, hu', rfl⟩ := List.mem_map.mp hz
      exact dpOf gp u (hm u hu')
    · rw [e2]
      exact fun d hd d' hd' => al d (subP d hd) d' (subP d' hd')
    · rw [e2]
      exact so.imp (fun h d hd => h d (subP d hd)) fun h d hd => h d (subP d hd)
    · obtain ⟨u, hu', rfl⟩ := List.mem_map.mp hz
      have h1 := inD u (hm u hu')
      exact ⟨al _ (List.mem_map.mpr ⟨_, h1, rfl⟩) _ (List.mem_map.mpr ⟨_, h1, rfl⟩), by have := (hl u.2 h1).2.2; show (py u.2).depth ≤ 64; omega⟩
    · obtain ⟨m', pm', rfl⟩ := perm_lift f pM m rfl
      have m1 : (m'.map f).mergeSort (PySem.W.dataLe false (·.2)) = (m'.mergeSort (PySem.W.dataLe false (fun u => py u.2))).map f := (List.map_mergeSort (f := f) (r := PySem.W.dataLe false (fun u : Addr × D => py u.2)) (s := PySem.W.dataLe false (fun z : Addr × PyData => z.2)) (fun _ _ _ _ => rfl)).symm
      have m2 : ordD (m'.map (·.2)) = (m'.mergeSort (PySem.W.dataLe false (fun u => py u.2))).map (·.2) := (List.map_mergeSort (f := fun u : Addr × D => u.2) (r := PySem.W.dataLe false (fun u : Addr × D => py u.2)) (s := PySem.W.dataLe false py) (fun _ _ _ _ => rfl)).symm
      have gq : Gr (O ++ M0) (upd H1 p (SetO w p (m.map f))) (upd (upd H1 p (SetO w p (m.map f))) q (.lst (((m'.map f).mergeSort (PySem.W.dataLe false (·.2))).map fun z => V.ref z.1))) := Gr.new hq
      refine k (.ref q) _ (.lst (ordD (m'.map (·.2)))) (g1.trans ((Gr.new hp).trans (Gr.new hq))) ((s1.new hp).new hq) ⟨q, _, rfl, fun z => ?_, upd_same, ?_⟩ ⟨_, rfl, ?_, fun x => ?_, _, rfl⟩
      · obtain ⟨o, e⟩ := J.thereA q z
        have : upd H1 p (SetO w p (m.map f)) q = some o := by rw [upd_ne (ne_of_none e hp)]; exact e
        rw [hq] at this
        cases this
      · have lists : ((m'.map f).mergeSort (PySem.W.dataLe false (·.2))).map (fun z => V.ref z.1) = (m'.mergeSort (PySem.W.dataLe false (fun u => py u.2))).map (fun u => V.ref u.1) := by
          rw [m1, List.map_map]
          rfl
        have each : ∀ (ts : List (Addr × D)), (∀ t ∈ ts, t ∈ us) → RepL K (O ++ M0) (upd (upd H1 p (SetO w p (m.map f))) q (.lst (((m'.map f).mergeSort (PySem.W.dataLe false (·.2))).map fun z => V.ref z.1))) (ts.map (·.2)) (ts.map fun u => V.ref u.1) := fun ts => by
          induction ts with
          | nil => exact fun _ => trivial
          | cons t ts ih => exact fun h => ⟨(hu t (h t List.mem_cons_self)).gr (gp.trans gq), ih fun y hy => h y (List.mem_cons_of_mem _ hy)⟩
        have t := each (m'.mergeSort (PySem.W.dataLe false (fun u => py u.2))) fun t ht => hm t (pm'.mem_iff.mp ((List.mergeSort_perm _ _).mem_iff.mp ht))
        rw [m2]
        rw [← lists] at t
        exact t
      · refine ((ordD_perm _).nodup_iff).mpr ?_
        refine ((pm'.map (·.2)).nodup_iff).mpr ?_
        rw [e2] at nd
        exact List.Pairwise.of_map py (fun _ _ ne e => ne (congrArg py e)) nd
      · rw [(ordD_perm _).mem_iff, (pm'.map (·.2)).mem_iff]
        refine ⟨fun hx => ?_, fun hx => ?_⟩
        · obtain ⟨u, hu', rfl⟩ := List.mem_map.mp hx
          exact inD u (hm u hu')
        · obtain ⟨u, hu', rfl⟩ := List.mem_map.mp hx
          have := all (f u) (List.mem_map.mpr ⟨u, hu', rfl⟩)
          rw [e2] at this
          obtain ⟨d, hd, e⟩ := List.mem_map.mp this
          have pd : plain d = true := by
            obtain ⟨y, hy, rfl⟩ := List.mem_map.mp hd
            exact pm y.2 (inD y (hm y hy))
          have e : py d = py u.2 := e
          rw [← py_inj d u.2 pd (pm u.2 (inD u hu')) e]
          exact hd
end
end Pl
/-! text PlUq -/
set_option Elab.async false
set_option linter.all false
set_option maxRecDepth 100000
set_option maxHeartbeats 4000000
set_option exponentiation.threshold 5000
/-! PlUq: sorting alike data depends on the items only, not on their order. -/
namespace Pl
open PySem PySem.Spec PyProof.Rows L2
theorem eqv_of_toks {x y : PyData} (h : PySem.W.alike x y = true) (e : PySem.W.keyToks x = PySem.W.keyToks y) : PyData.eqv x y = true := by
  cases q : PyData.eqv x y with
  | true => rfl
  | false =>
    have h2 := (PySem.W.toks_eqv x y h).2 q [] [.inl 0]
    rw [e, lex_irrefl] at h2
    have h3 := PySem.W.lex_pre (PySem.W.keyToks y) [] [.inl 0]
    rw [h3] at h2
    cases h2
theorem rank_toks {x y : D} (h1 : PySem.W.dataLe false py x y = true) (h2 : PySem.W.dataLe false py y x = true) : PySem.W.keyToks (py x) = PySem.W.keyToks (py y) := by
  have h1 : (!(PyProof.Rows.listOrd itemOrd).blt (PySem.W.keyToks (py y)) (PySem.W.keyToks (py x))) = true := h1
  have h2 : (!(PyProof.Rows.listOrd itemOrd).blt (PySem.W.keyToks (py x)) (PySem.W.keyToks (py y))) = true := h2
  rw [Bool.not_eq_true'] at h1 h2
  exact (PyProof.Rows.listOrd itemOrd).total _ _ h2 h1
theorem ordD_uniq {l m : List D} (p : l.Perm m) (anti : ∀ x ∈ l, ∀ y ∈ l, PySem.W.keyToks (py x) = PySem.W.keyToks (py y) → x = y) : ordD l = ordD m := by
  have t := PySem.W.sortLe_total (PyProof.Rows.listOrd PyProof.Rows.itemOrd) false (fun d : D => PySem.W.keyToks (py d))
  refine List.Perm.eq_of_pairwise (le := fun a b => PySem.W.dataLe false py a b = true) (fun a b ha hb h1 h2 => anti a ((ordD_perm l).mem_iff.mp ha) b (p.mem_iff.mpr ((ordD_perm m).mem_iff.mp hb)) (rank_toks h1 h2)) (PySem.W.sort_pairwise t l) (PySem.W.sort_pairwise t m) ?_
  exact ((ordD_perm l).trans p).trans (ordD_perm m).symm
end Pl
/-! text PlDi -/
set_option Elab.async false
set_option linter.all false
set_option maxRecDepth 100000
set_option maxHeartbeats 4000000
set_option exponentiation.threshold 5000
/-! PlDi: dicts from texts to ints that no one changes, as data. -/
namespace Pl
open PySem PySem.Spec PyProof.Rows L2
def eK (p : Str × Int) : Key × V := (.inr p.1, .int p.2)
def dD (ps : List (Str × Int)) : D := .dct (ps.map fun p => .inr p.1) (ps.map fun p => .int p.2)
def putS (ps : List (Str × Int)) (k : Str) (v : Int) : List (Str × Int) := if (ps.any fun p => decide (p.1 = k)) = true then ps.map (fun p => if p.1 = k then (p.1, v) else p) else ps ++ [(k, v)]
def getS (ps : List (Str × Int)) (k : Str) : Option Int := (ps.find? fun p => decide (p.1 = k)).map (·.2)
theorem put_eK (ps : List (Str × Int)) (k : Str) (v : Int) : putK (ps.map eK) (.inr k) (.int v) = (putS ps k v).map eK := by
  unfold putK putS
  have e : ((ps.map eK).any fun kv => decide (kv.1 = .inr k)) = ps.any fun p => decide (p.1 = k) := by
    rw [List.any_map]
    congr 1
    funext p
    show decide ((Sum.inr p.1 : Key) = .inr k) = decide (p.1 = k)
    by_cases h : p.1 = k
    · rw [h, decide_eq_true rfl, decide_eq_true rfl]
    · rw [decide_eq_false h, decide_eq_false fun z => h (Sum.inr.inj z)]
  rw [e]
  split
  · rw [List.map_map, List.map_map]
    refine List.map_congr_left fun p _ => ?_
    show (if (Sum.inr p.1 : Key) = .inr k then ((Sum.inr p.1 : Key), V.int v) else (.inr p.1, .int p.2)) = eK (if p.1 = k then (p.1, v) else p)
    by_cases h : p.1 = k
    · rw [if_pos (by rw [h]), if_pos h]; rfl
    · rw [if_neg fun z => h (Sum.inr.inj z), if_neg h]; rfl
  · rw [List.map_append]
    rfl
theorem val_eK : ∀ (ps : List (Str × Int)) (k : Str), valV (ps.map eK) (.inr k) = (getS ps k).map V.int
  | [], _ => rfl
  | p :: ps, k => by
    by_cases h : p.1 = k
    · rw [List.map_cons, valV_pos (p := eK p) (by show (Sum.inr p.1 : Key) = _; rw [h])]
      unfold getS
      rw [List.find?_cons_of_pos (by rw [decide_eq_true h])]
      rfl
    · rw [List.map_cons, valV_neg (p := eK p) (fun z => h (Sum.inr.inj z)), val_eK ps k]
      unfold getS
      rw [List.find?_cons_of_neg (by rw [decide_eq_false h]; exact Bool.false_ne_true)]
section
variable {K : PySem.W.Frag} {M : List Addr} {H : Hp}
theorem rep_ints : ∀ ps : List (Str × Int), RepL K M H (ps.map fun p => D.int p.2) ((ps.map eK).map (·.2))
  | [] => trivial
  | _ :: ps => ⟨rfl, rep_ints ps⟩
theorem repD_of {ps : List (Str × Int)} {a : Addr} {o : Obj} (h : H a = some (.frz o (.dK (ps.map eK)))) : Rep K M H (dD ps) (.ref a) := ⟨a, o, ps.map eK, rfl, h, by rw [List.map_map]; rfl, rep_ints ps⟩
theorem eK_of : ∀ {ps : List (Str × Int)} {fs : List (Key × V)}, fs.map (·.1) = (ps.map fun p => (.inr p.1 : Key)) → RepL K M H (ps.map fun p => D.int p.2) (fs.map (·.2)) → fs = ps.map eK
  | [], [], _, _ => rfl
  | [], _ :: _, h, _ => by cases h
  | _ :: _, [], h, _ => by cases h
  | p :: ps, f :: fs, h, r => by
    injection h with h1 h2
    have r1 : f.2 = .int p.2 := r.1
    rw [eK_of h2 r.2, List.map_cons]
    congr 1
    exact Prod.ext h1 r1
theorem repD_inv {ps : List (Str × Int)} {v : V} (h : Rep K M H (dD ps) v) : ∃ a o, v = .ref a ∧ H a = some (.frz o (.dK (ps.map eK))) := by
  obtain ⟨a, o, fs, rfl, e, k, r⟩ := h
  rw [eK_of k r] at e
  exact ⟨a, o, rfl, e⟩
end
/-- what e makes is not changed from here on -/
def tFrz (t : TE) : TE := fun σ H Q => t σ H fun v H' => ∃ d u, v = .ref d ∧ H' d = some u ∧ Mut (some u) ∧ ∀ od, Q v (upd H' d (.frz od u))
theorem pe_frz {X : Cx} {e : Expr} {t : TE} (h : PE X e t) : PE X e (tFrz t) := by
  refine ⟨fun pins s σ H Q I hw => ?_⟩
  refine thn (h.run pins s σ H _ I hw) fun v s1 ⟨x, H1, I2, r, d, u, e, hd, mu, q⟩ => ?_
  obtain ⟨od, I3⟩ := I2.lock hd mu
  exact ⟨x, _, I3, r, q od⟩
section
variable {K : PySem.W.Frag} {s c : Addr} {ρ : List Sl} {n n1 : Nat} {te ty tx : TE}
/-- d.items() -/
theorem ei_items {ps : List (Str × Int)} (h : EvE K s c te ρ n n1 (fun x => x = dD ps)) : EvI K s c (iItems te) ρ n n1 (fun l => l = ps.map fun p => .tup [.str p.1, .int p.2]) := fun M0 H0 O σ H R I k =>
  h M0 H0 O σ H _ I fun v H1 d g hs r p => by
    subst p
    obtain ⟨a, o, rfl, e⟩ := repD_inv r
    have J := I.next g hs
    refine ⟨a, o, ps.map eK, rfl, e, k _ H1 _ g hs (fun A H2 g2 hA => ?_) rfl⟩
    have e2 : H2 a = some (.frz o (.dK (ps.map eK))) := g2 a _ (by rw [minus_out fun z => by obtain ⟨ys, e3⟩ := J.lst a z; rw [e] at e3; cases e3]; exact e) (.inr rfl)
    refine ⟨⟨e2, by rw [List.length_map, List.length_map]; exact Nat.le_refl _⟩, fun i d hi => ?_⟩
    rw [List.getElem?_map] at hi
    cases q : ps[i]? with
    | none => rw [q] at hi; cases hi
    | some p =>
      rw [q] at hi
      cases hi
      have il := (List.getElem?_eq_some_iff.mp q).1
      refine ⟨⟨e2, by rw [List.length_map]; exact il⟩, fun x H3 hy => ?_⟩
      obtain ⟨T, k', v', hk, rfl, hT, rfl⟩ := hy
      rw [List.getElem?_map, q] at hk
      cases hk
      exact ⟨Gr.new hT, fun _ z => z.new hT, ⟨T, [V.str p.1, V.int p.2], rfl, .inl (.inl upd_same), rfl, rfl, trivial⟩⟩
/-- d.get(k, x) -/
theorem ev_get2 {ps : List (Str × Int)} {t : Str} {x : Int} (h : EvE K s c te ρ n n (fun d => d = dD ps)) (hy : EvE K s c ty ρ n n (fun d => d = .str t)) (hx : EvE K s c tx ρ n n (fun d => d = .int x)) : EvE K s c (tDGet2 te ty tx) ρ n n (fun d => d = .int ((getS ps t).getD x)) := fun M0 H0 O σ H Q I k =>
  h M0 H0 O σ H _ I fun v H1 d g1 s1 r1 p => by
    subst p
    obtain ⟨a, o, rfl, e⟩ := repD_inv r1
    refine ⟨a, rfl, .inl ⟨_, .inr ⟨o, e⟩⟩, hy M0 H0 O σ H1 _ (I.next g1 s1) fun y H2 d2 g2 s2 r2 p2 => hx M0 H0 O σ H2 _ ((I.next g1 s1).next g2 s2) fun z H3 d3 g3 s3 r3 p3 => ?_⟩
    subst p2
    subst p3
    have r2 : y = .str t := r2
    have r3 : z = .int x := r3
    subst r2
    subst r3
    have e3 : H3 a = some (.frz o (.dK (ps.map eK))) := g3 a _ (g2 a _ e (.inr rfl)) (.inr rfl)
    refine ⟨(getS ps t).map V.int, .inl ⟨ps.map eK, .inr t, .inr ⟨o, e3⟩, rfl, (val_eK ps t).symm⟩, ?_⟩
    have ev : ((getS ps t).map V.int).getD (V.int x) = V.int ((getS ps t).getD x) := by cases getS ps t <;> rfl
    rw [ev]
    exact k (.int _) H3 (.int _) ((g1.trans g2).trans g3) s3 rfl rfl
/-- e.f, a property with a promise -/
theorem ev_propP {C : Addr} {ks : List Str} {l : List D} {E : XK} {z : D} {pre : Addr → Addr → List D → Prop} {post : Addr → Addr → List D → D → Prop} (h : EvE K s c te ρ n n1 (fun x => x = .ins C ks l)) (hn : n1 ≤ 2 ^ 40) (hp : pre s c [.ins C ks l]) (hq : ∀ d, post s c [.ins C ks l] d → d = z) : EvE K s c (tProp C (Pr K pre 0 post) [] E te) ρ n n1 (fun x => x = z) := fun M0 H0 O σ H Q I k =>
  h M0 H0 O σ H _ I fun v H1 x g1 s1 r1 p => by
    subst p
    have r0 := r1
    obtain ⟨a, dx, fs, rfl, ma, e, hk, rl⟩ := r1
    exact ⟨a, dx, fs, rfl, e, s, c, O ++ M0, n1, [.ins C ks l], List.mem_append_right _ I.ms.1, List.mem_append_right _ I.ms.2, (I.next g1 s1).thereA, s1, hn, ⟨r0, trivial⟩, hp, fun u H2 d g2 s2 r2 q => k u H2 d (g1.trans g2) s2 r2 (hq d q)⟩
end
end Pl
/-! text PlDc -/
set_option Elab.async false
set_option linter.all false
set_option maxRecDepth 100000
set_option maxHeartbeats 4000000
set_option exponentiation.threshold 5000
/-! PlDc: {k: v for .. in ..}, texts to ints. -/
namespace Pl
open PySem PySem.Spec PyProof.Rows L2
section
variable {K : PySem.W.Frag} {s c : Addr} {ρ : List Sl} {n n1 : Nat} {tk tv : TE}
theorem put_len (ps : List (Str × Int)) (k : Str) (v : Int) : (putS ps k v).length ≤ ps.length + 1 := by
  unfold putS
  split
  · rw [List.length_map]; omega
  · rw [List.length_append]; exact Nat.le_refl _
/-- what the comprehension makes -/
def fillS (kf : D → Str) (vf : D → Int) (L : List D) : List (Str × Int) := L.foldl (fun ps d => putS ps (kf d) (vf d)) []
theorem fill_snoc (kf : D → Str) (vf : D → Int) (L : List D) (i : Nat) (d : D) (h : L[i]? = some d) : fillS kf vf (L.take (i + 1)) = putS (fillS kf vf (L.take i)) (kf d) (vf d) := by
  unfold fillS
  rw [List.take_add_one, h, List.foldl_append]
  rfl
theorem fill_len (kf : D → Str) (vf : D → Int) : ∀ (L : List D) (ps : List (Str × Int)), (L.foldl (fun ps d => putS ps (kf d) (vf d)) ps).length ≤ ps.length + L.length
  | [], ps => Nat.le_refl _
  | d :: L, ps => by
    have h1 := fill_len kf vf L (putS ps (kf d) (vf d))
    have h2 := put_len ps (kf d) (vf d)
    simp only [List.foldl_cons, List.length_cons]
    omega
theorem ev_dc {wi : TI} {g : TG} {vs : List Nat} {L : List D} (kf : D → Str) (vf : D → Int) (h : EvI K s c wi ρ n n1 (fun l => l = L)) (hv : noOws ρ vs = true) (few : L.length ≤ 1000)
    (hs : ∀ (i : Nat) (d : D), L[i]? = some d → ∃ ρ2 js, EvG K s c g d (wipeS ρ vs) ρ2 js ∧ (∀ j ∈ js, j ∈ vs) ∧ EvE K s c tk ρ2 n1 n1 (fun x => x = .str (kf d)) ∧ EvE K s c tv ρ2 n1 n1 (fun x => x = .int (vf d))) :
    EvE K s c (tFrz (tDc wi g tYes tk tv vs)) ρ n n1 (fun x => x = dD (fillS kf vf L)) := fun M0 H0 O σ H Q I k =>
  h M0 H0 O σ H _ I fun J H1 ds g1 s1 w p D hD => by
    subst p
    have I1 := I.next g1 s1
    have hDout := I1.new_out hD
    have hDs : D ∉ [s, c] := fun z => hDout (I1.sub D z)
    have hDO : D ∉ O := fun z => hDout (List.mem_append_left _ z)
    refine ⟨fun i kk H' => Gr [s, c] (minus H1 O) H' ∧ (∀ o ∈ O, ∀ ys, H1 o = some (.lst ys) → H' o = some (.lst ys)) ∧ H' D = some (.dK ((fillS kf vf (ds.take i)).map eK)) ∧ Src s c n1 H' ∧ i ≤ ds.length ∧ kk = ds.length - i,
      ⟨ds.length, ?_, fun o ho ys e => ?_, ?_, s1.new hD, Nat.zero_le _, rfl⟩, ?_⟩
    · exact fun a o e m => by
        obtain ⟨h1, h2⟩ := minus_some e
        rw [upd_ne (ne_of_none h2 hD)]
        exact h2
    · rw [upd_ne (fun z => hDO (by rw [← z]; exact ho))]
      exact e
    · rw [List.take_zero]
      exact upd_same
    rintro i kk H2 ⟨gr2, ow2, eD, s2, hi, rfl⟩
    obtain ⟨w1, w2⟩ := w (D :: O) H2 (gr2.mono (two_sub I.ms)) fun a ha => by
      rcases List.mem_cons.mp ha with z | z
      · rw [z, minus_out hDO]; exact hD
      · exact minus_in z
    have gH : Gr (O ++ M0) H1 H2 := fun a o e mm => by
      by_cases z : a ∈ O
      · obtain ⟨ys, hy⟩ := I1.lst a z
        rw [hy] at e; cases e
        exact ow2 a z ys hy
      · refine gr2 a o (by rw [minus_out z]; exact e) ?_
        rcases mm with mm | mm
        · exact .inl fun q => mm (I1.sub a q)
        · exact .inr mm
    have st : Ok K s c (D :: M0) (minus H2 O) O (wipeS ρ vs) n1 (L2.wipe σ vs) H2 := by
      have sl2 : SlR K (D :: (O ++ M0)) H2 ρ σ O := I1.sl.imp (fun _ _ r => (r.apart hD).gr (gH.mono fun a ha => List.mem_cons_of_mem _ ha)) (fun _ _ r => (r.apart hD).gr (gH.mono fun a ha => List.mem_cons_of_mem _ ha)) ow2
      refine ⟨⟨List.mem_cons_of_mem _ I.ms.1, List.mem_cons_of_mem _ I.ms.2⟩, fun a ha => ?_, s2, fun a o e _ => (minus_some e).2, fun o ho => ⟨minus_in ho, (I.fr o ho).2⟩, I.nd, ?_⟩
      · rcases List.mem_cons.mp ha with z | z
        · exact .inr (.inr ⟨_, by rw [z, minus_out hDO]; exact eD⟩)
        · obtain ⟨o, e⟩ := I1.there a z
          by_cases z1 : a = s
          · exact .inl z1
          · by_cases z2 : a = c
            · exact .inr (.inl z2)
            · have z3 : a ∉ O := fun q => by
                rcases I.tr a z with y | y | ⟨u, y⟩
                · exact z1 y
                · exact z2 y
                · rw [(I.fr a q).1] at y; cases y
              exact .inr (.inr ⟨o, by rw [minus_out z3]; exact gr2 a o (by rw [minus_out z3]; exact e) (.inl (not_two z1 z2))⟩)
      · refine (sl2.wipe hv).imp (fun _ _ r => r.mono ?_) (fun _ _ r => r.mono ?_) fun _ _ _ e => e
        all_goals
          intro a ha
          simp only [List.mem_append, List.mem_cons] at ha ⊢
          rcases ha with z | z | z
          · exact .inr (.inl z)
          · exact .inl z
          · exact .inr (.inr z)
    by_cases hlt : i < ds.length
    · have hi' : ds[i]? = some ds[i] := List.getElem?_eq_getElem hlt
      obtain ⟨w3, w4⟩ := w2 i ds[i] hi'
      obtain ⟨ρ2, js, eg, hj, ek, ev⟩ := hs i _ hi'
      refine .inr ⟨w3, fun H' => Gr [s, c] (minus H1 O) H' ∧ (∀ o ∈ O, ∀ ys, H1 o = some (.lst ys) → H' o = some (.lst ys)) ∧ H' D = some (.dK ((fillS kf vf (ds.take (i + 1))).map eK)) ∧ Src s c n1 H',
        fun H' ⟨q1, q2, q3, q4⟩ => ⟨ds.length - (i + 1), by omega, q1, q2, q3, q4, hlt, rfl⟩, fun x H3 hy => ?_⟩
      obtain ⟨g3, s3, r3⟩ := w4 x H3 hy
      have st3 := st.next g3 (s3 _ s2)
      have rx : Rep K (O ++ (D :: M0)) H3 ds[i] x := r3.mono fun a ha => by
        simp only [List.mem_append, List.mem_cons] at ha ⊢
        rcases ha with z | z | z
        · exact .inl (.inr z)
        · exact .inl (.inl z)
        · exact .inr z
      refine eg (D :: M0) (minus H2 O) O n1 (L2.wipe σ vs) H3 x _ st3 rx fun σ2 st4 hw => ⟨?_, ?_⟩
      · rw [hw vs hj, wipe_wipe σ vs vs fun u hu => hu]
      · unfold tYes
        dsimp only
        rw [if_pos rfl]
        refine ek (D :: M0) (minus H2 O) O σ2 H3 _ st4 fun y H4 d4 g4 s4 r4 p4 => ev (D :: M0) (minus H2 O) O σ2 H4 _ (st4.next g4 s4) fun z H5 d5 g5 s5 r5 p5 => ?_
        subst p4
        subst p5
        have r4 : y = .str (kf ds[i]) := r4
        have r5 : z = .int (vf ds[i]) := r5
        subst r4
        subst r5
        have g25 := (g3.trans g4).trans g5
        have fl := fill_len kf vf (ds.take i) []
        have tl : (ds.take i).length ≤ 1000 := by rw [List.length_take]; omega
        refine ⟨(fillS kf vf (ds.take i)).map eK, .inr (kf ds[i]), rfl, g25 D _ eD (.inl hDs), small1000 (by rw [List.length_map]; unfold fillS; simp only [List.length_nil] at fl; omega), (gr2.trans g25).put ?_, fun o ho ys e => ?_, ?_, s5.put ?_ ?_⟩
        · rw [minus_out hDO]; exact hD
        · rw [upd_ne (fun z => hDO (by rw [← z]; exact ho))]
          exact g25 o _ (ow2 o ho ys e) (.inl (not_two (I.fr o ho).2.1 (I.fr o ho).2.2))
        · rw [upd_same, put_eK, fill_snoc kf vf ds i _ hi']
        · exact fun z => hDs (by rw [z]; exact List.mem_cons_self)
        · exact fun z => hDs (by rw [z]; exact List.mem_cons_of_mem _ List.mem_cons_self)
    · have e : i = ds.length := by omega
      subst e
      refine .inl ⟨w1, D, _, rfl, eD, trivial, fun od => ?_⟩
      rw [List.take_length] at eD ⊢
      have gF : Gr [s, c] H H2 := fun a o e m => by
        have e1 := g1 a o e m
        by_cases z : a ∈ O
        · obtain ⟨ys, hy⟩ := I1.lst a z
          rw [hy] at e1; cases e1
          exact ow2 a z ys hy
        · exact gr2 a o (by rw [minus_out z]; exact e1) m
      have hDH : H D = none := g1.none hD hDs
      refine k (.ref D) _ (dD (fillS kf vf ds)) (gF.put hDH) (s2.put (fun z => hDs (by rw [z]; exact List.mem_cons_self)) fun z => hDs (by rw [z]; exact List.mem_cons_of_mem _ List.mem_cons_self)) (repD_of upd_same) rfl
end
end Pl
/-! text PlZd -/
set_option Elab.async false
set_option linter.all false
set_option maxRecDepth 100000
set_option maxHeartbeats 4000000
set_option exponentiation.threshold 5000
/-! PlZd: dict(zip(t, u)) of two tuples. -/
namespace Pl
open PySem PySem.Spec PyProof.Rows L2
section
variable {prog : Program} {w : World} {B : Around} {F' : Value → Shared → Prop} {s : Shared} {z ti to_ T ja jb la lb : Addr} {f : Bool} {oT : Obj} {m n : Nat} {xs ys : Array Value}
/-- the next pair of a zip of tuples whose last pair is still held -/
theorem heldT_item {x y : Value} {R : Option Value → Shared → Prop} (ap : ZipApart z ti to_ ja jb la lb) (hz : IsZipHeld s.heap z ti to_ T f) (hT : s.heap.get? T = some oT) (hti : IsPair s.heap ti (.ref ja) (.ref jb))
    (a1 : s.heap.IsTupleIter ja la m) (a2 : s.heap.IsTupleIter jb lb n) (b1 : s.heap.IsTuple la xs) (b2 : s.heap.IsTuple lb ys) (ex : xs[m]? = some x) (ey : ys[n]? = some y)
    (fin : ∀ h', IsZipHeld h' z ti to_ T true → h'.IsTupleIter ja la (m + 1) → h'.IsTupleIter jb lb (n + 1) → IsPair h' s.heap.objs.size x y → (∀ c o, c ≠ z → c ≠ ja → c ≠ jb → s.heap.get? c = some o → h'.get? c = some o) → R (some (.ref s.heap.objs.size)) { s with heap := h' }) :
    wpAny (model prog w) B (pyNext (.ref z)) R F' s := by
  have ty : s.TypeIs (.ref z) "zip" := ⟨_, hz, rfl⟩
  unfold pyNext
  refine wpAny_bind (wpAny_attempt (wpAny_callSpecial?_slot (name := Str.ofString "__next__") ty F.slot_zip_next (wpAny_call_entry F.slot_zip_next ty F.entry_zip_next ?_ (F.args_zip_next_1 _))))
  show wpAny _ _ (field (.ref z) 2 >>= _) _ _ s
  refine wpAny_bind (wpAny_field hz rfl (x := .bool false) rfl (show wpAny _ _ (field (.ref z) 3 >>= _) _ _ s from wpAny_bind (wpAny_field hz rfl (x := .ref ti) rfl (wpAny_bind (wpAny_seqItems hti rfl ?_)))))
  show wpAny _ _ (Builtin.SmallTypes.ownedTupleIsFree (.ref z) >>= _) _ _ s
  refine wpAny_bind (wpAny_tupleHeld_zip hz hT fun g1 z1 k1 => ?_)
  simp only [Bool.false_eq_true, if_false]
  refine wpAny_bind ?_
  rw [← Array.forIn_toList]
  simp only [List.forIn_cons, List.forIn_nil]
  refine wpAny_bind (wpAny_bind (wpAny_holding (show wpAny _ _ (Builtin.SmallTypes.nextOf (.ref ja) >>= _) _ _ _ from wpAny_bind (RZ.nextOf_tuple_item (s := { s with heap := g1 }) (a1.extBut k1.extBut ap.i1z) (b1.extBut k1.extBut ap.l1z) ex fun g2 i2 k2 => wpAny_pure (wpAny_pure ?_)))))
  refine wpAny_bind (wpAny_bind (wpAny_holding (show wpAny _ _ (Builtin.SmallTypes.nextOf (.ref jb) >>= _) _ _ _ from wpAny_bind (RZ.nextOf_tuple_item (s := { s with heap := g2 }) ((a2.extBut k1.extBut ap.i2z).extBut k2.extBut ap.i12.symm) ((b2.extBut k1.extBut ap.l2z).extBut k2.extBut ap.l2i1) ey fun g3 i3 k3 => wpAny_pure (wpAny_pure (wpAny_pure ?_))))))
  show wpAny _ _ (newTuple [x, y] >>= _) _ _ _
  refine wpAny_bind (wpAny_newTuple ?_)
  have size : g3.objs.size = s.heap.objs.size := by rw [k3.1, k2.1, k1.1]
  have z3 : IsZipHeld g3 z ti to_ T true := k3.extBut _ _ ap.i2z.symm (k2.extBut _ _ ap.i1z.symm z1)
  have i23 : g3.IsTupleIter ja la (m + 1) := i2.extBut k3.extBut ap.i12
  have old : ∀ c o, c ≠ z → c ≠ ja → c ≠ jb → s.heap.get? c = some o → g3.get? c = some o := fun c o c1 c2 c3 e => k3.extBut _ _ c3 (k2.extBut _ _ c2 (k1.extBut _ _ c1 e))
  refine wpAny_pure ⟨_, rfl, wpAny_pure ?_⟩
  show R (some (.ref g3.objs.size)) _
  have new : IsPair (g3.push { cls := .type "tuple", data := .seq #[x, y] }) g3.objs.size x y := Heap.get?_push_size _ rfl
  rw [size] at new ⊢
  exact fin _ (Heap.get?_push_of_some _ z3) (i23.at fun o e => Heap.get?_push_of_some _ e) (i3.at fun o e => Heap.get?_push_of_some _ e) new fun c o c1 c2 c3 e => Heap.get?_push_of_some _ (old c o c1 c2 c3 e)
theorem heldT_end {R : Option Value → Shared → Prop} (hh : B.handled = none) (ap : ZipApart z ti to_ ja jb la lb) (hz : IsZipHeld s.heap z ti to_ T f) (hT : s.heap.get? T = some oT) (hti : IsPair s.heap ti (.ref ja) (.ref jb))
    (a1 : s.heap.IsTupleIter ja la m) (a2 : s.heap.IsTupleIter jb lb n) (b1 : s.heap.IsTuple la xs) (b2 : s.heap.IsTuple lb ys) (over : xs[m]? = none ∨ ys[n]? = none)
    (fin : ∀ h', (∀ c o, c ≠ z → c ≠ ja → c ≠ jb → s.heap.get? c = some o → h'.get? c = some o) → R none { s with heap := h' }) : wpAny (model prog w) B (pyNext (.ref z)) R F' s := by
  have ty : s.TypeIs (.ref z) "zip" := ⟨_, hz, rfl⟩
  have stopped : ∀ (h' : Heap) (e : Addr), (∀ c o, c ≠ z → c ≠ ja → c ≠ jb → s.heap.get? c = some o → h'.get? c = some o) → (∃ o, h'.get? e = some o ∧ o.cls = .type "StopIteration") → wpAny (model prog w) B (isInstance (.ref e) (.type "StopIteration")) (fun b s' => b = true ∧ R none { s with heap := h' } ∧ s' = { s with heap := h' }) F' { s with heap := h' } := fun h' e k he => by
    obtain ⟨o, ho, hc⟩ := he
    exact wpAny_isInstance (T := "StopIteration") (b := true) ⟨o, ho, hc⟩ isSubtype_stop ⟨rfl, fin h' k, rfl⟩
  unfold pyNext
  refine wpAny_bind (wpAny_attempt (wpAny_callSpecial?_slot (name := Str.ofString "__next__") ty F.slot_zip_next (wpAny_call_entry F.slot_zip_next ty F.entry_zip_next ?_ (F.args_zip_next_1 _))))
  show wpAny _ _ (field (.ref z) 2 >>= _) _ _ s
  refine wpAny_bind (wpAny_field hz rfl (x := .bool false) rfl (show wpAny _ _ (field (.ref z) 3 >>= _) _ _ s from wpAny_bind (wpAny_field hz rfl (x := .ref ti) rfl (wpAny_bind (wpAny_seqItems hti rfl ?_)))))
  show wpAny _ _ (Builtin.SmallTypes.ownedTupleIsFree (.ref z) >>= _) _ _ s
  refine wpAny_bind (wpAny_tupleHeld_zip hz hT fun g1 z1 k1 => ?_)
  simp only [Bool.false_eq_true, if_false]
  refine wpAny_bind ?_
  rw [← Array.forIn_toList]
  simp only [List.forIn_cons, List.forIn_nil]
  refine wpAny_bind (wpAny_bind (wpAny_holding (show wpAny _ _ (Builtin.SmallTypes.nextOf (.ref ja) >>= _) _ _ _ from ?_)))
  cases ex : xs[m]? with
  | none =>
    refine wpAny_bind (RZ.nextOf_tuple_end (s := { s with heap := g1 }) hh (a1.extBut k1.extBut ap.i1z) (b1.extBut k1.extBut ap.l1z) ex fun g2 e k2 he => ?_)
    exact wpAny_bind (wpAny_mono (stopped g2 e (fun c o c1 c2 _ x => k2 _ _ c2 (k1.extBut _ _ c1 x)) he) (fun b s' h => by obtain ⟨rfl, h2, rfl⟩ := h; exact wpAny_pure h2) fun _ _ h => h)
  | some x =>
    have ey : ys[n]? = none := by
      rcases over with h | h
      · rw [ex] at h; cases h
      · exact h
    refine wpAny_bind (RZ.nextOf_tuple_item (s := { s with heap := g1 }) (a1.extBut k1.extBut ap.i1z) (b1.extBut k1.extBut ap.l1z) ex fun g2 i2 k2 => wpAny_pure (wpAny_pure ?_))
    refine wpAny_bind (wpAny_bind (wpAny_holding (show wpAny _ _ (Builtin.SmallTypes.nextOf (.ref jb) >>= _) _ _ _ from ?_)))
    refine wpAny_bind (RZ.nextOf_tuple_end (s := { s with heap := g2 }) hh ((a2.extBut k1.extBut ap.i2z).extBut k2.extBut ap.i12.symm) ((b2.extBut k1.extBut ap.l2z).extBut k2.extBut ap.l2i1) ey fun g3 e k3 he => ?_)
    exact wpAny_bind (wpAny_mono (stopped g3 e (fun c o c1 c2 c3 x => k3 _ _ c3 (k2.extBut _ _ c2 (k1.extBut _ _ c1 x))) he) (fun b s' h => by obtain ⟨rfl, h2, rfl⟩ := h; exact wpAny_pure h2) fun _ _ h => h)
end
/-- a zip of two tuples as the argument of dict() -/
theorem pairsT {prog : Program} {w : World} {z ti to_ ja jb la lb : Addr} (ap : ZipApart z ti to_ ja jb la lb) (xs ys : Array Value) :
    PairArg prog w "zip" z [z, ti, to_, ja, jb, la, lb] [z, to_, ja, jb] (min xs.size ys.size) (fun i k v => xs[i]? = some k ∧ ys[i]? = some v)
      (fun h => IsZip h z ti to_ .none ∧ IsPair h ti (.ref ja) (.ref jb) ∧ (∃ a b, IsPair h to_ a b) ∧ h.IsTupleIter ja la 0 ∧ h.IsTupleIter jb lb 0 ∧ h.IsTuple la xs ∧ h.IsTuple lb ys) := by
  refine ⟨fun s ok => ⟨_, ok.1, rfl⟩, by decide, fun h h' ok hk => ?_, fun h ok b hb => ?_, fun b hb => ?_, fun A s Q E hA ok k => getAttrOr_miss_zip ok.1 rfl rfl rfl zip_no_keys (by decide +kernel) hA k, fun A s d Q E hA ok hd off k => ?_⟩
  · obtain ⟨h1, h2, ⟨a, b, h3⟩, h4, h5, h6, h7⟩ := ok
    exact ⟨hk _ _ h1, hk _ _ h2, ⟨a, b, hk _ _ h3⟩, h4.at fun o e => hk _ o e, h5.at fun o e => hk _ o e, h6.at fun o e => hk _ o e, h7.at fun o e => hk _ o e⟩
  · obtain ⟨h1, h2, ⟨a, c, h3⟩, ⟨o4, h4, _⟩, ⟨o5, h5, _⟩, ⟨o6, h6, _⟩, ⟨o7, h7, _⟩⟩ := ok
    simp only [List.mem_cons, List.not_mem_nil, or_false] at hb
    rcases hb with rfl | rfl | rfl | rfl | rfl | rfl | rfl <;> first | exact ⟨_, h1⟩ | exact ⟨_, h2⟩ | exact ⟨_, h3⟩ | exact ⟨_, h4⟩ | exact ⟨_, h5⟩ | exact ⟨_, h6⟩ | exact ⟨_, h7⟩
  · simp only [List.mem_cons, List.not_mem_nil, or_false] at hb ⊢
    rcases hb with rfl | rfl | rfl | rfl <;> simp
  · obtain ⟨h1, h2, ⟨a, b, h3⟩, h4, h5, h6, h7⟩ := ok
    simp only [List.mem_cons, List.not_mem_nil, or_false, not_or] at off
    obtain ⟨dz, dti, dto, dja, djb, dla, dlb⟩ := off
    refine wpAny_pyIter_zip h1 (k z [z, to_, ja, jb] (fun i h => IsPair h ti (.ref ja) (.ref jb) ∧ h.IsTupleIter ja la i ∧ h.IsTupleIter jb lb i ∧ h.IsTuple la xs ∧ h.IsTuple lb ys ∧
      ((IsZip h z ti to_ .none ∧ ∃ a b, IsPair h to_ a b) ∨ ∃ T f oT, IsZipHeld h z ti to_ T f ∧ h.get? T = some oT ∧ T ≠ z ∧ T ≠ ja ∧ T ≠ jb ∧ T ≠ d)) s.heap s.toks ?_ ⟨h2, h4, h5, h6, h7, .inl ⟨h1, a, b, h3⟩⟩ (fun _ _ e => e) fun b hb => .inl hb)
    refine ⟨fun hm => ?_, fun i g1 g2 st hk => ?_, fun i s1 Q1 E1 hi st hds fin => ?_, fun s1 Q1 E1 st fin => ?_⟩
    · simp only [List.mem_cons, List.not_mem_nil, or_false] at hm
      rcases hm with e | e | e | e
      · exact dz e
      · exact dto e
      · exact dja e
      · exact djb e
    · obtain ⟨h2, h4, h5, h6, h7, hz⟩ := st
      refine ⟨hk _ _ (Ne.symm dti) h2, h4.at fun o e => hk _ o (Ne.symm dja) e, h5.at fun o e => hk _ o (Ne.symm djb) e, h6.at fun o e => hk _ o (Ne.symm dla) e, h7.at fun o e => hk _ o (Ne.symm dlb) e, ?_⟩
      rcases hz with ⟨hz, a, b, h3⟩ | ⟨T, f, oT, hz, hT, r1, r2, r3, r4⟩
      · exact .inl ⟨hk _ _ (Ne.symm dz) hz, a, b, hk _ _ (Ne.symm dto) h3⟩
      · exact .inr ⟨T, f, oT, hk _ _ (Ne.symm dz) hz, hk _ _ r4 hT, r1, r2, r3, r4⟩
    · obtain ⟨h2, h4, h5, h6, h7, hz⟩ := st
      have ex := Array.getElem?_eq_getElem (Nat.lt_of_lt_of_le hi (Nat.min_le_left ..))
      have ey := Array.getElem?_eq_getElem (Nat.lt_of_lt_of_le hi (Nat.min_le_right ..))
      have far : ∀ {c o}, s1.heap.get? c = some o → s1.heap.objs.size ≠ c := fun e => Nat.ne_of_gt (Heap.lt_size e)
      have f1 : s1.heap.objs.size ≠ ja := let ⟨_, e, _⟩ := h4; far e
      have f2 : s1.heap.objs.size ≠ jb := let ⟨_, e, _⟩ := h5; far e
      rcases hz with ⟨hz, a, b, h3⟩ | ⟨T, f, oT, hz, hT, r1, r2, r3, r4⟩
      · refine RZ.pyNext_zipT_item ap hz h2 h3 h4 h5 h6 h7 ex ey fun h' a1 a2 a3 a4 a5 a6 hk => ?_
        refine fin s1.heap.objs.size _ _ h' s1.toks ⟨ex, ey⟩ (.inl ⟨_, a5, rfl, _, rfl⟩) ⟨hk _ _ ap.TIz ap.TITO ap.TIi1 ap.TIi2 h2, a3, a4, h6.at fun o e => hk _ o ap.l1z ap.l1TO ap.l1i1 ap.l1i2 e, h7.at fun o e => hk _ o ap.l2z ap.l2TO ap.l2i1 ap.l2i2 e, .inr ⟨s1.heap.objs.size, false, _, a1, a5, far hz, f1, f2, Nat.ne_of_gt hds⟩⟩ fun c o hc e => ?_
        simp only [List.mem_cons, List.not_mem_nil, or_false, not_or] at hc
        exact hk c o hc.1 hc.2.1 hc.2.2.1 hc.2.2.2 e
      · refine heldT_item ap hz hT h2 h4 h5 h6 h7 ex ey fun h' a1 a3 a4 a5 hk => ?_
        refine fin s1.heap.objs.size _ _ h' s1.toks ⟨ex, ey⟩ (.inl ⟨_, a5, rfl, _, rfl⟩) ⟨hk _ _ ap.TIz ap.TIi1 ap.TIi2 h2, a3, a4, h6.at fun o e => hk _ o ap.l1z ap.l1i1 ap.l1i2 e, h7.at fun o e => hk _ o ap.l2z ap.l2i1 ap.l2i2 e, .inr ⟨T, true, oT, a1, hk _ _ r1 r2 r3 hT, r1, r2, r3, r4⟩⟩ fun c o hc e => ?_
        simp only [List.mem_cons, List.not_mem_nil, or_false, not_or] at hc
        exact hk c o hc.1 hc.2.2.1 hc.2.2.2 e
    · obtain ⟨h2, h4, h5, h6, h7, hz⟩ := st
      have over : xs[min xs.size ys.size]? = none ∨ ys[min xs.size ys.size]? = none := by
        rcases Nat.le_total xs.size ys.size with h | h
        · exact .inl (Array.getElem?_eq_none (by rw [Nat.min_eq_left h]; exact Nat.le_refl _))
        · exact .inr (Array.getElem?_eq_none (by rw [Nat.min_eq_right h]; exact Nat.le_refl _))
      rcases hz with ⟨hz, a, b, h3⟩ | ⟨T, f, oT, hz, hT, r1, r2, r3, r4⟩
      · refine RZ.pyNext_zipT_end hA ap hz h2 h3 h4 h5 h6 h7 over fun h' hk => fin h' s1.toks fun c o hc e => ?_
        simp only [List.mem_cons, List.not_mem_nil, or_false, not_or] at hc
        exact hk c o hc.1 hc.2.1 hc.2.2.1 hc.2.2.2 e
      · refine heldT_end hA ap hz hT h2 h4 h5 h6 h7 over fun h' hk => fin h' s1.toks fun c o hc e => ?_
        simp only [List.mem_cons, List.not_mem_nil, or_false, not_or] at hc
        exact hk c o hc.1 hc.2.2.1 hc.2.2.2 e
/-- dict(zip(t, u)) of tuples, the first of keys -/
def tDZ (K : PySem.W.Frag) (ta : TA) : TE := fun σ H Q => ta σ H fun vs H1 => ∃ (a b : Addr) (ks : List Key) (ys : List V), vs = [.ref a, .ref b] ∧ SqT K H1 a (ks.map kV) ∧ SqT K H1 b ys ∧ ks.length = ys.length ∧ ∀ p, H1 p = none → Q (.ref p) (upd H1 p (.dK (mergeK [] (ks.zip ys))))
theorem pe_dz {X : Cx} {e e2 : Expr} {ta : TA} {x y : Str} {p q pos pos2 : Pos} (hc : X.calm = true) (hgd : Gl X x) (hmd : X.mg x = none) (hvd : bootBuiltins x = some (.type "dict")) (hgz : Gl X y) (hmz : X.mg y = none) (hvz : bootBuiltins y = some (.type "zip")) (ha : PA X [e, e2] ta)
    (hnd : x ≠ "__name__" := by decide) (hdd : (x == ("__debug__" : Str)) = false := by decide) (hnz : y ≠ "__name__" := by decide) (hdz : (y == ("__debug__" : Str)) = false := by decide)
    (hs : starEach [e, e2] X.env = (false, eval e X.env) :: starEach [e2] X.env := by rfl) (hpl : (backTo pos2 (starEach [e2] X.env)).any (·.1) = false := by rfl)
    (hs2 : starEach [.Call (.Name y q) [e, e2] [] pos2] X.env = (false, eval (.Call (.Name y q) [e, e2] [] pos2) X.env) :: starEach [] X.env := by rfl) (hpl2 : (backTo pos (starEach [] X.env)).any (·.1) = false := by rfl) :
    PE X (.Call (.Name x p) [.Call (.Name y q) [e, e2] [] pos2] [] pos) (tDZ X.K ta) := by
  refine ⟨fun pins s σ H Q I h => ?_⟩
  refine wpAny_Call_Name_kw (ld_blt I hgd hmd hvd (PyProof.Rows.callWith_type1 ?_ hs2 hpl2) hnd hdd)
  rw [hs2]
  show wpAny _ _ (spliced ((false, eval (.Call (.Name y q) [e, e2] [] pos2) X.env) :: backTo pos (starEach [] X.env))) _ _ s
  refine Calls.spliced_cons (wpAny_Call_Name_kw (ld_blt I hgz hmz hvz (PyProof.Rows.callWith_type1 (thn (ha.run pos2 pins s σ H _ I h) fun us s1 ⟨vs, H1, I1, r1, q1⟩ => ?_) hs hpl) hnz hdz))
  obtain ⟨a, b, ks, ys, rfl, ta1, tb1, len, q1⟩ := q1
  cases r1 with
  | cons ra r =>
    cases r with
    | cons rb r =>
      cases r
      cases ra
      cases rb
      obtain ⟨i1, v1, p1, l1⟩ := I1.tuple ta1
      obtain ⟨i2, v2, p2, l2⟩ := I1.tuple tb1
      obtain ⟨o1, ho1, _⟩ := id p1
      obtain ⟨o2, ho2, _⟩ := id p2
      refine RZ.call_zipT (show s1.heap.IsTuple a i1.toArray from p1) (show s1.heap.IsTuple b i2.toArray from p2) fun h' hz hti hto ha' hb' hsz hk => Calls.spliced_nil ?_
      have ap := PySem.W.ktu_apart s1.heap.objs.size a b (Heap.lt_size ho1) (Heap.lt_size ho2)
      have lenK : i1.length = ks.length := by rw [← v1.length, List.length_map]
      have lenY : i2.length = ys.length := v2.length.symm
      -- the pairs
      let kvs : List (Key × Value) := ks.zip i2
      have rel : KV (ks.zip ys) kvs := by
        have go : ∀ {ks : List Key} {ys : List V} {us : List Value}, Vals ys us → KV (ks.zip ys) (ks.zip us) := fun {ks} => by
          induction ks with
          | nil => intro ys us _; rw [List.zip_nil_left, List.zip_nil_left]; exact .nil
          | cons k ks ih =>
            intro ys us r
            cases r with
            | nil => rw [List.zip_nil_right, List.zip_nil_right]; exact .nil
            | cons r1 r2 => exact .cons ⟨rfl, r1⟩ (ih r2)
        exact go v2
      have keyAt : ∀ {ks : List Key} {us : List Value} (i : Nat) (u : Value), Vals (ks.map kV) us → us[i]? = some u → ∃ k, ks[i]? = some k ∧ (mixKind X.prog X.w).is k u = true := fun {ks} => by
        induction ks with
        | nil => intro us i u r e; cases r; simp at e
        | cons k ks ih =>
          intro us i u r e
          cases r with
          | cons r1 r2 =>
            cases i with
            | zero => simp at e; subst e; exact ⟨k, rfl, kV_is r1⟩
            | succ i => simp at e; obtain ⟨k', e1, e2⟩ := ih i u r2 e; exact ⟨k', by simpa using e1, e2⟩
      have few : (min i1.toArray.size i2.toArray.size) ≤ sizeLine := by
        rw [List.size_toArray]
        refine Nat.le_trans (Nat.min_le_left ..) ?_
        have : (ks.map kV).length ≤ sizeLine := l1
        rw [List.length_map] at this
        omega
      have lenZ : kvs.length = min i1.toArray.size i2.toArray.size := by
        show (ks.zip i2).length = _
        rw [List.length_zip, List.size_toArray, List.size_toArray, lenK]
      have okT : ∀ {l : Addr} {its : Array Value}, s1.heap.IsTuple l its → h'.IsTuple l its := fun t => t.at fun o e => hk _ o e
      refine call_dict_pairs (knd := mixKind X.prog X.w) (kvs := kvs) (pairsT ap i1.toArray i2.toArray) (I.ok.hd hc) ⟨hz, hti, ⟨_, _, hto⟩, ha', hb', okT p1, okT p2⟩ ⟨lenZ, fun i key v e => ?_⟩ few fun h2 tk dd kp => ?_
      · obtain ⟨e1, e2⟩ := e
        obtain ⟨k, ek, is⟩ := keyAt i key v1 (by simpa using e1)
        refine ⟨k, ?_, is⟩
        show (ks.zip i2)[i]? = _
        rw [List.getElem?_zip_eq_some]
        exact ⟨ek, by simpa using e2⟩
      · have nw : ∀ b, b < s1.heap.objs.size → b ∉ [s1.heap.objs.size + 4, s1.heap.objs.size + 3, s1.heap.objs.size, s1.heap.objs.size + 1] := fun b hb hm => by
          simp only [List.mem_cons, List.not_mem_nil, or_false] at hm
          rcases hm with e | e | e | e <;> (rw [e] at hb; first | exact Nat.lt_irrefl _ hb | exact absurd hb (Nat.not_lt.mpr (Nat.le_add_right _ _)))
        have old : ∀ b o, s1.heap.get? b = some o → h2.get? b = some o := fun b o e => kp b o (nw b (Heap.lt_size e)) (hk b o e)
        have le : s1.heap.objs.size ≤ h'.objs.size := by rw [hsz]; exact Nat.le_add_right _ _
        have hm : (h'.objs.size == sysModules) = false := beq_eq_false_iff_ne.mpr (Nat.ne_of_gt (Nat.lt_of_lt_of_le I1.big le))
        have hlen : (mergeK [] (ks.zip ys)).length ≤ sizeLine := by
          refine Nat.le_trans (length_mergeK _ []) ?_
          rw [List.length_nil, Nat.zero_add, List.length_zip]
          have : (ks.map kV).length ≤ sizeLine := l1
          rw [List.length_map] at this
          omega
        exact ⟨.ref h'.objs.size, upd H1 h'.objs.size (.dK (mergeK [] (ks.zip ys))), I1.laid (t' := tk) old le (show ObjOk X.prog X.w _ _ _ (.dK (mergeK [] (ks.zip ys))) from ⟨hlen, hm, merged [] kvs, KV.merge rel .nil, dd⟩), rfl, q1 _ (I1.hok.fresh le)⟩
end Pl
/-! text PlY2 -/
set_option Elab.async false
set_option linter.all false
set_option maxRecDepth 100000
set_option maxHeartbeats 4000000
set_option exponentiation.threshold 5000
/-! PlY2: a tuple, zero times. -/
namespace Pl
open PySem PySem.Spec PyProof.Rows L2 PlS
theorem times_none (l : Addr) (items : Array Value) (n : Nat) (dd : Option Addr) (sl : Array (Option Value)) (x : Int) (u : Tok) (c0 : (decide (x < -(2 ^ 63)) || decide (x ≥ 2 ^ 63)) = false) (c1 : (items.isEmpty || x == 1) = false) (c2 : (decide (x ≤ 0) || items.isEmpty) = true) :
    Meets (Builtin.«tuple.__mul__» ⟨[.ref l, .int x u], []⟩) (fun _ R s => s.heap.get? l = some { cls := .type "tuple", dict := dd, data := .seq items n, slots := sl } ∧
      R (.ok (.ret (Value.ref s.heap.objs.size))) { s with heap := s.heap.push { cls := Value.type "tuple", data := Data.seq #[] }, toks := s.toks }) :=
  .of_wp fun prog w A R s h => by
    obtain ⟨hp, g, d, tk, os⟩ := s
    obtain ⟨hl, h⟩ := h
    have f1 := AutoSeq1.idx_int
    wp_walk using wpAny_loadPart' hl
    repeat (first
      | (refine wpAny_ite_false (decide_eq_false (by rw [c0]; exact Bool.false_ne_true)) ?_; wp_walk using wpAny_loadPart' hl)
      | (refine wpAny_ite_false (decide_eq_false (by rw [c1]; exact Bool.false_ne_true)) ?_; wp_walk using wpAny_loadPart' hl)
      | (refine wpAny_ite_true (decide_eq_true (by rw [c2])) ?_; wp_walk using wpAny_loadPart' hl))
    exact ⟨_, rfl, h⟩
def rRep0 (K : PySem.W.Frag) : R2 := fun x y H Q => ∃ l xs, x = .ref l ∧ y = .int 0 ∧ SqT K H l xs ∧ xs ≠ [] ∧ ∀ p, H p = none → Q (.ref p) (upd H p (.tup []))
section
variable {X : Cx} {K : PySem.W.Frag}
theorem op_rep0 : OpR X (binaryOp .Mult) (rRep0 X.K) := by
  intro pins s σ H x y v u Q I rx ry h
  obtain ⟨l, xs, rfl, rfl, hT, hne, q⟩ := h
  cases rx
  obtain ⟨t, rfl⟩ := ry
  obtain ⟨its, r, ⟨⟨cls, dd, data, sl⟩, ho, hc, n, hd⟩, hs⟩ := I.tuple hT
  simp only at hc hd
  subst hc hd
  have hn : its ≠ [] := fun e => hne (by
    have hle : its.length = xs.length := r.length.symm
    rw [e] at hle
    exact List.eq_nil_of_length_eq_zero hle.symm)
  have hi : its.toArray.isEmpty = false := by
    cases its with
    | nil => exact absurd rfl hn
    | cons a b => rfl
  have c0 : (decide ((0 : Int) < -(2 ^ 63)) || decide ((0 : Int) ≥ 2 ^ 63)) = false := by decide
  have c1 : (its.toArray.isEmpty || (0 : Int) == 1) = false := by
    rw [hi, Bool.false_or]
    rfl
  have c2 : (decide ((0 : Int) ≤ 0) || its.toArray.isEmpty) = true := by
    rw [hi, Bool.or_false]
    rfl
  refine wpAny_binaryOp_repeat_ref (T := "tuple") (U := "int") (by decide) ⟨_, ho, rfl⟩ (fun s' => typeIs_int s' 0 t) noFill_tuple_mul F.fills_int_mul F.slot_int_rmul repeat_tuple F.slot_int_index.lookup
    (call_meets F.slot_int_rmul (typeIs_int s 0 t) F.entry_int_rmul (F.args_int_rmul_2 _ _) (int_rmul_tuple 0 t l its.toArray n dd sl)
      ⟨ho, rfl, ⟨_, ho, rfl⟩, call_meets F.slot_tuple_mul ⟨_, ho, rfl⟩ F.entry_tuple_mul (F.args_tuple_mul_2 _ _) (times_none l its.toArray n dd sl 0 t c0 c1 c2) ⟨ho, ?_⟩⟩)
  refine ⟨.ref s.heap.objs.size, _, I.laid (t' := s.toks) (o := .tup []) (fun b ob q => Heap.get?_push_of_some _ q) (Nat.le_refl _) ?_, rfl, q _ (I.hok.fresh (Nat.le_refl _))⟩
  exact ⟨Nat.zero_le _, [], .nil, IsTup.new _ _⟩
def rMulC (K : PySem.W.Frag) : R2 := fun x y H Q => rMulB K x y H Q ∨ rRep0 K x y H Q
theorem k_mulC (h : X.K = K := by rfl) : OpR X (binaryOp .Mult) (rMulC K) := by subst h; exact (k_mulB rfl).or op_rep0
end
section
variable {K : PySem.W.Frag} {s c : Addr} {M : List Addr} {H : Hp}
theorem rk_timesC {l : List D} {k : Int} (g0 : 0 ≤ k) (g1 : k ≤ 1000) (gl : l.length ≤ 1000) (ne : l ≠ []) : RK K s c (rMulC K) (.tup l) (.int k) (.tup (List.replicate k.toNat l).flatten) := fun M n v w H Q hm ht hs rx ry kk => by
  by_cases hk : k = 0
  · subst hk
    obtain ⟨a, xs, rfl, st, rl⟩ := rx
    have ry : w = .int 0 := ry
    subst ry
    exact .inr ⟨a, xs, rfl, rfl, st, fun e => ne (rl.nil_iff.mp e), fun p hp => kk (.ref p) _ (Gr.new hp) (hs.new hp) ⟨p, [], rfl, .inl (.inl upd_same), trivial⟩⟩
  · exact .inl (rk_timesT (by omega) g1 gl M n v w H Q hm ht hs rx ry kk)
theorem rk_timesLC {l : List D} {k : Int} (g0 : 0 ≤ k) (g1 : k ≤ 1000) (gl : l.length ≤ 1000) : RK K s c (rMulC K) (.lst l) (.int k) (.lst (List.replicate k.toNat l).flatten) := fun M n v w H Q hm ht hs rx ry kk => .inl (rk_timesL g0 g1 gl M n v w H Q hm ht hs rx ry kk)
end
end Pl
/-! text PlDn -/
set_option Elab.async false
set_option linter.all false
set_option maxRecDepth 100000
set_option maxHeartbeats 4000000
set_option exponentiation.threshold 5000
/-! PlDn: new lists and new dicts as a def's result; dict(zip(t, u)) as data; list(d.items()) of a new dict. -/
namespace Pl
open PySem PySem.Spec PyProof.Rows L2
/-- te makes a new dict from texts to ints -/
def EvDk (K : PySem.W.Frag) (s c : Addr) (te : TE) (ρ : List Sl) (n n' : Nat) (P : List (Str × Int) → Prop) : Prop := ∀ M0 H0 O σ H (Q : VK), Ok K s c M0 H0 O ρ n σ H →
  (∀ p H' ps, H p = none → Gr [s, c] H H' → Src s c n' H' → H' p = some (.dK (ps.map eK)) → P ps → Q (.ref p) H') → te σ H Q
section
variable {K : PySem.W.Frag} {s c : Addr} {ρ : List Sl} {n n1 : Nat} {tk tv : TE}
theorem dc_new {wi : TI} {g : TG} {vs : List Nat} {L : List D} (kf : D → Str) (vf : D → Int) (h : EvI K s c wi ρ n n1 (fun l => l = L)) (hv : noOws ρ vs = true) (few : L.length ≤ 1000)
    (hs : ∀ (i : Nat) (d : D), L[i]? = some d → ∃ ρ2 js, EvG K s c g d (wipeS ρ vs) ρ2 js ∧ (∀ j ∈ js, j ∈ vs) ∧ EvE K s c tk ρ2 n1 n1 (fun x => x = .str (kf d)) ∧ EvE K s c tv ρ2 n1 n1 (fun x => x = .int (vf d))) :
    EvDk K s c (tDc wi g tYes tk tv vs) ρ n n1 (fun ps => ps = fillS kf vf L) := fun M0 H0 O σ H Q I k =>
  h M0 H0 O σ H _ I fun J H1 ds g1 s1 w p D hD => by
    subst p
    have I1 := I.next g1 s1
    have hDout := I1.new_out hD
    have hDs : D ∉ [s, c] := fun z => hDout (I1.sub D z)
    have hDO : D ∉ O := fun z => hDout (List.mem_append_left _ z)
    refine ⟨fun i kk H' => Gr [s, c] (minus H1 O) H' ∧ (∀ o ∈ O, ∀ ys, H1 o = some (.lst ys) → H' o = some (.lst ys)) ∧ H' D = some (.dK ((fillS kf vf (ds.take i)).map eK)) ∧ Src s c n1 H' ∧ i ≤ ds.length ∧ kk = ds.length - i,
      ⟨ds.length, ?_, fun o ho ys e => ?_, ?_, s1.new hD, Nat.zero_le _, rfl⟩, ?_⟩
    · exact fun a o e m => by
        obtain ⟨h1, h2⟩ := minus_some e
        rw [upd_ne (ne_of_none h2 hD)]
        exact h2
    · rw [upd_ne (fun z => hDO (by rw [← z]; exact ho))]
      exact e
    · rw [List.take_zero]
      exact upd_same
    rintro i kk H2 ⟨gr2, ow2, eD, s2, hi, rfl⟩
    obtain ⟨w1, w2⟩ := w (D :: O) H2 (gr2.mono (two_sub I.ms)) fun a ha => by
      rcases List.mem_cons.mp ha with z | z
      · rw [z, minus_out hDO]; exact hD
      · exact minus_in z
    have gH : Gr (O ++ M0) H1 H2 := fun a o e mm => by
      by_cases z : a ∈ O
      · obtain ⟨ys, hy⟩ := I1.lst a z
        rw [hy] at e; cases e
        exact ow2 a z ys hy
      · refine gr2 a o (by rw [minus_out z]; exact e) ?_
        rcases mm with mm | mm
        · exact .inl fun q => mm (I1.sub a q)
        · exact .inr mm
    have st : Ok K s c (D :: M0) (minus H2 O) O (wipeS ρ vs) n1 (L2.wipe σ vs) H2 := by
      have sl2 : SlR K (D :: (O ++ M0)) H2 ρ σ O := I1.sl.imp (fun _ _ r => (r.apart hD).gr (gH.mono fun a ha => List.mem_cons_of_mem _ ha)) (fun _ _ r => (r.apart hD).gr (gH.mono fun a ha => List.mem_cons_of_mem _ ha)) ow2
      refine ⟨⟨List.mem_cons_of_mem _ I.ms.1, List.mem_cons_of_mem _ I.ms.2⟩, fun a ha => ?_, s2, fun a o e _ => (minus_some e).2, fun o ho => ⟨minus_in ho, (I.fr o ho).2⟩, I.nd, ?_⟩
      · rcases List.mem_cons.mp ha with z | z
        · exact .inr (.inr ⟨_, by rw [z, minus_out hDO]; exact eD⟩)
        · obtain ⟨o, e⟩ := I1.there a z
          by_cases z1 : a = s
          · exact .inl z1
          · by_cases z2 : a = c
            · exact .inr (.inl z2)
            · have z3 : a ∉ O := fun q => by
                rcases I.tr a z with y | y | ⟨u, y⟩
                · exact z1 y
                · exact z2 y
                · rw [(I.fr a q).1] at y; cases y
              exact .inr (.inr ⟨o, by rw [minus_out z3]; exact gr2 a o (by rw [minus_out z3]; exact e) (.inl (not_two z1 z2))⟩)
      · refine (sl2.wipe hv).imp (fun _ _ r => r.mono ?_) (fun _ _ r => r.mono ?_) fun _ _ _ e => e
        all_goals
          intro a ha
          simp only [List.mem_append, List.mem_cons] at ha ⊢
          rcases ha with z | z | z
          · exact .inr (.inl z)
          · exact .inl z
          · exact .inr (.inr z)
    by_cases hlt : i < ds.length
    · have hi' : ds[i]? = some ds[i] := List.getElem?_eq_getElem hlt
      obtain ⟨w3, w4⟩ := w2 i ds[i] hi'
      obtain ⟨ρ2, js, eg, hj, ek, ev⟩ := hs i _ hi'
      refine .inr ⟨w3, fun H' => Gr [s, c] (minus H1 O) H' ∧ (∀ o ∈ O, ∀ ys, H1 o = some (.lst ys) → H' o = some (.lst ys)) ∧ H' D = some (.dK ((fillS kf vf (ds.take (i + 1))).map eK)) ∧ Src s c n1 H',
        fun H' ⟨q1, q2, q3, q4⟩ => ⟨ds.length - (i + 1), by omega, q1, q2, q3, q4, hlt, rfl⟩, fun x H3 hy => ?_⟩
      obtain ⟨g3, s3, r3⟩ := w4 x H3 hy
      have st3 := st.next g3 (s3 _ s2)
      have rx : Rep K (O ++ (D :: M0)) H3 ds[i] x := r3.mono fun a ha => by
        simp only [List.mem_append, List.mem_cons] at ha ⊢
        rcases ha with z | z | z
        · exact .inl (.inr z)
        · exact .inl (.inl z)
        · exact .inr z
      refine eg (D :: M0) (minus H2 O) O n1 (L2.wipe σ vs) H3 x _ st3 rx fun σ2 st4 hw => ⟨?_, ?_⟩
      · rw [hw vs hj, wipe_wipe σ vs vs fun u hu => hu]
      · unfold tYes
        dsimp only
        rw [if_pos rfl]
        refine ek (D :: M0) (minus H2 O) O σ2 H3 _ st4 fun y H4 d4 g4 s4 r4 p4 => ev (D :: M0) (minus H2 O) O σ2 H4 _ (st4.next g4 s4) fun z H5 d5 g5 s5 r5 p5 => ?_
        subst p4
        subst p5
        have r4 : y = .str (kf ds[i]) := r4
        have r5 : z = .int (vf ds[i]) := r5
        subst r4
        subst r5
        have g25 := (g3.trans g4).trans g5
        have fl := fill_len kf vf (ds.take i) []
        have tl : (ds.take i).length ≤ 1000 := by rw [List.length_take]; omega
        refine ⟨(fillS kf vf (ds.take i)).map eK, .inr (kf ds[i]), rfl, g25 D _ eD (.inl hDs), small1000 (by rw [List.length_map]; unfold fillS; simp only [List.length_nil] at fl; omega), (gr2.trans g25).put ?_, fun o ho ys e => ?_, ?_, s5.put ?_ ?_⟩
        · rw [minus_out hDO]; exact hD
        · rw [upd_ne (fun z => hDO (by rw [← z]; exact ho))]
          exact g25 o _ (ow2 o ho ys e) (.inl (not_two (I.fr o ho).2.1 (I.fr o ho).2.2))
        · rw [upd_same, put_eK, fill_snoc kf vf ds i _ hi']
        · exact fun z => hDs (by rw [z]; exact List.mem_cons_self)
        · exact fun z => hDs (by rw [z]; exact List.mem_cons_of_mem _ List.mem_cons_self)
    · have e : i = ds.length := by omega
      subst e
      refine .inl ⟨w1, ?_⟩
      rw [List.take_length] at eD
      have gF : Gr [s, c] H H2 := fun a o e m => by
        have e1 := g1 a o e m
        by_cases z : a ∈ O
        · obtain ⟨ys, hy⟩ := I1.lst a z
          rw [hy] at e1; cases e1
          exact ow2 a z ys hy
        · exact gr2 a o (by rw [minus_out z]; exact e1) m
      have hDH : H D = none := g1.none hD hDs
      exact k D H2 _ hDH gF s2 eD rfl
end
/-- a def whose result is a new dict -/
def PrDk (K : PySem.W.Frag) (pre : Addr → Addr → List D → Prop) (val : List D → List (Str × Int) → Prop) : Sp := fun vs H Q _ => ∃ s c M n ds, s ∈ M ∧ c ∈ M ∧ (∀ a ∈ M, ∃ o, H a = some o) ∧ Src s c n H ∧ n ≤ 2 ^ 40 ∧ RepL K M H ds vs ∧ pre s c ds ∧
  ∀ p H' ps, H p = none → Gr [s, c] H H' → Src s c n H' → H' p = some (.dK (ps.map eK)) → val ds ps → Q (.ref p) H'
theorem prdk_len {K : PySem.W.Frag} {pre : Addr → Addr → List D → Prop} {m : Nat} {val : List D → List (Str × Int) → Prop} {vs : List V} {H : Hp} {Q : VK} {E : XK} (h : PrDk K pre val vs H Q E) (hp : ∀ s c ds, pre s c ds → ds.length = m) : vs.length = m := by
  obtain ⟨s, c, M, n, ds, _, _, _, _, _, rl, h7, _⟩ := h
  rw [← rl.length]
  exact hp s c ds h7
/-- the body of such a def: return {..} -/
theorem body_okD {K : PySem.W.Frag} {N : List Str} {te : TE} {pre : Addr → Addr → List D → Prop} {val : List D → List (Str × Int) → Prop} {vs : List V} {H : Hp} {Q : VK} {E : XK} (h : PrDk K pre val vs H Q E)
    (hb : ∀ s c n ds, n ≤ 2 ^ 40 → pre s c ds → EvDk K s c te (slots N.length ds) n n (fun ps => val ds ps)) : tRet te { nx := fun _ H' => Q .non H', rt := Q } (L2.start N vs) H := by
  obtain ⟨s, c, M, n, ds, h1, h2, h3, h4, h5, h6, h7, q⟩ := h
  refine hb s c n ds h5 h7 M H [] (L2.start N vs) H _ ⟨⟨h1, h2⟩, fun a ha => .inr (.inr (h3 a ha)), h4, Gr.refl _ _, fun o ho => by simp at ho, List.nodup_nil, ?_⟩ fun p H' ps hp g sr e hv => q p H' ps hp g sr e hv
  unfold slots L2.start
  rw [h6.length]
  exact sl_start h6
/-- a def whose result is a new list -/
def PrNl (K : PySem.W.Frag) (pre : Addr → Addr → List D → Prop) (k : Nat) (val : Addr → Addr → List D → List D → Prop) : Sp := fun vs H Q _ => ∃ s c M n ds, s ∈ M ∧ c ∈ M ∧ (∀ a ∈ M, ∃ o, H a = some o) ∧ Src s c n H ∧ n + k ≤ 2 ^ 40 ∧ RepL K M H ds vs ∧ pre s c ds ∧
  ∀ p H' xs es, Gr [s, c] H H' → Src s c (n + k) H' → H p = none → H' p = some (.lst xs) → RepL K (p :: M) H' es xs → val s c ds es → Q (.ref p) H'
theorem prnl_len {K : PySem.W.Frag} {pre : Addr → Addr → List D → Prop} {k m : Nat} {val : Addr → Addr → List D → List D → Prop} {vs : List V} {H : Hp} {Q : VK} {E : XK} (h : PrNl K pre k val vs H Q E) (hp : ∀ s c ds, pre s c ds → ds.length = m) : vs.length = m := by
  obtain ⟨s, c, M, n, ds, _, _, _, _, _, rl, h7, _⟩ := h
  rw [← rl.length]
  exact hp s c ds h7
/-- statements whose last one returns an own list -/
def EvSN (K : PySem.W.Frag) (s c : Addr) (ts : TS) (ρ : List Sl) (n : Nat) (R : List D → Nat → Prop) : Prop := ∀ M0 H0 O σ H (Rt : VK) (Nx : L2.St → Hp → Prop), Ok K s c M0 H0 O ρ n σ H →
  (∀ p H' xs es m, Gr [s, c] H0 H' → Src s c m H' → H0 p = none → H' p = some (.lst xs) → RepL K (p :: M0) H' es xs → R es m → Rt (.ref p) H') → ts { nx := Nx, rt := Rt } σ H
section
variable {K : PySem.W.Frag} {s c : Addr} {ρ : List Sl} {n n1 : Nat} {t u : TS} {R : List D → Nat → Prop}
theorem sn_seq {N : List Sl → Nat → Prop} (h : EvS K s c t ρ n ⟨N, fun _ _ => False, fun _ _ => False, fun _ _ => False⟩) (hu : ∀ ρ1 n1, N ρ1 n1 → EvSN K s c u ρ1 n1 R) : EvSN K s c (tSeq t u) ρ n R := fun M0 H0 O σ H Rt Nx I k =>
  h M0 H0 O σ H _ I ⟨fun O' ρ' n' σ' H' J q => hu ρ' n' q M0 H0 O' σ' H' Rt Nx J k, fun _ _ _ _ _ _ _ z => z.elim, fun _ _ _ _ _ _ z => z.elim, fun _ _ _ _ _ _ z => z.elim⟩
theorem sn_ret {i : Nat} {l : List D} (e : ρ[i]? = some (.ow l)) (r : R l n) : EvSN K s c (tRet (tVar i)) ρ n R := fun M0 H0 O σ H Rt Nx I k => by
  obtain ⟨p, xs, hp, e2, hx, rl⟩ := I.sl.own e
  refine ⟨.ref p, e2, k p H xs l n I.gr I.src (I.fr p hp).1 hx (rl.mono fun a ha => ?_) r⟩
  rcases List.mem_cons.mp ha with rfl | ha
  · exact List.mem_append_left _ hp
  · exact List.mem_append_right _ ha
theorem body_okN {N : List Str} {t : TS} {pre : Addr → Addr → List D → Prop} {k : Nat} {val : Addr → Addr → List D → List D → Prop} {vs : List V} {H : Hp} {Q : VK} {E : XK} (h : PrNl K pre k val vs H Q E)
    (hb : ∀ s c n ds, n + k ≤ 2 ^ 40 → pre s c ds → EvSN K s c t (slots N.length ds) n (fun es m => m ≤ n + k ∧ val s c ds es)) : t { nx := fun _ H' => Q .non H', rt := Q } (L2.start N vs) H := by
  obtain ⟨s, c, M, n, ds, h1, h2, h3, h4, h5, h6, h7, q⟩ := h
  refine hb s c n ds h5 h7 M H [] (L2.start N vs) H _ _ ⟨⟨h1, h2⟩, fun a ha => .inr (.inr (h3 a ha)), h4, Gr.refl _ _, fun o ho => by simp at ho, List.nodup_nil, ?_⟩ fun p H' xs es m g sr hp e rl hr => q p H' xs es g (sr.mono hr.1) hp e rl hr.2
  unfold slots L2.start
  rw [h6.length]
  exact sl_start h6
/-- a call of a def whose result is a new list -/
theorem en_defN {pre : Addr → Addr → List D → Prop} {k : Nat} {val : Addr → Addr → List D → List D → Prop} {ta : TA} {A : List D → Prop} (ha : EvA K s c ta ρ n n1 A) (hn : n1 + k ≤ 2 ^ 40) (hp : ∀ l, A l → pre s c l) : EvN K s c (tCall (PrNl K pre k val) [] E0 ta) ρ n (n1 + k) (fun es => ∃ l, A l ∧ val s c l es) := fun M0 H0 O σ H Q I q =>
  ha M0 H0 O σ H _ I fun vs H1 ds g1 s1 r1 p1 => ⟨s, c, O ++ M0, n1, ds, List.mem_append_right _ I.ms.1, List.mem_append_right _ I.ms.2, (I.next g1 s1).thereA, s1, hn, by rw [List.append_nil]; exact r1, hp ds p1, fun p H2 xs es g2 s2 h2 e2 rl hv => q p H2 es xs (g1.trans g2) s2 (g1.none h2 fun z => (I.next g1 s1).new_out h2 ((I.next g1 s1).sub _ z)) e2 rl ⟨ds, p1, hv⟩⟩
/-- an instance with flat fields, made where an own list is read -/
theorem ev_thawI {i : Nat} {l : List D} {te : TE} {P : D → Prop} (e : ρ[i]? = some (.ow l)) (h : EvE K s c te (ρ.set i (.va (.lst l))) n n1 P) (hf : ∀ d, P d → ∃ C ks fs, d = .ins C ks fs ∧ flatL fs = true) (no : i < ρ.length) : EvE K s c te ρ n n1 P := fun M0 H0 O σ H Q I k => by
  obtain ⟨p, xs, hp, e2, hx, rl⟩ := I.sl.own e
  obtain ⟨O', sub, J⟩ := I.freeze e
  refine h M0 H0 O' σ H Q J fun v H' d g hs r pd => ?_
  obtain ⟨C, ks, fs, rfl, fl⟩ := hf d pd
  refine k v H' _ g hs ?_ pd
  obtain ⟨a, dx, gs, rfl, ma, ea, hk, rf⟩ := r
  refine ⟨a, dx, gs, rfl, fun z => ?_, ea, hk, RepL.flat rf fl⟩
  rcases List.mem_append.mp z with z | z
  · obtain ⟨ys, hy⟩ := I.lst a z
    have : H' a = some (.lst ys) := g a _ hy (.inl (not_two (I.fr a z).2.1 (I.fr a z).2.2))
    rw [ea] at this
    cases this
  · exact ma (List.mem_append_right _ z)
end
/-- a dict from texts, as data -/
def dZ (vs : List Str) (ds : List D) : D := .dct (vs.map .inr) ds
def getZ : List Str → List D → Str → D
  | v :: vs, d :: ds, t => if v = t then d else getZ vs ds t
  | _, _, _ => .non
theorem merge_nodup : ∀ (kvs acc : List (Key × V)), ((acc ++ kvs).map (·.1)).Nodup → mergeK acc kvs = acc ++ kvs
  | [], acc, _ => by rw [List.append_nil]; rfl
  | kv :: kvs, acc, h => by
    have no : (acc.any fun x => decide (x.1 = kv.1)) = false := by
      rw [List.any_eq_false]
      intro x hx
      rw [decide_eq_true_eq]
      intro e
      rw [List.map_append, List.nodup_append] at h
      exact h.2.2 x.1 (List.mem_map.mpr ⟨x, hx, rfl⟩) kv.1 (List.mem_map.mpr ⟨kv, List.mem_cons_self, rfl⟩) e
    have e : putK acc kv.1 kv.2 = acc ++ [kv] := by
      unfold putK
      rw [if_neg (by rw [no]; exact Bool.false_ne_true)]
    show mergeK (putK acc kv.1 kv.2) kvs = _
    rw [e, merge_nodup kvs (acc ++ [kv]) (by rw [List.append_assoc]; exact h), List.append_assoc]
    rfl
section
variable {K : PySem.W.Frag} {s c : Addr} {ρ : List Sl} {n n1 n2 : Nat} {te ty : TE} {ta : TA}
theorem zip_parts : ∀ {vs : List Str} {ys : List V}, vs.length = ys.length → ((vs.map (Sum.inr : Str → Key)).zip ys).map (·.1) = vs.map Sum.inr ∧ ((vs.map (Sum.inr : Str → Key)).zip ys).map (·.2) = ys
  | [], [], _ => ⟨rfl, rfl⟩
  | v :: vs, y :: ys, h => by
    obtain ⟨h1, h2⟩ := zip_parts (vs := vs) (ys := ys) (by simpa using h)
    exact ⟨by rw [List.map_cons, List.zip_cons_cons, List.map_cons, h1], by rw [List.map_cons, List.zip_cons_cons, List.map_cons, h2]⟩
  | [], _ :: _, h => by simp at h
  | _ :: _, [], h => by simp at h
theorem kV_strs : ∀ vs : List Str, (vs.map (Sum.inr : Str → Key)).map kV = vs.map V.str
  | [] => rfl
  | v :: vs => by rw [List.map_cons, List.map_cons, List.map_cons, kV_strs vs]; rfl
/-- dict(zip(vs, ds)) -/
theorem ev_dz {vs : List Str} {ds : List D} (h : EvA K s c ta ρ n n1 (fun l => l = [.tup (dStrs vs), .tup ds])) (nd : vs.Nodup) (len : vs.length = ds.length) : EvE K s c (tFrz (tDZ K ta)) ρ n n1 (fun d => d = dZ vs ds) := fun M0 H0 O σ H Q I k =>
  h M0 H0 O σ H _ I fun xs H1 l g1 s1 r1 e1 => by
    subst e1
    obtain ⟨x, y, rfl, ⟨a, zs, rfl, sa, ra⟩, ⟨b, ys, rfl, sb, rb⟩⟩ := r1.inv2
    rw [dStrs_rep ra] at sa
    have lenY : ys.length = ds.length := rb.length.symm
    refine ⟨a, b, vs.map .inr, ys, rfl, by rw [kV_strs]; exact sa, sb, by rw [List.length_map]; omega, fun p hp => ⟨p, _, rfl, upd_same, trivial, fun od => ?_⟩⟩
    obtain ⟨z1, z2⟩ := zip_parts (vs := vs) (ys := ys) (by omega)
    have em : mergeK [] ((vs.map (Sum.inr : Str → Key)).zip ys) = (vs.map Sum.inr).zip ys := by
      have := merge_nodup ((vs.map (Sum.inr : Str → Key)).zip ys) [] (by rw [List.nil_append, z1]; exact List.Pairwise.map _ (fun a b h e => h (Sum.inr.inj e)) nd)
      rw [List.nil_append] at this
      exact this
    rw [em]
    have g2 : ∀ M, Gr M H1 (upd (upd H1 p (.dK ((vs.map Sum.inr).zip ys))) p (.frz od (.dK ((vs.map Sum.inr).zip ys)))) := fun M a' o e _ => by
      rw [upd_ne (ne_of_none e hp), upd_ne (ne_of_none e hp)]
      exact e
    exact k (.ref p) _ (dZ vs ds) (g1.trans (g2 _)) (s1.keep fun a' o e => g2 [] a' o e (.inl (by simp))) ⟨p, od, _, rfl, upd_same, z1, by rw [z2]; exact rb.gr (g2 _)⟩ rfl
theorem val_getZ {M : List Addr} {H : Hp} : ∀ {vs : List Str} {ds : List D} {fs : List (Key × V)} {t : Str}, fs.map (·.1) = vs.map Sum.inr → RepL K M H ds (fs.map (·.2)) → t ∈ vs → ∃ v, valV fs (.inr t) = some v ∧ Rep K M H (getZ vs ds t) v
  | [], _, _, _, _, _, ht => by cases ht
  | v :: vs, [], fs, t, h, r, _ => by
    cases fs with
    | nil => cases h
    | cons f fs => exact r.elim
  | v :: vs, d :: ds, [], t, h, _, _ => by cases h
  | v :: vs, d :: ds, f :: fs, t, h, r, ht => by
    injection h with h1 h2
    have h1 : f.1 = Sum.inr v := h1
    by_cases e : v = t
    · refine ⟨f.2, valV_pos (p := f) (by rw [h1, e]), ?_⟩
      unfold getZ
      rw [if_pos e]
      exact r.1
    · obtain ⟨w, e1, e2⟩ := val_getZ (vs := vs) h2 r.2 (by
        rcases List.mem_cons.mp ht with q | q
        · exact absurd q.symm e
        · exact q)
      refine ⟨w, by rw [valV_neg (p := f) (fun z => e (Sum.inr.inj (h1.symm.trans z)))]; exact e1, ?_⟩
      unfold getZ
      rw [if_neg e]
      exact e2
/-- d[t] -/
theorem ev_getZ {vs : List Str} {ds : List D} {t : Str} (h : EvE K s c te ρ n n1 (fun d => d = dZ vs ds)) (hy : EvE K s c ty ρ n1 n2 (fun d => d = .str t)) (ht : t ∈ vs) : EvE K s c (tDGet te ty) ρ n n2 (fun d => d = getZ vs ds t) := fun M0 H0 O σ H Q I k =>
  h M0 H0 O σ H _ I fun v H1 d g1 s1 r1 e1 => hy M0 H0 O σ H1 _ (I.next g1 s1) fun y H2 d2 g2 s2 r2 e2 => by
    subst e1
    subst e2
    have r2 : y = .str t := r2
    subst r2
    obtain ⟨a, o, fs, rfl, ea, hk, rl⟩ := r1.gr (g2.mono I.sub)
    obtain ⟨w, w1, w2⟩ := val_getZ hk rl ht
    exact ⟨a, w, rfl, .inl ⟨fs, .inr t, .inr ⟨o, ea⟩, rfl, w1.symm⟩, k w H2 _ (g1.trans g2) s2 w2 rfl⟩
/-- list(d.items()) of a new dict -/
theorem ev_listItems {ps : List (Str × Int)} (h : EvDk K s c te ρ n n1 (fun x => x = ps)) : EvE K s c (LiI.tListItems te) ρ n n1 (fun d => d = .lst (ps.map fun p => .tup [.str p.1, .int p.2])) := fun M0 H0 O σ H Q I k =>
  h M0 H0 O σ H _ I fun d H1 x hd g1 s1 ed e1 => by
    subst e1
    refine ⟨d, _, rfl, ed, fun H' p ts up hp new out eL pr => ?_⟩
    have J := I.next g1 s1
    have g2 : ∀ M, Gr M H1 H' := fun M a o e _ => up a o e
    refine k (.ref p) H' (.lst (x.map fun p => .tup [.str p.1, .int p.2])) (g1.trans (g2 _)) (s1.keep fun a o e => up a o e) ⟨p, _, rfl, J.new_out hp, eL, ?_⟩ rfl
    have go : ∀ {ps : List (Str × Int)} {ts : List Addr}, Paired (fun (t : Addr) (q : Key × V) => H' t = some (.tup [kV q.1, q.2])) ts (ps.map eK) → RepL K (O ++ M0) H' (ps.map fun p => .tup [.str p.1, .int p.2]) (ts.map V.ref) := fun {ps} => by
      induction ps with
      | nil =>
        intro ts r
        cases r
        exact trivial
      | cons q ps ih =>
        intro ts r
        cases r with
        | cons r1 r2 => exact ⟨⟨_, _, rfl, .inl (.inl r1), rfl, rfl, trivial⟩, ih r2⟩
    exact go pr
/-- e.f, a property whose result is a new dict -/
theorem ed_prop {C : Addr} {ks : List Str} {l : List D} {E : XK} {pre : Addr → Addr → List D → Prop} {val : List D → List (Str × Int) → Prop} {ps : List (Str × Int)} (h : EvE K s c te ρ n n1 (fun x => x = .ins C ks l)) (hn : n1 ≤ 2 ^ 40) (hp : pre s c [.ins C ks l]) (hq : ∀ qs, val [.ins C ks l] qs → qs = ps) : EvDk K s c (tProp C (PrDk K pre val) [] E te) ρ n n1 (fun x => x = ps) := fun M0 H0 O σ H Q I k =>
  h M0 H0 O σ H _ I fun v H1 x g1 s1 r1 p => by
    subst p
    have J := I.next g1 s1
    have r0 := r1
    obtain ⟨a, dx, fs, rfl, ma, e, hk, rl⟩ := r1
    exact ⟨a, dx, fs, rfl, e, s, c, O ++ M0, n1, [.ins C ks l], List.mem_append_right _ I.ms.1, List.mem_append_right _ I.ms.2, J.thereA, s1, hn, ⟨r0, trivial⟩, hp, fun p H2 qs hp2 g2 s2 e2 hv => k p H2 qs (g1.none hp2 fun z => J.new_out hp2 (J.sub _ z)) (g1.trans g2) s2 e2 (hq qs hv)⟩
end
end Pl
/-! text PlMe -/
set_option Elab.async false
set_option linter.all false
set_option maxRecDepth 100000
set_option maxHeartbeats 4000000
set_option exponentiation.threshold 5000
/-! PlMe: o.m(..), m a method that may raise; text * int; xs[::-1]; l.index(text). -/
namespace Pl
open PySem PySem.Spec PyProof.Rows L2
/-- o.m(..), what is wished of errors hangs on the slots -/
def tMethE (C : Addr) (m : Str) (sp : Sp) (E : L2.St → XK) (ta : TE) (t : TA) : TE := fun σ H Q => ta σ H fun x H1 => ∃ a dx fs, x = .ref a ∧ H1 a = some (.ins C dx fs) ∧ fs.lookup m = none ∧ t σ H1 fun vs H2 => sp (x :: vs) H2 Q (E σ)
section
variable {X : Cx} {CX' : CXT} {k : Nat} {f C : Addr} {sp : Sp} {E : L2.St → XK} {m : Str} {fd : FuncData} {ps : List Str} {o e : Expr} {es : List Expr} {apos pos : Pos} {ta : TE} {t : TA}
theorem pe_methE {pl : Sem Bool} (he : PE X o ta) (c : Cls X.K C) (hm : Meth X.K C m f) (F : FnOk X.prog X.w X.K X.mg X.base CX' k f fd ps sp) (room : Room k X.A) (bnd : Binds X.K fd ps []) (out : ∀ σ, PassesAt CX' X σ (E σ)) (ha : PA X (e :: es) t)
    (hst : starEach (e :: es) X.env = (false, eval e X.env) :: starEach es X.env := by rfl) (hpl : (backTo pos (starEach es X.env)).any (·.1) = false := by rfl)
    (ht : eval (.Call (.Attribute o m apos) (e :: es) [] pos) X.env = (do
      let ov ← eval o X.env
      standAt apos.atName
      let (f, first) ← holding [ov] (getMethod ov m pl)
      callWith pos f first (backTo pos (starEach (e :: es) X.env)) (backToKw pos (keywordEach [] X.env))) := by rfl) :
    PE X (.Call (.Attribute o m apos) (e :: es) [] pos) (tMethE C m sp E ta t) := by
  refine ⟨fun pins s σ H Q I h => ?_⟩
  refine PySem.W.methodCall_KW (pl := pl) (thn (he.run pins s σ H _ I h) fun u s1 z => ?_) ht
  obtain ⟨x, H1, I1, rx, a, dx, fs, ex, ea, l, q⟩ := z
  subst ex
  obtain rfl : u = Value.ref a := rx
  refine getmeth_ok I1 ea c hm l ?_
  refine PySem.W.callWith_K (first := [.ref a]) (h₀ := X.base) I.ok.mod.kin hm.kp (thn (ha.run pos pins s1 σ H1 _ I1 q) fun us s2 z => ?_) hst hpl
  obtain ⟨vs, H2, I2, r, q2⟩ := z
  exact ⟨I2.kIn, wpAny_call (run_at (us := .ref a :: us) (vs := .ref a :: vs) F room bnd (out σ) I2 (.cons rfl r) q2)⟩
theorem fold_size (x : Array Nat) : ∀ (n : Nat) (z : Array Nat), ((List.replicate n x).foldl (· ++ ·) z).size = z.size + n * x.size
  | 0, z => by simp
  | n + 1, z => by
    rw [List.replicate_succ, List.foldl_cons, fold_size x n, Array.size_append, Nat.add_mul, Nat.one_mul]
    omega
theorem fold_mem (x : Array Nat) (q : Nat) : ∀ (n : Nat) (z : Array Nat), q ∈ ((List.replicate n x).foldl (· ++ ·) z).toList → q ∈ z.toList ∨ q ∈ x.toList
  | 0, z, h => .inl h
  | n + 1, z, h => by
    rw [List.replicate_succ, List.foldl_cons] at h
    rcases fold_mem x q n _ h with h | h
    · rw [Array.toList_append] at h
      exact List.mem_append.mp h
    · exact .inr h
/-- text * int: a text of its signs -/
def rMulS : R2 := fun x y H Q => ∃ a k, x = .str a ∧ y = .int k ∧ 0 ≤ k ∧ k ≤ 1000 ∧ a.length ≤ 1000 ∧ ∀ z : Str, z.length ≤ a.length * k.toNat → (∀ q ∈ z.cps.toList, q ∈ a.cps.toList) → Q (.str z) H
theorem op_mulS : OpR X (binaryOp .Mult) rMulS := by
  intro pins s σ H x y v u Q I rx ry h
  obtain ⟨a, k, rfl, rfl, g0, g1, gl, q⟩ := h
  obtain ⟨t, rfl⟩ := rx
  obtain ⟨t', rfl⟩ := ry
  refine P.mul_str (by rw [decide_eq_false (by omega), decide_eq_false (by omega)] <;> rfl) (fun h1 _ => ?_) (fun h1 _ => ?_) ?_
  · have e : (1000 : Int) ≤ (2 ^ 63 - 1) / k := by
      have hk : 0 < k := by omega
      exact (Int.le_ediv_iff_mul_le hk).mpr (by omega)
    omega
  · unfold Builtin.Str.tooLong
    have sl := sizeLine_eq
    have : a.length * k.toNat ≤ 1000 * 1000 := Nat.mul_le_mul gl (by omega)
    exact decide_eq_false (by omega)
  · by_cases h1 : k < 1
    · rw [if_pos h1]
      exact ⟨by decide, ⟨.str _, H, I.tok _, ⟨_, rfl⟩, q _ (Nat.zero_le _) fun q hq => by cases hq⟩⟩
    · rw [if_neg h1]
      by_cases h2 : (k == 1 || a.length == 0) = true
      · rw [if_pos h2]
        refine ⟨.str a, H, I, ⟨t, rfl⟩, q _ ?_ fun q hq => hq⟩
        rw [Bool.or_eq_true, beq_iff_eq, beq_iff_eq] at h2
        rcases h2 with h2 | h2
        · rw [h2]
          exact Nat.le_of_eq (Nat.mul_one _).symm
        · rw [h2]
          exact Nat.zero_le _
      · rw [if_neg h2]
        dsimp only [Made.post]
        have sz : ((List.replicate k.toNat a.cps).foldl (· ++ ·) #[]).size = k.toNat * a.cps.size := by
          rw [fold_size]
          exact Nat.zero_add _
        refine ⟨?_, ⟨.str _, H, I.tok _, ⟨_, rfl⟩, q _ ?_ fun q hq => ?_⟩⟩
        · show ((List.replicate k.toNat a.cps).foldl (· ++ ·) #[]).size ≤ sizeLine
          have sl := sizeLine_eq
          have : k.toNat * a.cps.size ≤ 1000 * 1000 := Nat.mul_le_mul (by omega) gl
          omega
        · show ((List.replicate k.toNat a.cps).foldl (· ++ ·) #[]).size ≤ a.cps.size * k.toNat
          rw [sz, Nat.mul_comm]
          exact Nat.le_refl _
        · rcases fold_mem a.cps q k.toNat #[] hq with h | h
          · cases h
          · exact h
end
section
variable {X : Cx} {K : PySem.W.Frag}
def rMulT (K : PySem.W.Frag) : R2 := fun x y H Q => rMulB K x y H Q ∨ rMulS x y H Q
theorem k_mulT (h : X.K = K := by rfl) : OpR X (binaryOp .Mult) (rMulT K) := by subst h; exact (k_mulB).or op_mulS
theorem k_revL {e : Expr} {te : TE} {k : Nat} {p1 p2 p3 pos : Pos} (he : PE X e te) (h : X.K = K := by rfl) : PE X (.Subscript e (.Slice none none (some (.UnaryOp .USub (.Constant (.int 1) k p1) p2)) p3) pos) (tRevL K te) := by subst h; exact pe_revL he
theorem k_index (h : X.K = K := by rfl) : MtR X "list.index" (rIndex K) := by subst h; exact mt_index
end
section
variable {K : PySem.W.Frag} {s c : Addr} {ρ : List Sl} {n n1 n2 : Nat} {te ta tb : TE} {E : XK} {t : TA}
theorem lookup_no : ∀ {fs : List (Str × V)} {ks : List Str} {m : Str}, fs.map (·.1) = ks → m ∉ ks → fs.lookup m = none
  | [], _, _, _, _ => rfl
  | f :: fs, _, m, h, no => by
    subst h
    rw [List.map_cons, List.mem_cons, not_or] at no
    have e : (m == f.1) = false := beq_eq_false_iff_ne.mpr no.1
    rw [List.lookup_cons, e]
    exact lookup_no rfl no.2
/-- o.m(..) of a method of PrX where it can't raise -/
theorem ev_methX {C : Addr} {m : Str} {ks : List Str} {l : List D} {k : Nat} {pre : Addr → Addr → List D → Prop} {val : List D → D → Prop} {bad : List D → Addr → Prop} {Y : L2.St → XK} {ds : List D} {P : D → Prop} (h : EvE K s c te ρ n n1 (fun x => x = .ins C ks l)) (no : m ∉ ks) (ha : EvA K s c t ρ n1 n2 (fun x => x = ds)) (hn : n2 + k ≤ 2 ^ 40) (hp : pre s c (.ins C ks l :: ds))
    (good : ∀ d, val (.ins C ks l :: ds) d → P d) (never : ∀ CE, ¬ bad (.ins C ks l :: ds) CE) : EvE K s c (tMethE C m (PrX K pre k val bad) Y te t) ρ n (n2 + k) P := fun M0 H0 O σ H Q I kk =>
  h M0 H0 O σ H _ I fun v H1 x g1 s1 r1 p => by
    subst p
    have r0 := r1
    obtain ⟨a, dx, fs, rfl, ma, e, hk, rl⟩ := r1
    refine ⟨a, dx, fs, rfl, e, lookup_no hk no, ha M0 H0 O σ H1 _ (I.next g1 s1) fun vs H2 ds' g2 s2 r2 e2 => ?_⟩
    subst e2
    have J := (I.next g1 s1).next g2 s2
    exact ⟨s, c, O ++ M0, n2, .ins C ks l :: ds', List.mem_append_right _ I.ms.1, List.mem_append_right _ I.ms.2, J.thereA, s2, hn, ⟨r0.gr (g2.mono I.sub), r2⟩, hp, fun u H3 d g3 s3 r3 q => kk u H3 d ((g1.trans g2).trans g3) s3 r3 (good d q), fun CE H3 _ _ hb => (never CE hb).elim⟩
/-- text * int -/
theorem ev_mulS {z : Str} {k : Int} (ha : EvE K s c ta ρ n n1 (fun d => d = .str z)) (hb : EvE K s c tb ρ n1 n2 (fun d => d = .int k)) (h0 : 0 ≤ k) (h1 : k ≤ 1000) (hz : z.length ≤ 1000) : EvE K s c (tOp (rMulT K) ta tb) ρ n n2 (fun d => ∃ y : Str, d = .str y ∧ y.length ≤ z.length * k.toNat ∧ ∀ q ∈ y.cps.toList, q ∈ z.cps.toList) := fun M0 H0 O σ H Q I kk =>
  ha M0 H0 O σ H _ I fun v H1 d g1 s1 r1 p1 => hb M0 H0 O σ H1 _ (I.next g1 s1) fun w H2 e g2 s2 r2 p2 => by
    subst p1
    subst p2
    have r1 : v = .str z := r1
    have r2 : w = .int k := r2
    subst r1
    subst r2
    exact .inr ⟨z, k, rfl, rfl, h0, h1, hz, fun y y1 y2 => kk (.str y) H2 (.str y) (g1.trans g2) s2 rfl ⟨y, rfl, y1, y2⟩⟩
theorem rk_mulT {x y z : D} (h : RK K s c (rMulB K) x y z) : RK K s c (rMulT K) x y z := rk_or1 h
theorem RepL.rev {M : List Addr} {H : Hp} : ∀ {l : List D} {xs : List V}, RepL K M H l xs → RepL K M H l.reverse xs.reverse
  | [], [], _ => trivial
  | d :: l, x :: xs, h => by
    rw [List.reverse_cons, List.reverse_cons]
    exact RepL.app (RepL.rev h.2) ⟨h.1, trivial⟩
  | [], _ :: _, h => h.elim
  | _ :: _, [], h => h.elim
/-- the place of a text -/
theorem mk_index {vs : List Str} {t : Str} (ht : t ∈ vs) : MK K s c "list" (rIndex K) (.lst (dStrs vs)) [.str t] (.int (vs.idxOf t : Nat)) := ⟨ty_lst, fun M n v ws H Q hm hh hs rx r k => by
  obtain ⟨a, xs, rfl, ma, ea, rl⟩ := rx
  obtain ⟨w, rfl, rw'⟩ := r.inv1
  have rw' : w = .str t := rw'
  subst rw'
  have ex := dStrs_rep rl
  subst ex
  have lt : vs.idxOf t < vs.length := List.idxOf_lt_length_of_mem ht
  refine ⟨a, _, .str t, vs.idxOf t, .str t, rfl, rfl, SqL.of ea, rfl, List.all_eq_true.mpr fun x hx => ?_, ?_, ?_, fun m z hm hz => ?_, k _ H (Gr.refl _ _) hs rfl⟩
  · obtain ⟨y, _, rfl⟩ := List.mem_map.mp hx
    rfl
  · rw [List.getElem?_map, List.getElem?_eq_getElem lt, List.getElem_idxOf lt]
    rfl
  · show (t == t) = true
    exact beq_self_eq_true t
  · rw [List.getElem?_map] at hz
    cases q : vs[m]? with
    | none => rw [q] at hz; cases hz
    | some y =>
      rw [q] at hz
      cases hz
      obtain ⟨hl, e⟩ := List.getElem?_eq_some_iff.mp q
      have h2 := List.not_of_lt_findIdx (p := fun x => x == t) (xs := vs) hm
      rw [e] at h2
      exact h2⟩
/-- xs[::-1] -/
theorem ev_revL {l : List D} (h : EvE K s c te ρ n n1 (fun d => d = .lst l)) : EvE K s c (tRevL K te) ρ n n1 (fun d => d = .lst l.reverse) := fun M0 H0 O σ H Q I k =>
  h M0 H0 O σ H _ I fun v H1 d g1 s1 r1 e => by
    subst e
    obtain ⟨a, xs, rfl, ma, ea, rl⟩ := r1
    refine ⟨a, xs, rfl, SqL.of ea, fun p hp => ?_⟩
    refine k (.ref p) _ (.lst l.reverse) (g1.trans (Gr.new hp)) (s1.new hp) ⟨p, _, rfl, (I.next g1 s1).new_out hp, upd_same, ?_⟩ rfl
    exact (RepL.rev rl).gr (Gr.new hp)
end
end Pl
/-! text K14r -/
set_option Elab.async false
set_option linter.all false
set_option maxRecDepth 100000
set_option maxHeartbeats 4000000
set_option exponentiation.threshold 5000
namespace K14
open PySem PySem.Spec PyProof.Rows L2 Pl PlS
open ClX
theorem k_sortD {X : Cx} {K : PySem.W.Frag} (hu : X.A.units + 70 < cLine) (h : X.K = K := by rfl) : CallR X (.builtin "sorted") (rSortD K) := by subst h; exact call_sortD hu
theorem if_yes {b : Bool} {p q : Prop} (e : b = true) (h : p) : if b = true then p else q := by rw [if_pos e]; exact h
theorem if_no {b : Bool} {p q : Prop} (e : b = false) (h : q) : if b = true then p else q := by rw [if_neg (by rw [e]; exact Bool.false_ne_true)]; exact h
theorem plainL_of : ∀ {l : List D}, (∀ d ∈ l, plain d = true) → plainL l = true
  | [], _ => rfl
  | d :: l, h => by
    show (plain d && plainL l) = true
    rw [h d List.mem_cons_self, plainL_of fun e he => h e (List.mem_cons_of_mem _ he)]
    rfl
theorem pyL_map : ∀ l : List D, pyL l = l.map py
  | [] => rfl
  | d :: l => by
    show py d :: pyL l = _
    rw [pyL_map l]
    rfl

/-! ### what rows without an error are -/
def Fresh (rs : List Row) (r : Row) : Prop := clashN rs r = false ∧ clashP rs r = false ∧ clashR rs r = false
def Good3 (rs : List Row) : Prop := (rs.map (·.1)).Nodup ∧ (∀ a ∈ rs, ∀ b ∈ rs, a.2.1 = b.2.1 → a.2.2.length = b.2.2.length) ∧ (rs.map (·.2)).Nodup
def GoodR (rs : List Row) : Prop := (∀ r ∈ rs, okRow r) ∧ Good3 rs ∧ rs.length ≤ 6
theorem good3_perm {a b : List Row} (p : a.Perm b) (h : Good3 a) : Good3 b := ⟨(p.map (·.1)).nodup_iff.mp h.1, fun x hx y hy => h.2.1 x (p.mem_iff.mpr hx) y (p.mem_iff.mpr hy), (p.map (·.2)).nodup_iff.mp h.2.2⟩
theorem good_perm {a b : List Row} (p : a.Perm b) (h : GoodR a) : GoodR b := ⟨fun r hr => h.1 r (p.mem_iff.mpr hr), good3_perm p h.2.1, by rw [← p.length_eq]; exact h.2.2⟩
theorem good3_sub {a b : List Row} (p : a.Sublist b) (h : Good3 b) : Good3 a := ⟨h.1.sublist (p.map _), fun x hx y hy => h.2.1 x (p.mem hx) y (p.mem hy), h.2.2.sublist (p.map _)⟩
theorem good_sub {a b : List Row} (p : a.Sublist b) (h : GoodR b) : GoodR a := ⟨fun r hr => h.1 r (p.mem hr), good3_sub p h.2.1, Nat.le_trans p.length_le h.2.2⟩
theorem nodup_snoc {α : Type} {l : List α} {x : α} : (l ++ [x]).Nodup ↔ l.Nodup ∧ x ∉ l := by
  have : (l ++ [x]).Perm (x :: l) := List.perm_append_comm
  rw [this.nodup_iff, List.nodup_cons]
  exact and_comm
theorem good3_snoc {rs : List Row} {r : Row} : Good3 (rs ++ [r]) ↔ Good3 rs ∧ Fresh rs r := by
  have hN : clashN rs r = false ↔ r.1 ∉ rs.map (·.1) := by
    unfold clashN
    rw [List.any_eq_false, List.mem_map]
    exact ⟨fun h ⟨a, ha, e⟩ => h a ha (decide_eq_true e), fun h a ha e => h ⟨a, ha, of_decide_eq_true e⟩⟩
  have hR : clashR rs r = false ↔ r.2 ∉ rs.map (·.2) := by
    unfold clashR
    rw [List.any_eq_false, List.mem_map]
    exact ⟨fun h ⟨a, ha, e⟩ => h a ha (decide_eq_true e), fun h a ha e => h ⟨a, ha, of_decide_eq_true e⟩⟩
  have hP : clashP rs r = false ↔ ∀ a ∈ rs, a.2.1 = r.2.1 → a.2.2.length = r.2.2.length := by
    unfold clashP
    rw [List.any_eq_false]
    constructor
    · intro h a ha e
      apply Classical.byContradiction
      intro ne
      refine h a ha ?_
      rw [decide_eq_true e, decide_eq_false (by omega)]
      rfl
    · intro h a ha e
      rw [Bool.and_eq_true, decide_eq_true_eq, Bool.not_eq_true', decide_eq_false_iff_not] at e
      exact e.2 (by rw [h a ha e.1])
  unfold Good3 Fresh
  rw [hN, hR, hP, List.map_append, List.map_append]
  show ((rs.map (·.1) ++ [r.1]).Nodup ∧ _ ∧ (rs.map (·.2) ++ [r.2]).Nodup) ↔ _
  rw [nodup_snoc, nodup_snoc]
  constructor
  · rintro ⟨⟨a1, a2⟩, b, c1, c2⟩
    exact ⟨⟨a1, fun x hx y hy => b x (List.mem_append_left _ hx) y (List.mem_append_left _ hy), c1⟩, a2, fun x hx => b x (List.mem_append_left _ hx) r (List.mem_append_right _ List.mem_cons_self), c2⟩
  · rintro ⟨⟨a1, b, c1⟩, a2, b2, c2⟩
    refine ⟨⟨a1, a2⟩, fun x hx y hy e => ?_, c1, c2⟩
    rcases snoc_mem hx with hx | hx
    · rcases snoc_mem hy with hy | hy
      · exact b x hx y hy e
      · rw [hy] at e ⊢
        exact b2 x hx e
    · rcases snoc_mem hy with hy | hy
      · rw [hx] at e ⊢
        exact (b2 y hy e.symm).symm
      · rw [hx, hy]
theorem step_fresh {rs : List Row} {k : Nat} {r : Row} (ok : okRow r) : stepE k rs (dRow r) = none ↔ Fresh rs r := by
  unfold stepE Fresh
  rw [if_neg (by rw [rowB_of ok]; simp), unR_of]
  cases clashN rs r <;> cases clashP rs r <;> cases clashR rs r <;> simp
theorem step_bad {rs : List Row} {k : Nat} {d : D} (h : rowB d = false) : stepE k rs d ≠ none := by
  unfold stepE
  rw [if_pos h]
  exact fun z => nomatch z
theorem step_tup {rs : List Row} {k : Nat} {d e : D} (h : stepE k rs d = some e) : ∃ l, e = .tup l := by
  unfold stepE at h
  split at h
  · cases h; exact ⟨_, rfl⟩
  · split at h
    · cases h; exact ⟨_, rfl⟩
    · split at h
      · cases h; exact ⟨_, rfl⟩
      · split at h
        · cases h; exact ⟨_, rfl⟩
        · cases h
theorem errR_good : ∀ {l : List D} {rs : List Row} {k : Nat}, Good3 rs → (errR rs k l = .non ↔ ∃ qs, l = qs.map dRow ∧ (∀ r ∈ qs, okRow r) ∧ Good3 (rs ++ qs))
  | [], rs, k, g => ⟨fun _ => ⟨[], rfl, fun r hr => (by cases hr), by rw [List.append_nil]; exact g⟩, fun _ => rfl⟩
  | d :: l, rs, k, g => by
    constructor
    · intro h
      cases q : stepE k rs d with
      | some e =>
        rw [errR_hit q] at h
        obtain ⟨l', e'⟩ := step_tup q
        rw [e'] at h
        cases h
      | none =>
        have rb : rowB d = true := by
          cases z : rowB d with
          | true => rfl
          | false => exact absurd q (step_bad z)
        obtain ⟨r, rfl, ok⟩ := row_is rb
        rw [errR_go q] at h
        obtain ⟨qs, rfl, h1, h2⟩ := (errR_good (good3_snoc.mpr ⟨g, (step_fresh ok).mp q⟩)).mp h
        refine ⟨r :: qs, rfl, fun x hx => ?_, by rw [← List.append_cons] at h2; exact h2⟩
        rcases List.mem_cons.mp hx with rfl | hx
        · exact ok
        · exact h1 x hx
    · rintro ⟨qs, e, h1, h2⟩
      cases qs with
      | nil => cases e
      | cons r qs =>
        cases e
        have ok := h1 r List.mem_cons_self
        have g' : Good3 (rs ++ [r]) := good3_sub (List.sublist_append_left (rs ++ [r]) qs) (by rw [List.append_assoc]; exact h2)
        rw [errR_go ((step_fresh ok).mpr (good3_snoc.mp g').2)]
        exact (errR_good g').mpr ⟨qs, rfl, fun x hx => h1 x (List.mem_cons_of_mem _ hx), by rw [List.append_assoc]; exact h2⟩
theorem good_nil : Good3 [] := ⟨List.nodup_nil, fun a ha => (by cases ha), List.nodup_nil⟩
theorem err_good {x : D} : errT x = .non ↔ ∃ rs, seqD x = some (rs.map dRow) ∧ GoodR rs := by
  unfold errT
  cases q : seqD x with
  | none => exact ⟨fun h => (by cases h), fun ⟨rs, e, _⟩ => (by cases e)⟩
  | some l =>
    show (if 6 < (l.length : Int) then E1 "rows" else errR [] 0 l) = .non ↔ _
    by_cases h6 : 6 < (l.length : Int)
    · rw [if_pos h6]
      refine ⟨fun h => (by cases h), fun ⟨rs, e, g⟩ => ?_⟩
      cases e
      have := g.2.2
      rw [List.length_map] at h6
      omega
    · rw [if_neg h6, errR_good good_nil]
      constructor
      · rintro ⟨qs, rfl, h1, h2⟩
        exact ⟨qs, rfl, h1, h2, by rw [List.length_map] at h6; omega⟩
      · rintro ⟨rs, e, g⟩
        cases e
        exact ⟨rs, rfl, g.1, g.2.1⟩
theorem errR_form : ∀ (l : List D) (rs : List Row) (k : Nat), (∃ m, errR rs k l = .tup m) ∨ errR rs k l = .non
  | [], _, _ => .inr rfl
  | d :: l, rs, k => by
    cases q : stepE k rs d with
    | some e =>
      obtain ⟨m, rfl⟩ := step_tup q
      exact .inl ⟨m, errR_hit q⟩
    | none =>
      have e : errR rs k (d :: l) = errR (rs ++ [unR d]) (k + 1) l := by
        show (match stepE k rs d with | some e => e | none => errR (rs ++ [unR d]) (k + 1) l) = _
        rw [q]
      rw [e]
      exact errR_form l _ _
theorem err_form (x : D) : (∃ l, errT x = .tup l) ∨ errT x = .non := by
  unfold errT
  cases seqD x with
  | none => exact .inl ⟨_, rfl⟩
  | some l =>
    show (∃ m, (if 6 < (l.length : Int) then E1 "rows" else errR [] 0 l) = .tup m) ∨ (if 6 < (l.length : Int) then E1 "rows" else errR [] 0 l) = .non
    split
    · exact .inl ⟨_, rfl⟩
    · exact errR_form l [] 0
theorem err_ref {K : PySem.W.Frag} {M : List Addr} {H : Hp} {x : D} {v : V} (h : errT x ≠ .non) (r : Rep K M H (errT x) v) : v ≠ .non := by
  rcases err_form x with ⟨l, e⟩ | e
  · rw [e] at r
    obtain ⟨a, xs, rfl, _⟩ := r
    exact fun z => nomatch z
  · exact absurd e h
/-! ### rows in ascending order -/
theorem rows_inj {as bs : List Row} (h : as.map dRow = bs.map dRow) : as = bs := by
  have := congrArg (List.map unR) h
  rw [List.map_map, List.map_map] at this
  have e : ∀ l : List Row, l.map (unR ∘ dRow) = l := fun l => (List.map_congr_left fun a _ => unR_of a).trans (List.map_id _)
  rwa [e, e] at this
theorem un_rows (as : List Row) : (as.map dRow).map unR = as := by
  rw [List.map_map]
  exact (List.map_congr_left fun a _ => unR_of a).trans (List.map_id _)
theorem py_ints (l : List Int) : (dIs l).map py = l.map PyData.int := by
  unfold dIs
  rw [List.map_map]
  rfl
theorem alike_ints : ∀ a b : List Int, PySem.W.alikeAll (a.map PyData.int) (b.map PyData.int) = true
  | [], _ => by unfold PySem.W.alikeAll; split <;> simp_all
  | _ :: _, [] => by unfold PySem.W.alikeAll; rfl
  | x :: a, y :: b => by
    show (PySem.W.alike (.int x) (.int y) && PySem.W.alikeAll (a.map PyData.int) (b.map PyData.int)) = true
    rw [alike_ints a b]
    rfl
theorem py_row (r : Row) : py (dRow r) = .tuple [.str r.1, .str r.2.1, .tuple (r.2.2.map PyData.int)] := by
  show PyData.tuple [.str r.1, .str r.2.1, .tuple (pyL (dIs r.2.2))] = _
  rw [py_is]
theorem alike_row (a b : Row) : PySem.W.alike (py (dRow a)) (py (dRow b)) = true := by
  rw [py_row, py_row]
  show (PySem.W.alike (.str a.1) (.str b.1) && (PySem.W.alike (.str a.2.1) (.str b.2.1) && (PySem.W.alikeAll (a.2.2.map PyData.int) (b.2.2.map PyData.int) && PySem.W.alikeAll [] []))) = true
  rw [alike_ints]
  rfl
theorem alike_rows (rs : List Row) : PySem.W.AllAlike ((rs.map dRow).map py) := fun d hd e he => by
  obtain ⟨d', hd', rfl⟩ := List.mem_map.mp hd
  obtain ⟨a, _, rfl⟩ := List.mem_map.mp hd'
  obtain ⟨e', he', rfl⟩ := List.mem_map.mp he
  obtain ⟨b, _, rfl⟩ := List.mem_map.mp he'
  exact alike_row a b
theorem sortable_rows (rs : List Row) : PySem.W.Sortable ((rs.map dRow).map py) := .inl fun d hd => by
  obtain ⟨d', hd', rfl⟩ := List.mem_map.mp hd
  obtain ⟨a, _, rfl⟩ := List.mem_map.mp hd'
  exact ⟨_, _, rfl⟩
theorem plain_row (r : Row) : plain (dRow r) = true := by
  show (true && (true && (plainL (dIs r.2.2) && true))) = true
  rw [plain_is]
  rfl
theorem deep_row (r : Row) : (py (dRow r)).depth ≤ 8 := by
  rw [py_row]
  show max 0 (max 0 (max (PyData.depthAll (r.2.2.map PyData.int) + 1) 0)) + 1 ≤ 8
  rw [deep_is]
  decide
def sortR (rs : List Row) : List Row := (ordD (rs.map dRow)).map unR
theorem sortR_of (rs : List Row) : ordD (rs.map dRow) = (sortR rs).map dRow := by
  obtain ⟨bs, _, e⟩ := perm_map dRow (ordD_perm (rs.map dRow)) rs rfl
  unfold sortR
  rw [e, un_rows]
theorem sortR_perm (rs : List Row) : (sortR rs).Perm rs := by
  obtain ⟨bs, p, e⟩ := perm_map dRow (ordD_perm (rs.map dRow)) rs rfl
  unfold sortR
  rw [e, un_rows]
  exact p
theorem eqv_ints : ∀ a b : List Int, PyData.eqvAll (a.map PyData.int) (b.map PyData.int) = decide (a = b)
  | [], [] => rfl
  | [], _ :: _ => rfl
  | _ :: _, [] => rfl
  | x :: a, y :: b => by
    show ((x == y) && PyData.eqvAll (a.map PyData.int) (b.map PyData.int)) = _
    rw [eqv_ints a b, Bool.eq_iff_iff]
    simp
theorem eqv_row (a b : Row) : PyData.eqv (py (dRow a)) (py (dRow b)) = decide (a = b) := by
  rw [py_row, py_row]
  show ((a.1 == b.1) && ((a.2.1 == b.2.1) && (PyData.eqvAll (a.2.2.map PyData.int) (b.2.2.map PyData.int) && true))) = _
  rw [eqv_ints, Bool.eq_iff_iff]
  obtain ⟨a1, a2, a3⟩ := a
  obtain ⟨b1, b2, b3⟩ := b
  simp
theorem sortR_eq {a b : List Row} (p : a.Perm b) : sortR a = sortR b := by
  have e : ordD (a.map dRow) = ordD (b.map dRow) := ordD_uniq (p.map dRow) fun x hx y hy e => by
    obtain ⟨r, _, rfl⟩ := List.mem_map.mp hx
    obtain ⟨q, _, rfl⟩ := List.mem_map.mp hy
    have := eqv_of_toks (alike_row r q) e
    rw [eqv_row, decide_eq_true_eq] at this
    rw [this]
  unfold sortR
  rw [e]
theorem ck_sortR {K : PySem.W.Frag} {s c : Addr} {rs : List Row} : CK K s c (rSortD K) [.lst (rs.map dRow)] (.lst ((sortR rs).map dRow)) := by
  rw [← sortR_of]
  refine ck_sortD (plainL_of fun d hd => ?_) (alike_rows rs) (sortable_rows rs) fun d hd => ?_
  · obtain ⟨b, hb, rfl⟩ := List.mem_map.mp hd
    exact plain_row b
  · obtain ⟨b, hb, rfl⟩ := List.mem_map.mp hd
    exact Nat.le_trans (deep_row b) (by decide)
/-! ### Tables -/
abbrev s_t_init : Stmt := inCls 11 1
theorem sc_t_init : FnScope ["self", "rows", "reason", "name", "table", "values"] ["self", "rows"] (defScope s_t_init) := ⟨rfl, rfl, rfl, by decide +kernel, rfl, by decide +kernel, by decide +kernel⟩
/-- what the top has written of the classes Tables and InvalidTables -/
structure QTxt (K : PySem.W.Frag) (mg : Str → Option Value) (CT fT CE fE : Addr) (dT dE : FuncData) : Prop where
  gE : mg "InvalidTables" = some (.ref CE)
  oE : OexC K CE
  iE : PySem.W.findIn K (.ref CE) "__init__" = some (some (.ref fE))
  tE : PySem.W.typeIn K (.ref fE) = some (.type "function")
  FE : Fun K "__init__" "InvalidTables.__init__" s_iq_init fE dE
  bE : Binds K dE ["self", "reason"] []
  nE : PySem.W.findIn K (.ref CE) "reason" = some none
  kT : Mk K CT fT
  FT : Fun K "__init__" "Tables.__init__" s_t_init fT dT
  bT : Binds K dT ["self", "rows"] []
  cT : Cls K CT
  nR : NoAttr K CT "_rows"
def ksT : List Str := ["_rows"]
def tL (rs : List Row) : List D := [.tup ((sortR rs).map dRow)]
def tI (CT : Addr) (rs : List Row) : D := .ins CT ksT (tL rs)
def preT (CT s c : Addr) (ds : List D) : Prop := ∃ x, ds = [x] ∧ rowsOk CT x
def valT (ds : List D) (l : List D) : Prop := ∃ x rs, ds = [x] ∧ errT x = .non ∧ seqD x = some (rs.map dRow) ∧ GoodR rs ∧ l = tL rs
def badT (CE : Addr) (ds : List D) (C : Addr) (nm : Str) (e : D) : Prop := ∃ x, ds = [x] ∧ errT x ≠ .non ∧ C = CE ∧ nm = "reason" ∧ e = errT x
section
variable {P : Program} {w : World} {K : PySem.W.Frag} {mg : Str → Option Value} {base : Heap} {A : Adr} {CT fT CE fE : Addr} {mcT : Value} {dT dE : FuncData}
theorem ok_t_initN (T : Txt A K mg) (G : CTxt K mg CT mcT) (U : QTxt K mg CT fT CE fE dT dE) : FnOk P w K mg base (L2N.CX P w) 5 fT dT ["self", "rows"] (PrC K CT ksT (preT CT) valT (badT CE)) := by
  have G__tables_error := ok__tables_error (P := P) (w := w) (base := base) T G
  refine okN U.FT sc_t_init (fun vs H Q E h => ?_) (fun cdv A' outer st H vs Q E hr h => have hs70 : _ := (by have := hr.un; omega : (A'.deeper (envOfC "Tables.__init__" (defScope s_t_init) st.heap.objs.size fT cdv)).units + 70 < cLine); ⟨_, (pss_cons (ps_set (i := 2) sc_t_init.nd rfl (by first | exact Or.inl rfl | exact Or.inr rfl) (pe_call G__tables_error (hr.mono (by decide)) (by rfl) T.m__tables_error T.F__tables_error.kp T.b__tables_error .nil pass0 (pa_cons (pv 1) pa_nil)))
      (pss_cons (ps_if (pt_cmp (pc_notN (pv 2)) rfl) (pss_one (L2N.ps_raise rfl (L2N.takes_of rfl rfl rfl rfl) (pmk_oexN U.oE U.iE U.tE (ok_iq_init (K := K) (C := CE) U.FE) (hr.mono (by decide)) U.bE pass0 (by rfl) U.gE (pa_cons (pv 2) pa_nil)))) pss_nil)
      (pss_one (ps_fld (pv 0) (pe_callTy (k_tuple K) (by rfl) T.m_tuple (by decide +kernel) (pa_cons (pe_callB (k_sortD (K := K) hs70) (by rfl) T.m_sorted (by decide +kernel) (pa_cons (pe_lc (own := [("name", 3), ("table", 4), ("values", 5)]) rfl sc_t_init.nd (k_piseq (K := K) (pv 1)) (blkOk_by (N := ["self", "rows", "reason", "name", "table", "values"]) (sc := defScope s_t_init) (by decide +kernel)) (fun _ _ _ _ _ => (k_pgtup K (n := 3) rfl (pgs_cons (pg_name (i := 3) sc_t_init.nd rfl (by first | exact Or.inl rfl | exact Or.inr rfl)) (pgs_cons (pg_name (i := 4) sc_t_init.nd rfl (by first | exact Or.inl rfl | exact Or.inr rfl)) (pgs_cons (pg_name (i := 5) sc_t_init.nd rfl (by first | exact Or.inl rfl | exact Or.inr rfl)) pgs_nil))))) (fun _ _ _ _ _ => pts_nil) (fun _ _ _ _ _ => (pe_tup (pa_cons (pv 3) (pa_cons (pv 4) (pa_cons (pe_callTy (k_tuple K) (by rfl) T.m_tuple (by decide +kernel) (pa_cons (pv 5) pa_nil)) pa_nil)))))) pa_nil)) pa_nil)) rfl)))), ?_⟩)
  · obtain ⟨a, dx, s, c, M, n, ws, ds, rfl, _, _, _, _, _, _, _, _, rl, ⟨x, rfl, _⟩, _⟩ := h
    have := rl.length
    show ws.length + 1 = 2
    rw [← this]
    rfl
  · obtain ⟨a, dx, s, c, M, n, ws, ds, rfl, hm, ha, nas, nac, ht, src, hn, hi, rl, ⟨x, rfl, tx⟩, good, bad⟩ := h
    obtain ⟨vx, rfl, rx⟩ := rl.inv1
    have I0 : Ok K s c M H [] [.va (.obj a), .va x, .no, .no, .no, .no] n (L2.start ["self", "rows", "reason", "name", "table", "values"] [.ref a, vx]) H := ok_now hm ht src ⟨rfl, rx, trivial⟩
    refine ev_defK (z := errT x) (ea_one (ev_var rfl)) hn ⟨x, rfl, tx⟩ (fun d h => by
      obtain ⟨x', e, rfl⟩ := h
      cases e
      rfl) M H [] _ H _ I0 fun v H1 d g1 s1 r1 e1 => ?_
    subst e1
    have r1 : Rep K M H1 (errT x) v := r1
    have i1 : H1 a = some (.ins CT dx []) := g1 a _ hi (.inl (not_two nas nac))
    have t1 := gr_two g1 s1 ht
    have gM := g1.mono (two_sub hm)
    have rx1 : Rep K M H1 x vx := rx.gr gM
    refine ⟨v, rfl, _, rfl, ?_⟩
    by_cases none_ : errT x = .non
    · rw [none_] at r1
      have r1 : v = .non := r1
      subst r1
      obtain ⟨rs, hy, gr⟩ := err_good.mp none_
      have S1 : SlR K M H1 [.va (.obj a), .va x, .va .non, .no, .no, .no] [some (.ref a), some vx, some .non, none, none, none] [] := ⟨rfl, rx1, rfl, trivial⟩
      refine if_no rfl ?_
      refine fld_new (ρ := [.va (.obj a), .va x, .va .non, .no, .no, .no]) (ks := []) (l := []) hm t1 s1 S1 ha nas nac i1 U.cT U.nR rfl (by exact (by decide : (0 : Nat) < 900)) (fun z => nomatch z) trivial rfl (ev_callK (ea_one (ev_callK (ea_one (EvE.imp (EvN.evK (en_mapK (L := rs.map dRow) id (ei_seq (ev_var rfl) hy) rfl (by rw [List.length_map]; have := gr.2.2; omega) fun i d hd' => ?_)) fun d e => ?_))
        (ck_sortR (rs := rs)))) (ck_tuple rfl)) fun H4 f4 k4 g4 s4 t4 S4 i4 l4 => ?_
      · have hd' : (rs.map dRow)[i]? = some d := hd'
        rw [List.getElem?_map] at hd'
        cases q : rs[i]? with
        | none => rw [q] at hd'; cases hd'
        | some b =>
          rw [q] at hd'
          cases hd'
          exact ⟨_, _, eg_tup (egs_cons (eg_name (j := 3) rfl) (egs_cons (eg_name (j := 4) rfl) (egs_cons (eg_name (j := 5) rfl) egs_nil))) rfl, fun j hj => hj, ev_tupE (ea_c (ev_var rfl) (ea_c (ev_var rfl) (ea_one (ev_callK (ea_one (ev_var rfl)) (ck_tuple rfl))))) (by exact (by decide : (3 : Nat) ≤ 1000))⟩
      · rw [List.map_id] at e
        exact e
      exact good (tL rs) H4 f4 ⟨_, rs, rfl, none_, hy, gr, rfl⟩ ((gr_wide g1).trans g4) s4 i4 k4 l4
    · refine if_yes (by rw [decide_eq_false (err_ref none_ r1)]; rfl) ?_
      exact ⟨v, rfl, mk_iq U.oE U.nE fun d hd => bad CE _ _ d H1 v ⟨x, rfl, none_, rfl, rfl, rfl⟩ (gr_wide g1) s1 hd r1⟩
theorem ok_t_init (T : Txt A K mg) (G : CTxt K mg CT mcT) (U : QTxt K mg CT fT CE fE dT dE) : FnOk P w K mg base (L2.CX P w) 5 fT dT ["self", "rows"] (PrC K CT ksT (preT CT) valT (badT CE)) := fnN_fn (ok_t_initN T G U)
end
end K14
/-! text PlQR -/
set_option Elab.async false
set_option linter.all false
set_option maxRecDepth 100000
set_option maxHeartbeats 4000000
set_option exponentiation.threshold 5000
/-! PlQR: as PlQ, by an __init__ that is told by FnR (a star __init__ that may raise), where what is wished of the error hangs on the slots. -/
namespace Pl
open PySem PySem.Spec PyProof.Rows L2
section
variable {X : Cx} {CX : CXT} {k : Nat} {f C : Addr} {sp : Sp} {E : L2.St → XK} {x : Str} {p pos : Pos} {e : Expr} {es : List Expr} {t : TA}
theorem made_atR {pins : List (Addr × Obj)} {σ : L2.St} {G : Hp} {st : Shared} {Q : VK} {us : List Value} {zs : List V} (kit : Mk X.K C f) (ini : FnR X.prog X.w X.K X.mg X.base CX k f sp) (room : Room (k + 1) X.A)
    (out : PassesAt CX X σ (E σ)) (J : Inv X pins σ G st) (rel : Vals zs us)
    (wish : ∀ i d, G i = none → G d = none → d ≠ i → sp (.ref i :: zs) (upd (upd G d (.own i)) i (.ins C d [])) (fun v G2 => v = .non ∧ Q (.ref i) G2) (E σ)) :
    wpAny (model X.prog X.w) X.A (call (.ref C) us) (EP X pins σ Q) X.xe st := by
  have want := wish (st.heap.objs.size + 1) st.heap.objs.size (J.hok.fresh (Nat.le_succ _)) (J.hok.fresh (Nat.le_refl _)) (Nat.ne_of_lt (Nat.lt_succ_self _))
  have J2 := Inv.made (C := C) J
  have rel2 : Vals (V.ref (st.heap.objs.size + 1) :: zs) (Value.ref (st.heap.objs.size + 1) :: us) := .cons rfl rel
  refine wpAny_call (make_map (f := f) J.kIn kit.makes kit.init (beq_iff_eq.mp kit.fn) (codeAny_mono (ini _ X.stack _ _ (Value.ref (st.heap.objs.size + 1) :: us) _ _ (E σ)
    (room.make C us []) (J2.env0.make C us []) rel2 want) fun flow s2 end_ => ?_))
  match flow, end_ with
  | .error u, end_ => exact out pins _ _ u s2 J2 end_
  | .ok (.ret u), end_ =>
    obtain ⟨v, G2, J3, rv, hv, q⟩ := J2.after end_
    subst hv
    exact ⟨rv, ⟨.ref (st.heap.objs.size + 1), G2, J3, rfl, q⟩⟩
  | .ok .next, end_ => exact False.elim end_
  | .ok .brk, end_ => exact False.elim end_
  | .ok .cont, end_ => exact False.elim end_
theorem pe_makeSR (kit : Mk X.K C f) (ini : FnR X.prog X.w X.K X.mg X.base CX k f sp) (room : Room (k + 1) X.A) (hg : Gl X x) (hm : X.mg x = some (.ref C)) (out : ∀ σ, PassesAt CX X σ (E σ))
    (ha : PA X (e :: es) t) (hdb : (x == ("__debug__" : Str)) = false := by decide) (he : starEach (e :: es) X.env = (false, eval e X.env) :: starEach es X.env := by rfl) (hpl : (backTo pos (starEach es X.env)).any (·.1) = false := by rfl) :
    PE X (.Call (.Name x p) (e :: es) [] pos) (tMakeS C sp E t) := ⟨fun pins st σ G Q J h =>
  wpAny_Call_Name_kw (ld_glob J hg hm (PySem.W.callWith_K (h₀ := X.base) J.ok.mod.kin kit.kp (thn (ha.run pos pins st σ G _ J h) fun us s1 z => by
    obtain ⟨zs, G1, J1, rel, q⟩ := z
    exact ⟨J1.kIn, made_atR kit ini room (out σ) J1 rel q⟩) he hpl) hdb)⟩
/-- C(): no argument -/
theorem pe_makeSR0 (kit : Mk X.K C f) (ini : FnR X.prog X.w X.K X.mg X.base CX k f sp) (room : Room (k + 1) X.A) (hg : Gl X x) (hm : X.mg x = some (.ref C)) (out : ∀ σ, PassesAt CX X σ (E σ))
    (hdb : (x == ("__debug__" : Str)) = false := by decide) :
    PE X (.Call (.Name x p) [] [] pos) (tMakeS C sp E tNil) := ⟨fun pins st σ G Q J h =>
  wpAny_Call_Name_kw (ld_glob J hg hm (PySem.W.callWith_K0 J.kIn kit.kp (made_atR kit ini room (out σ) J .nil h)) hdb)⟩
end
end Pl
/-! text PlMR -/
set_option Elab.async false
set_option linter.all false
set_option maxRecDepth 100000
set_option maxHeartbeats 4000000
set_option exponentiation.threshold 5000
/-! PlMR: instances from data by a star __init__ (its one argument is the tuple of the call's arguments), as PlM. -/
namespace Pl
open PySem PySem.Spec PyProof.Rows L2
/-- an __init__(self, *xs) whose body keeps sp -/
def spStar1 (sp : Sp) : Sp := fun vs H Q E => ∃ ws rest, vs = ws ++ rest ∧ ws.length = (["self"] : List Str).length ∧ rest.length ≤ sizeLine ∧ ∀ p, H p = Option.none → sp (ws ++ [V.ref p]) (upd H p (.tup rest)) Q E
section
variable {K : PySem.W.Frag} {s c C : Addr} {ρ : List Sl} {n n1 n2 : Nat} {ks : List Str} {pre : Addr → Addr → List D → Prop} {val : List D → List D → Prop} {bad : List D → Addr → Str → D → Prop} {t : TA} {ds : List D}
theorem star_at {M0 : List Addr} {H0 : Hp} {O : List Addr} {σ : L2.St} {H1 : Hp} {ws : List V} {Q : V → Hp → Prop} {E : XK} {x dx : Addr} (J : Ok K s c M0 H0 O ρ n1 σ H1) (hn : n1 ≤ 2 ^ 40) (few : ds.length ≤ sizeLine) (rl : RepL K (O ++ M0) H1 ds ws) (hp : pre s c [.tup ds]) (nx : H1 x = none) (nd : H1 dx = none) (ne : dx ≠ x)
    (good : ∀ l H', val [.tup ds] l → Gr [s, c] H1 H' → Src s c n1 H' → Rep K (O ++ M0) H' (.ins C ks l) (.ref x) → Q (.ref x) H')
    (err : ∀ CE nm e d H' v, bad [.tup ds] CE nm e → Gr [s, c] H1 H' → Src s c n1 H' → H' d = none → Rep K (O ++ M0) H' e v → E (.ref CE) (some d) (upd H' d (.xd [(nm, v)]))) :
    spStar1 (PrC K C ks pre val bad) (.ref x :: ws) (upd (upd H1 dx (.own x)) x (.ins C dx [])) (fun v H2 => v = .non ∧ Q (.ref x) H2) E := by
  refine ⟨[.ref x], ws, rfl, rfl, by rw [← rl.length]; exact few, fun p np => ?_⟩
  have nx' : upd H1 dx (.own x) x = none := by rw [upd_ne (Ne.symm ne)]; exact nx
  have G0 : Gr (x :: (O ++ M0)) H1 (upd (upd H1 dx (.own x)) x (.ins C dx [])) := (Gr.new nd).trans (Gr.new nx')
  have G1 : Gr (x :: (O ++ M0)) H1 (upd (upd (upd H1 dx (.own x)) x (.ins C dx [])) p (.tup ws)) := G0.trans (Gr.new np)
  have px : x ≠ p := fun z => by
    subst z
    rw [upd_same] at np
    cases np
  have xs : x ≠ s := fun z => by
    obtain ⟨o, e⟩ := J.src.s_some
    rw [← z, nx] at e
    cases e
  have xc : x ≠ c := fun z => by
    obtain ⟨o, e⟩ := J.src.c_some
    rw [← z, nx] at e
    cases e
  refine ⟨x, dx, s, c, x :: (O ++ M0), n1, [.ref p], [.tup ds], rfl, ⟨List.mem_cons_of_mem _ (List.mem_append_right _ J.ms.1), List.mem_cons_of_mem _ (List.mem_append_right _ J.ms.2)⟩, List.mem_cons_self, xs, xc, fun b hb => ?_, ((J.src.new nd).new nx').new np, hn, by rw [upd_ne px]; exact upd_same, ⟨⟨p, ws, rfl, .inl (.inl upd_same), (rl.apart nx).gr G1⟩, trivial⟩, hp,
    fun l H' fs hv g sr hi hk r => ⟨rfl, good l H' hv (gr_made nd nx ((Gr.new np).trans g)) sr ⟨x, dx, fs, rfl, J.new_out nx, hi, hk, r.mono fun b hb => List.mem_cons_of_mem _ hb⟩⟩,
    fun CE nm e d H' v hb g sr hd r => err CE nm e d H' v hb (gr_made nd nx ((Gr.new np).trans g)) sr hd (r.mono fun b hb => List.mem_cons_of_mem _ hb)⟩
  by_cases e : b = x
  · rw [e, upd_ne px]; exact ⟨_, upd_same⟩
  · rcases List.mem_cons.mp hb with z | z
    · exact absurd z e
    · obtain ⟨o, he⟩ := J.thereA b z
      have hb2 : upd (upd H1 dx (.own x)) x (.ins C dx []) b = some o := by rw [upd_ne e, upd_ne (ne_of_none he nd)]; exact he
      exact ⟨o, by rw [upd_ne (ne_of_none hb2 np)]; exact hb2⟩
/-- try: x = C(..) except E as y: suite, by a star __init__ -/
theorem s_tryStar {D : Pn} {cE : Value} {i j : Nat} {ts : Addr → Value → Option Addr → TS} {Wout : WX} (ha : EvA K s c t ρ n n1 (fun l => l = ds)) (hn : n1 ≤ 2 ^ 40) (few : ds.length ≤ sizeLine) (hp : pre s c [.tup ds]) (oj : isOw ρ[j]? = false) (oi : isOw ρ[i]? = false)
    (good : ∀ l, val [.tup ds] l → D.nx (ρ.set j (.va (.ins C ks l))) n1)
    (err : ∀ CE nm e, bad [.tup ds] CE nm e → PySem.W.exmOne K (.ref CE) cE = some true ∧ ∀ x d, EvS K s c (ts x (.ref CE) (some d)) (ρ.set i (.va (.obj x))) n1 ⟨fun ρ' m => isOw ρ'[i]? = false ∧ D.nx (ρ'.set i .no) m, D.rt, fun _ _ => False, fun _ _ => False⟩) :
    EvS K s c (fun Dn σ H => tAsg (tMakeS C (spStar1 (PrC K C ks pre val bad)) (WE (wAs K cE i ts Wout Dn)) t) (gName j) Dn σ H) ρ n D := fun M0 H0 O σ H Dn I G =>
  ha M0 H0 O σ H _ I fun vs H1 l g1 s1 rl e => by
    subst e
    intro x dx nx nd ne
    have J := I.next g1 s1
    refine star_at (Q := fun v H' => gName j v σ H' Dn.nx) J hn few rl hp nx nd ne (fun m H' hv g sr r => ?_) fun CE nm e d H' v hb g sr hd r => ?_
    · exact eg_name oj M0 H0 O n1 σ H' (.ref x) _ (J.next g sr) r fun σ2 J2 _ => G.nx O _ n1 σ2 H' J2 (good m hv)
    · obtain ⟨ex, suite⟩ := err CE nm e hb
      refine ⟨true, ex, fun _ a ha' => ?_, fun q => nomatch q⟩
      have J3 := (J.next g sr).next (Gr.new (o := .xd [(nm, v)]) hd) (sr.new hd)
      refine eg_name (d := .obj a) oi M0 H0 O n1 σ _ (.ref a) (fun σ' H'' => ts a (.ref CE) (some d) { nx := fun σ' H' => Dn.nx (σ'.set i none) H', rt := Dn.rt, bk := fun σ' H' => Dn.bk (σ'.set i none) H', ct := fun σ' H' => Dn.ct (σ'.set i none) H' } σ' H'') J3 rfl fun σ2 J4 _ => ?_
      refine suite a d M0 H0 O σ2 _ _ J4 ⟨fun O' ρ' n' σ' H'' J5 q => ?_, G.rt, fun _ _ _ _ _ _ q => q.elim, fun _ _ _ _ _ _ q => q.elim⟩
      exact G.nx O' _ n' _ H'' ⟨J5.ms, J5.tr, J5.src, J5.gr, J5.fr, J5.nd, J5.sl.off q.1⟩ q.2
end
end Pl
/-! text PlPF -/
set_option Elab.async false
set_option linter.all false
set_option maxRecDepth 100000
set_option maxHeartbeats 4000000
set_option exponentiation.threshold 5000
/-! PlPF: as PlP, PlP2, where the error that may leave has one field. -/
namespace Pl
open PySem PySem.Spec PyProof.Rows L2
/-- from the data of the arguments: a value, or an error with one field -/
def PrF (K : PySem.W.Frag) (pre : Addr → Addr → List D → Prop) (k : Nat) (val : List D → D → Prop) (bad : List D → Addr → Str → D → Prop) : Sp := fun vs H Q E => ∃ s c M n ds, s ∈ M ∧ c ∈ M ∧ (∀ a ∈ M, ∃ o, H a = some o) ∧ Src s c n H ∧ n + k ≤ 2 ^ 40 ∧ RepL K M H ds vs ∧ pre s c ds ∧
  (∀ v H' d, Gr [s, c] H H' → Src s c (n + k) H' → Rep K M H' d v → val ds d → Q v H') ∧ (∀ CE nm e d H' v, bad ds CE nm e → Gr [s, c] H H' → Src s c (n + k) H' → H' d = none → Rep K M H' e v → E (.ref CE) (some d) (upd H' d (.xd [(nm, v)])))
/-- a statement, from which an error with a field may leave -/
def EvSF (K : PySem.W.Frag) (s c : Addr) (E : XK) (R : Addr → Str → D → Nat → Prop) (ts : TS) (ρ : List Sl) (n : Nat) (D : Pn) : Prop := ∀ M0 H0 O σ H (Dn : Ends), Ok K s c M0 H0 O ρ n σ H → Go K s c M0 H0 D Dn →
  (∀ CE nm e d H' v n', R CE nm e n' → Gr [s, c] H0 H' → Src s c n' H' → H' d = none → Rep K M0 H' e v → E (.ref CE) (some d) (upd H' d (.xd [(nm, v)]))) → ts Dn σ H
section
variable {K : PySem.W.Frag} {s c : Addr} {E : XK} {R : Addr → Str → D → Nat → Prop} {ρ : List Sl} {n n1 n2 : Nat} {t u : TS} {D : Pn}
theorem EvS.f (h : EvS K s c t ρ n D) : EvSF K s c E R t ρ n D := fun M0 H0 O σ H Dn I G _ => h M0 H0 O σ H Dn I G
theorem sf_seq {N : List Sl → Nat → Prop} (h : EvSF K s c E R t ρ n { D with nx := N }) (hu : ∀ ρ1 n1, N ρ1 n1 → EvSF K s c E R u ρ1 n1 D) : EvSF K s c E R (tSeq t u) ρ n D := fun M0 H0 O σ H Dn I G w =>
  h M0 H0 O σ H _ I (G.nx' fun O' ρ' n' σ' H' J q => hu ρ' n' q M0 H0 O' σ' H' Dn J G w) w
theorem sf_if {tt : TT} {b : Bool} (h : EvT K s c tt ρ n n1 (fun x => x = b)) (h1 : b = true → EvSF K s c E R t ρ n1 D) (h2 : b = false → EvSF K s c E R u ρ n1 D) : EvSF K s c E R (tIfS tt t u) ρ n D := fun M0 H0 O σ H Dn I G w =>
  h M0 H0 O σ H _ I fun x H1 g1 s1 e => by
    subst e
    have J := (I.next g1 s1)
    cases x with
    | true => exact h1 rfl M0 H0 O σ H1 Dn J G w
    | false => exact h2 rfl M0 H0 O σ H1 Dn J G w
theorem body_okF {N : List Str} {t : TS} {pre : Addr → Addr → List Pl.D → Prop} {k : Nat} {val : List Pl.D → Pl.D → Prop} {bad : List Pl.D → Addr → Str → Pl.D → Prop} {vs : List V} {H : Hp} {Q : VK} {E : XK} (h : PrF K pre k val bad vs H Q E)
    (hb : ∀ s c n ds, n + k ≤ 2 ^ 40 → pre s c ds → EvSF K s c E (fun CE nm e m => m ≤ n + k ∧ bad ds CE nm e) t (slots N.length ds) n ⟨fun _ m => m ≤ n + k ∧ val ds .non, fun d m => m ≤ n + k ∧ val ds d, fun _ _ => False, fun _ _ => False⟩) : t { nx := fun _ H' => Q .non H', rt := Q } (L2.start N vs) H := by
  obtain ⟨s, c, M, n, ds, h1, h2, h3, h4, h5, h6, h7, good, err⟩ := h
  refine hb s c n ds h5 h7 M H [] (L2.start N vs) H _ ⟨⟨h1, h2⟩, fun a ha => .inr (.inr (h3 a ha)), h4, Gr.refl _ _, fun o ho => by simp at ho, List.nodup_nil, ?_⟩ ⟨fun O' ρ' m σ' H' J hp => ?_, fun v H' d m g hs r hp => good v H' d g (hs.mono hp.1) r hp.2, fun _ _ _ _ _ _ hp => hp.elim, fun _ _ _ _ _ _ hp => hp.elim⟩ fun CE nm e d H' v m hp g hs hd r => err CE nm e d H' v hp.2 g (hs.mono hp.1) hd r
  · unfold slots L2.start
    rw [h6.length]
    exact sl_start h6
  · exact good .non H' .non J.gr (J.src.mono hp.1) rfl hp.2
theorem prf_len {pre : Addr → Addr → List Pl.D → Prop} {k m : Nat} {val : List Pl.D → Pl.D → Prop} {bad : List Pl.D → Addr → Str → Pl.D → Prop} {vs : List V} {H : Hp} {Q : VK} (h : PrF K pre k val bad vs H Q E) (hp : ∀ s c ds, pre s c ds → ds.length = m) : vs.length = m := by
  obtain ⟨s, c, M, n, ds, _, _, _, _, _, rl, h7, _⟩ := h
  rw [← rl.length]
  exact hp s c ds h7
/-- return C(..), by a star __init__ that may raise -/
theorem sf_retStar {C : Addr} {ks : List Str} {pre : Addr → Addr → List Pl.D → Prop} {val : List Pl.D → List Pl.D → Prop} {bad : List Pl.D → Addr → Str → Pl.D → Prop} {ta : TA} {ds : List Pl.D} (ha : EvA K s c ta ρ n n1 (fun l => l = ds)) (hn : n1 ≤ 2 ^ 40) (few : ds.length ≤ sizeLine) (hp : pre s c [.tup ds]) (O0 : ∀ σ M H O, SlR K M H ρ σ O → O = [])
    (good : ∀ l, val [.tup ds] l → D.rt (.ins C ks l) n1) (err : ∀ CE nm e, bad [.tup ds] CE nm e → R CE nm e n1) :
    EvSF K s c E R (tRet (StX.tMakeR C (spStar1 (PrC K C ks pre val bad)) E ta)) ρ n D := fun M0 H0 O σ H Dn I G w =>
  ha M0 H0 O σ H _ I fun vs H1 l g1 s1 rl e => by
    subst e
    intro x dx nx nd ne
    have J := I.next g1 s1
    have z : O = [] := O0 _ _ _ _ J.sl
    subst z
    refine star_at (Q := Dn.rt) J hn few rl hp nx nd ne (fun m H' hv g sr r => ?_) fun CE nm e d H' v hb g sr hd r => ?_
    · exact G.rt (.ref x) H' _ n1 (J.gr.trans g) sr r (good m hv)
    · exact w CE nm e d H' v n1 (err CE nm e hb) (J.gr.trans g) sr hd r
end
end Pl
/-! text PlSt -/
set_option Elab.async false
set_option linter.all false
set_option maxRecDepth 100000
set_option maxHeartbeats 4000000
set_option exponentiation.threshold 5000
/-! PlSt: C(*y), an instance by a star call; return C(*y) over data. -/
namespace Pl
open PySem PySem.Spec PyProof.Rows L2
/-- C(*y) -/
def tMakeSt (K : PySem.W.Frag) (C : Addr) (sp : Sp) (E : L2.St → XK) (te : TE) : TE := fun σ H Q => te σ H fun y H1 => ∃ a xs, y = V.ref a ∧ (SqT K H1 a xs ∨ SqL K H1 a xs) ∧ ∀ i d, H1 i = none → H1 d = none → d ≠ i →
  sp (.ref i :: xs) (upd (upd H1 d (.own i)) i (.ins C d [])) (fun v G2 => v = .non ∧ Q (.ref i) G2) (E σ)
section
variable {X : Cx} {CX : CXT} {k : Nat} {f C : Addr} {sp : Sp} {E : L2.St → XK} {x : Str} {p pos sp_ : Pos} {e : Expr} {te : TE}
theorem pe_makeSt (kit : Mk X.K C f) (ini : FnR X.prog X.w X.K X.mg X.base CX k f sp) (room : Room (k + 1) X.A) (hg : Gl X x) (hm : X.mg x = some (.ref C)) (out : ∀ σ, PassesAt CX X σ (E σ))
    (he : PE X e te) (hd : (x == ("__debug__" : Str)) = false := by decide) (hst : starEach [.Starred e sp_] X.env = [(true, eval e X.env)] := by rfl) :
    PE X (.Call (.Name x p) [.Starred e sp_] [] pos) (tMakeSt X.K C sp E te) := by
  refine ⟨fun pins s σ H Q I h => ?_⟩
  refine wpAny_Call_Name_kw (ld_glob I hg hm ?_ hd)
  refine PySem.W.callWith_S (h₀ := X.base) I.ok.mod.kin kit.kp (thn (he.run pins s σ H _ I h) fun v s1 ⟨y, H1, I1, ry, a, xs, ey, hxs, q⟩ => ?_) hst
  subst ey
  obtain rfl : v = Value.ref a := ry
  exact StX.star_any I1 hxs fun us s2 I2 rv => ⟨I2.kIn, made_atR kit ini room (out σ) I2 rv q⟩
end
section
variable {K : PySem.W.Frag} {s c C : Addr} {E : XK} {R : Addr → Str → Pl.D → Nat → Prop} {ρ : List Sl} {n n1 : Nat} {D : Pn} {ks : List Str} {pre : Addr → Addr → List Pl.D → Prop} {val : List Pl.D → List Pl.D → Prop} {bad : List Pl.D → Addr → Str → Pl.D → Prop} {te : TE} {d : Pl.D} {ds : List Pl.D}
/-- return C(*y), by a star __init__ that may raise -/
theorem sf_retSt (he : EvE K s c te ρ n n1 (fun x => x = d)) (hs : seqD d = some ds) (hn : n1 ≤ 2 ^ 40) (few : ds.length ≤ sizeLine) (hp : pre s c [.tup ds]) (O0 : ∀ σ M H O, SlR K M H ρ σ O → O = [])
    (good : ∀ l, val [.tup ds] l → D.rt (.ins C ks l) n1) (err : ∀ CE nm e, bad [.tup ds] CE nm e → R CE nm e n1) :
    EvSF K s c E R (tRet (tMakeSt K C (spStar1 (PrC K C ks pre val bad)) (fun _ => E) te)) ρ n D := fun M0 H0 O σ H Dn I G w =>
  he M0 H0 O σ H _ I fun v H1 x g1 s1 r1 e => by
    subst e
    obtain ⟨l, xs, rfl, sq, rl⟩ := rep_seq hs r1
    refine ⟨l, xs, rfl, sq.symm, fun x dx nx nd ne => ?_⟩
    have J := I.next g1 s1
    have z : O = [] := O0 _ _ _ _ J.sl
    subst z
    refine star_at (Q := Dn.rt) J hn few rl hp nx nd ne (fun m H' hv g sr r => ?_) fun CE nm e d H' v hb g sr hd r => ?_
    · exact G.rt (.ref x) H' _ n1 (J.gr.trans g) sr r (good m hv)
    · exact w CE nm e d H' v n1 (err CE nm e hb) (J.gr.trans g) sr hd r
end
end Pl
/-! text PlTr -/
set_option Elab.async false
set_option linter.all false
set_option maxRecDepth 100000
set_option maxHeartbeats 4000000
set_option exponentiation.threshold 5000
/-! PlTr: a def of PrF (a value, or an error with one field) called in a try. -/
namespace Pl
open PySem PySem.Spec PyProof.Rows L2
section
variable {K : PySem.W.Frag} {s c : Addr} {ρ : List Sl} {n n1 : Nat} {k : Nat} {pre : Addr → Addr → List D → Prop} {val : List D → D → Prop} {bad : List D → Addr → Str → D → Prop} {t : TA} {ds : List D}
theorem prf_at {M0 : List Addr} {H0 : Hp} {O : List Addr} {σ : L2.St} {H1 : Hp} {ws : List V} {Q : VK} {E : XK} (J : Ok K s c M0 H0 O ρ n1 σ H1) (hn : n1 + k ≤ 2 ^ 40) (rl : RepL K (O ++ M0) H1 ds ws) (hp : pre s c ds)
    (good : ∀ v H' d, Gr [s, c] H1 H' → Src s c (n1 + k) H' → Rep K (O ++ M0) H' d v → val ds d → Q v H')
    (err : ∀ CE nm e d H' v, bad ds CE nm e → Gr [s, c] H1 H' → Src s c (n1 + k) H' → H' d = none → Rep K (O ++ M0) H' e v → E (.ref CE) (some d) (upd H' d (.xd [(nm, v)]))) :
    PrF K pre k val bad ws H1 Q E :=
  ⟨s, c, O ++ M0, n1, ds, List.mem_append_right _ J.ms.1, List.mem_append_right _ J.ms.2, J.thereA, J.src, hn, rl, hp, good, err⟩
/-- try: f(..) except E as y: suite -/
theorem s_tryCall {D : Pn} {cE : Value} {i : Nat} {ts : Addr → Value → Option Addr → TS} {Wout : WX} (ha : EvA K s c t ρ n n1 (fun l => l = ds)) (hn : n1 + k ≤ 2 ^ 40) (hp : pre s c ds) (oi : isOw ρ[i]? = false)
    (good : ∀ d, val ds d → D.nx ρ (n1 + k))
    (err : ∀ CE nm e, bad ds CE nm e → PySem.W.exmOne K (.ref CE) cE = some true ∧ ∀ x d, EvS K s c (ts x (.ref CE) (some d)) (ρ.set i (.va (.obj x))) (n1 + k) ⟨fun ρ' m => isOw ρ'[i]? = false ∧ D.nx (ρ'.set i .no) m, D.rt, fun _ _ => False, fun _ _ => False⟩) :
    EvS K s c (fun Dn σ H => tDrop (tCallS (PrF K pre k val bad) (WE (wAs K cE i ts Wout Dn)) t) Dn σ H) ρ n D := fun M0 H0 O σ H Dn I G =>
  ha M0 H0 O σ H _ I fun vs H1 l g1 s1 rl e => by
    subst e
    have J := I.next g1 s1
    refine prf_at (Q := fun _ H' => Dn.nx σ H') J hn rl hp (fun v H' d g sr r hv => ?_) fun CE nm e d H' v hb g sr hd r => ?_
    · exact G.nx O _ _ σ H' (J.next g sr) (good d hv)
    · obtain ⟨ex, suite⟩ := err CE nm e hb
      refine ⟨true, ex, fun _ a ha' => ?_, fun q => nomatch q⟩
      have J3 := (J.next g sr).next (Gr.new (o := .xd [(nm, v)]) hd) (sr.new hd)
      refine eg_name (d := .obj a) oi M0 H0 O _ σ _ (.ref a) (fun σ' H'' => ts a (.ref CE) (some d) { nx := fun σ' H' => Dn.nx (σ'.set i none) H', rt := Dn.rt, bk := fun σ' H' => Dn.bk (σ'.set i none) H', ct := fun σ' H' => Dn.ct (σ'.set i none) H' } σ' H'') J3 rfl fun σ2 J4 _ => ?_
      refine suite a d M0 H0 O σ2 _ _ J4 ⟨fun O' ρ' n' σ' H'' J5 q => ?_, G.rt, fun _ _ _ _ _ _ q => q.elim, fun _ _ _ _ _ _ q => q.elim⟩
      exact G.nx O' _ n' _ H'' ⟨J5.ms, J5.tr, J5.src, J5.gr, J5.fr, J5.nd, J5.sl.off q.1⟩ q.2
end
end Pl
/-! text PlBo -/
set_option Elab.async false
set_option linter.all false
set_option maxRecDepth 100000
set_option maxHeartbeats 4000000
/-! PlBo: x op y, both own instances of one class with a def for op. -/
namespace Pl
open PySem PySem.Spec PySem.Calls PySem.W PyProof.Rows
section
variable {prog : Program} {w : World} {A : Around} {E : Value → Shared → Prop} {s : Shared} {K : PySem.W.Frag} {x y C f : Addr} {ox oy : Obj} {od od' : Option Obj}
theorem bin_own {op : Operator} {Q : Value → Shared → Prop} (X : K.In s.heap) (I : InstAt s.heap x ox C od) (J : InstAt s.heap y oy C od') (hc : selfFirst K C = true)
    (hs : findIn K (.ref C) (PySem.dunder op.info.2) = some (some (.ref f))) (hf : isFn K (.ref f) = true)
    (h : wpAny (model prog w) A (call (.ref f) [.ref x, .ref y]) (PySem.W.CmpBack Q) E s) : wpAny (model prog w) A (binaryOp op (.ref x) (.ref y)) Q E s := by
  obtain ⟨cd, rest, hcd, hm⟩ := ksp_first hc
  rcases hi : op.info with ⟨sym, nm'⟩
  rw [hi] at hs
  dsimp only at hs
  have one := ksp_try X I hs hf h
  obtain ⟨hh, g, d, tt, os⟩ := s
  have L1 : Looks (model prog w) hh (typeOf (.ref x)) (.ref C) := I.type
  have L2 : Looks (model prog w) hh (typeOf (.ref y)) (.ref C) := J.type
  have L3 : Looks (model prog w) hh (fillsNumberSlot (.ref C) nm') true := fills_K X hcd hm hs
  simp only [binaryOp, hi]
  refine wpAny_holding (wpAny_bind ?_)
  unfold binaryOp1
  refine wpAny_bind (L1.at (wpAny_bind (L2.at (wpAny_bind (L3.at ?_)))))
  simp only [beq_self_eq_true, if_true]
  ksp_lk
  refine wpAny_mono one (fun r s' hr' => ?_) fun _ _ e => e
  obtain ⟨v, rfl, hq⟩ := hr'
  ksp_lk
  exact hq
end
end Pl
/-! text PlBo2 -/
set_option Elab.async false
set_option linter.all false
set_option maxRecDepth 100000
set_option maxHeartbeats 4000000
/-! PlBo2: x op y of two own instances of one class, whose def may raise (what is wished of the error hangs on the slots). -/
namespace Pl
open PySem PySem.Spec PyProof.Rows L2
def tBinS (C : Addr) (sp : Sp) (E : L2.St → XK) (ta tb : TE) : TE := fun σ H Q => ta σ H fun x H1 => tb σ H1 fun y H2 => ∃ a dx fs b dy gs, x = .ref a ∧ H2 a = some (.ins C dx fs) ∧ y = .ref b ∧ H2 b = some (.ins C dy gs) ∧
  sp [x, y] H2 (fun v H3 => ∃ p, v = .ref p ∧ Q (.ref p) H3) (E σ)
section
variable {X : Cx} {CX' : CXT} {k : Nat} {f C : Addr} {fd : FuncData} {ps : List Str} {sp : Sp} {E : L2.St → XK} {ea eb : Expr} {op : Operator} {pos : Pos} {ta tb : TE}
theorem pe_binS (ha : PE X ea ta) (hb : PE X eb tb) (F : FnOk X.prog X.w X.K X.mg X.base CX' k f fd ps sp) (room : Room k X.A) (first : PySem.W.selfFirst X.K C = true) (has : PySem.W.findIn X.K (.ref C) (PySem.dunder op.info.2) = some (some (.ref f))) (hf : PySem.W.isFn X.K (.ref f) = true)
    (bnd : Binds X.K fd ps []) (out : ∀ σ, PassesAt CX' X σ (E σ)) : PE X (.BinOp ea op eb pos) (tBinS C sp E ta tb) := by
  refine ⟨fun pins st σ G Q J h => ?_⟩
  refine wpAny_BinOp (binT ha hb J h fun v u s2 x y G2 J2 rx ry z => ?_)
  obtain ⟨a, dx, fs, b, dy, gs, rfl, ia, rfl, ib, wish⟩ := z
  obtain rfl : v = .ref a := rx
  obtain rfl : u = .ref b := ry
  obtain ⟨mA, Oa, _⟩ := ins_get J2.hok ia
  obtain ⟨oda, insta, _⟩ := Oa.look
  obtain ⟨mB, Ob, _⟩ := ins_get J2.hok ib
  obtain ⟨odb, instb, _⟩ := Ob.look
  refine bin_own J2.kIn insta instb first has hf (wpAny_mono (wpAny_call (run_at (us := [.ref a, .ref b]) (vs := [.ref a, .ref b]) F room bnd (out σ) J2 (.cons rfl (.cons rfl .nil)) wish)) (fun r s3 z => ?_) fun _ _ z => z)
  obtain ⟨w3, G3, J3, r3, p, rfl, q⟩ := z
  obtain rfl : r = .ref p := r3
  exact ⟨.ref p, G3, J3, rfl, q⟩
end
end Pl
/-! text PlLn -/
set_option Elab.async false
set_option linter.all false
set_option maxRecDepth 100000
set_option maxHeartbeats 4000000
/-! PlLn: != of a list and one of another length, whatever stands in them. -/
namespace Pl
open PySem PySem.Spec PyProof.Rows L2
def rNeLen (K : PySem.W.Frag) : R2 := fun x y H Q => ∃ a b xs ys, x = .ref a ∧ y = .ref b ∧ SqL K H a xs ∧ SqL K H b ys ∧ xs.length ≠ ys.length ∧ Q (.bl true) H
theorem op_neLen {X : Cx} (hu : X.A.units + 64 < cLine) : OpR X (compareOp .NotEq) (rNeLen X.K) := by
  intro pins s σ H x y v u Q I rx ry h
  obtain ⟨a, b, xs, ys, rfl, rfl, ha, hb, hl, q⟩ := h
  obtain rfl : v = .ref a := rx
  obtain rfl : u = .ref b := ry
  obtain ⟨us, r1, p1, _⟩ := I.list ha
  obtain ⟨ws, r2, p2, _⟩ := I.list hb
  have hsz : (us.toArray.size != ws.toArray.size) = true := by
    rw [List.size_toArray, List.size_toArray, ← r1.length, ← r2.length]
    simp [hl]
  obtain ⟨⟨cls, dd, data, sl⟩, ho, hc, n, hd⟩ := id p1.isList
  obtain ⟨⟨cls2, dd2, data2, sl2⟩, ho2, hc2, n2, hd2⟩ := id p2.isList
  simp only at hc hd hc2 hd2
  subst hc hd hc2 hd2
  have ta : s.TypeIs (.ref a) "list" := ⟨_, ho, rfl⟩
  have tb : s.TypeIs (.ref b) "list" := ⟨_, ho2, rfl⟩
  show wpAny (model X.prog X.w) X.A (richCompare .NotEq (.ref a) (.ref b)) (EP X pins σ Q) X.xe s
  exact wpAny_richCompare_same_room (op := .NotEq) ta tb F.slot_list_ne (call_meets F.slot_list_ne ta F.entry_list_ne (F.args_list_ne_2 _ _) (SeqAt.list_ne_lengthsAt a b us.toArray ws.toArray n n2 dd dd2 sl sl2 hsz)
    ⟨ho, ho2, show Value.bool true ≠ Value.notImplemented ∧ EP X pins σ Q (.bool true) s from ⟨(fun x => nomatch x), .bl true, H, I, rfl, q⟩⟩) (by omega)
end Pl
/-! text PlPu -/
set_option Elab.async false
set_option linter.all false
set_option maxRecDepth 100000
set_option maxHeartbeats 4000000
set_option exponentiation.threshold 5000
/-! PlPu: x[i] = .. with a drawn i; instances from arguments that are told by a predicate; calls and operators that can't raise here; len by an own __len__. -/
namespace Pl
open PySem PySem.Spec PyProof.Rows L2
theorem takes_no {X : Cx} : Takes X fun _ _ _ _ => False := fun _ _ ⟨_, _, _, _, _, _, _, _, _, _, _, _, _, _, _, _, z⟩ => z.elim
section
variable {K : PySem.W.Frag} {s c : Addr} {ρ : List Sl} {n n1 n2 : Nat} {te ti : TE} {t : TA} {P PI : D → Prop} {A : List D → Prop}
/-- x[i] = e of an own list, i told by a predicate -/
theorem s_putP {i : Nat} {l : List D} {D : Pn} (e : ρ[i]? = some (.ow l)) (h : EvE K s c te ρ n n1 P) (hi : EvE K s c ti ρ n1 n2 PI) (k : ∀ d, P d → ∀ x, PI x → ∃ (j : Int) (m : Nat), x = .int j ∧ ixN l.length j = some m ∧ D.nx (ρ.set i (.ow (l.set m d))) n2) :
    EvS K s c (tAsg te (gSub (tVar i) ti rSetL)) ρ n D := fun M0 H0 O σ H Dn I G =>
  h M0 H0 O σ H _ I fun v H1 d g s1 r1 p1 => by
    have I1 := I.next g s1
    obtain ⟨p, xs, hp, e2, hx, r⟩ := I1.sl.own e
    refine ⟨.ref p, e2, hi M0 H0 O σ H1 _ I1 fun u H2 d2 g2 s2 r2 p2 => ?_⟩
    obtain ⟨j, m, rfl, hj, nx⟩ := k d p1 d2 p2
    have r2 : u = .int j := r2
    subst r2
    have J := I1.next g2 s2
    have hx2 : H2 p = some (.lst xs) := g2 p _ hx (.inl (not_two (I.fr p hp).2.1 (I.fr p hp).2.2))
    have rr := r.gr (g2.mono I.sub)
    have rd := r1.gr (g2.mono I.sub)
    refine ⟨p, xs, j, m, rfl, rfl, hx2, by rw [← r.length]; exact hj, ?_⟩
    exact G.nx O _ n2 σ _ (J.put e e2 hp (RepL.set rd rr)) nx
section
variable {C : Addr} {ks : List Str} {pre : Addr → Addr → List D → Prop} {val : List D → List D → Prop} {bad : List D → Addr → Str → D → Prop}
theorem ev_makeP {E : XK} (ha : EvA K s c t ρ n n1 A) (hn : n1 ≤ 2 ^ 40) (hp : ∀ l, A l → pre s c l) (hb : ∀ l, A l → ∀ CE nm e, ¬ bad l CE nm e) :
    EvE K s c (tMake C (PrC K C ks pre val bad) [] E t) ρ n n1 (fun d => ∃ l fs, A l ∧ val l fs ∧ d = .ins C ks fs) := fun M0 H0 O σ H Q I k =>
  ha M0 H0 O σ H _ I fun vs H1 l g1 s1 rl e => by
    intro x dx nx nd ne
    rw [List.append_nil]
    exact prc_at (I.next g1 s1) hn rl (hp l e) nx nd ne (fun m H' hv g sr r => k (.ref x) H' _ (g1.trans g) sr r ⟨l, m, e, hv, rfl⟩) fun CE nm e2 _ _ _ z => (hb l e CE nm e2 z).elim
theorem ev_makeStarP {E : L2.St → XK} (ha : EvA K s c t ρ n n1 A) (hn : n1 ≤ 2 ^ 40) (few : ∀ l, A l → l.length ≤ sizeLine) (hp : ∀ l, A l → pre s c [.tup l]) (hb : ∀ l, A l → ∀ CE nm e, ¬ bad [.tup l] CE nm e) :
    EvE K s c (tMakeS C (spStar1 (PrC K C ks pre val bad)) E t) ρ n n1 (fun d => ∃ l fs, A l ∧ val [.tup l] fs ∧ d = .ins C ks fs) := fun M0 H0 O σ H Q I k =>
  ha M0 H0 O σ H _ I fun vs H1 l g1 s1 rl e => by
    intro x dx nx nd ne
    exact star_at (Q := fun v H' => Q v H') (I.next g1 s1) hn (few l e) rl (hp l e) nx nd ne (fun m H' hv g sr r => k (.ref x) H' _ (g1.trans g) sr r ⟨l, m, e, hv, rfl⟩) fun CE nm e2 _ _ _ z => (hb l e CE nm e2 z).elim
end
section
variable {k : Nat} {pre : Addr → Addr → List D → Prop} {val : List D → D → Prop} {bad : List D → Addr → Str → D → Prop}
/-- a call of a def of PrF that can't raise here -/
theorem ev_callF {E : L2.St → XK} {ds : List D} (ha : EvA K s c t ρ n n1 (fun l => l = ds)) (hn : n1 + k ≤ 2 ^ 40) (hp : pre s c ds) (hb : ∀ CE nm e, ¬ bad ds CE nm e) :
    EvE K s c (tCallS (PrF K pre k val bad) E t) ρ n (n1 + k) (fun d => val ds d) := fun M0 H0 O σ H Q I q =>
  ha M0 H0 O σ H _ I fun vs H1 l g1 s1 rl e => by
    subst e
    exact prf_at (I.next g1 s1) hn rl hp (fun v H' d g sr r hv => q v H' d (g1.trans g) sr r hv) fun CE nm e2 _ _ _ z => (hb CE nm e2 z).elim
/-- x op y by an own operator that can't raise here -/
theorem ev_binF {C : Addr} {E : L2.St → XK} {ta tb : TE} {ks ls : List Str} {fs gs : List D} (ha : EvE K s c ta ρ n n1 (fun d => d = .ins C ks fs)) (hb : EvE K s c tb ρ n1 n2 (fun d => d = .ins C ls gs)) (hn : n2 + k ≤ 2 ^ 40) (hp : pre s c [.ins C ks fs, .ins C ls gs]) (bo : ∀ CE nm e, ¬ bad [.ins C ks fs, .ins C ls gs] CE nm e)
    (ins : ∀ d, val [.ins C ks fs, .ins C ls gs] d → ∃ C' ms hs, d = .ins C' ms hs) : EvE K s c (tBinS C (PrF K pre k val bad) E ta tb) ρ n (n2 + k) (fun d => val [.ins C ks fs, .ins C ls gs] d) := fun M0 H0 O σ H Q I q =>
  ha M0 H0 O σ H _ I fun v H1 d1 g1 s1 r1 e1 => hb M0 H0 O σ H1 _ (I.next g1 s1) fun u H2 d2 g2 s2 r2 e2 => by
    subst e1
    subst e2
    have J := (I.next g1 s1).next g2 s2
    have q1 := r1.gr (g2.mono I.sub)
    have q10 := q1
    have q20 := r2
    obtain ⟨a1, dx1, fs1, rfl, _, i1, _, _⟩ := q1
    obtain ⟨a2, dx2, fs2, rfl, _, i2, _, _⟩ := r2
    refine ⟨a1, dx1, fs1, a2, dx2, fs2, rfl, i1, rfl, i2, ?_⟩
    refine prf_at (ds := [.ins C ks fs, .ins C ls gs]) J hn ⟨q10, q20, trivial⟩ hp (fun v H' d g sr r hv => ?_) fun CE nm e2 _ _ _ z => (bo CE nm e2 z).elim
    obtain ⟨C', ms, hs, rfl⟩ := ins d hv
    have r0 := r
    obtain ⟨p, dp, fp, rfl, _, _, _, _⟩ := r
    exact ⟨p, rfl, q (.ref p) H' _ ((g1.trans g2).trans g) sr r0 hv⟩
end
end
theorem rk_neLen {K : PySem.W.Frag} {s c : Addr} {l m : List D} (h : l.length ≠ m.length) : RK K s c (rNeLen K) (.lst l) (.lst m) (.bl true) := fun M n v w H Q hm ht hs rx ry k => by
  obtain ⟨a, xs, rfl, ma, ea, ra⟩ := rx
  obtain ⟨b, ys, rfl, mb, eb, rb⟩ := ry
  exact ⟨a, b, xs, ys, rfl, rfl, .inl (.inl ea), .inl (.inl eb), by rw [← ra.length, ← rb.length]; exact h, k (.bl true) H (Gr.refl _ _) hs rfl⟩
section
theorem len_ownK {prog : Program} {w : World} {A : Around} {E : Value → Shared → Prop} {s : Shared} {K : PySem.W.Frag} {x C f : Addr} {ox : Obj} {od : Option Obj} {Q : Value → Shared → Prop} (X : K.In s.heap) (I : PySem.W.InstAt s.heap x ox C od) (hs : PySem.W.findIn K (.ref C) "__len__" = some (some (.ref f))) (hf : PySem.W.isFn K (.ref f) = true)
    (h : wpAny (model prog w) A.in1 (call (.ref f) [.ref x]) (fun r s' => ∃ n u, r = .int n u ∧ 0 ≤ n ∧ n < 2 ^ 63 ∧ Q (.int n s'.toks) { s' with toks := s'.toks + 1 }) E s) : wpAny (model prog w) A (call (.builtin "len") [.ref x]) Q E s := by
  refine Calls.call_function_entry kind_len plain_len entry_len (args_len1 _) ?_
  unfold Builtin.«len»
  refine wpAny_bind (m := oneArg "len" _) (wpAny_pure ?_)
  refine wpAny_bind (m := callSpecial? (.ref x) (Str.ofString "__len__")) (PySem.W.special_fn X I hs (beq_iff_eq.mp hf) (wpAny_mono h (fun r s' hr => ?_) fun _ _ y => y))
  obtain ⟨n, u, rfl, h0, h1, hq⟩ := hr
  refine wpAny_bind (wpAny_holding (wpAny_pure ?_))
  refine wpAny_bind (wpAny_letGo ?_)
  show wpAny _ _ (if n < 0 then _ else _) _ _ _
  rw [if_neg (by omega)]
  show wpAny _ _ (if n ≥ 2 ^ 63 then _ else _) _ _ _
  rw [if_neg (by omega)]
  exact wpAny_bind (wpAny_mkInt (wpAny_pure ⟨_, rfl, hq⟩))
/-- len(x), x an own instance -/
def rLenI (C : Addr) (sp : Sp) : List V → Hp → VK → Prop := fun xs H Q => ∃ a dx fs, xs = [.ref a] ∧ H a = some (.ins C dx fs) ∧ sp xs H (fun v H' => ∃ z : Int, v = .int z ∧ 0 ≤ z ∧ z < 2 ^ 63 ∧ Q (.int z) H') E0
theorem call_lenI {X : Cx} {k : Nat} {f C : Addr} {fd : FuncData} {ps : List Str} {sp : Sp} (F : FnOk X.prog X.w X.K X.mg X.base CX0 k f fd ps sp) (room : Room (k + 1) X.A) (hs : PySem.W.findIn X.K (.ref C) "__len__" = some (some (.ref f))) (hf : PySem.W.isFn X.K (.ref f) = true) (hb : Binds X.K fd ps []) : CallR X (.builtin "len") (rLenI C sp) := by
  intro pins st σ H xs us Q J r h
  obtain ⟨a, dx, fs, rfl, ha, q⟩ := h
  obtain ⟨u, rfl, ru⟩ := vals1 r
  obtain rfl : u = .ref a := ru
  obtain ⟨mA, O, _⟩ := ins_get J.hok ha
  obtain ⟨od, inst, _⟩ := O.look
  refine len_ownK J.kIn inst hs hf (wpAny_mono (run_in1 (vs := [V.ref a]) F room.in1 hb J J.env0.in1 (.cons rfl .nil) q) (fun r s2 z => ?_) fun _ _ z => z)
  obtain ⟨w2, H2, J2, r2, x, rfl, h0, h1, q2⟩ := z
  obtain ⟨t, rfl⟩ := r2
  exact ⟨x, t, rfl, h0, h1, .int x, H2, J2.tok _, ⟨_, rfl⟩, q2⟩
theorem ev_lenI {K : PySem.W.Frag} {s c : Addr} {ρ : List Sl} {n n1 : Nat} {ta : TE} {C : Addr} {ks : List Str} {l : List D} {z : Nat} {pre : Addr → Addr → List D → Prop} {post : Addr → Addr → List D → D → Prop} (h : EvE K s c ta ρ n n1 (fun x => x = .ins C ks l)) (hn : n1 ≤ 2 ^ 40) (hp : pre s c [.ins C ks l]) (hz : z < 2 ^ 62) (hq : ∀ d, post s c [.ins C ks l] d → d = .int z) :
    EvE K s c (tCB (rLenI C (Pr K pre 0 post)) (tCons ta tNil)) ρ n n1 (fun x => x = .int z) := fun M0 H0 O σ H Q J k =>
  h M0 H0 O σ H _ J fun v H1 x g1 s1 r p => by
    subst p
    have J1 := J.next g1 s1
    have r0 := r
    obtain ⟨a, dx, fs, rfl, _, i1, _, _⟩ := r
    refine ⟨a, dx, fs, rfl, i1, s, c, O ++ M0, n1, [.ins C ks l], List.mem_append_right _ J.ms.1, List.mem_append_right _ J.ms.2, J1.thereA, s1, hn, ⟨r0, trivial⟩, hp, fun u H' d g sr r2 q => ?_⟩
    have := hq d q
    subst this
    have r2 : u = .int z := r2
    subst r2
    exact ⟨z, rfl, by omega, by omega, k (.int z) H' (.int z) (g1.trans g) sr rfl rfl⟩
end
end Pl
/-! text PlIn -/
set_option Elab.async false
set_option linter.all false
set_option maxRecDepth 100000
set_option maxHeartbeats 4000000
/-! PlIn: x in o, o an own instance with __contains__; x in a list or tuple of data of any depth. -/
namespace Pl
open PySem PySem.Spec PyProof.Rows L2
theorem in_ownK {prog : Program} {w : World} {A : Around} {E : Value → Shared → Prop} {s : Shared} {K : PySem.W.Frag} {x C f : Addr} {v : Value} {ox : Obj} {od : Option Obj} {Q : Bool → Shared → Prop} (X : K.In s.heap) (I : PySem.W.InstAt s.heap x ox C od) (hs : PySem.W.findIn K (.ref C) "__contains__" = some (some (.ref f))) (hf : PySem.W.isFn K (.ref f) = true)
    (h : wpAny (model prog w) A (call (.ref f) [.ref x, v]) (fun r s' => ∃ b, r = .bool b ∧ Q b s') E s) : wpAny (model prog w) A (contains (.ref x) v) (fun b s' => Q b s') E s := by
  unfold contains
  try with_reducible refine wpAny_holding ?_
  refine wpAny_bind (wpAny_bind (I.type.here ((PySem.W.looks_findIn X hs).here ?_)))
  show wpAny _ _ (if (some (Value.ref f) == some Value.none) = true then _ else _) _ E s
  rw [if_neg (show ¬ ((some (Value.ref f) == some Value.none) = true) from Bool.false_ne_true)]
  refine wpAny_bind ?_
  unfold callSpecialUnlessNone?
  refine wpAny_bind (wpAny_bind (I.type.here ((PySem.W.looks_findIn X hs).here ?_)))
  dsimp only
  refine wpAny_holding (wpAny_bind ((PySem.W.bind_fn X _ (beq_iff_eq.mp hf)).here ?_))
  show wpAny _ _ (if (Value.ref f == Value.none) = true then _ else _) _ E s
  rw [if_neg (show ¬ ((Value.ref f == Value.none) = true) from Bool.false_ne_true)]
  refine wpAny_bind (wpAny_mono h (fun r s' z => ?_) fun _ _ z => z)
  obtain ⟨b, rfl, q⟩ := z
  exact wpAny_pure (wpAny_truthy_bool q)
/-- x in o, x not in o: o an own instance of the class at C, __contains__ of promise sp -/
def rInI (C : Addr) (sp : Sp) (neg : Bool) : R2 := fun x y H Q => ∃ a dx fs, y = .ref a ∧ H a = some (.ins C dx fs) ∧ sp [.ref a, x] H (fun v H' => ∃ b, v = .bl b ∧ Q (.bl (if neg then !b else b)) H') E0
section
variable {X : Cx} {k : Nat} {f C : Addr} {fd : FuncData} {ps : List Str} {sp : Sp}
theorem op_inI (F : FnOk X.prog X.w X.K X.mg X.base CX0 k f fd ps sp) (room : Room (k + 1) X.A) (hs : PySem.W.findIn X.K (.ref C) "__contains__" = some (some (.ref f))) (hf : PySem.W.isFn X.K (.ref f) = true) (hb : Binds X.K fd ps []) : OpR X (compareOp .In) (rInI C sp false) := by
  intro pins st σ H x y v u Q J rx ry h
  obtain ⟨a, dx, fs, rfl, ha, q⟩ := h
  obtain rfl : u = .ref a := ry
  obtain ⟨mA, O, _⟩ := ins_get J.hok ha
  obtain ⟨od, inst, _⟩ := O.look
  show wpAny _ _ (contains (.ref a) v >>= fun b => pure (Value.bool b)) _ _ st
  refine wpAny_bind (in_ownK J.kIn inst hs hf (wpAny_mono (run_fn (us := [.ref a, v]) (vs := [V.ref a, x]) F (room.mono (Nat.le_succ k)) hb .nil pass0 J (.cons rfl (.cons rx .nil)) q) (fun r s2 z => ?_) fun _ _ z => z))
  obtain ⟨w2, H2, J2, r2, b, rfl, q2⟩ := z
  cases r2
  exact ⟨b, rfl, wpAny_pure ⟨.bl b, H2, J2, rfl, q2⟩⟩
theorem op_ninI (F : FnOk X.prog X.w X.K X.mg X.base CX0 k f fd ps sp) (room : Room (k + 1) X.A) (hs : PySem.W.findIn X.K (.ref C) "__contains__" = some (some (.ref f))) (hf : PySem.W.isFn X.K (.ref f) = true) (hb : Binds X.K fd ps []) : OpR X (compareOp .NotIn) (rInI C sp true) := by
  intro pins st σ H x y v u Q J rx ry h
  obtain ⟨a, dx, fs, rfl, ha, q⟩ := h
  obtain rfl : u = .ref a := ry
  obtain ⟨mA, O, _⟩ := ins_get J.hok ha
  obtain ⟨od, inst, _⟩ := O.look
  show wpAny _ _ (contains (.ref a) v >>= fun b => pure (Value.bool (!b))) _ _ st
  refine wpAny_bind (in_ownK J.kIn inst hs hf (wpAny_mono (run_fn (us := [.ref a, v]) (vs := [V.ref a, x]) F (room.mono (Nat.le_succ k)) hb .nil pass0 J (.cons rfl (.cons rx .nil)) q) (fun r s2 z => ?_) fun _ _ z => z))
  obtain ⟨w2, H2, J2, r2, b, rfl, q2⟩ := z
  cases r2
  exact ⟨b, rfl, wpAny_pure ⟨.bl (!b), H2, J2, rfl, q2⟩⟩
/-- x in a list or a tuple of data of any depth -/
def rInX (K : PySem.W.Frag) (neg : Bool) : R2 := fun x y H Q => ∃ d ds, Dp K H x d ∧ (Dp K H y (.list ds) ∨ Dp K H y (.tuple ds)) ∧ SeqAt.shaped d = true ∧ SeqAt.shaped (.list ds) = true ∧ Q (.bl (if neg then !ds.any fun z => PyData.eqv z d else ds.any fun z => PyData.eqv z d)) H
theorem op_inX (hu : X.A.units + 65 < cLine) (K : PySem.W.Frag) (hK : X.K = K := by rfl) : OpR X (compareOp .In) (rInX K false) := by
  subst hK
  intro pins s σ H x y v u Q I rx ry h
  obtain ⟨d, ds, hd, he, sd, se, q⟩ := h
  obtain ⟨as, r1⟩ := Dp.reads I d x v hd rx
  rcases he with he | he
  · obtain ⟨bs, r2⟩ := Dp.reads I (.list ds) y u he ry
    exact SeqAt.in_list_reads r2 r1 (SeqAt.canLay_of_shaped se) (SeqAt.canLay_of_shaped sd) (room_in_shaped sd hu) ⟨.bl _, H, I, rfl, q⟩
  · obtain ⟨bs, r2⟩ := Dp.reads I (.tuple ds) y u he ry
    exact SeqAt.in_tuple_reads r2 r1 (SeqAt.canLay_of_shaped se) (SeqAt.canLay_of_shaped sd) (room_in_shaped sd hu) ⟨.bl _, H, I, rfl, q⟩
theorem op_ninX (hu : X.A.units + 65 < cLine) (K : PySem.W.Frag) (hK : X.K = K := by rfl) : OpR X (compareOp .NotIn) (rInX K true) := by
  subst hK
  intro pins s σ H x y v u Q I rx ry h
  obtain ⟨d, ds, hd, he, sd, se, q⟩ := h
  obtain ⟨as, r1⟩ := Dp.reads I d x v hd rx
  rcases he with he | he
  · obtain ⟨bs, r2⟩ := Dp.reads I (.list ds) y u he ry
    exact SeqAt.notIn_list_reads r2 r1 (SeqAt.canLay_of_shaped se) (SeqAt.canLay_of_shaped sd) (room_in_shaped sd hu) ⟨.bl _, H, I, rfl, q⟩
  · obtain ⟨bs, r2⟩ := Dp.reads I (.tuple ds) y u he ry
    exact SeqAt.notIn_tuple_reads r2 r1 (SeqAt.canLay_of_shaped se) (SeqAt.canLay_of_shaped sd) (room_in_shaped sd hu) ⟨.bl _, H, I, rfl, q⟩
end
section
variable {K : PySem.W.Frag} {s c : Addr} {ρ : List Sl} {n n1 n2 : Nat} {ta tb : TE}
theorem pyL_eq : ∀ l : List D, pyL l = l.map py
  | [] => rfl
  | d :: l => by
    show py d :: pyL l = _
    rw [pyL_eq l]
    rfl
theorem rk_inX {x y : D} {l : List D} {neg : Bool} (e : seqD y = some l) (px : plain x = true) (pl : plainL l = true) (sx : SeqAt.shaped (py x) = true) (sl : SeqAt.shaped (.list (pyL l)) = true) :
    RK K s c (rInX K neg) x y (.bl (if neg then !l.any fun z => PyData.eqv (py z) (py x) else l.any fun z => PyData.eqv (py z) (py x))) := fun M n v w H Q hm ht hs rx ry k => by
  have ea : ((pyL l).any fun z => PyData.eqv z (py x)) = l.any fun z => PyData.eqv (py z) (py x) := by
    rw [pyL_eq, List.any_map]
    rfl
  refine ⟨py x, pyL l, rep_dp rx px, ?_, sx, sl, ?_⟩
  · cases y with
    | lst l' => cases e; exact .inl (rep_dp ry pl)
    | tup l' => cases e; exact .inr (rep_dp ry pl)
    | _ => cases e
  · rw [ea]
    exact k _ H (Gr.refl _ _) hs rfl
/-- x in o, where o's __contains__ has the promise Pr -/
theorem ev_inI {C : Addr} {ks : List Str} {l : List D} {x : D} {b neg : Bool} {pre : Addr → Addr → List D → Prop} {post : Addr → Addr → List D → D → Prop} (hx : EvE K s c ta ρ n n1 (fun d => d = x)) (h : EvE K s c tb ρ n1 n2 (fun d => d = .ins C ks l)) (hn : n2 ≤ 2 ^ 40) (hp : pre s c [.ins C ks l, x]) (hq : ∀ d, post s c [.ins C ks l, x] d → d = .bl b) :
    EvE K s c (tOp (rInI C (Pr K pre 0 post) neg) ta tb) ρ n n2 (fun d => d = .bl (if neg then !b else b)) := fun M0 H0 O σ H Q I k =>
  hx M0 H0 O σ H _ I fun v H1 d g1 s1 r1 e1 => h M0 H0 O σ H1 _ (I.next g1 s1) fun w H2 e g2 s2 r2 e2 => by
    subst e1
    subst e2
    have J := (I.next g1 s1).next g2 s2
    have r2' := r2
    obtain ⟨a, dx, fs, rfl, ma, ea, hk, rl⟩ := r2
    refine ⟨a, dx, fs, rfl, ea, s, c, O ++ M0, n2, [.ins C ks l, d], List.mem_append_right _ I.ms.1, List.mem_append_right _ I.ms.2, J.thereA, s2, hn, ⟨r2', r1.gr (g2.mono I.sub), trivial⟩, hp, fun u H3 z g3 s3 r3 q => ?_⟩
    have := hq z q
    subst this
    have r3 : u = .bl b := r3
    subst r3
    exact ⟨b, rfl, k _ H3 (.bl (if neg then !b else b)) ((g1.trans g2).trans g3) s3 rfl rfl⟩
end
end Pl
/-! text PlNi -/
set_option Elab.async false
set_option linter.all false
set_option maxRecDepth 100000
set_option maxHeartbeats 4000000
/-! PlNi: xs != ys of lists whose items are equal by an own __eq__: False. -/
namespace Pl
open PySem PySem.Spec PySem.SeqAt L2
open PySem.AutoSeq1 (wpAny_loadPart')
open MeetsSeq MeetsSeq2 MeetsSeq3 SeqRoads2
section
variable {prog : Program} {w : World} {A : Around} {R : Result → Shared → Prop}
theorem ne_turns {l b : Addr} {N : Nat} {I : Nat → Shared → Prop} (all : GQ.ListI prog w A (fun e s' => R (.error e) s') l b N I) (fin : ∀ s, I N s → R (.ok (.ret (.bool false))) s) :
    ∀ m i : Nat, i + m = N → ∀ s, I i s → wpAny (model prog w) A.in1 (Builtin.«list.__eq__.loop» ⟨[.ref l, .ref b, rawInt i, rawInt 3], []⟩) (GQ.FinOf prog w A R) (fun e s' => R (.error e) s') s
  | 0, i, e, s, h => by
    obtain ⟨us, vs, n1, n2, q1, q2, z1, z2, _⟩ := all _ _ h
    have last : R (.ok (.ret (.bool false))) s := fin s (by rw [← e]; exact h)
    obtain ⟨hp, g, d, tk, os⟩ := s
    wp_walk using wpAny_loadPart' q1, wpAny_loadPart' q2
    rw [show us[((i : Nat) : Int).toNat]? = none by simp; omega, show vs[((i : Nat) : Int).toNat]? = none by simp; omega]
    wp_walk using wpAny_loadPart' q1, wpAny_loadPart' q2
    show R (.ok (.ret (.bool (us.size != vs.size)))) _
    rw [z1, z2, bne_self_eq_false]
    exact last
  | m + 1, i, e, s, h => by
    obtain ⟨us, vs, n1, n2, q1, q2, z1, z2, turn⟩ := all _ _ h
    have lu : i < us.size := by omega
    have lv : i < vs.size := by omega
    have step := turn lu lv
    obtain ⟨hp, g, d, tk, os⟩ := s
    wp_walk using wpAny_loadPart' q1, wpAny_loadPart' q2
    rw [show us[((i : Nat) : Int).toNat]? = some us[i] by simp [lu], show vs[((i : Nat) : Int).toNat]? = some vs[i] by simp [lv]]
    refine wpAny_bind (wpAny_mono step (fun r s2 z => ?_) fun _ _ x => x)
    obtain ⟨rfl, h2⟩ := z
    have rest := ne_turns all fin m (i + 1) (by omega) s2 h2
    obtain ⟨hp2, g2, d2, tk2, os2⟩ := s2
    wp_walk
    rw [show ((i : Int) + 1) = ((i + 1 : Nat) : Int) by omega]
    exact ⟨plainId_quiet plain_eq_loop _, codeAny_builtin entry_eq_loop (by rw [Around.under_plainId plain_eq_loop _]; exact rest)⟩
theorem ne_lists {l b : Addr} {N : Nat} {I : Nat → Shared → Prop} (all : GQ.ListI prog w A (fun e s' => R (.error e) s') l b N I) (fin : ∀ s, I N s → R (.ok (.ret (.bool false))) s) {s : Shared} (h : I 0 s) :
    wpAny (model prog w) A.in1 (Builtin.«list.__ne__» ⟨[.ref l, .ref b], []⟩) (GQ.FinOf prog w A R) (fun e s' => R (.error e) s') s := by
  obtain ⟨us, vs, n1, n2, q1, q2, z1, z2, _⟩ := all _ _ h
  have run := ne_turns (A := A) (R := R) all fin N 0 (Nat.zero_add N) s h
  obtain ⟨hp, g, d, tk, os⟩ := s
  have sub := AutoSeq1.sub_list_list
  have same : ¬ (us.size != vs.size) = true := by simp [z1, z2]
  wp_walk using wpAny_loadPart' q1, wpAny_loadPart' q2
  exact ⟨plainId_quiet plain_eq_loop _, codeAny_builtin entry_eq_loop (by rw [Around.under_plainId plain_eq_loop _]; exact run)⟩
end
theorem rc_lists {prog : Program} {w : World} {A : Around} {E : Value → Shared → Prop} {s : Shared} {l b : Addr} {N : Nat} {Q : Value → Shared → Prop} (hu : A.units < cLine) (I : Nat → Shared → Prop) (all : GQ.ListI prog w A E l b N I)
    (fin : ∀ s, I N s → Q (.bool false) s) (h : I 0 s) : wpAny (model prog w) A (richCompare .NotEq (.ref l) (.ref b)) Q E s := by
  obtain ⟨us, vs, n1, n2, q1, q2, _, _, _⟩ := all _ _ h
  refine wpAny_richCompare_same_room (op := .NotEq) ⟨_, q1, rfl⟩ ⟨_, q2, rfl⟩ F.slot_list_ne (GQ.call_here F.slot_list_ne ⟨_, q1, rfl⟩ F.entry_list_ne (F.args_list_ne_2 _ _) ?_) hu
  exact ne_lists (R := wants (fun v s' => v ≠ .notImplemented ∧ Q v s') E) all (fun s' q => ⟨(fun x => nomatch x), fin s' q⟩) h
/-- xs != ys where D says that the items are equal -/
def rNeG (D : Eqv) : R2 := fun x y H Q => DList D x y H ∧ ∀ H', Ext H H' → Q (.bl false) H'
section
variable {X : Cx} {n : Nat} {D : Eqv}
theorem op_neG (hD : Mon D) (h : EqG X n D) (room : Room (n + 1) X.A) : OpR X (compareOp .NotEq) (rNeG D) := by
  intro pins s σ H x y v u Q I rx ry hq
  obtain ⟨⟨a, b, xs, ys, rfl, rfl, ha, hb, p⟩, q⟩ := hq
  cases rx
  cases ry
  have sb : Sub X (n + 1) X.A := ⟨room, rfl⟩
  show wpAny (model X.prog X.w) X.A (richCompare .NotEq (.ref a) (.ref b)) (EP X pins σ Q) X.xe s
  refine rc_lists (N := xs.length) room.units0 (fun _ s' => LoopI X pins σ H s') (fun i s' z => ?_) (fun s' z => ?_) ⟨H, I, Ext.rfl'⟩
  · obtain ⟨H1, I1, e1⟩ := id z
    obtain ⟨k0, its, k, r, e⟩ := I1.hok a _ (e1 _ _ ha)
    obtain ⟨k1, its2, k2, r2, e2⟩ := I1.hok b _ (e1 _ _ hb)
    exact ⟨its.toArray, its2.toArray, k, k2, e, e2, by rw [List.size_toArray, ← r.length], by rw [List.size_toArray, ← r2.length, ← p.1], fun h1 h2 => turnG hD h sb p r r2 i h1 h2 s' z⟩
  · obtain ⟨H1, I1, e1⟩ := z
    exact ⟨.bl false, H1, I1, rfl, q H1 e1⟩
end
end Pl
/-! text PlOe -/
set_option Elab.async false
set_option linter.all false
set_option maxRecDepth 100000
set_option maxHeartbeats 4000000
/-! PlOe: == of own instances and of tuples of them, with its answer. -/
namespace Pl
open PySem PySem.Spec PySem.SeqAt L2
open PySem.AutoSeq1 (wpAny_loadPart')
open MeetsSeq MeetsSeq2 MeetsSeq3 SeqRoads2
section
variable {prog : Program} {w : World} {A : Around} {R : Result → Shared → Prop}
theorem tuple_eqB (l b : Addr) (items items2 : Array Value) (n n2 : Nat) (dd dd2 : Option Addr) (sl sl2 : Array (Option Value)) (I : Nat → Shared → Prop)
    (turn : ∀ i (h1 : i < items.size) (h2 : i < items2.size) s, I i s → wpAny (model prog w) A.in1 (eqBool items[i] items2[i]) (fun r s' => (r = true ∧ I (i + 1) s') ∨ (r = false ∧ R (.ok (.ret (.bool false))) s')) (fun e s' => R (.error e) s') s)
    (fin : ∀ s, I (min items.size items2.size) s → R (.ok (.ret (.bool (items.size == items2.size)))) s) {s : Shared} (hl1 : s.heap.get? l = some { cls := .type "tuple", dict := dd, data := .seq items n, slots := sl }) (hb1 : s.heap.get? b = some { cls := .type "tuple", dict := dd2, data := .seq items2 n2, slots := sl2 }) (h : I 0 s) :
    wpAny (model prog w) A.in1 (Builtin.«tuple.__eq__» ⟨[.ref l, .ref b], []⟩) (GQ.FinOf prog w A R) (fun e s' => R (.error e) s') s := by
  have f2 := AutoSeq1.sub_tuple_tuple
  have hZ : (items.toList.zip items2.toList).length = min items.size items2.size := by simp
  have h0 := h
  obtain ⟨hp, g, d, tk, os⟩ := s
  wp_walk using wpAny_loadPart' hl1, wpAny_loadPart' hb1, wpAny_forIn_list _ (fun rest b s' => b.1 = none ∧ ∃ i, rest = (items.toList.zip items2.toList).drop i ∧ i ≤ min items.size items2.size ∧ I i s') _
  case turn =>
    rintro ⟨y, x⟩ rest b s' ⟨hb', i, hz, hi, hI⟩
    have hlt : i < (items.toList.zip items2.toList).length := by
      rcases Nat.lt_or_ge i (items.toList.zip items2.toList).length with h' | h'
      · exact h'
      · rw [List.drop_of_length_le h'] at hz; cases hz
    have h1 : i < items.size := by omega
    have h2 : i < items2.size := by omega
    rw [List.drop_eq_getElem_cons hlt] at hz
    injection hz with hyx hrest
    have hy : y = items[i] := by have := congrArg Prod.fst hyx; simpa using this
    have hx : x = items2[i] := by have := congrArg Prod.snd hyx; simpa using this
    subst hy hx
    refine wpAny_bind (wpAny_mono (turn i h1 h2 s' hI) (fun r s2 q2 => ?_) fun _ _ x => x)
    rcases q2 with ⟨hr, q2⟩ | ⟨hr, q2⟩
    · subst hr
      wp_walk
      exact ⟨rfl, i + 1, hrest, by omega, q2⟩
    · subst hr
      wp_walk
      exact q2
  case fin =>
    rintro ⟨b1, b2⟩ s' ⟨hb', i, hz, hi, hI⟩
    simp only at hb'
    subst hb'
    have hge : min items.size items2.size ≤ i := by
      rcases Nat.lt_or_ge i (items.toList.zip items2.toList).length with h' | h'
      · rw [List.drop_eq_getElem_cons h'] at hz; cases hz
      · exact hZ ▸ h'
    have hi' : i = min items.size items2.size := by omega
    have hR := fin s' (hi' ▸ hI)
    wp_walk
    simpa [Builtin.Tuple.tupleCompareSizes] using hR
  case h =>
    exact ⟨rfl, 0, rfl, Nat.zero_le _, h0⟩
end
section
variable {prog : Program} {w : World} {A : Around} {E : Value → Shared → Prop} {s : Shared}
theorem rc_tupB {l b : Addr} {items items2 : Array Value} {Q : Value → Shared → Prop} (hu : A.units < cLine) (I : Nat → Shared → Prop)
    (hl : s.heap.IsTuple l items) (hb : s.heap.IsTuple b items2)
    (turn : ∀ i (h1 : i < items.size) (h2 : i < items2.size) s, I i s → wpAny (model prog w) A.in1 (eqBool items[i] items2[i]) (fun r s' => (r = true ∧ I (i + 1) s') ∨ (r = false ∧ Q (.bool false) s')) E s)
    (fin : ∀ s, I (min items.size items2.size) s → Q (.bool (items.size == items2.size)) s) (h : I 0 s) : wpAny (model prog w) A (richCompare .Eq (.ref l) (.ref b)) Q E s := by
  obtain ⟨⟨cls, dd, data, sl⟩, ho, hc, n, hd⟩ := id hl
  obtain ⟨⟨cls2, dd2, data2, sl2⟩, ho2, hc2, n2, hd2⟩ := id hb
  simp only at hc hd hc2 hd2
  subst hc hd hc2 hd2
  refine wpAny_richCompare_same_room (op := .Eq) ⟨_, ho, rfl⟩ ⟨_, ho2, rfl⟩ F.slot_tuple_eq (GQ.call_here F.slot_tuple_eq ⟨_, ho, rfl⟩ F.entry_tuple_eq (F.args_tuple_eq_2 _ _) ?_) hu
  exact tuple_eqB (R := wants (fun v s' => v ≠ .notImplemented ∧ Q v s') E) l b items items2 n n2 dd dd2 sl sl2 I (fun i h1 h2 s' q => wpAny_mono (turn i h1 h2 s' q) (fun r s2 z => z.elim .inl fun z => .inr ⟨z.1, (fun x => nomatch x), z.2⟩) fun _ _ x => x) (fun s' q => ⟨(fun x => nomatch x), fin s' q⟩) ho ho2 h
end
/-- how two values are compared, with the answer -/
abbrev EqvB := V → V → Bool → Hp → Prop
def MonB (D : EqvB) : Prop := ∀ x y r H H', Ext H H' → D x y r H → D x y r H'
def EqB (X : Cx) (n : Nat) (D : EqvB) : Prop :=
  ∀ (A : Around) (pins : List (Addr × Obj)) (s : Shared) (σ : L2.St) (H : Hp) (x y : V) (r : Bool) (u v : Value), Sub X n A → Inv X pins σ H s → RelV x u → RelV y v → D x y r H →
    wpAny (model X.prog X.w) A (eqBool u v) (fun t s' => t = r ∧ ∃ H', Inv X pins σ H' s' ∧ Ext H H') X.xe s
def RcB (X : Cx) (n : Nat) (D : EqvB) : Prop :=
  ∀ (A : Around) (pins : List (Addr × Obj)) (s : Shared) (σ : L2.St) (H : Hp) (x y : V) (r : Bool) (u v : Value), Sub X n A → Inv X pins σ H s → RelV x u → RelV y v → D x y r H →
    wpAny (model X.prog X.w) A (richCompare .Eq u v) (fun t s' => t = .bool r ∧ ∃ H', Inv X pins σ H' s' ∧ Ext H H') X.xe s
/-- item by item, up to the first that differ -/
def PrsB (D : EqvB) (xs ys : List V) (rs : Nat → Bool) (H : Hp) : Prop := ∀ (i : Nat) x y, xs[i]? = some x → ys[i]? = some y → D x y (rs i) H
def ansB (rs : Nat → Bool) (m n : Nat) : Bool := (List.range (min m n)).all rs && m == n
def DTupB (K : PySem.W.Frag) (D : EqvB) : EqvB := fun x y r H => ∃ a b xs ys rs, x = .ref a ∧ y = .ref b ∧ SqT K H a xs ∧ SqT K H b ys ∧ PrsB D xs ys rs H ∧ r = ansB rs xs.length ys.length
def DInsB (C : Addr) (R : Addr → Addr → Bool → Hp → Prop) : EqvB := fun x y r H => ∃ a b dx dy fs gs, x = .ref a ∧ y = .ref b ∧ H a = some (.ins C dx fs) ∧ H b = some (.ins C dy gs) ∧ R a b r H
def spEqB (R : Addr → Addr → Bool → Hp → Prop) : Sp := fun vs H Q _ => ∃ a b r, vs = [.ref a, .ref b] ∧ R a b r H ∧ ∀ H', Ext H H' → Q (.bl r) H'
section
variable {X : Cx} {n m : Nat} {D : EqvB}
theorem turnB (hD : MonB D) (h : EqB X n D) {A : Around} (sb : Sub X (n + 1) A) {pins : List (Addr × Obj)} {σ : L2.St} {H : Hp} {xs ys : List V} {rs : Nat → Bool} {its its2 : List Value} (p : PrsB D xs ys rs H) (r : Vals xs its) (r2 : Vals ys its2)
    (i : Nat) (h1 : i < its.toArray.size) (h2 : i < its2.toArray.size) (s' : Shared) (l : LoopI X pins σ H s') :
    wpAny (model X.prog X.w) A.in1 (eqBool its.toArray[i] its2.toArray[i]) (fun t s2 => t = rs i ∧ LoopI X pins σ H s2) X.xe s' := by
  obtain ⟨H1, I1, e1⟩ := l
  have g1 : its[i]? = some its.toArray[i] := by
    have h1' : i < its.length := by simpa using h1
    rw [List.getElem?_eq_getElem h1'] <;> simp
  have g2 : its2[i]? = some its2.toArray[i] := by
    have h2' : i < its2.length := by simpa using h2
    rw [List.getElem?_eq_getElem h2'] <;> simp
  have k1 : i < xs.length := by rw [r.length]; simpa using h1
  have k2 : i < ys.length := by rw [r2.length]; simpa using h2
  obtain ⟨u, hu, ru⟩ := r.get (List.getElem?_eq_getElem k1)
  obtain ⟨v, hv, rv⟩ := r2.get (List.getElem?_eq_getElem k2)
  rw [g1] at hu
  rw [g2] at hv
  rw [Option.some.inj hu, Option.some.inj hv]
  refine wpAny_mono (h A.in1 pins s' σ H1 _ _ _ u v sb.in1 I1 ru rv (hD _ _ _ _ _ e1 (p i _ _ (List.getElem?_eq_getElem k1) (List.getElem?_eq_getElem k2)))) (fun r s2 q => ?_) fun _ _ x => x
  obtain ⟨hr, H2, I2, e2⟩ := q
  exact ⟨hr, H2, I2, e1.trans e2⟩
theorem all_step {rs : Nat → Bool} {i : Nat} (h : (List.range i).all rs = true) (k : rs i = true) : (List.range (i + 1)).all rs = true := by
  rw [List.range_succ, List.all_append, h]
  simp [k]
theorem ans_no {rs : Nat → Bool} {i m n : Nat} (h : i < min m n) (k : rs i = false) : ansB rs m n = false := by
  unfold ansB
  have : (List.range (min m n)).all rs = false := by
    rw [List.all_eq_false]
    exact ⟨i, List.mem_range.mpr h, by rw [k]; exact Bool.false_ne_true⟩
  rw [this, Bool.false_and]
theorem rcB_tup (hD : MonB D) (h : EqB X n D) : RcB X (n + 1) (DTupB X.K D) := by
  intro A pins s σ H x y r u v sb I rx ry d
  obtain ⟨a, b, xs, ys, rs, rfl, rfl, ha, hb, p, rfl⟩ := d
  cases rx
  cases ry
  obtain ⟨its, r, e, z⟩ := I.tuple ha
  obtain ⟨its2, r2, e2, z2⟩ := I.tuple hb
  have sz : its.toArray.size = xs.length := by rw [List.size_toArray, ← r.length]
  have sz2 : its2.toArray.size = ys.length := by rw [List.size_toArray, ← r2.length]
  refine rc_tupB sb.room.units0 (fun i s' => LoopI X pins σ H s' ∧ (List.range i).all rs = true) e e2 (fun i h1 h2 s' q => ?_) (fun s' q => ?_) ⟨⟨H, I, Ext.rfl'⟩, rfl⟩
  · refine wpAny_mono (turnB hD h sb p r r2 i h1 h2 s' q.1) (fun t s2 z => ?_) fun _ _ x => x
    obtain ⟨rfl, l⟩ := z
    cases k : rs i with
    | true => exact .inl ⟨rfl, l, all_step q.2 k⟩
    | false => exact .inr ⟨rfl, by rw [ans_no (by omega) k], l⟩
  · refine ⟨?_, q.1⟩
    have q2 := q.2
    rw [sz, sz2] at q2
    unfold ansB
    rw [q2, sz, sz2, Bool.true_and]
theorem monB_ins {C : Addr} {R : Addr → Addr → Bool → Hp → Prop} (hR : ∀ a b r H H', Ext H H' → R a b r H → R a b r H') : MonB (DInsB C R) := fun x y r H H' e d => by
  obtain ⟨a, b, dx, dy, fs, gs, hx, hy, h1, h2, r⟩ := d
  exact ⟨a, b, dx, dy, fs, gs, hx, hy, e _ _ h1, e _ _ h2, hR a b _ H H' e r⟩
theorem rcB_ins {CX : CXT} {C f : Addr} {fd : FuncData} {ps : List Str} {R : Addr → Addr → Bool → Hp → Prop} {E : XK} (F : FnOk X.prog X.w X.K X.mg X.base CX n f fd ps (spEqB R))
    (hs : PySem.W.findIn X.K (.ref C) "__eq__" = some (some (.ref f))) (hf : PySem.W.isFn X.K (.ref f) = true) (hb : Binds X.K fd ps []) (hx : Passes CX X E) : RcB X n (DInsB C R) := by
  intro A pins s σ H x y r u v sb I rx ry d
  obtain ⟨a, b, dx, dy, fs, gs, rfl, rfl, ha, hb', hr⟩ := d
  cases rx
  cases ry
  obtain ⟨mA, J, _⟩ := ins_get I.hok ha
  obtain ⟨mB, J', _⟩ := ins_get I.hok hb'
  obtain ⟨od, J, _⟩ := J.look
  obtain ⟨od', J', _⟩ := J'.look
  obtain ⟨m, hF⟩ := I.fr
  refine PySem.W.cmp_K (op := .Eq) (tb := .ref C) sb.room.units0 hF I.ok.mod.kin J J'.type (by simp [PySem.W.notFirst]) hs hf ?_
  have hsp : spEqB R [.ref a, .ref b] H (fun v H' => v = .bl r ∧ Ext H H') E := ⟨a, b, r, rfl, hr, fun H' e => ⟨rfl, e⟩⟩
  have e0 : Env0 X.prog X.w X.K X.mg X.base A X.stack s H := by
    have e := I.env0
    exact ⟨by rw [sb.fr]; exact e.frames, e.mod, e.bs, e.bsz, e.funs, e.frf, e.hok, e.bare⟩
  have hl := F.len _ _ _ _ hsp
  have r2 : Vals [V.ref a, V.ref b] [Value.ref a, Value.ref b] := .cons rfl (.cons rfl .nil)
  refine wpAny_call (codeAny_mono (F.run A X.stack s H ⟨[.ref a, .ref b], []⟩ [.ref a, .ref b] [.ref a, .ref b] _ E sb.room e0 (by
    have := hb s [.ref a, .ref b] I.kIn (by simpa using hl)
    simpa using this) r2 hsp) fun r s' hq => ?_)
  cases r with
  | error e => exact hx pins σ H s e s' I hq
  | ok fl =>
    cases fl with
    | ret w =>
      obtain ⟨z, H', I', rz, ez, ex⟩ := I.after hq
      subst ez
      cases rz
      exact ⟨rfl, H', I', ex⟩
    | next => exact False.elim hq
    | brk => exact False.elim hq
    | cont => exact False.elim hq
theorem eqB_ins {CX : CXT} {C f : Addr} {fd : FuncData} {ps : List Str} {R : Addr → Addr → Bool → Hp → Prop} {E : XK} (F : FnOk X.prog X.w X.K X.mg X.base CX n f fd ps (spEqB R))
    (hs : PySem.W.findIn X.K (.ref C) "__eq__" = some (some (.ref f))) (hf : PySem.W.isFn X.K (.ref f) = true) (hb : Binds X.K fd ps []) (hx : Passes CX X E) (rf : ∀ pins σ H s a r, Inv X pins σ H s → R a a r H → r = true) : EqB X n (DInsB C R) := by
  intro A pins s σ H x y r u v sb I rx ry d
  have d0 := d
  obtain ⟨a, b, dx, dy, fs, gs, rfl, rfl, _, _, hr0⟩ := d
  cases rx
  cases ry
  by_cases hab : a = b
  · subst hab
    rw [rf pins σ H s a r I hr0]
    exact SeqAt.EqAt.same (A := A) (s := s) (.ref a) X.prog X.w X.xe _ ⟨rfl, H, I, Ext.rfl'⟩
  · refine GQ.eqBool_refG hab (wpAny_mono (rcB_ins F hs hf hb hx A pins s σ H (.ref a) (.ref b) r _ _ sb I rfl rfl d0) (fun t s' q => ?_) fun _ _ x => x)
    obtain ⟨hr', q⟩ := q
    exact ⟨r, hr', rfl, q⟩
/-- x == y as an expression -/
def rEqB (D : EqvB) : R2 := fun x y H Q => ∃ r, D x y r H ∧ ∀ H', Ext H H' → Q (.bl r) H'
theorem op_eqB (h : RcB X n D) (hr : Room n X.A) : OpR X (compareOp .Eq) (rEqB D) := by
  intro pins s σ H x y v u Q I rx ry hq
  obtain ⟨r, d, q⟩ := hq
  show wpAny (model X.prog X.w) X.A (richCompare .Eq v u) (EP X pins σ Q) X.xe s
  refine wpAny_mono (h X.A pins s σ H x y r v u ⟨hr, rfl⟩ I rx ry d) (fun t s' z => ?_) fun _ _ x => x
  obtain ⟨hr', H', I', e⟩ := z
  subst hr'
  exact ⟨.bl r, H', I', rfl, q H' e⟩
end
end Pl
/-! text K14s -/
set_option Elab.async false
set_option linter.all false
set_option maxRecDepth 100000
set_option maxHeartbeats 4000000
set_option exponentiation.threshold 5000
namespace K14
open PySem PySem.Spec PyProof.Rows L2 Pl PlS
open ClX
abbrev s_t_rows : Stmt := inCls 11 2
theorem sc_t_rows : FnScope ["self"] ["self"] (defScope s_t_rows) := ⟨rfl, rfl, rfl, by decide +kernel, rfl, by decide +kernel, by decide +kernel⟩
abbrev s_t_names : Stmt := inCls 11 3
theorem sc_t_names : FnScope ["self", "row"] ["self"] (defScope s_t_names) := ⟨rfl, rfl, rfl, by decide +kernel, rfl, by decide +kernel, by decide +kernel⟩
abbrev s_t_len : Stmt := inCls 11 4
theorem sc_t_len : FnScope ["self"] ["self"] (defScope s_t_len) := ⟨rfl, rfl, rfl, by decide +kernel, rfl, by decide +kernel, by decide +kernel⟩
abbrev s_t_has : Stmt := inCls 11 5
theorem sc_t_has : FnScope ["self", "value"] ["self", "value"] (defScope s_t_has) := ⟨rfl, rfl, rfl, by decide +kernel, rfl, by decide +kernel, by decide +kernel⟩
abbrev s_t_eq : Stmt := inCls 11 6
theorem sc_t_eq : FnScope ["self", "other"] ["self", "other"] (defScope s_t_eq) := ⟨rfl, rfl, rfl, by decide +kernel, rfl, by decide +kernel, by decide +kernel⟩
/-- what the top has written of Tables' properties and methods -/
structure MTxt (K : PySem.W.Frag) (CT rr gr rn gn fl fc fe : Addr) (dr dn dl dc de : FuncData) : Prop where
  rr : PropOf K CT "rows" rr gr
  Fr : Fun K "rows" "Tables.rows" s_t_rows gr dr
  br : Binds K dr ["self"] []
  rn : PropOf K CT "names" rn gn
  Fn : Fun K "names" "Tables.names" s_t_names gn dn
  bn : Binds K dn ["self"] []
  Fl : Fun K "__len__" "Tables.__len__" s_t_len fl dl
  bl : Binds K dl ["self"] []
  al : PySem.W.findIn K (.ref CT) "__len__" = some (some (.ref fl))
  il : PySem.W.isFn K (.ref fl) = true
  Fc : Fun K "__contains__" "Tables.__contains__" s_t_has fc dc
  bc : Binds K dc ["self", "value"] []
  ac : PySem.W.findIn K (.ref CT) "__contains__" = some (some (.ref fc))
  ic : PySem.W.isFn K (.ref fc) = true
  Fe : Fun K "__eq__" "Tables.__eq__" s_t_eq fe de
  be : Binds K de ["self", "other"] []
  ae : PySem.W.findIn K (.ref CT) "__eq__" = some (some (.ref fe))
  ne : PySem.W.findIn K (.ref CT) "__ne__" = some (some (.builtin "object.__ne__"))
  ie : PySem.W.isFn K (.ref fe) = true
theorem tame_row {r : Row} (h : okRow r) : tame (dRow r) = true ∧ dp (dRow r) ≤ 60 := by
  have hs : ∀ d ∈ dIs r.2.2, tame d = true ∧ dp d = 0 := fun d hd => by
    obtain ⟨i, _, rfl⟩ := List.mem_map.mp hd
    exact ⟨rfl, rfl⟩
  refine ⟨tame_tupOf (fun d hd => ?_) (by exact (by decide : (3 : Nat) ≤ 1000)), Nat.le_trans (deep_row r) (by decide)⟩
  rcases List.mem_cons.mp hd with rfl | hd
  · exact (name_tame h.1).1
  · rcases List.mem_cons.mp hd with rfl | hd
    · exact (name_tame h.2.1).1
    · rw [List.mem_singleton.mp hd]
      exact tame_tupOf (fun d hd => (hs d hd).1) (by rw [is_len]; have := h.2.2.2.1; omega)
theorem tame_rows {rs : List Row} (h : ∀ r ∈ rs, okRow r) (k : rs.length ≤ 1000) : (tame (.tup (rs.map dRow)) = true ∧ dp (.tup (rs.map dRow)) ≤ 61) ∧ tame (.lst (rs.map dRow)) = true ∧ dp (.lst (rs.map dRow)) ≤ 61 := by
  have hs : ∀ d ∈ rs.map dRow, tame d = true ∧ dp d ≤ 60 := fun d hd' => by
    obtain ⟨a, ha, rfl⟩ := List.mem_map.mp hd'
    exact tame_row (h a ha)
  refine ⟨⟨tame_tupOf (fun d hd' => (hs d hd').1) (by rw [List.length_map]; exact k), (dp_seq (k := 60) fun d hd' => (hs d hd').2).2⟩, tame_lstOf (fun d hd' => (hs d hd').1) (by rw [List.length_map]; exact k), (dp_seq (k := 60) fun d hd' => (hs d hd').2).1⟩
theorem good_sort {rs : List Row} (h : GoodR rs) : GoodR (sortR rs) := good_perm (sortR_perm rs).symm h
theorem eqv_rows : ∀ a b : List Row, PyData.eqvAll (pyL (a.map dRow)) (pyL (b.map dRow)) = decide (a = b)
  | [], [] => rfl
  | [], _ :: _ => rfl
  | _ :: _, [] => rfl
  | x :: a, y :: b => by
    show (PyData.eqv (py (dRow x)) (py (dRow y)) && PyData.eqvAll (pyL (a.map dRow)) (pyL (b.map dRow))) = _
    rw [eqv_rows a b, eqv_row, Bool.eq_iff_iff]
    simp only [Bool.and_eq_true, decide_eq_true_eq, List.cons.injEq]
theorem shaped_rows {rs : List Row} (h : ∀ r ∈ rs, okRow r) (k : rs.length ≤ 1000) : SeqAt.shaped (.list (pyL (rs.map dRow))) = true := shaped_of (d := .lst (rs.map dRow)) (tame_rows h k).2.1 (Nat.le_trans (tame_rows h k).2.2 (by decide))
theorem plainL_rows (rs : List Row) : plainL (rs.map dRow) = true := plainL_of fun d hd => by
  obtain ⟨r, _, rfl⟩ := List.mem_map.mp hd
  exact plain_row r
section
variable {K : PySem.W.Frag} {s c : Addr}
/-- a row in rows -/
theorem rk_rowIn {y : D} {rs : List Row} {r : Row} {neg : Bool} (e : seqD y = some (rs.map dRow)) (hr : okRow r) (h : ∀ q ∈ rs, okRow q) (k : rs.length ≤ 1000) : RK K s c (rInX K neg) (dRow r) y (.bl (if neg then !decide (r ∈ rs) else decide (r ∈ rs))) := by
  have z := rk_inX (K := K) (s := s) (c := c) (neg := neg) e (plain_row r) (plainL_rows rs) (shaped_of (tame_row hr).1 (Nat.le_trans (tame_row hr).2 (by decide))) (shaped_rows h k)
  have ea : ((rs.map dRow).any fun z => PyData.eqv (py z) (py (dRow r))) = decide (r ∈ rs) := by
    rw [List.any_map, Bool.eq_iff_iff, List.any_eq_true, decide_eq_true_eq]
    constructor
    · rintro ⟨q, hq, e⟩
      have e : PyData.eqv (py (dRow q)) (py (dRow r)) = true := e
      rw [eqv_row, decide_eq_true_eq] at e
      rw [← e]; exact hq
    · intro hm
      exact ⟨r, hm, by show PyData.eqv (py (dRow r)) (py (dRow r)) = true; rw [eqv_row, decide_eq_true rfl]⟩
  rw [ea] at z
  exact z
end
def preG (CT s c : Addr) (ds : List D) : Prop := ∃ rs, ds = [tI CT rs] ∧ GoodR rs
def postRows (CT s c : Addr) (ds : List D) (z : D) : Prop := ∃ rs, ds = [tI CT rs] ∧ z = .tup ((sortR rs).map dRow)
def postNms (CT s c : Addr) (ds : List D) (z : D) : Prop := ∃ rs, ds = [tI CT rs] ∧ z = .tup (dStrs ((sortR rs).map (·.1)))
def postLen (CT s c : Addr) (ds : List D) (z : D) : Prop := ∃ rs, ds = [tI CT rs] ∧ z = .int ((sortR rs).length : Nat)
def preHas (CT s c : Addr) (ds : List D) : Prop := ∃ rs x, ds = [tI CT rs, x] ∧ GoodR rs ∧ rowOk x
/-- whether x is one of the rows -/
def hasB (rs : List Row) (x : D) : Bool := rowB x && decide (unR x ∈ rs)
def postHas (CT s c : Addr) (ds : List D) (z : D) : Prop := ∃ rs x, ds = [tI CT rs, x] ∧ z = .bl (hasB (sortR rs) x)
def preEq (CT s c : Addr) (ds : List D) : Prop := ∃ rs o, ds = [tI CT rs, o] ∧ GoodR rs ∧ (topD o = true ∨ ∃ qs, o = tI CT qs ∧ GoodR qs)
def postEq (CT s c : Addr) (ds : List D) (z : D) : Prop := ∃ rs o, ds = [tI CT rs, o] ∧ ((topD o = true ∧ z = .bl false) ∨ ∃ qs, o = tI CT qs ∧ z = .bl (decide (sortR rs = sortR qs)))
section
variable {P : Program} {w : World} {K : PySem.W.Frag} {mg : Str → Option Value} {base : Heap} {A : Adr} {CT fT CE fE rr gr rn gn fl fc fe : Addr} {mcT : Value} {dT dE dr dn dl dc de : FuncData}
theorem ok_t_rows (T : Txt A K mg) (G : CTxt K mg CT mcT) (U : QTxt K mg CT fT CE fE dT dE) (M : MTxt K CT rr gr rn gn fl fc fe dr dn dl dc de) : FnOk P w K mg base CX0 1 gr dr ["self"] (Pr K (preG CT) 0 (postRows CT)) := by
  refine M.Fr.ok sc_t_rows (fun vs H Q E h => pr_len h fun s c ds hp => ?_) (fun cdv A' outer st H vs Q E hr h => have hw : _ := hr.units; ⟨_, (pss_one (ps_ret (k_fld K (pv 0) rfl))), body_ok h fun s c n ds hn hp => ?_⟩)
  · obtain ⟨rs, rfl, _⟩ := hp
    rfl
  · obtain ⟨rs, rfl, hg⟩ := hp
    exact s_ret (ev_fldI (ks := ksT) (l := tL rs) (ev_var rfl) U.cT U.nR rfl) fun d e => ⟨Nat.le_refl _, rs, rfl, e⟩
theorem ok_t_names (T : Txt A K mg) (G : CTxt K mg CT mcT) (U : QTxt K mg CT fT CE fE dT dE) (M : MTxt K CT rr gr rn gn fl fc fe dr dn dl dc de) : FnOk P w K mg base CX0 1 gn dn ["self"] (Pr K (preG CT) 0 (postNms CT)) := by
  refine M.Fn.ok sc_t_names (fun vs H Q E h => pr_len h fun s c ds hp => ?_) (fun cdv A' outer st H vs Q E hr h => have hw : _ := hr.units; ⟨_, (pss_one (ps_ret (pe_callTy (k_tuple K) (by rfl) T.m_tuple (by decide +kernel) (pa_cons (pe_lc (own := [("row", 1)]) rfl sc_t_names.nd (k_pitup K (k_fld K (pv 0) rfl)) (blkOk_by (N := ["self", "row"]) (sc := defScope s_t_names) (by decide +kernel)) (fun _ _ _ _ _ => (pg_name (i := 1) sc_t_names.nd rfl (by first | exact Or.inl rfl | exact Or.inr rfl))) (fun _ _ _ _ _ => pts_nil) (fun _ _ _ _ _ => (pe_ix (k_ix K) (pv 1) pe_int (fun _ _ => rfl)))) pa_nil)))), body_ok h fun s c n ds hn hp => ?_⟩)
  · obtain ⟨rs, rfl, _⟩ := hp
    rfl
  · obtain ⟨rs, rfl, hg⟩ := hp
    have ln := (good_sort hg).2.2
    refine s_ret (ev_callK (ea_one (EvE.imp (EvN.evK (en_mapK (L := (sortR rs).map dRow) (fun d => D.str (unR d).1) (ei_tup (ev_fldI (ks := ksT) (l := tL rs) (ev_var rfl) U.cT U.nR rfl) fun d e => ⟨_, e, rfl⟩) rfl (by rw [List.length_map]; omega) fun i d hi => ?_)) fun d e => ?_)) (ck_tuple (show seqD (.lst (dStrs ((sortR rs).map (·.1)))) = some (dStrs ((sortR rs).map (·.1))) from rfl))) fun d e => ⟨Nat.le_refl _, rs, rfl, e⟩
    · rw [List.getElem?_map] at hi
      cases q : (sortR rs)[i]? with
      | none => rw [q] at hi; cases hi
      | some r =>
        rw [q] at hi
        cases hi
        refine ⟨_, _, eg_name (j := 1) rfl, fun j hj => hj, ?_⟩
        rw [unR_of]
        exact ev_opK (ev_var rfl) ev_int (rk_ixT rfl)
    · rw [e, List.map_map]
      unfold dStrs
      rw [List.map_map]
      congr 1
theorem ok_t_len (T : Txt A K mg) (G : CTxt K mg CT mcT) (U : QTxt K mg CT fT CE fE dT dE) (M : MTxt K CT rr gr rn gn fl fc fe dr dn dl dc de) : FnOk P w K mg base CX0 1 fl dl ["self"] (Pr K (preG CT) 0 (postLen CT)) := by
  refine M.Fl.ok sc_t_len (fun vs H Q E h => pr_len h fun s c ds hp => ?_) (fun cdv A' outer st H vs Q E hr h => have hw : _ := hr.units; ⟨_, (pss_one (ps_ret (pe_callB (k_len K) (by rfl) T.m_len (by decide +kernel) (pa_cons (k_fld K (pv 0) rfl) pa_nil)))), body_ok h fun s c n ds hn hp => ?_⟩)
  · obtain ⟨rs, rfl, _⟩ := hp
    rfl
  · obtain ⟨rs, rfl, hg⟩ := hp
    exact s_ret (ev_callK (ea_one (ev_fldI (ks := ksT) (l := tL rs) (ev_var rfl) U.cT U.nR rfl)) (ck_len rfl)) fun d e => ⟨Nat.le_refl _, rs, rfl, by rw [e, List.length_map]⟩
theorem ok_t_has (T : Txt A K mg) (G : CTxt K mg CT mcT) (U : QTxt K mg CT fT CE fE dT dE) (M : MTxt K CT rr gr rn gn fl fc fe dr dn dl dc de) : FnOk P w K mg base CX0 4 fc dc ["self", "value"] (Pr K (preHas CT) 0 (postHas CT)) := by
  have G__is_row := ok__is_row (P := P) (w := w) (base := base) T
  refine M.Fc.ok sc_t_has (fun vs H Q E h => pr_len h fun s c ds hp => ?_) (fun cdv A' outer st H vs Q E hr h => have hw : _ := hr.units; have hs70 : _ := (by have := hr.un; omega : (A'.deeper (envOfC "Tables.__contains__" (defScope s_t_has) st.heap.objs.size fc cdv)).units + 65 < cLine); ⟨_, (pss_one (ps_ret (pe_and (pe_call G__is_row (hr.mono (by decide)) (by rfl) T.m__is_row T.F__is_row.kp T.b__is_row .nil pass0 (pa_cons (pv 1) pa_nil)) (pe_one (pe_cmpR (op_inX hs70 K) (pv 1) (k_fld K (pv 0) rfl) rfl))))), body_ok h fun s c n ds hn hp => ?_⟩)
  · obtain ⟨rs, x, rfl, _⟩ := hp
    rfl
  · obtain ⟨rs, x, rfl, hg, hx⟩ := hp
    have isr : EvE K s c (tCall (Pr K preR 0 postR) [] E0 (tCons (tVar 1) tNil)) [.va (tI CT rs), .va x] n n (fun z => z = .bl (rowB x)) := ev_defK (ea_one (ev_var rfl)) (by omega) ⟨x, rfl, hx⟩ fun z h => by
      obtain ⟨x', e, rfl⟩ := h
      cases e
      rfl
    refine s_ret (ev_andK (a := rowB x) (b := decide (unR x ∈ sortR rs)) isr fun e => ?_) fun d e => ⟨Nat.le_refl _, rs, x, rfl, e⟩
    obtain ⟨r, rfl, ok⟩ := row_is e
    rw [unR_of]
    have gs := good_sort hg
    exact ev_opK (ev_var rfl) (ev_fldI (ks := ksT) (l := tL rs) (ev_var rfl) U.cT U.nR rfl) (rk_rowIn (neg := false) rfl ok gs.1 (by have := gs.2.2; omega))
theorem ok_t_eq (T : Txt A K mg) (G : CTxt K mg CT mcT) (U : QTxt K mg CT fT CE fE dT dE) (M : MTxt K CT rr gr rn gn fl fc fe dr dn dl dc de) : FnOk P w K mg base CX0 1 fe de ["self", "other"] (Pr K (preEq CT) 0 (postEq CT)) := by
  refine M.Fe.ok sc_t_eq (fun vs H Q E h => pr_len h fun s c ds hp => ?_) (fun cdv A' outer st H vs Q E hr h => have hw : _ := hr.units; ⟨_, (pss_one (ps_ret (pe_and (pe_callB (k_isi (K := K)) (by rfl) T.m_isinstance (by decide +kernel) (pa_cons (pv 1) (pa_cons (pe_glob (v := .ref CT) rfl G.gT rfl) pa_nil))) (pe_one (pe_cmpR (k_eqA hw) (k_fld K (pv 0) rfl) (k_fld K (pv 1) rfl) (nomark _)))))), body_ok h fun s c n ds hn hp => ?_⟩)
  · obtain ⟨rs, o, rfl, _⟩ := hp
    rfl
  · obtain ⟨rs, o, rfl, hg, ho⟩ := hp
    rcases ho with ho | ⟨qs, rfl, hq⟩
    · exact s_ret (ev_andK (a := false) (b := false) (ev_isiC G.isC (d := o) (ev_var rfl) (.inl ⟨ho, rfl⟩)) fun e => by cases e) fun d hd => ⟨Nat.le_refl _, rs, _, rfl, .inl ⟨ho, hd⟩⟩
    · have g1 := good_sort hg
      have g2 := good_sort hq
      have t1 := (tame_rows g1.1 (by have := g1.2.2; omega)).1
      have t2 := (tame_rows g2.1 (by have := g2.2.2; omega)).1
      have rk : RK K s c (rEqA K) (.tup ((sortR rs).map dRow)) (.tup ((sortR qs).map dRow)) (.bl (decide (sortR rs = sortR qs))) := by
        rw [← eqv_rows]
        exact rk_eqD (plain_of t1.1) (plain_of t2.1) (shaped_of t1.1 (Nat.le_trans t1.2 (by decide))) (shaped_of t2.1 (Nat.le_trans t2.2 (by decide)))
      exact s_ret (ev_andK (a := true) (b := decide (sortR rs = sortR qs)) (ev_isiC G.isC (d := tI CT qs) (ev_var rfl) (.inr ⟨⟨_, _, rfl⟩, rfl⟩)) fun _ => ev_opK (ev_fldI (ks := ksT) (l := tL rs) (ev_var rfl) U.cT U.nR rfl) (ev_fldI (ks := ksT) (l := tL qs) (ev_var rfl) U.cT U.nR rfl) rk) fun d hd => ⟨Nat.le_refl _, rs, _, rfl, .inr ⟨qs, rfl, hd⟩⟩
end
end K14
/-! text K14t -/
set_option Elab.async false
set_option linter.all false
set_option maxRecDepth 100000
set_option maxHeartbeats 4000000
set_option exponentiation.threshold 5000
namespace K14
open PySem PySem.Spec PyProof.Rows L2 Pl PlS

def preW (s c : Addr) (ds : List D) : Prop := ∃ x, ds = [x] ∧ tame x = true ∧ dp x ≤ 60
/-- what may be asked for the error -/
def okX (x : D) : Prop := (tame x = true ∧ dp x ≤ 60) ∨ ∃ ks l, x = .dct ks l
def preX (s c : Addr) (ds : List D) : Prop := ∃ x, ds = [x] ∧ okX x
theorem eqv_pair (a b : Str × List Int) : PyData.eqv (py (dPair a)) (py (dPair b)) = decide (a = b) := by
  have e : ∀ c, py (dPair c) = .tuple [.str c.1, .tuple (c.2.map PyData.int)] := pyP_eq
  rw [e, e]
  show ((a.1 == b.1) && (PyData.eqvAll (a.2.map PyData.int) (b.2.map PyData.int) && true)) = _
  rw [eqv_ints, Bool.eq_iff_iff]
  obtain ⟨a1, a2⟩ := a
  obtain ⟨b1, b2⟩ := b
  simp
theorem tame_is {l : List Int} (h : l.length ≤ 1000) : tame (.tup (dIs l)) = true ∧ dp (.tup (dIs l)) ≤ 1 := by
  have hs : ∀ d ∈ dIs l, tame d = true ∧ dp d ≤ 0 := fun d hd => by
    obtain ⟨i, _, rfl⟩ := List.mem_map.mp hd
    exact ⟨rfl, Nat.le_refl _⟩
  exact ⟨tame_tupOf (fun d hd => (hs d hd).1) (by rw [is_len]; exact h), (dp_seq fun d hd => (hs d hd).2).2⟩
theorem tame_pair {c : Str × List Int} (h : isName c.1) (k : c.2.length ≤ 1000) : tame (dPair c) = true ∧ dp (dPair c) ≤ 2 := by
  refine ⟨tame_tupOf (fun d hd => ?_) (by exact (by decide : (2 : Nat) ≤ 1000)), (dp_seq (k := 1) fun d hd => ?_).2⟩
  · rcases List.mem_cons.mp hd with rfl | hd
    · exact (name_tame h).1
    · rw [List.mem_singleton.mp hd]; exact (tame_is k).1
  · rcases List.mem_cons.mp hd with rfl | hd
    · exact Nat.zero_le _
    · rw [List.mem_singleton.mp hd]; exact (tame_is k).2
section
variable {K : PySem.W.Frag} {s c : Addr}
/-- a pair in a list of pairs -/
theorem rk_pairIn {cs : List (Str × List Int)} {p : Str × List Int} {neg : Bool} (hp : isName p.1 ∧ p.2.length ≤ 3) (h : ∀ q ∈ cs, isName q.1 ∧ q.2.length ≤ 3) (k : cs.length ≤ 1000) : RK K s c (rInX K neg) (dPair p) (.lst (cs.map dPair)) (.bl (if neg then !decide (p ∈ cs) else decide (p ∈ cs))) := by
  have tp := tame_pair (c := p) hp.1 (by omega)
  have tl : tame (.lst (cs.map dPair)) = true ∧ dp (.lst (cs.map dPair)) ≤ 3 := by
    have hs : ∀ d ∈ cs.map dPair, tame d = true ∧ dp d ≤ 2 := fun d hd => by
      obtain ⟨q, hq, rfl⟩ := List.mem_map.mp hd
      exact tame_pair (h q hq).1 (by have := (h q hq).2; omega)
    exact ⟨tame_lstOf (fun d hd => (hs d hd).1) (by rw [List.length_map]; exact k), (dp_seq fun d hd => (hs d hd).2).1⟩
  have z := rk_inX (K := K) (s := s) (c := c) (neg := neg) (y := .lst (cs.map dPair)) rfl (plain_pair p) (plainL_of fun d hd => by
    obtain ⟨q, _, rfl⟩ := List.mem_map.mp hd
    exact plain_pair q) (shaped_of tp.1 (Nat.le_trans tp.2 (by decide))) (shaped_of (d := .lst (cs.map dPair)) tl.1 (Nat.le_trans tl.2 (by decide)))
  have ea : ((cs.map dPair).any fun z => PyData.eqv (py z) (py (dPair p))) = decide (p ∈ cs) := by
    rw [List.any_map, Bool.eq_iff_iff, List.any_eq_true, decide_eq_true_eq]
    constructor
    · rintro ⟨q, hq, e⟩
      have e : PyData.eqv (py (dPair q)) (py (dPair p)) = true := e
      rw [eqv_pair, decide_eq_true_eq] at e
      rw [← e]; exact hq
    · intro hm
      exact ⟨p, hm, by show PyData.eqv (py (dPair p)) (py (dPair p)) = true; rw [eqv_pair, decide_eq_true rfl]⟩
  rw [ea] at z
  exact z
end
theorem val_int {i : Int} : valB (.int i) = decide ((if i < 0 then -i else i) ≤ 10 ^ 9) := by
  show (decide (-1000000000 ≤ i) && decide (i ≤ 1000000000)) = _
  have e : (10 : Int) ^ 9 = 1000000000 := by decide
  rw [e, Bool.eq_iff_iff, Bool.and_eq_true, decide_eq_true_eq, decide_eq_true_eq, decide_eq_true_eq]
  split <;> omega
section
variable {P : Program} {w : World} {K : PySem.W.Frag} {mg : Str → Option Value} {base : Heap} {A : Adr}
theorem ok__law_is_value (T : Txt A K mg) : FnOk P w K mg base CX0 1 A.f__law_is_value A.fd__law_is_value ["value"] (Pr K preV 0 postV) := by
  refine T.F__law_is_value.ok sc__law_is_value (fun vs H Q E h => pr_len h fun s c ds hp => ?_) (fun cdv A' outer st H vs Q E hr h => have hw : _ := hr.units; ⟨_, (pss_one (ps_ret (pe_and (pe_callB (k_isi (K := K)) (by rfl) T.m_isinstance (by decide +kernel) (pa_cons (pv 0) (pa_cons (pe_bltn (v := .ty "int") (u := .type "int") (by rfl) T.m_int (by decide +kernel) rfl) pa_nil))) (pe_and (pe_not (pe_callB (k_isi (K := K)) (by rfl) T.m_isinstance (by decide +kernel) (pa_cons (pv 0) (pa_cons (pe_bltn (v := .ty "bool") (u := .type "bool") (by rfl) T.m_bool (by decide +kernel) rfl) pa_nil)))) (pe_one (pe_cmpR op_le (pe_callB call_abs (by rfl) T.m_abs (by decide +kernel) (pa_cons (pv 0) pa_nil)) (pe_op op_powW pe_int pe_int) (nomark _))))))), body_ok h fun s c n ds hn hp => ?_⟩)
  · obtain ⟨x, rfl, _⟩ := hp
    rfl
  · obtain ⟨x, rfl, tx⟩ := hp
    have fin : ∀ b, b = valB x → (⟨fun _ m => m ≤ n + 0 ∧ postV s c [x] .non, fun d m => m ≤ n + 0 ∧ postV s c [x] d, fun _ _ => False, fun _ _ => False⟩ : Pn).rt (.bl b) n := fun b e => ⟨Nat.le_refl _, x, rfl, by rw [e]⟩
    cases x with
    | int i =>
      refine s_ret (ev_andK (a := true) (b := !false && decide ((if i < 0 then -i else i) ≤ 10 ^ 9)) (ev_isi (ev_var rfl) rfl (one_int _ rfl)) fun _ => ev_andK (ev_notV (ev_isi (ev_var rfl) rfl (one_bool _ rfl))) fun _ => ev_opK (ev_abs (ev_var rfl)) (ev_opK ev_int ev_int (rk_I (z := .int (10 ^ 9)) (fun _ _ => rfl) ⟨by decide, by decide +kernel⟩)) rk_le) fun d hd => ?_
      rw [hd]
      refine fin _ ?_
      rw [val_int]
      rfl
    | bl b =>
      refine s_ret (ev_andK (a := true) (b := !true && true) (ev_isi (ev_var rfl) rfl (one_int _ rfl)) fun _ => ev_andK (ev_notV (ev_isi (ev_var rfl) rfl (one_bool _ rfl))) fun e => by cases e) fun d hd => ?_
      rw [hd]
      exact fin _ rfl
    | _ =>
      refine s_ret (ev_andK (a := false) (b := true) (ev_isi (ev_var rfl) (tame_top tx) (one_int _ (tame_top tx))) fun e => by cases e) fun d hd => ?_
      rw [hd]
      exact fin _ rfl
theorem ok__law_is_row (T : Txt A K mg) : FnOk P w K mg base CX0 2 A.f__law_is_row A.fd__law_is_row ["value"] (Pr K preW 0 postR) := by
  have G__law_is_value := ok__law_is_value (P := P) (w := w) (base := base) T
  have G__law_is_word := ok__law_is_word (P := P) (w := w) (base := base) T
  refine T.F__law_is_row.ok sc__law_is_row (fun vs H Q E h => pr_len h fun s c ds hp => ?_) (fun cdv A' outer st H vs Q E hr h => have hw : _ := hr.units; ⟨_, (pss_cons (ps_if (PW.pt (pw_or (pt_not (pt_val (pe_callB (k_isi (K := K)) (by rfl) T.m_isinstance (by decide +kernel) (pa_cons (pv 0) (pa_cons (pe_bltn (v := .ty "tuple") (u := .type "tuple") (by rfl) T.m_tuple (by decide +kernel) rfl) pa_nil))))) (pw_or (pt_cmpR (k_neA hw) (pe_callB (k_len K) (by rfl) T.m_len (by decide +kernel) (pa_cons (pv 0) pa_nil)) pe_int (nomark _)) (pw_or (pt_not (pt_val (pe_call G__law_is_word (hr.mono (by decide)) (by rfl) T.m__law_is_word T.F__law_is_word.kp T.b__law_is_word .nil pass0 (pa_cons (pe_ix (k_ix K) (pv 0) pe_int (fun _ _ => rfl)) pa_nil)))) (pw_or1 (pt_not (pt_val (pe_call G__law_is_word (hr.mono (by decide)) (by rfl) T.m__law_is_word T.F__law_is_word.kp T.b__law_is_word .nil pass0 (pa_cons (pe_ix (k_ix K) (pv 0) pe_int (fun _ _ => rfl)) pa_nil))))))))) (pss_one (ps_ret pe_bl)) pss_nil)
      (pss_cons (ps_if (PW.pt (pw_or (pt_not (pt_val (pe_callB (k_isi (K := K)) (by rfl) T.m_isinstance (by decide +kernel) (pa_cons (pe_ix (k_ix K) (pv 0) pe_int (fun _ _ => rfl)) (pa_cons (pe_bltn (v := .ty "tuple") (u := .type "tuple") (by rfl) T.m_tuple (by decide +kernel) rfl) pa_nil))))) (pw_or (pt_cmpR op_lt (pe_callB (k_len K) (by rfl) T.m_len (by decide +kernel) (pa_cons (pe_ix (k_ix K) (pv 0) pe_int (fun _ _ => rfl)) pa_nil)) pe_int (nomark _)) (pw_or1 (pt_cmpR op_gt (pe_callB (k_len K) (by rfl) T.m_len (by decide +kernel) (pa_cons (pe_ix (k_ix K) (pv 0) pe_int (fun _ _ => rfl)) pa_nil)) pe_int (nomark _)))))) (pss_one (ps_ret pe_bl)) pss_nil)
      (pss_one (ps_ret (pe_cmpR (k_eqA hw) (pe_lc (own := [("one", 1)]) rfl sc__law_is_row.nd (k_pitup K (pe_ix (k_ix K) (pv 0) pe_int (fun _ _ => rfl))) (blkOk_by (N := ["value", "one"]) (sc := defScope s__law_is_row) (by decide +kernel)) (fun _ _ _ _ _ => (pg_name (i := 1) sc__law_is_row.nd rfl (by first | exact Or.inl rfl | exact Or.inr rfl))) (fun _ _ _ _ _ => (pts_one (pt_not (pt_val (pe_call G__law_is_value (hr.mono (by decide)) (by rfl) T.m__law_is_value T.F__law_is_value.kp T.b__law_is_value .nil pass0 (pa_cons (pv 1) pa_nil)))))) (fun _ _ _ _ _ => (pv 1))) (pe_lst pa_nil) (nomark _)))))), body_ok h fun s c n ds hn hp => ?_⟩)
  · obtain ⟨x, rfl, _⟩ := hp
    rfl
  · obtain ⟨x, rfl, tx, dx⟩ := hp
    have fin : ∀ b, b = rowB x → (⟨fun _ m => m ≤ n + 0 ∧ postR s c [x] .non, fun d m => m ≤ n + 0 ∧ postR s c [x] d, fun _ _ => False, fun _ _ => False⟩ : Pn).rt (.bl b) n := fun b e => ⟨Nat.le_refl _, x, rfl, by rw [e]⟩
    have wd : ∀ {ρ : List Sl} {t : TE} {d : D}, tame d = true → EvE K s c t ρ n n (fun z => z = d) → EvE K s c (tCall (Pr K preName 0 postName) [] E0 (tCons t tNil)) ρ n n (fun z => z = .bl (nameB d)) := fun {ρ t d} td h =>
      ev_defK (ea_one h) (by omega) ⟨d, rfl, td⟩ fun z h => by
        obtain ⟨x', e, rfl⟩ := h
        cases e
        rfl
    by_cases isT : isTup x = true
    · obtain ⟨l, rfl⟩ : ∃ l, x = .tup l := by cases x <;> first | exact ⟨_, rfl⟩ | cases isT
      have tl := (tame_tup tx).2
      by_cases h3 : l.length = 3
      · obtain ⟨a, b, v, rfl⟩ := len3 h3
        have ta := tame_mem tl a List.mem_cons_self
        have tb := tame_mem tl b (List.mem_cons_of_mem _ List.mem_cons_self)
        have tv := tame_mem tl v (List.mem_cons_of_mem _ (List.mem_cons_of_mem _ List.mem_cons_self))
        have dv := (dp_mem (l := [a, b, v]) (d := v) (List.mem_cons_of_mem _ (List.mem_cons_of_mem _ List.mem_cons_self))).2
        have rb : rowB (.tup [a, b, v]) = (nameB a && nameB b && valsB v) := rfl
        have ix0 : EvE K s c (tOp (rIx K) (tVar 0) (tC (.int 0))) [.va (.tup [a, b, v]), .no] n n (fun z => z = a) := ev_opK (ev_var rfl) ev_int (rk_ixT rfl)
        have ix1 : EvE K s c (tOp (rIx K) (tVar 0) (tC (.int 1))) [.va (.tup [a, b, v]), .no] n n (fun z => z = b) := ev_opK (ev_var rfl) ev_int (rk_ixT rfl)
        have ix2 : EvE K s c (tOp (rIx K) (tVar 0) (tC (.int 2))) [.va (.tup [a, b, v]), .no] n n (fun z => z = v) := ev_opK (ev_var rfl) ev_int (rk_ixT rfl)
        refine s_seq (N := fun ρ' m => n = m ∧ ρ' = [.va (.tup [a, b, v]), .no] ∧ nameB a = true ∧ nameB b = true) (s_ifK (b := !true || (!decide (((3 : Nat) : Int) = 3) || (!nameB a || !nameB b))) (et_orK (et_notK (et_BK (ev_isi (ev_var rfl) rfl (one_tup _ rfl)))) fun _ => et_orK (et_K (ev_opK (ev_callK (ea_one (ev_var rfl)) (ck_len rfl)) ev_int rk_neI)) fun _ => et_orK (et_notK (et_BK (wd ta ix0))) fun _ => et_notK (et_BK (wd tb ix1))) (fun e => ?_) fun e => ?_) fun ρ1 n1 h1 => ?_
        · refine s_ret ev_bl fun d hd => ?_
          rw [hd]
          refine fin _ ?_
          rw [rb]
          cases q1 : nameB a with
          | false => rfl
          | true =>
            cases q2 : nameB b with
            | false => rfl
            | true => rw [q1, q2] at e; cases e
        · refine s_next ⟨rfl, rfl, ?_⟩
          have e' : (!nameB a || !nameB b) = false := e
          rw [Bool.or_eq_false_iff, Bool.not_eq_false', Bool.not_eq_false'] at e'
          exact e'
        obtain ⟨rfl, rfl, na, nb⟩ := h1
        by_cases iv : isTup v = true
        · obtain ⟨l, rfl⟩ : ∃ l, v = .tup l := by cases v <;> first | exact ⟨_, rfl⟩ | cases iv
          obtain ⟨ll, tl'⟩ := tame_tup tv
          have vb : valsB (.tup l) = (decide (1 ≤ (l.length : Int)) && decide ((l.length : Int) ≤ 3) && l.all valB) := rfl
          refine s_seq (N := fun ρ' m => n = m ∧ ρ' = [.va (.tup [a, b, .tup l]), .no] ∧ (1 : Int) ≤ (l.length : Int) ∧ (l.length : Int) ≤ 3) (s_ifK (b := !true || (decide ((l.length : Int) < 1) || decide (3 < (l.length : Int)))) (et_orK (et_notK (et_BK (ev_isi ix2 rfl (one_tup _ rfl)))) fun _ => et_orK (et_K (ev_opK (ev_callK (ea_one ix2) (ck_len rfl)) ev_int rk_lt)) fun _ => et_K (ev_opK (ev_callK (ea_one ix2) (ck_len rfl)) ev_int rk_gt)) (fun e => ?_) fun e => ?_) fun ρ1 n1 h1 => ?_
          · refine s_ret ev_bl fun d hd => ?_
            rw [hd]
            refine fin _ ?_
            have e' : (decide ((l.length : Int) < 1) || decide (3 < (l.length : Int))) = true := e
            rw [Bool.or_eq_true, decide_eq_true_eq, decide_eq_true_eq] at e'
            rw [rb, vb, na, nb]
            rcases e' with e' | e'
            · rw [decide_eq_false (by omega : ¬ (1 : Int) ≤ (l.length : Int))]; rfl
            · rw [decide_eq_false (by omega : ¬ (l.length : Int) ≤ 3), Bool.and_false]; rfl
          · refine s_next ⟨rfl, rfl, ?_⟩
            have e' : (decide ((l.length : Int) < 1) || decide (3 < (l.length : Int))) = false := e
            rw [Bool.or_eq_false_iff, decide_eq_false_iff_not, decide_eq_false_iff_not] at e'
            omega
          obtain ⟨rfl, rfl, h1, h2⟩ := h1
          refine s_ret (ev_opK (EvN.evK (en_lcK (fun d => d) (fun d => !valB d) (ei_tup ix2 fun d e => ⟨_, e, rfl⟩) rfl ll fun i d hi => ?_)) (ev_lstE ea_nil (Nat.zero_le _)) (rk_eqNil (filt (tame_mem tl')) (filt_len ll) (filt fun d hd => by have := (dp_mem hd).2; omega))) fun d hd => ?_
          · refine ⟨_, _, eg_name (j := 1) rfl, fun j hj => hj, et_notK (et_BK (ev_defK (ea_one (ev_var rfl)) (by omega) ⟨d, rfl, tame_mem tl' d (List.mem_of_getElem? hi)⟩ fun d' h => ?_)), fun _ => ev_var rfl⟩
            obtain ⟨x, e, rfl⟩ := h
            cases e
            rfl
          · rw [hd]
            refine fin _ ?_
            rw [none_left, rb, vb, na, nb, decide_eq_true h1, decide_eq_true h2]
            rfl
        · have it : isTup v = false := by
            cases q : isTup v with
            | true => exact absurd q iv
            | false => rfl
          have vf : valsB v = false := by cases v <;> first | rfl | cases it
          refine s_seq (N := fun _ _ => False) (s_ifK (b := !isTup v || false) (et_orK (et_notK (et_BK (ev_isi ix2 (tame_top tv) (one_tup _ (tame_top tv))))) fun e => by rw [it] at e; cases e) (fun e => s_ret ev_bl fun d hd => by rw [hd]; exact fin _ (by rw [rb, vf, Bool.and_false])) fun e => by rw [it] at e; cases e) fun ρ1 n1 h1 => h1.elim
      · refine s_seq (N := fun _ _ => False) (s_ifK (b := !true || (!decide ((l.length : Int) = 3) || true)) (et_orK (et_notK (et_BK (ev_isi (ev_var rfl) rfl (one_tup _ rfl)))) fun _ => et_orK (et_K (ev_opK (ev_callK (ea_one (ev_var rfl)) (ck_len rfl)) ev_int rk_neI)) fun e => by rw [Bool.not_eq_false', decide_eq_true_eq] at e; exact absurd (by omega) h3) (fun e => s_ret ev_bl fun d hd => by rw [hd]; exact fin _ (row_not h3).symm) fun e => by
          rw [Bool.or_true] at e
          cases e) fun ρ1 n1 h1 => h1.elim
    · have it : isTup x = false := by
        cases q : isTup x with
        | true => exact absurd q isT
        | false => rfl
      have rf : rowB x = false := by cases x <;> first | rfl | cases it
      refine s_seq (N := fun _ _ => False) (s_ifK (b := !isTup x || false) (et_orK (et_notK (et_BK (ev_isi (ev_var rfl) (tame_top tx) (one_tup _ (tame_top tx))))) fun e => by rw [it] at e; cases e) (fun e => s_ret ev_bl fun d hd => by rw [hd]; exact fin _ rf.symm) fun e => by rw [it] at e; cases e) fun ρ1 n1 h1 => h1.elim
end
end K14
/-! text K14u -/
set_option Elab.async false
set_option linter.all false
set_option maxRecDepth 100000
set_option maxHeartbeats 4000000
set_option exponentiation.threshold 5000
namespace K14
open PySem PySem.Spec PyProof.Rows L2 Pl PlS

theorem okX_items {x : D} {l : List D} (h : okX x) (e : seqD x = some l) : l.length ≤ 1000 ∧ ∀ d ∈ l, tame d = true ∧ dp d ≤ 60 := by
  rcases h with ⟨h, k⟩ | ⟨ks, l', rfl⟩
  · cases x with
    | tup l' => cases e; exact ⟨(tame_tup h).1, fun d hd => ⟨tame_mem (tame_tup h).2 d hd, by have := (dp_mem hd).2; omega⟩⟩
    | lst l' => cases e; exact ⟨(tame_lst h).1, fun d hd => ⟨tame_mem (tame_lst h).2 d hd, by have := (dp_mem hd).1; omega⟩⟩
    | _ => cases e
  · cases e
section
variable {K : PySem.W.Frag} {s c : Addr} {ρ : List Sl} {n n1 : Nat} {ta : TE}
theorem ev_isX1 {x : D} {T : String} {b : Bool} (hx : okX x) (h : EvE K s c ta ρ n n1 (fun d => d = x)) (h1 : topD x = true → PySem.W.kitOne K (.type (tyD x)) (.type T) = some b) (h2 : topD x = false → PySem.W.kitOne K (.type "dict") (.type T) = some b) :
    EvE K s c (tCB (rIsiA K) (tCons ta (tCons (tC (.ty T)) tNil))) ρ n n1 (fun d => d = .bl b) := by
  rcases hx with ⟨hx, _⟩ | ⟨ks, l, rfl⟩
  · exact ev_isi h (tame_top hx) (h1 (tame_top hx))
  · exact ev_isiD h (h2 rfl)
theorem ev_isL {x : D} (hx : okX x) (h : EvE K s c ta ρ n n1 (fun d => d = x)) : EvE K s c (tCB (rIsiA K) (tCons ta (tCons (tC (.ty "list")) tNil))) ρ n n1 (fun d => d = .bl (isLst x)) := by
  rcases hx with ⟨hx, _⟩ | ⟨ks, l, rfl⟩
  · exact ev_isi h (tame_top hx) (one_lst _ (tame_top hx))
  · exact ev_isiD h rfl
theorem ev_isT {x : D} (hx : okX x) (h : EvE K s c ta ρ n n1 (fun d => d = x)) : EvE K s c (tCB (rIsiA K) (tCons ta (tCons (tC (.ty "tuple")) tNil))) ρ n n1 (fun d => d = .bl (isTup x)) := by
  rcases hx with ⟨hx, _⟩ | ⟨ks, l, rfl⟩
  · exact ev_isi h (tame_top hx) (one_tup _ (tame_top hx))
  · exact ev_isiD h rfl
end
section
variable {P : Program} {w : World} {K : PySem.W.Frag} {mg : Str → Option Value} {base : Heap} {A : Adr}
theorem ok__law_expected (T : Txt A K mg) : FnOk P w K mg base CX0 3 A.f__law_expected A.fd__law_expected ["rows"] (Pr K preX 0 postErr) := by
  have G__law_is_row := ok__law_is_row (P := P) (w := w) (base := base) T
  refine T.F__law_expected.ok sc__law_expected (fun vs H Q E h => pr_len h fun s c ds hp => ?_) (fun cdv A' outer st H vs Q E hr h => have hw : _ := hr.units; have hs70 : _ := (by have := hr.un; omega : (A'.deeper (envOfC "_law_expected" (defScope s__law_expected) st.heap.objs.size A.f__law_expected cdv)).units + 70 < cLine); have hs65 : _ := (by have := hr.un; omega : (A'.deeper (envOfC "_law_expected" (defScope s__law_expected) st.heap.objs.size A.f__law_expected cdv)).units + 65 < cLine); ⟨_, (pss_cons (ps_if (PW.pt (pw_or (PW.pt (pw_and (pt_not (pt_val (pe_callB (k_isi (K := K)) (by rfl) T.m_isinstance (by decide +kernel) (pa_cons (pv 0) (pa_cons (pe_bltn (v := .ty "list") (u := .type "list") (by rfl) T.m_list (by decide +kernel) rfl) pa_nil))))) (pw_and1 (pt_not (pt_val (pe_callB (k_isi (K := K)) (by rfl) T.m_isinstance (by decide +kernel) (pa_cons (pv 0) (pa_cons (pe_bltn (v := .ty "tuple") (u := .type "tuple") (by rfl) T.m_tuple (by decide +kernel) rfl) pa_nil)))))))) (pw_or1 (pt_cmpR op_gt (pe_callB (k_len K) (by rfl) T.m_len (by decide +kernel) (pa_cons (pv 0) pa_nil)) pe_int (nomark _))))) (pss_one (ps_ret (pe_tup (pa_cons pe_str pa_nil)))) pss_nil)
      (pss_cons (ps_for PassesOwn.never rfl (pi_range1 rfl T.m_range (pa_cons (pe_callB (k_len K) (by rfl) T.m_len (by decide +kernel) (pa_cons (pv 0) pa_nil)) pa_nil)) (pg_name (i := 1) sc__law_expected.nd rfl (by first | exact Or.inl rfl | exact Or.inr rfl)) (pss_cons (ps_if (pt_not (pt_val (pe_call G__law_is_row (hr.mono (by decide)) (by rfl) T.m__law_is_row T.F__law_is_row.kp T.b__law_is_row .nil pass0 (pa_cons (pe_ix (k_ix K) (pv 0) (pv 1) (fun _ _ => rfl)) pa_nil)))) (pss_one (ps_ret (pe_tup (pa_cons pe_str (pa_cons (pv 1) pa_nil))))) pss_nil)
      (pss_cons (ps_if (pt_cmpR (k_in (K := K)) (pe_ix (k_ix K) (pe_ix (k_ix K) (pv 0) (pv 1) (fun _ _ => rfl)) pe_int (fun _ _ => rfl)) (pe_lc (own := [("row", 2)]) rfl sc__law_expected.nd (k_piseq (K := K) (pe_slice (k_sl K) (pv 0) po_none (po_some (pv 1)))) (blkOk_by (N := ["rows", "k", "row"]) (sc := defScope s__law_expected) (by decide +kernel)) (fun _ _ _ _ _ => (pg_name (i := 2) sc__law_expected.nd rfl (by first | exact Or.inl rfl | exact Or.inr rfl))) (fun _ _ _ _ _ => pts_nil) (fun _ _ _ _ _ => (pe_ix (k_ix K) (pv 2) pe_int (fun _ _ => rfl)))) rfl) (pss_one (ps_ret (pe_tup (pa_cons pe_str (pa_cons (pv 1) pa_nil))))) pss_nil)
      (pss_cons (ps_if (pt_cmpR (k_neA hw) (pe_lc (own := [("row", 2)]) rfl sc__law_expected.nd (k_piseq (K := K) (pe_slice (k_sl K) (pv 0) po_none (po_some (pv 1)))) (blkOk_by (N := ["rows", "k", "row"]) (sc := defScope s__law_expected) (by decide +kernel)) (fun _ _ _ _ _ => (pg_name (i := 2) sc__law_expected.nd rfl (by first | exact Or.inl rfl | exact Or.inr rfl))) (fun _ _ _ _ _ => (pts_one (PW.pt (pw_and (pt_cmpR (k_eqA hw) (pe_ix (k_ix K) (pv 2) pe_int (fun _ _ => rfl)) (pe_ix (k_ix K) (pe_ix (k_ix K) (pv 0) (pv 1) (fun _ _ => rfl)) pe_int (fun _ _ => rfl)) (nomark _)) (pw_and1 (pt_cmpR (k_neA hw) (pe_callB (k_len K) (by rfl) T.m_len (by decide +kernel) (pa_cons (pe_ix (k_ix K) (pv 2) pe_int (fun _ _ => rfl)) pa_nil)) (pe_callB (k_len K) (by rfl) T.m_len (by decide +kernel) (pa_cons (pe_ix (k_ix K) (pe_ix (k_ix K) (pv 0) (pv 1) (fun _ _ => rfl)) pe_int (fun _ _ => rfl)) pa_nil)) (nomark _))))))) (fun _ _ _ _ _ => (pv 2))) (pe_lst pa_nil) (nomark _)) (pss_one (ps_ret (pe_tup (pa_cons pe_str (pa_cons (pv 1) pa_nil))))) pss_nil)
      (pss_one (ps_if (pt_cmpR (op_inX hs65 K) (pe_slice (k_sl K) (pe_ix (k_ix K) (pv 0) (pv 1) (fun _ _ => rfl)) (po_some pe_int) po_none) (pe_lc (own := [("row", 2)]) rfl sc__law_expected.nd (k_piseq (K := K) (pe_slice (k_sl K) (pv 0) po_none (po_some (pv 1)))) (blkOk_by (N := ["rows", "k", "row"]) (sc := defScope s__law_expected) (by decide +kernel)) (fun _ _ _ _ _ => (pg_name (i := 2) sc__law_expected.nd rfl (by first | exact Or.inl rfl | exact Or.inr rfl))) (fun _ _ _ _ _ => pts_nil) (fun _ _ _ _ _ => (pe_slice (k_sl K) (pv 2) (po_some pe_int) po_none))) rfl) (pss_one (ps_ret (pe_tup (pa_cons pe_str (pa_cons (pv 1) pa_nil))))) pss_nil))))))
      (pss_one (ps_ret pe_non)))), body_ok h fun s c n ds hn hp => ?_⟩)
  · obtain ⟨x, rfl, _⟩ := hp
    rfl
  · obtain ⟨x, rfl, hx⟩ := hp
    have fin : ∀ z, z = errT x → (⟨fun _ m => m ≤ n + 0 ∧ postErr s c [x] .non, fun d m => m ≤ n + 0 ∧ postErr s c [x] d, fun _ _ => False, fun _ _ => False⟩ : Pn).rt z n := fun z e => ⟨Nat.le_refl _, x, rfl, e⟩
    refine s_seq (N := fun ρ' m => n = m ∧ ρ' = [.va x, .no, .no] ∧ ∃ l, seqD x = some l ∧ (l.length : Int) ≤ 6) ?_ fun ρ1 n1 h1 => ?_
    · cases q : seqD x with
      | none =>
        have nl : isLst x = false := by cases x <;> first | rfl | cases q
        have nt : isTup x = false := by cases x <;> first | rfl | cases q
        refine s_ifK (b := (!isLst x && !isTup x) || false) (et_orK (et_andK (et_notK (et_BK (ev_isL hx (ev_var rfl)))) fun _ => et_notK (et_BK (ev_isT hx (ev_var rfl)))) fun e => by rw [nl, nt] at e; cases e) (fun e => ?_) fun e => by rw [nl, nt] at e; cases e
        refine s_ret (ev_tupE (ea_one ev_str) (by exact (by decide : (1 : Nat) ≤ 1000))) fun d hd => ?_
        rw [hd]
        refine fin _ ?_
        unfold errT
        rw [q]
        all_goals rfl
      | some l =>
        have nl : (!isLst x && !isTup x) = false := by cases x <;> first | rfl | cases q
        refine s_ifK (b := (!isLst x && !isTup x) || decide (6 < (l.length : Int))) (et_orK (et_andK (et_notK (et_BK (ev_isL hx (ev_var rfl)))) fun _ => et_notK (et_BK (ev_isT hx (ev_var rfl)))) fun _ => et_K (ev_opK (ev_callK (ea_one (ev_var rfl)) (ck_len q)) ev_int rk_gt)) (fun e => ?_) fun e => ?_
        · refine s_ret (ev_tupE (ea_one ev_str) (by exact (by decide : (1 : Nat) ≤ 1000))) fun d hd => ?_
          rw [hd]
          refine fin _ ?_
          rw [nl, Bool.false_or, decide_eq_true_eq] at e
          unfold errT
          rw [q]
          show _ = if _ then _ else _
          rw [if_pos e]
          all_goals rfl
        · rw [nl, Bool.false_or, decide_eq_false_iff_not] at e
          exact s_next ⟨rfl, rfl, l, rfl, by omega⟩
    obtain ⟨rfl, rfl, l, q, l6⟩ := h1
    obtain ⟨ll, tl⟩ := okX_items hx q
    have erry : errT x = errR [] 0 l := by
      unfold errT
      rw [q]
      show (if _ then _ else _) = _
      rw [if_neg (by omega)]
    refine s_seq (N := fun ρ' m => n = m ∧ errT x = .non) ?_ fun ρ1 n1 h1 => ?_
    · refine s_for (ei_rng1 (PL := fun ds => ds = dInts 0 l.length) (ea_one (ev_callK (ea_one (ev_var rfl)) (ck_len q))) fun a e => ⟨l.length, e, by omega, by omega, by rw [Int.toNat_natCast]⟩)
        (fun ds i ρ' m => n = m ∧ (∃ y1, ρ' = [.va x, y1, .no] ∧ isOw (some y1) = false) ∧ ∃ rs : List Row, errT x = errR rs i (l.drop i) ∧ l.take i = rs.map dRow ∧ ∀ r ∈ rs, okRow r)
        (fun ds e => ⟨rfl, ⟨.no, rfl, rfl⟩, [], erry, rfl, fun r hr => by cases hr⟩) (fun ds e i d ρ' m hi inv => ?_) fun ds e ρ' m inv => ?_
      · obtain ⟨rfl, ⟨y1, rfl, o1⟩, rs, hE, hT, hok⟩ := inv
        rw [e] at hi
        obtain ⟨il, rfl⟩ := ints_at' hi
        obtain ⟨b, hb⟩ : ∃ b, l[i]? = some b := ⟨l[i], List.getElem?_eq_getElem il⟩
        have tb := tl b (List.mem_of_getElem? hb)
        have rl : rs.length = i := by
          have := congrArg List.length hT
          rw [List.length_take, List.length_map] at this
          omega
        have dr : l.drop i = b :: l.drop (i + 1) := by
          rw [List.drop_eq_getElem_cons il]
          rw [List.getElem?_eq_getElem il] at hb
          rw [Option.some.inj hb]
        rw [dr] at hE
        refine ⟨_, _, eg_name (j := 1) o1, ?_⟩
        have at0 : ∀ {y : Sl}, EvE K s c (tOp (rIx K) (tVar 0) (tVar 1)) [.va x, .va (.int (0 + (i : Nat))), y] n n (fun z => z = b) := fun {y} => ev_opK (ev_var rfl) (ev_var rfl) (rk_ixD q (by rw [Int.zero_add]; exact atI_at hb))
        have give : ∀ {z : Str} {y : Sl} {B : Pn}, B.rt = (fun d m => m ≤ n + 0 ∧ postErr s c [x] d) → stepE i rs b = some (E2 z i) → EvS K s c (tRet (tTup (tCons (tC (.str z)) (tCons (tVar 1) tNil)))) [.va x, .va (.int (0 + (i : Nat))), y] n B := fun {z y B} hB hs => by
          refine s_ret (ev_tupE (ea_c ev_str (ea_one (ev_var rfl))) (by exact (by decide : (2 : Nat) ≤ 1000))) fun d' hd' => ?_
          rw [hB, hd']
          refine fin _ ?_
          rw [hE, errR_hit hs, Int.zero_add]
          rfl
        -- a row
        refine s_seq (N := fun ρ' m => n = m ∧ ρ' = [.va x, .va (.int (0 + (i : Nat))), .no] ∧ rowB b = true) (s_ifK (b := !rowB b) (et_notK (et_BK (ev_defK (ea_one at0) (by omega) ⟨b, rfl, tb⟩ fun z h => by
          obtain ⟨x', e, rfl⟩ := h
          cases e
          rfl))) (fun e => ?_) fun e => ?_) fun ρ1 n1 h1 => ?_
        · refine give rfl ?_
          rw [Bool.not_eq_true'] at e
          unfold stepE
          rw [if_pos e]
        · rw [Bool.not_eq_false'] at e
          exact s_next ⟨rfl, rfl, e⟩
        obtain ⟨rfl, rfl, rb⟩ := h1
        obtain ⟨r, rfl, hr'⟩ := row_is rb
        have st : stepE i rs (dRow r) = if clashN rs r = true then some (E2 "name" i) else if clashP rs r = true then some (E2 "places" i) else if clashR rs r = true then some (E2 "repeated" i) else none := by
          unfold stepE
          rw [if_neg (by rw [rb]; simp), unR_of]
        obtain ⟨y', qy', hsl⟩ := ev_slS (K := K) (s := s) (c := c) (ρ := [.va x, .va (.int (0 + (i : Nat))), .no]) (n := n) q (ev_var (i := 0) rfl) eo_none (eo_some (ev_var (i := 1) rfl))
        have qy : seqD y' = some (rs.map dRow) := by rw [qy', Int.zero_add, cut_pre, hT]
        -- the name
        refine s_seq (N := fun ρ' m => n = m ∧ ρ' = [.va x, .va (.int (0 + (i : Nat))), .no] ∧ clashN rs r = false) (s_ifK (b := clashN rs r) ((et_K (ev_opK (ev_opK at0 ev_int (rk_ixT rfl)) (EvE.imp (EvN.evK (en_mapK (fun d => D.str (unR d).1) (ei_seq hsl qy) rfl (by rw [List.length_map]; omega) fun j d hj => ?_)) fun d e => ?_) (rk_in (ys := rs.map (·.1)) (show seqD (.lst (dStrs (rs.map (·.1)))) = some (dStrs (rs.map (·.1))) from rfl)))).imp fun u e => ?_) (fun e => ?_) fun e => ?_) fun ρ1 n1 h1 => ?_
        · obtain ⟨a, ha, rfl⟩ := List.mem_map.mp (List.mem_of_getElem? hj)
          refine ⟨_, _, eg_name (j := 2) rfl, fun j hj => hj, ?_⟩
          rw [unR_of]
          exact ev_opK (ev_var rfl) ev_int (rk_ixT rfl)
        · rw [e, List.map_map]
          unfold dStrs
          rw [List.map_map]
          congr 1
        · rw [e]
          unfold clashN
          rw [Bool.eq_iff_iff, List.any_eq_true, decide_eq_true_eq, List.mem_map]
          exact ⟨fun ⟨a, ha, e⟩ => ⟨a, ha, decide_eq_true e⟩, fun ⟨a, ha, e⟩ => ⟨a, ha, of_decide_eq_true e⟩⟩
        · refine give rfl ?_
          rw [st, if_pos e]
        · exact s_next ⟨rfl, rfl, e⟩
        obtain ⟨rfl, rfl, fN⟩ := h1
        rw [if_neg (by rw [fN]; exact Bool.false_ne_true)] at st
        -- the places
        refine s_seq (N := fun ρ' m => n = m ∧ ρ' = [.va x, .va (.int (0 + (i : Nat))), .no] ∧ clashP rs r = false) (s_ifK (b := clashP rs r) ((et_K (ev_opK (EvN.evK (en_lcK (fun d => d) (fun d => decide ((unR d).2.1 = r.2.1) && !decide (((unR d).2.2.length : Int) = (r.2.2.length : Int))) (ei_seq hsl qy) rfl (by rw [List.length_map]; omega) fun j d hj => ?_)) (ev_lstE ea_nil (Nat.zero_le _)) (rk_neNil ?_ ?_ ?_))).imp fun u e => ?_) (fun e => ?_) fun e => ?_) fun ρ1 n1 h1 => ?_
        · obtain ⟨a, ha, rfl⟩ := List.mem_map.mp (List.mem_of_getElem? hj)
          refine ⟨_, _, eg_name (j := 2) rfl, fun j hj => hj, (et_andK (et_K (ev_opK (ev_opK (ev_var rfl) ev_int (rk_ixT rfl)) (ev_opK at0 ev_int (rk_ixT rfl)) rk_eqS)) fun _ => et_K (ev_opK (ev_callK (ea_one (ev_opK (ev_var rfl) ev_int (rk_ixT rfl))) (ck_len rfl)) (ev_callK (ea_one (ev_opK at0 ev_int (rk_ixT rfl))) (ck_len rfl)) rk_neI)).imp fun u e => ?_, fun _ => ev_var rfl⟩
          rw [e, unR_of, is_len, is_len]
        · exact filt fun d hd => by
            obtain ⟨a, ha, rfl⟩ := List.mem_map.mp hd
            exact (tame_row (hok a ha)).1
        · exact filt_len (by rw [List.length_map]; omega)
        · exact filt fun d hd => by
            obtain ⟨a, ha, rfl⟩ := List.mem_map.mp hd
            exact (tame_row (hok a ha)).2
        · rw [e, any_left, List.any_map]
          unfold clashP
          congr 1
          funext a
          show _ = _
          simp only [Function.comp, unR_of]
        · refine give rfl ?_
          rw [st, if_pos e]
        · exact s_next ⟨rfl, rfl, e⟩
        obtain ⟨rfl, rfl, fP⟩ := h1
        rw [if_neg (by rw [fP]; exact Bool.false_ne_true)] at st
        -- the content
        have cutR : ∀ q : Row, Pl.cutD [.str q.1, .str q.2.1, .tup (dIs q.2.2)] (some 1) none = [.str q.2.1, .tup (dIs q.2.2)] := fun q => rfl
        have b1 : EvE K s c (tSl (rSlAny K) (tOp (rIx K) (tVar 0) (tVar 1)) (tPart (tC (.int 1))) tNoPart) [.va x, .va (.int (0 + (i : Nat))), .no] n n (fun z => z = dPair r.2) := (ev_slT at0 (eo_some ev_int) eo_none).imp fun d e => by rw [e, cutR]; rfl
        refine s_ifK (b := clashR rs r) ((et_K (ev_opK b1 (EvE.imp (P' := fun d => d = .lst ((rs.map (·.2)).map dPair)) (EvN.evK (en_mapK (fun d => dPair (unR d).2) (ei_seq hsl qy) rfl (by rw [List.length_map]; omega) fun j d hj => ?_)) fun d e => ?_) (rk_pairIn (neg := false) ⟨hr'.2.1, hr'.2.2.2.1⟩ (fun q hq => ?_) (by rw [List.length_map]; omega)))).imp fun u e => ?_) (fun e => ?_) fun e => ?_
        · obtain ⟨a, ha, rfl⟩ := List.mem_map.mp (List.mem_of_getElem? hj)
          refine ⟨_, _, eg_name (j := 2) rfl, fun j hj => hj, ?_⟩
          rw [unR_of]
          exact (ev_slT (ev_var rfl) (eo_some ev_int) eo_none).imp fun d e => by rw [e, cutR]; rfl
        · rw [e, List.map_map, List.map_map]
          exact congrArg D.lst (List.map_congr_left fun a _ => by
            show dPair (unR (dRow a)).2 = dPair a.2
            rw [unR_of])
        · obtain ⟨a, ha, rfl⟩ := List.mem_map.mp hq
          exact ⟨(hok a ha).2.1, (hok a ha).2.2.2.1⟩
        · rw [e]
          unfold clashR
          rw [Bool.eq_iff_iff, List.any_eq_true]
          show decide (r.2 ∈ rs.map (·.2)) = true ↔ _
          rw [decide_eq_true_eq, List.mem_map]
          exact ⟨fun ⟨a, ha, e⟩ => ⟨a, ha, decide_eq_true e⟩, fun ⟨a, ha, e⟩ => ⟨a, ha, of_decide_eq_true e⟩⟩
        · refine give rfl ?_
          rw [st, if_pos e]
        · rw [if_neg (by rw [e]; exact Bool.false_ne_true)] at st
          refine s_next ⟨rfl, ⟨_, rfl, rfl⟩, rs ++ [r], by rw [hE, errR_go st], ?_, fun q hq => ?_⟩
          · rw [List.take_add_one, hb, hT, List.map_append]
            rfl
          · rcases snoc_mem hq with hq | hq
            · exact hok q hq
            · rw [hq]; exact hr'
      · obtain ⟨rfl, _, rs, hE, _⟩ := inv
        rw [e, ints_len, List.drop_length] at hE
        exact ⟨rfl, hE⟩
    · obtain ⟨rfl, e⟩ := h1
      refine s_ret ev_non fun d hd => ?_
      rw [hd]
      exact fin _ e.symm
end
end K14
/-! text K14v -/
set_option Elab.async false
set_option linter.all false
set_option maxRecDepth 100000
set_option maxHeartbeats 4000000
set_option exponentiation.threshold 5000
namespace K14
open PySem PySem.Spec PyProof.Rows L2 Pl PlS
theorem k_isx {X : Cx} {K : PySem.W.Frag} (h : X.K = K := by rfl) : CallR X (.builtin "isinstance") (fun xs H Q => rIsX K xs H Q ∨ rIsiA K xs H Q) := by subst h; exact call_isX.or k_isi
theorem k_fx {X : Cx} {K : PySem.W.Frag} {e : Expr} {te : TE} {pos : Pos} {f : Str} (he : PE X e te) (hb : attributeBase e f X.env (eval e X.env) = eval e X.env) (h : X.K = K := by rfl) : PE X (.Attribute e f pos) (tFx K te f) := by subst h; exact pe_fx he hb
/-- what the top has written of the errors' classes -/
structure VTxt (K : PySem.W.Frag) (mg : Str → Option Value) (CE CM : Addr) : Prop where
  gM : mg "MarkError" = some (.ref CM)
  exm : PySem.W.exmOne K (.ref CE) (.ref CM) = some true
  eC : ExcC K CE
  fC : XfC K CE
  one1 : PySem.W.kitOne K (.ref CE) (.ref CE) = some true
  one2 : PySem.W.kitOne K (.ref CE) (.type "ValueError") = some true
  one0 : PySem.W.kitOne K (.type "NoneType") (.ref CE) = some false
  m_ValueError : mg "ValueError" = none
theorem gr2_of {s c i d : Addr} {H H2 : Hp} {o u : HO} (hd : H d = none) (hi : H i = none) (g : Gr [s, c, i] (upd (upd H d o) i u) H2) : Gr [s, c] H H2 := fun b q e m => by
  have ei : b ≠ i := ne_of_none e hi
  have ed : b ≠ d := ne_of_none e hd
  refine g b q (by rw [upd_ne ei, upd_ne ed]; exact e) ?_
  rcases m with m | m
  · refine .inl fun z => ?_
    rcases List.mem_cons.mp z with z | z
    · exact m (by rw [z]; exact List.mem_cons_self)
    · rcases List.mem_cons.mp z with z | z
      · exact m (by rw [z]; exact List.mem_cons_of_mem _ List.mem_cons_self)
      · exact ei (List.mem_singleton.mp z)
  · exact .inr m
section
variable {P : Program} {w : World} {K : PySem.W.Frag} {mg : Str → Option Value} {base : Heap} {A : Adr} {CT fT CE fE CM : Addr} {mcT : Value} {dT dE : FuncData}
theorem ok__law_raised (T : Txt A K mg) (G : CTxt K mg CT mcT) (U : QTxt K mg CT fT CE fE dT dE) (V : VTxt K mg CE CM) : FnOk P w K mg base CX0 9 A.f__law_raised A.fd__law_raised ["rows"] (Pr K (preErr CT) 0 postErr) := by
  refine T.F__law_raised.ok sc__law_raised (fun vs H Q E h => pr_len h fun s c ds hp => ?_) (fun cdv A' outer st H vs Q E hr h => ⟨_, (pss_cons (ps_set (i := 1) sc__law_raised.nd rfl (by first | exact Or.inl rfl | exact Or.inr rfl) pe_non)
      (pss_cons (ps_try_hold (i := 2) rfl rfl rfl sc__law_raised.nd rfl rfl ⟨rfl, by decide, .inl V.gM⟩ (tb := fun W => tDrop (tMakeS CT (PrC K CT ksT (preT CT) valT (badT CE)) (WE W) (tCons (tVar 0) tNil)))
        (fun W pn xe tk _ => pss_one (ps_expr (pe_makeS U.kT (ok_t_init T G U) (hr.mono (by decide)) (by rfl) G.gT U.bT (fun σ => passAt tk σ) (pa_cons (pv 0) pa_nil))))
        (fun a oe cls d pn hz hf => pss_one (ps_set (i := 1) sc__law_raised.nd rfl (by first | exact Or.inl rfl | exact Or.inr rfl) (pv 2))))
      (pss_cons (ps_if (PW.pt (pw_and (pt_val (pe_callB (k_isx (K := K)) (by rfl) T.m_isinstance (by decide +kernel) (pa_cons (pv 1) (pa_cons (pe_glob (v := .ref CE) rfl U.gE rfl) pa_nil)))) (pw_and1 (pt_val (pe_callB (k_isx (K := K)) (by rfl) T.m_isinstance (by decide +kernel) (pa_cons (pv 1) (pa_cons (pe_bltn (v := .ty "ValueError") (u := .type "ValueError") (by rfl) V.m_ValueError (by decide +kernel) rfl) pa_nil))))))) (pss_one (ps_ret (k_fx (K := K) (pv 1) rfl))) pss_nil)
      (pss_one (ps_ret (pv 1)))))), ?_⟩)
  · obtain ⟨x, rfl, _⟩ := hp
    rfl
  · obtain ⟨s, c, M, n, ds, hs, hc, ht, src, hn, rl, ⟨x, rfl, okx⟩, q⟩ := h
    obtain ⟨vx, rfl, rx⟩ := rl.inv1
    refine ⟨vx, rfl, fun i d hi hd ne => ?_⟩
    have hi' : upd H d (.own i) i = none := by rw [upd_ne (Ne.symm ne)]; exact hi
    have G0 : Gr (i :: M) H (upd (upd H d (.own i)) i (.ins CT d [])) := (Gr.new hd).trans (Gr.new hi')
    have is : i ≠ s := fun z => by
      obtain ⟨o, e⟩ := src.s_some
      rw [← z, hi] at e
      cases e
    have ic : i ≠ c := fun z => by
      obtain ⟨o, e⟩ := src.c_some
      rw [← z, hi] at e
      cases e
    refine ⟨i, d, s, c, i :: M, n, [vx], [x], rfl, ⟨List.mem_cons_of_mem _ hs, List.mem_cons_of_mem _ hc⟩, List.mem_cons_self, is, ic, fun b hb => ?_, (src.new hd).new hi', by omega, upd_same, ⟨(rx.apart hi).gr G0, trivial⟩, ⟨x, rfl, okx⟩, fun l H2 fs hv g2 s2 _ _ _ => ⟨rfl, ?_⟩, fun CE' nm e d2 H2 v hb g2 s2 hd2 rv => ?_⟩
    · by_cases e : b = i
      · rw [e]; exact ⟨_, upd_same⟩
      · rcases List.mem_cons.mp hb with z | z
        · exact absurd z e
        · obtain ⟨o, he⟩ := ht b z
          exact ⟨o, by rw [upd_ne e, upd_ne (ne_of_none he hd)]; exact he⟩
    · obtain ⟨x', rs, e1, no, _⟩ := hv
      cases e1
      refine ⟨.non, rfl, .inr (.inl ⟨.non, .ref CE, _, _, false, rfl, .own CE, .base .non, V.one0, false, rfl, ?_⟩)⟩
      refine if_no rfl ⟨.non, rfl, q .non H2 .non (gr2_of hd hi g2) s2 rfl ⟨x, rfl, no.symm⟩⟩
    · obtain ⟨x', e1, yes, rfl, rfl, rfl⟩ := hb
      cases e1
      refine ⟨V.exm, fun a ha => ⟨.ref a, rfl, ?_⟩⟩
      have na : d2 ≠ a := fun z => by rw [z, upd_same] at ha; cases ha
      have h2a : H2 a = none := by rw [upd_ne (Ne.symm na)] at ha; exact ha
      have at_ : upd (upd H2 d2 (.xd [("reason", v)])) a (Xv (.ref CE') (some d2) a) a = some (Xv (.ref CE') (some d2) a) := upd_same
      have ad : upd (upd H2 d2 (.xd [("reason", v)])) a (Xv (.ref CE') (some d2) a) d2 = some (.xd [("reason", v)]) := by rw [upd_ne na]; exact upd_same
      have own : ∀ dd, some d2 = some dd → ∃ fs, upd (upd H2 d2 (.xd [("reason", v)])) a (Xv (.ref CE') (some d2) a) dd = some (.xd fs) := fun dd e => by
        cases e
        exact ⟨_, ad⟩
      refine ⟨.ref a, rfl, .inl ⟨a, CE', some d2, .ref CE', _, true, rfl, .own CE', at_, own, V.eC, V.one1, true, rfl, ?_⟩⟩
      refine if_yes rfl ⟨.ref a, rfl, .inl ⟨a, CE', some d2, .ty "ValueError", _, true, rfl, .ty "ValueError", at_, own, V.eC, V.one2, true, rfl, ?_⟩⟩
      refine if_yes rfl ⟨.ref a, rfl, a, CE', d2, _, v, rfl, at_, ad, V.fC, U.nE, by simp [List.lookup], ?_⟩
      have G2 : Gr (i :: M) H2 (upd (upd H2 d2 (.xd [("reason", v)])) a (Xv (.ref CE') (some d2) a)) := (Gr.new hd2).trans (Gr.new ha)
      have G3 : Gr [s, c] H2 (upd (upd H2 d2 (.xd [("reason", v)])) a (Xv (.ref CE') (some d2) a)) := (Gr.new hd2).trans (Gr.new ha)
      exact q v _ (errT x) ((gr2_of hd hi g2).trans G3) ((s2.new hd2).new ha) ((rv.gr G2).mono fun b hb => List.mem_cons_of_mem _ hb) ⟨x, rfl, rfl⟩
end
end K14
/-! text K14w -/
set_option Elab.async false
set_option linter.all false
set_option maxRecDepth 100000
set_option maxHeartbeats 4000000
set_option exponentiation.threshold 5000
namespace K14
open PySem PySem.Spec PyProof.Rows L2 Pl PlS

def goodI (is : List Int) : Bool := !is.isEmpty && decide (is.length ≤ 4) && is.all fun i => decide (-1000000000 ≤ i) && (decide (i ≤ 1000000000) && ls (.int i))
theorem goodI_of {is : List Int} (h : goodI is = true) : is ≠ [] ∧ is.length ≤ 4 ∧ ∀ i ∈ is, (-1000000000 ≤ i ∧ i ≤ 1000000000) ∧ ls (.int i) = true := by
  unfold goodI at h
  rw [Bool.and_eq_true, Bool.and_eq_true, decide_eq_true_eq, List.all_eq_true] at h
  refine ⟨fun e => (by rw [e] at h; exact absurd h.1.1 (by decide)), h.1.2, fun i hi => ?_⟩
  have := h.2 i hi
  rw [Bool.and_eq_true, Bool.and_eq_true, decide_eq_true_eq, decide_eq_true_eq] at this
  exact ⟨⟨this.1, this.2.1⟩, this.2.2⟩
def someL : List (List Int) := [[0, 1, 2], [0 - 1, 0, 1], [9, 10, 0 - 10], [0 - 10 ^ 9, 10 ^ 9, 100], [0, 1]]
def moreL (is : List Int) : List (List Int) := [[0, 9, 10, 0 - 1], [0 - 10 ^ 9, 0 - 10, 99, 100], is, is]
theorem some_good : ∀ is ∈ someL, goodI is = true := by decide +kernel
theorem more_good {is : List Int} (h : goodI is = true) : ∀ js ∈ moreL is, goodI js = true := fun js hj => by
  rcases List.mem_cons.mp hj with rfl | hj
  · decide +kernel
  · rcases List.mem_cons.mp hj with rfl | hj
    · decide +kernel
    · rcases List.mem_cons.mp hj with rfl | hj
      · exact h
      · rw [List.mem_singleton.mp hj]; exact h
def dLs (ls : List (List Int)) : D := .lst (ls.map fun is => .lst (dIs is))
def nmL (z : Str) : List Str := [Str.ofString "r", Str.ofString "ra", Str.ofString "rb", Str.ofString "s", Str.ofString "eightrow", Str.ofString "eightros", Str.ofString "t", z]
theorem nmL_ok {z : Str} (h : z.length = 5) (l : Low z) : ∀ v ∈ nmL z, isName v := fun p hp => by
  simp only [nmL, List.mem_cons, List.not_mem_nil, or_false] at hp
  rcases hp with rfl | rfl | rfl | rfl | rfl | rfl | rfl | rfl
  · exact nm (by decide +kernel)
  · exact nm (by decide +kernel)
  · exact nm (by decide +kernel)
  · exact nm (by decide +kernel)
  · exact nm (by decide +kernel)
  · exact nm (by decide +kernel)
  · exact nm (by decide +kernel)
  · exact ⟨by omega, by omega, l⟩
theorem ints_mem {d : D} {l : List Int} (h : d ∈ dIs l) : ∃ i, d = .int i ∧ i ∈ l := by
  obtain ⟨z, hz, rfl⟩ := List.mem_map.mp h
  exact ⟨z, rfl, hz⟩
theorem flat_row (r : Row) : flat (dRow r) = true := by
  show (true && (true && (flatL (dIs r.2.2) && true))) = true
  rw [flat_is]
  rfl
/-- a row of short values -/
def okRL (r : Row) : Prop := okRow r ∧ (∀ i ∈ r.2.2, ls (.int i) = true) ∧ r.1 ≠ Str.ofString "zz"
theorem nmL_nz {z : Str} (h : z.length = 5) : ∀ v ∈ nmL z, v ≠ Str.ofString "zz" := fun p hp => by
  simp only [nmL, List.mem_cons, List.not_mem_nil, or_false] at hp
  rcases hp with rfl | rfl | rfl | rfl | rfl | rfl | rfl | rfl
  · decide +kernel
  · decide +kernel
  · decide +kernel
  · decide +kernel
  · decide +kernel
  · decide +kernel
  · decide +kernel
  · intro e
    rw [e] at h
    exact absurd h (by decide +kernel)
theorem ev_shufP {K : PySem.W.Frag} {s c : Addr} {ρ : List Sl} {n n1 n2 : Nat} {ta tb : TE} {P : List D → Prop} (ha : EvE K s c ta ρ n n1 (fun d => d = .obj s)) (hb : EvE K s c tb ρ n1 n2 (fun d => ∃ l, d = .lst l ∧ P l)) (hn : n2 + 60 ≤ 2 ^ 40) (hl : ∀ l, P l → l.length ≤ 60) :
    EvE K s c (tCall (Pr K preShuf 60 postShuf) [] E0 (tCons ta (tCons tb tNil))) ρ n (n2 + 60) (fun d => ∃ l l', P l ∧ d = .lst l' ∧ l'.Perm l) :=
  (ev_def (A := fun x => ∃ l, x = [.obj s, .lst l] ∧ P l) ((ea_cons ha (ea_cons hb ea_nil)).imp fun l e => by
    obtain ⟨d, r, rfl, rfl, d2, r2, rfl, ⟨L, rfl, hL⟩, rfl⟩ := e
    exact ⟨L, rfl, hL⟩) hn fun x e => by
      obtain ⟨l, rfl, h⟩ := e
      exact ⟨l, rfl, hl l h⟩).imp fun d h => by
    obtain ⟨x, ⟨l, rfl, hP⟩, l1, l', e2, e3, e4⟩ := h
    cases e2
    exact ⟨l, l', hP, e3, e4⟩
def preDb (s c : Addr) (ds : List D) : Prop := ∃ ps, ds = [.obj s, .lst (ps.map dShape), .int 7] ∧ shapesOk ps ∧ ps ≠ [] ∧ ps.length ≤ 3
def postDb (s c : Addr) (ds : List D) (z : D) : Prop := ∃ rs : List Row, z = .lst (rs.map dRow) ∧ (∀ r ∈ rs, okRL r) ∧ rs.length ≤ 7
section
variable {P : Program} {w : World} {K : PySem.W.Frag} {mg : Str → Option Value} {base : Heap} {A : Adr}
theorem ok__law_database (T : Txt A K mg) : FnOk P w K mg base CX0 3 A.f__law_database A.fd__law_database ["source", "shapes", "most"] (Pr K preDb 170 postDb) := by
  have G__law_draw := ok__law_draw (P := P) (w := w) (base := base) T
  have G__law_pick := ok__law_pick (P := P) (w := w) (base := base) T
  have G__law_shuffle := ok__law_shuffle (P := P) (w := w) (base := base) T
  have G__law_word := ok__law_word (P := P) (w := w) (base := base) T
  refine T.F__law_database.ok sc__law_database (fun vs H Q E h => pr_len h fun s c ds hp => ?_) (fun cdv A' outer st H vs Q E hr h => have hw : _ := hr.units; have hs70 : _ := (by have := hr.un; omega : (A'.deeper (envOfC "_law_database" (defScope s__law_database) st.heap.objs.size A.f__law_database cdv)).units + 70 < cLine); have hs65 : _ := (by have := hr.un; omega : (A'.deeper (envOfC "_law_database" (defScope s__law_database) st.heap.objs.size A.f__law_database cdv)).units + 65 < cLine); ⟨_, (pss_cons (ps_set (i := 3) sc__law_database.nd rfl (by first | exact Or.inl rfl | exact Or.inr rfl) (pe_call G__law_pick (hr.mono (by decide)) (by rfl) T.m__law_pick T.F__law_pick.kp T.b__law_pick .nil pass0 (pa_cons (pv 0) (pa_cons (pe_lst (pa_cons (pe_lst (pa_cons pe_int (pa_cons pe_int (pa_cons pe_int pa_nil)))) (pa_cons (pe_lst (pa_cons (pe_op op_sub pe_int pe_int) (pa_cons pe_int (pa_cons pe_int pa_nil)))) (pa_cons (pe_lst (pa_cons pe_int (pa_cons pe_int (pa_cons (pe_op op_sub pe_int pe_int) pa_nil)))) (pa_cons (pe_lst (pa_cons (pe_op op_sub pe_int (pe_op op_powW pe_int pe_int)) (pa_cons (pe_op op_powW pe_int pe_int) (pa_cons pe_int pa_nil)))) (pa_cons (pe_lst (pa_cons pe_int (pa_cons pe_int pa_nil))) pa_nil)))))) pa_nil))))
      (pss_cons (ps_set (i := 4) sc__law_database.nd rfl (by first | exact Or.inl rfl | exact Or.inr rfl) (pe_lst (pa_cons (pe_lst (pa_cons pe_int (pa_cons pe_int (pa_cons pe_int (pa_cons (pe_op op_sub pe_int pe_int) pa_nil))))) (pa_cons (pe_lst (pa_cons (pe_op op_sub pe_int (pe_op op_powW pe_int pe_int)) (pa_cons (pe_op op_sub pe_int pe_int) (pa_cons pe_int (pa_cons pe_int pa_nil))))) (pa_cons (pv 3) (pa_cons (pv 3) pa_nil))))))
      (pss_cons (ps_set (i := 3) sc__law_database.nd rfl (by first | exact Or.inl rfl | exact Or.inr rfl) (pe_call G__law_pick (hr.mono (by decide)) (by rfl) T.m__law_pick T.F__law_pick.kp T.b__law_pick .nil pass0 (pa_cons (pv 0) (pa_cons (pv 4) pa_nil))))
      (pss_cons (ps_set (i := 5) sc__law_database.nd rfl (by first | exact Or.inl rfl | exact Or.inr rfl) (pe_call G__law_shuffle (hr.mono (by decide)) (by rfl) T.m__law_shuffle T.F__law_shuffle.kp T.b__law_shuffle .nil pass0 (pa_cons (pv 0) (pa_cons (pe_lst (pa_cons pe_str (pa_cons pe_str (pa_cons pe_str (pa_cons pe_str (pa_cons pe_str (pa_cons pe_str (pa_cons pe_str (pa_cons (pe_call G__law_word (hr.mono (by decide)) (by rfl) T.m__law_word T.F__law_word.kp T.b__law_word .nil pass0 (pa_cons (pv 0) (pa_cons pe_int pa_nil))) pa_nil))))))))) pa_nil))))
      (pss_cons (ps_set (i := 6) sc__law_database.nd rfl (by first | exact Or.inl rfl | exact Or.inr rfl) (pe_lst pa_nil))
      (pss_cons (ps_for PassesOwn.never rfl (pi_range1 rfl T.m_range (pa_cons (pe_call G__law_draw (hr.mono (by decide)) (by rfl) T.m__law_draw T.F__law_draw.kp T.b__law_draw .nil pass0 (pa_cons (pv 0) (pa_cons (pe_op (k_add K) (pv 2) pe_int) pa_nil))) pa_nil)) (pg_name (i := 7) sc__law_database.nd rfl (by first | exact Or.inl rfl | exact Or.inr rfl)) (pss_cons (ps_asg (pe_call G__law_pick (hr.mono (by decide)) (by rfl) T.m__law_pick T.F__law_pick.kp T.b__law_pick .nil pass0 (pa_cons (pv 0) (pa_cons (pv 1) pa_nil))) (k_pgtup K (n := 2) rfl (pgs_cons (pg_name (i := 8) sc__law_database.nd rfl (by first | exact Or.inl rfl | exact Or.inr rfl)) (pgs_cons (pg_name (i := 9) sc__law_database.nd rfl (by first | exact Or.inl rfl | exact Or.inr rfl)) pgs_nil))))
      (pss_cons (ps_set (i := 10) sc__law_database.nd rfl (by first | exact Or.inl rfl | exact Or.inr rfl) (pe_callTy (k_tuple K) (by rfl) T.m_tuple (by decide +kernel) (pa_cons (pe_lc (own := [("j", 11)]) rfl sc__law_database.nd (pi_range1 rfl T.m_range (pa_cons (pv 9) pa_nil)) (blkOk_by (N := ["source", "shapes", "most", "some", "more", "names", "rows", "k", "table", "size", "values", "j", "row"]) (sc := defScope s__law_database) (by decide +kernel)) (fun _ _ _ _ _ => (pg_name (i := 11) sc__law_database.nd rfl (by first | exact Or.inl rfl | exact Or.inr rfl))) (fun _ _ _ _ _ => pts_nil) (fun _ _ _ _ _ => (pe_call G__law_pick (hr.mono (by decide)) (by rfl) T.m__law_pick T.F__law_pick.kp T.b__law_pick .nil pass0 (pa_cons (pv 0) (pa_cons (pv 3) pa_nil))))) pa_nil)))
      (pss_one (ps_if (pt_cmpR (op_ninX hs65 K) (pe_tup (pa_cons (pv 8) (pa_cons (pv 10) pa_nil))) (pe_lc (own := [("row", 12)]) rfl sc__law_database.nd (k_pilist K (pv 6)) (blkOk_by (N := ["source", "shapes", "most", "some", "more", "names", "rows", "k", "table", "size", "values", "j", "row"]) (sc := defScope s__law_database) (by decide +kernel)) (fun _ _ _ _ _ => (pg_name (i := 12) sc__law_database.nd rfl (by first | exact Or.inl rfl | exact Or.inr rfl))) (fun _ _ _ _ _ => pts_nil) (fun _ _ _ _ _ => (pe_slice (k_sl K) (pv 12) (po_some pe_int) po_none))) rfl) (pss_one (ps_expr (k_bm K PySem.F.plainAttrs_list PySem.F.slot_list_append PySem.F.type_list_append mt_append (pv 6) (pa_cons (pe_tup (pa_cons (pe_ix (k_ix K) (pv 5) (pv 7) (fun _ _ => rfl)) (pa_cons (pv 8) (pa_cons (pv 10) pa_nil)))) pa_nil)))) pss_nil)))))
      (pss_one (ps_ret (pv 6))))))))), body_ok h fun s c n ds hn hp => ?_⟩)
  · obtain ⟨ps, rfl, _⟩ := hp
    rfl
  · obtain ⟨ps, rfl, ok, pne, pl⟩ := hp
    have fin : ∀ (rs : List Row) m, (∀ r ∈ rs, okRL r) → rs.length ≤ 7 → m ≤ n + 170 → (⟨fun _ m => m ≤ n + 170 ∧ postDb s c [.obj s, .lst (ps.map dShape), .int 7] .non, fun d m => m ≤ n + 170 ∧ postDb s c [.obj s, .lst (ps.map dShape), .int 7] d, fun _ _ => False, fun _ _ => False⟩ : Pn).rt (.lst (rs.map dRow)) m := fun rs m h1 h2 h3 => ⟨h3, rs, rfl, h1, h2⟩
    refine s_seq (N := fun ρ' m => m = n + 1 ∧ ∃ is, ρ' = [.va (.obj s), .va (.lst (ps.map dShape)), .va (.int 7), .va (.lst (dIs is)), .no, .no, .no, .no, .no, .no, .no, .no, .no] ∧ goodI is = true) (s_set (ev_pick (d := dLs someL) (l := someL.map fun is => .lst (dIs is)) (ev_var rfl) (EvE.imp (ev_lstE (ea_c (ev_lstE (ea_c ev_int (ea_c ev_int (ea_c ev_int ea_nil))) (by exact (by decide : (3 : Nat) ≤ 1000))) (ea_c (ev_lstE (ea_c (ev_opK ev_int ev_int rk_sub) (ea_c ev_int (ea_c ev_int ea_nil))) (by exact (by decide : (3 : Nat) ≤ 1000))) (ea_c (ev_lstE (ea_c ev_int (ea_c ev_int (ea_c (ev_opK ev_int ev_int rk_sub) ea_nil))) (by exact (by decide : (3 : Nat) ≤ 1000))) (ea_c (ev_lstE (ea_c (ev_opK ev_int (ev_opK ev_int ev_int (rk_I (z := .int (10 ^ 9)) (fun _ _ => rfl) ⟨by decide, by decide +kernel⟩)) rk_sub) (ea_c (ev_opK ev_int ev_int (rk_I (z := .int (10 ^ 9)) (fun _ _ => rfl) ⟨by decide, by decide +kernel⟩)) (ea_c ev_int ea_nil))) (by exact (by decide : (3 : Nat) ≤ 1000))) (ea_c (ev_lstE (ea_c ev_int (ea_c ev_int ea_nil)) (by exact (by decide : (2 : Nat) ≤ 1000))) ea_nil))))) (by exact (by decide : (5 : Nat) ≤ 1000))) fun d e => e) (by omega) rfl (by exact fun z => nomatch z) (by exact (by decide : (5 : Nat) ≤ 1000))) rfl fun d h => ?_) fun ρ1 n1 h1 => ?_
    · obtain ⟨is, hi, rfl⟩ := List.mem_map.mp h
      exact ⟨rfl, is, rfl, some_good is hi⟩
    obtain ⟨rfl, is, rfl, gi⟩ := h1
    refine s_seq (N := fun ρ' m => m = n + 1 ∧ ρ' = [.va (.obj s), .va (.lst (ps.map dShape)), .va (.int 7), .va (.lst (dIs is)), .va (dLs (moreL is)), .no, .no, .no, .no, .no, .no, .no, .no]) (s_set (P := fun d => d = dLs (moreL is)) (EvE.imp (ev_lstE (ea_c (ev_lstE (ea_c ev_int (ea_c ev_int (ea_c ev_int (ea_c (ev_opK ev_int ev_int rk_sub) ea_nil)))) (by exact (by decide : (4 : Nat) ≤ 1000))) (ea_c (ev_lstE (ea_c (ev_opK ev_int (ev_opK ev_int ev_int (rk_I (z := .int (10 ^ 9)) (fun _ _ => rfl) ⟨by decide, by decide +kernel⟩)) rk_sub) (ea_c (ev_opK ev_int ev_int rk_sub) (ea_c ev_int (ea_c ev_int ea_nil)))) (by exact (by decide : (4 : Nat) ≤ 1000))) (ea_c (ev_var rfl) (ea_c (ev_var rfl) ea_nil)))) (by exact (by decide : (4 : Nat) ≤ 1000))) fun d e => e) rfl fun d h => ?_) fun ρ1 n1 h1 => ?_
    · rw [h]; exact ⟨rfl, rfl⟩
    obtain ⟨rfl, rfl⟩ := h1
    refine s_seq (N := fun ρ' m => m = n + 2 ∧ ∃ js, ρ' = [.va (.obj s), .va (.lst (ps.map dShape)), .va (.int 7), .va (.lst (dIs js)), .va (dLs (moreL is)), .no, .no, .no, .no, .no, .no, .no, .no] ∧ goodI js = true) (s_set (ev_pick (d := dLs (moreL is)) (l := (moreL is).map fun is => .lst (dIs is)) (ev_var rfl) (ev_var rfl) (by omega) rfl (by exact fun z => nomatch z) (by exact (by decide : (4 : Nat) ≤ 1000))) rfl fun d h => ?_) fun ρ1 n1 h1 => ?_
    · obtain ⟨js, hj, rfl⟩ := List.mem_map.mp h
      exact ⟨rfl, js, rfl, more_good gi js hj⟩
    obtain ⟨rfl, js, rfl, gj⟩ := h1
    obtain ⟨jne, j4, jb⟩ := goodI_of gj
    generalize dLs (moreL is) = yM
    refine s_seq (N := fun ρ' m => m = n + 122 ∧ ∃ qs, ρ' = [.va (.obj s), .va (.lst (ps.map dShape)), .va (.int 7), .va (.lst (dIs js)), .va yM, .va (.lst (dStrs qs)), .no, .no, .no, .no, .no, .no, .no] ∧ qs.length = 8 ∧ ∀ v ∈ qs, isName v ∧ v ≠ Str.ofString "zz") (s_set (n1 := n + 122) (P := fun d => ∃ qs, d = .lst (dStrs qs) ∧ qs.length = 8 ∧ ∀ v ∈ qs, isName v ∧ v ≠ Str.ofString "zz") (EvE.imp (ev_shufP (P := fun l => ∃ z : Str, l = dStrs (nmL z) ∧ z.length = 5 ∧ Low z) (ev_var rfl) (EvN.ev (en_lst (PL := fun l => ∃ z : Str, l = dStrs (nmL z) ∧ z.length = 5 ∧ Low z) (EvA.imp (ea_cons ev_str (ea_cons ev_str (ea_cons ev_str (ea_cons ev_str (ea_cons ev_str (ea_cons ev_str (ea_cons ev_str (ea_cons (ev_word 5 (ev_var rfl) ev_int (by omega) (by decide)) ea_nil)))))))) fun l h => ?_) fun l h => ?_)) (by omega) fun l h => ?_) fun d h => ?_) rfl fun d h => ?_) fun ρ1 n1 h1 => ?_
    · obtain ⟨_, _, rfl, rfl, _, _, rfl, rfl, _, _, rfl, rfl, _, _, rfl, rfl, _, _, rfl, rfl, _, _, rfl, rfl, _, _, rfl, rfl, _, _, rfl, ⟨z, rfl, hz⟩, rfl⟩ := h
      exact ⟨z, rfl, hz⟩
    · obtain ⟨z, rfl, _⟩ := h
      exact (by decide : (8 : Nat) ≤ 1000)
    · obtain ⟨z, rfl, _⟩ := h
      exact (by decide : (8 : Nat) ≤ 60)
    · obtain ⟨l, l', ⟨z, rfl, hz⟩, rfl, pm⟩ := h
      obtain ⟨qs, h1, rfl⟩ := perm_map D.str pm _ rfl
      exact ⟨qs, rfl, h1.length_eq, fun v hv => ⟨nmL_ok hz.1 hz.2 v (h1.mem_iff.mp hv), nmL_nz hz.1 v (h1.mem_iff.mp hv)⟩⟩
    · obtain ⟨qs, rfl, h⟩ := h
      exact ⟨rfl, qs, rfl, h⟩
    obtain ⟨rfl, qs, rfl, q8, qn⟩ := h1
    refine s_seq (N := fun ρ' m => m = n + 122 ∧ ρ' = [.va (.obj s), .va (.lst (ps.map dShape)), .va (.int 7), .va (.lst (dIs js)), .va yM, .va (.lst (dStrs qs)), .ow (([] : List Row).map dRow), .no, .no, .no, .no, .no, .no]) (s_own (en_lst ea_nil fun x e => by rw [e]; exact Nat.zero_le _) rfl (by exact (by decide : (6 : Nat) < 13)) fun x e => ⟨rfl, by rw [e]; rfl⟩) fun ρ1 n1 h1 => ?_
    obtain ⟨rfl, rfl⟩ := h1
    refine s_seq (N := fun ρ' m => m ≤ n + 160 ∧ ∃ (rs : List Row) (y7 y8 y9 y10 : Sl), ρ' = [.va (.obj s), .va (.lst (ps.map dShape)), .va (.int 7), .va (.lst (dIs js)), .va yM, .va (.lst (dStrs qs)), .ow (rs.map dRow), y7, y8, y9, y10, .no, .no] ∧ (∀ r ∈ rs, okRL r) ∧ rs.length ≤ 7) ?_ fun ρ1 n1 h1 => ?_
    · refine s_for (n1 := n + 123) (ei_rng1 (PL := fun ds => ∃ j : Nat, ds = dInts 0 j ∧ j ≤ 7) (EvA.imp (ea_cons (ev_draw (ev_var rfl) (ev_opK (ev_var rfl) ev_int rk_add) (by omega) (by decide) (by decide)) ea_nil) fun l h => h) fun l h => ?_)
        (fun ds i ρ' u => u ≤ n + 123 + 4 * i ∧ ∃ (rs : List Row) (y7 y8 y9 y10 : Sl), ρ' = [.va (.obj s), .va (.lst (ps.map dShape)), .va (.int 7), .va (.lst (dIs js)), .va yM, .va (.lst (dStrs qs)), .ow (rs.map dRow), y7, y8, y9, y10, .no, .no] ∧ isOw (some y7) = false ∧ isOw (some y8) = false ∧ isOw (some y9) = false ∧ isOw (some y10) = false ∧ (∀ r ∈ rs, okRL r) ∧ rs.length ≤ i)
        (fun ds e => ⟨Nat.le_refl _, [], .no, .no, .no, .no, rfl, rfl, rfl, rfl, rfl, fun r hr => (by cases hr), Nat.le_refl _⟩) (fun ds e i d ρ' u hi inv => ?_) fun ds e ρ' u inv => ?_
      · obtain ⟨_, _, rfl, ⟨k, rfl, k0, k1⟩, rfl⟩ := h
        have k1 : k < 7 + 1 := k1
        exact ⟨k, rfl, by omega, by omega, k.toNat, rfl, by omega⟩
      · obtain ⟨hu, rs, y7, y8, y9, y10, rfl, o7, o8, o9, o10, hr, hl⟩ := inv
        obtain ⟨j, rfl, j7⟩ := e
        obtain ⟨il, rfl⟩ := ints_at' hi
        refine ⟨_, _, eg_name (j := 7) o7, ?_⟩
        refine s_seq (N := fun ρ' m => m = u + 1 ∧ ∃ p ∈ ps, ρ' = [.va (.obj s), .va (.lst (ps.map dShape)), .va (.int 7), .va (.lst (dIs js)), .va yM, .va (.lst (dStrs qs)), .ow (rs.map dRow), .va (.int (0 + (i : Nat))), .va (.str p.1), .va (.int p.2), y10, .no, .no])
          (s_asg (P := fun x => x ∈ ps.map dShape) (ev_pick (d := .lst (ps.map dShape)) (ev_var rfl) (ev_var rfl) (by omega) rfl (by intro e; exact pne (List.map_eq_nil_iff.mp e)) (by rw [List.length_map]; omega)) fun x hx => ?_) fun ρ1 n1 h1 => ?_
        · obtain ⟨p, hp, rfl⟩ := List.mem_map.mp hx
          exact ⟨_, _, eg_tup (egs_cons (eg_name (j := 8) o8) (egs_cons (eg_name (j := 9) o9) egs_nil)) rfl, rfl, p, hp, rfl⟩
        obtain ⟨rfl, p, hp, rfl⟩ := h1
        have okp := ok.1 p hp
        refine s_seq (N := fun ρ' m => m = u + 4 ∧ ∃ vs : List Int, ρ' = [.va (.obj s), .va (.lst (ps.map dShape)), .va (.int 7), .va (.lst (dIs js)), .va yM, .va (.lst (dStrs qs)), .ow (rs.map dRow), .va (.int (0 + (i : Nat))), .va (.str p.1), .va (.int p.2), .va (.tup (dIs vs)), .no, .no] ∧ vs.length = p.2 ∧ ∀ v ∈ vs, v ∈ js)
          (s_set (n1 := u + 4) (P := fun x => ∃ vs : List Int, x = .tup (dIs vs) ∧ vs.length = p.2 ∧ ∀ v ∈ vs, v ∈ js) (ev_callP (ea_cons (EvN.ev (en_lc (n2 := u + 4) (ei_rng1 (PL := fun ds => ds = dInts 0 p.2) (ea_one (ev_var rfl)) fun l e => ⟨p.2, e, by omega, by omega, by rw [Int.toNat_natCast]⟩) rfl
              (fun ds i acc m' => acc.length = i ∧ m' = u + 1 + i ∧ ∃ ws : List Int, acc = dIs ws ∧ ∀ v ∈ ws, v ∈ js) (fun ds e => ⟨by rw [e, ints_len]; omega, rfl, rfl, [], rfl, fun v hv => by simp at hv⟩) (fun ds e i d acc m' hi ha inv => ?_) fun ds e acc m' inv => by rw [e, ints_len] at inv; omega)) ea_nil) fun l h => ?_) o10 fun x h => ?_) fun ρ1 n1 h1 => ?_
        · obtain ⟨rfl, rfl, ws, rfl, hw⟩ := inv
          rw [e] at hi
          obtain ⟨hi, _⟩ := ints_at' hi
          refine ⟨_, _, _, _, eg_name (j := 11) rfl, fun j hj => hj, et_yes, fun _ => ⟨_, _, ev_pick (d := .lst (dIs js)) (ev_var rfl) (ev_var rfl) (by omega) rfl (by intro e; exact jne (List.map_eq_nil_iff.mp e)) (by rw [is_len]; omega), fun y h => ?_⟩, fun z => by cases z⟩
          obtain ⟨v, rfl, hv⟩ := ints_mem h
          refine ⟨by rw [List.length_append]; rfl, by omega, ws ++ [v], by unfold dIs; rw [List.map_append]; rfl, fun u hu => ?_⟩
          rcases List.mem_append.mp hu with h | h
          · exact hw u h
          · rw [List.mem_singleton.mp h]; exact hv
        · obtain ⟨_, _, rfl, ⟨l', rfl, ds, rfl, m', h1, h2, ws, rfl, hw⟩, rfl⟩ := h
          rw [ints_len, is_len] at h1
          exact ⟨_, ck_tuple rfl, ws, rfl, h1, hw⟩
        · obtain ⟨ws, rfl, h1, h2⟩ := h
          exact ⟨rfl, ws, rfl, h1, h2⟩
        obtain ⟨rfl, vs, rfl, vl, vj⟩ := h1
        have nr : ∃ z, qs[i]? = some z ∧ isName z ∧ z ≠ Str.ofString "zz" := ⟨qs[i]'(by omega), List.getElem?_eq_getElem (by omega), qn _ (List.getElem_mem _)⟩
        obtain ⟨z, hz, nz, nzz⟩ := nr
        have okr : okRL (z, p.1, vs) := ⟨⟨nz, okp.1, by show 1 ≤ vs.length; omega, by show vs.length ≤ 3; omega, fun v hv => (jb v (vj v hv)).1⟩, fun v hv => (jb v (vj v hv)).2, nzz⟩
        have cutR : ∀ q : Row, Pl.cutD [.str q.1, .str q.2.1, .tup (dIs q.2.2)] (some 1) none = [.str q.2.1, .tup (dIs q.2.2)] := fun q => rfl
        refine s_if (n1 := u + 4) (T := fun _ => True) (et_thaw (i := 6) rfl ((et_K (ev_opK (ev_tupE (ea_c (ev_var rfl) (ea_one (ev_var rfl))) (by exact (by decide : (2 : Nat) ≤ 1000))) (EvE.imp (P' := fun d => d = .lst ((rs.map (·.2)).map dPair)) (EvN.evK (en_mapK (fun d => dPair (unR d).2) (ei_list (PL := fun ds => ds = rs.map dRow) (ev_var rfl) fun d e => ⟨_, e, rfl⟩) rfl (by rw [List.length_map]; omega) fun j d hj => ?_)) fun d e => ?_) (rk_pairIn (p := (p.1, vs)) (neg := true) ⟨okp.1, by show vs.length ≤ 3; omega⟩ (fun q hq => ?_) (by rw [List.length_map]; omega)))).imp fun _ _ => trivial)) (fun _ => ?_) fun _ => ?_
        · obtain ⟨a, ha, rfl⟩ := List.mem_map.mp (List.mem_of_getElem? hj)
          refine ⟨_, _, eg_name (j := 12) rfl, fun j hj => hj, ?_⟩
          rw [unR_of]
          exact (ev_slT (ev_var rfl) (eo_some ev_int) eo_none).imp fun d e => by rw [e, cutR]; rfl
        · rw [e, List.map_map, List.map_map]
          exact congrArg D.lst (List.map_congr_left fun a _ => by
            show dPair (unR (dRow a)).2 = dPair a.2
            rw [unR_of])
        · obtain ⟨a, ha, rfl⟩ := List.mem_map.mp hq
          exact ⟨(hr a ha).1.2.1, (hr a ha).1.2.2.2.1⟩
        · refine s_append (i := 6) (l := rs.map dRow) (P := fun d => d = dRow (z, p.1, vs)) rfl (ev_tupE (ea_c (ev_opK (ev_var rfl) (ev_var rfl) (rk_ixD rfl (by rw [Int.zero_add]; exact atI_at (by unfold dStrs; rw [List.getElem?_map, hz]; rfl)))) (ea_c (ev_var rfl) (ea_one (ev_var rfl)))) (by exact (by decide : (3 : Nat) ≤ 1000))) (by rw [List.length_map]; omega) fun x h => ?_
          rw [h]
          refine ⟨by omega, rs ++ [(z, p.1, vs)], _, _, _, _, by rw [List.map_append]; rfl, rfl, rfl, rfl, rfl, fun q hq => ?_, by rw [List.length_append]; show rs.length + 1 ≤ i + 1; omega⟩
          rcases snoc_mem hq with hq | hq
          · exact hr q hq
          · rw [hq]; exact okr
        · exact s_next ⟨by omega, rs, _, _, _, _, rfl, rfl, rfl, rfl, rfl, hr, by omega⟩
      · obtain ⟨hu, rs, y7, y8, y9, y10, rfl, _, _, _, _, hr, hl⟩ := inv
        obtain ⟨j, rfl, j7⟩ := e
        rw [ints_len] at hu hl
        exact ⟨by omega, rs, y7, y8, y9, y10, rfl, hr, by omega⟩
    · obtain ⟨hm, rs, y7, y8, y9, y10, rfl, hr, hl⟩ := h1
      exact s_freeze (i := 6) rfl (s_ret (ev_var rfl) fun d e => by rw [e]; exact fin rs _ hr hl (by omega))
end
end K14
/-! text PlRx -/
set_option Elab.async false
set_option linter.all false
set_option maxRecDepth 100000
set_option maxHeartbeats 4000000
set_option exponentiation.threshold 5000
/-! PlRx: repr of None, ints, texts, an empty dict; {} and {int: int} as data; list + list as a new list of a def's own. -/
namespace Pl
open PySem PySem.Spec PyProof.Rows L2
def isEmp : D → Bool
  | .dct [] [] => true
  | _ => false
def rReprX (K : PySem.W.Frag) : List V → Hp → VK → Prop := fun xs H Q => rReprD K xs H Q ∨ (xs = [.non] ∧ Q (.str "None") H) ∨ (∃ i : Int, xs = [.int i] ∧ i.natAbs.log2 < 1920 ∧ Q (.str (toString i)) H) ∨ (∃ z : Str, xs = [.str z] ∧ (reprText z).length ≤ sizeLine ∧ Q (.str (reprText z)) H) ∨
  ∃ (a : Addr) (o : Obj), xs = [.ref a] ∧ H a = some (.frz o (.dK [])) ∧ Q (.str (PyData.dict []).shown) H
theorem call_reprX {X : Cx} (hg : X.A.guards = some []) (hu : X.A.units + 66 < cLine) : CallR X (.builtin "repr") (rReprX X.K) := by
  intro pins s σ H xs us Q I r h
  rcases h with h | ⟨rfl, q⟩ | ⟨i, rfl, hz, q⟩ | ⟨z, rfl, hz, q⟩ | ⟨a, o, rfl, ha, q⟩
  · exact call_reprD hg hu pins s σ H xs us Q I r h
  · obtain ⟨u, rfl, ru⟩ := vals1 r
    have ru : u = .none := ru
    subst ru
    exact PySem.P.repr_of_none ⟨.str _, H, I.tok _, ⟨_, rfl⟩, q⟩
  · obtain ⟨u, rfl, t, rfl⟩ := vals1 r
    exact PySem.P.repr_of_int hz ⟨.str _, H, I.tok _, ⟨_, rfl⟩, q⟩
  · obtain ⟨u, rfl, t, rfl⟩ := vals1 r
    exact PySem.P.repr_of_str ⟨.str _, H, I.tok _, ⟨_, rfl⟩, q⟩ hz
  · obtain ⟨u, rfl, ru⟩ := vals1 r
    have ru : u = Value.ref a := ru
    subst ru
    obtain ⟨e1, _, sm, vs, kv, o', es, ep, e2, ex, hd, _, ps, _⟩ := (show ObjOk X.prog X.w H s.heap a (.frz o (.dK [])) from I.hok a _ ha)
    cases kv
    have em : es.toList = [] := by
      generalize es.toList = l at ps
      cases ps
      rfl
    have rd : Reads s.heap (.ref a) (.dict []) (a :: [] ++ []) := .dict e2 ex.1 hd (by rw [em]; exact .nil) (by rw [em]; exact .nil)
    have ne : sysModules ∉ a :: [] ++ [] := fun z => by
      have z : sysModules ∈ [a] := z
      rw [← List.mem_singleton.mp z] at sm
      exact absurd sm (by decide)
    exact repr_of_reads' rd rfl (fun _ => ne) hg (by show X.A.units + (0 + 1 + 1) < cLine; omega) (fun _ _ e => e) (fun h' t tk k => ⟨.str _, H, I.kept (t' := tk) k, ⟨t, rfl⟩, q⟩) (by exact (by decide : (2 : Nat) ≤ 16777216))
/-- what repr gives -/
def reprD : D → Str
  | .non => "None"
  | .int i => toString i
  | .str z => reprText z
  | .dct _ _ => (PyData.dict []).shown
  | x => (py x).shown
section
variable {K : PySem.W.Frag} {s c : Addr} {ρ : List Sl} {n n1 n2 : Nat} {te ta tb : TE}
theorem ck_reprN : CK K s c (rReprX K) [.non] (.str (reprD .non)) := fun M n vs H Q hm ht hh r k => by
  obtain ⟨v, rfl, rv⟩ := r.inv1
  have rv : v = .non := rv
  subst rv
  exact .inr (.inl ⟨rfl, k _ H (Gr.refl _ _) hh rfl⟩)
theorem ck_reprI {i : Int} (h : i.natAbs.log2 < 1920) : CK K s c (rReprX K) [.int i] (.str (reprD (.int i))) := fun M n vs H Q hm ht hh r k => by
  obtain ⟨v, rfl, rv⟩ := r.inv1
  have rv : v = .int i := rv
  subst rv
  exact .inr (.inr (.inl ⟨i, rfl, h, k _ H (Gr.refl _ _) hh rfl⟩))
theorem ck_reprS {z : Str} (h : (reprText z).length ≤ sizeLine) : CK K s c (rReprX K) [.str z] (.str (reprD (.str z))) := fun M n vs H Q hm ht hh r k => by
  obtain ⟨v, rfl, rv⟩ := r.inv1
  have rv : v = .str z := rv
  subst rv
  exact .inr (.inr (.inr (.inl ⟨z, rfl, h, k _ H (Gr.refl _ _) hh rfl⟩)))
theorem ck_reprE : CK K s c (rReprX K) [.dct [] []] (.str (reprD (.dct [] []))) := fun M n vs H Q hm ht hh r k => by
  obtain ⟨v, rfl, a, o, fs, rfl, e, hk, _⟩ := r.inv1
  have : fs = [] := List.map_eq_nil_iff.mp hk
  subst this
  exact .inr (.inr (.inr (.inr ⟨a, o, rfl, e, k _ H (Gr.refl _ _) hh rfl⟩)))
theorem ck_reprX {x z : D} (h : CK K s c (rReprD K) [x] z) : CK K s c (rReprX K) [x] z := fun M n vs H Q hm ht hh r k => .inl (h M n vs H Q hm ht hh r k)
/-- {} -/
theorem ev_emp : EvE K s c (tFrz tDNewK) ρ n n (fun d => d = .dct [] []) := fun M0 H0 O σ H Q I k => by
  intro p hp
  refine ⟨p, .dK [], rfl, upd_same, trivial, fun od => ?_⟩
  have e : upd (upd H p (.dK [])) p (.frz od (.dK [])) = upd H p (.frz od (.dK [])) := by
    funext b
    by_cases z : b = p
    · rw [z, upd_same, upd_same]
    · rw [upd_ne z, upd_ne z, upd_ne z]
  rw [e]
  exact k (.ref p) _ (.dct [] []) (Gr.new hp) (I.src.new hp) ⟨p, od, [], rfl, upd_same, rfl, trivial⟩ rfl
/-- {i: j} -/
theorem ev_dij {i j : Int} : EvE K s c (tFrz (tDisp [(tC (.int i), tC (.int j))])) ρ n n (fun d => d = .dct [.inl i] [.int j]) := fun M0 H0 O σ H Q I k => by
  intro p hp
  refine ⟨upd_same, [(.inl i, .int j)], rfl, by exact (by decide : (1 : Nat) ≤ 15), ?_⟩
  refine ⟨p, .dK [(.inl i, .int j)], rfl, upd_same, trivial, fun od => ?_⟩
  have e : upd (upd (upd H p (.dK [])) p (.dK (mergeK [] [(.inl i, .int j)]))) p (.frz od (.dK [(.inl i, .int j)])) = upd H p (.frz od (.dK [(.inl i, .int j)])) := by
    funext b
    by_cases z : b = p
    · rw [z, upd_same, upd_same]
    · rw [upd_ne z, upd_ne z, upd_ne z, upd_ne z]
  rw [e]
  exact k (.ref p) _ (.dct [.inl i] [.int j]) (Gr.new hp) (I.src.new hp) ⟨p, od, [(.inl i, .int j)], rfl, upd_same, rfl, rfl, trivial⟩ rfl
/-- list + list, a new list -/
theorem en_addL {A B P : List D → Prop} (ha : EvE K s c ta ρ n n1 (fun d => ∃ l, d = .lst l ∧ A l)) (hb : EvE K s c tb ρ n1 n2 (fun d => ∃ l, d = .lst l ∧ B l)) (hp : ∀ l m, A l → B m → l.length + m.length ≤ 2000 ∧ P (l ++ m)) : EvN K s c (tOp (rAddA K) ta tb) ρ n n2 P := fun M0 H0 O σ H Q I k =>
  ha M0 H0 O σ H _ I fun v H1 d g1 s1 r1 p1 => hb M0 H0 O σ H1 _ (I.next g1 s1) fun w H2 e g2 s2 r2 p2 => by
    obtain ⟨l, rfl, hl⟩ := p1
    obtain ⟨m, rfl, hm⟩ := p2
    obtain ⟨lm, pq⟩ := hp l m hl hm
    have J := (I.next g1 s1).next g2 s2
    obtain ⟨a, xs, rfl, ma, ea, rl⟩ := r1.gr (g2.mono I.sub)
    obtain ⟨b, ys, rfl, mb, eb, rm⟩ := r2
    refine .inr (.inr (.inl ⟨a, b, xs, ys, rfl, rfl, ea, eb, Nat.le_trans (by rw [← rl.length, ← rm.length]; exact lm) (by decide), fun p hp => ?_⟩))
    have hp0 : H p = none := g1.none (g2.none hp fun z => (J.new_out hp) (J.sub p z)) fun z => (J.new_out hp) (J.sub p z)
    exact k p _ (l ++ m) (xs ++ ys) ((g1.trans g2).trans (Gr.new hp)) (s2.new hp) hp0 upd_same (((rl.append rm).apart hp).gr (Gr.new hp)) pq
end
end Pl
/-! text PlRt -/
set_option Elab.async false
set_option linter.all false
set_option maxRecDepth 100000
set_option maxHeartbeats 4000000
/-! PlRt: xs[::-1] of a tuple. -/
namespace HT
open PySem PySem.Spec PyProof.Rows
section
variable {prog : Program} {w : World} {A : Around} {E : Value → Shared → Prop} {s : Shared}
theorem fm_congr {α β : Type} {f g : α → Option β} : ∀ {l : List α}, (∀ x ∈ l, f x = g x) → l.filterMap f = l.filterMap g
  | [], _ => rfl
  | x :: l, h => by
    rw [List.filterMap_cons, List.filterMap_cons, h x List.mem_cons_self, fm_congr fun y hy => h y (List.mem_cons_of_mem _ hy)]
theorem sliceApplied_rev {sl : Addr} {vk : Value} {n : Nat} {Q : Int × Int × Nat → Shared → Prop} (hs : s.heap.IsSliceOf sl .none .none vk) (pk : IsPart vk (some (-1)))
    (h : Q ((n : Int) - 1, -1, n) s) : wpAny (model prog w) A (Builtin.Slice.sliceApplied (.ref sl) (pure (n : Int))) Q E s := by
  obtain ⟨os, hos, hcs, hds⟩ := id hs
  unfold Builtin.Slice.sliceApplied Builtin.Slice.sliceFields
  refine wpAny_bind (wpAny_bind (wpAny_field hos hds (x := .none) rfl (wpAny_bind (wpAny_field hos hds (x := .none) rfl (wpAny_bind (wpAny_field hos hds (x := vk) rfl (wpAny_pure ?_)))))))
  refine wpAny_bind (slicePart_ pk ?_)
  show wpAny _ _ (if ((-1 : Int) == 0) = true then _ else _) _ _ s
  rw [if_neg (by decide)]
  refine wpAny_bind (slicePart_none (wpAny_bind (slicePart_none (wpAny_bind (wpAny_pure ?_)))))
  show wpAny _ _ (match Builtin.Slice.sliceAdjust none none (-1) (n : Int) with | (lo, hi) => pure (lo, (-1 : Int), Builtin.Slice.slicePlaces lo hi (-1))) _ _ s
  have e : Builtin.Slice.sliceAdjust none none (-1) (n : Int) = ((n : Int) - 1, -1) := rfl
  rw [e]
  have e2 : Builtin.Slice.slicePlaces ((n : Int) - 1) (-1) (-1) = n := by
    unfold Builtin.Slice.slicePlaces
    rw [if_neg (by decide)]
    rw [show (- -1 : Int) = 1 by decide, Int.ediv_one]
    split <;> omega
  show wpAny _ _ (pure ((n : Int) - 1, (-1 : Int), Builtin.Slice.slicePlaces ((n : Int) - 1) (-1) (-1))) _ _ s
  rw [e2]
  exact wpAny_pure h
theorem getItem_tuple_rev {t sl : Addr} {items : Array Value} {vk : Value} {Q : Value → Shared → Prop} (ht : IsTup s.heap t items) (hs : s.heap.IsSliceOf sl .none .none vk) (pk : IsPart vk (some (-1)))
    (h : Q (.ref s.heap.objs.size) { s with heap := s.heap.push { cls := .type "tuple", data := .seq items.toList.reverse.toArray } }) (hsz : items.size ≤ sizeLine) : wpAny (model prog w) A (getItem (.ref t) (.ref sl)) Q E s := by
  have htake : sizeOk (.seq items.toList.reverse.toArray) := by
    show items.toList.reverse.toArray.size ≤ sizeLine
    rw [List.size_toArray, List.length_reverse, Array.length_toList]
    exact hsz
  obtain ⟨os, hos, hcs, hds⟩ := id hs
  have hTs : s.TypeIs (.ref sl) "slice" := ⟨os, hos, hcs⟩
  unfold getItem
  try with_reducible refine wpAny_holding ?_
  first | refine wpAny_bind (wpAny_pure ?_) | skip
  refine wpAny_bind (wpAny_sequenceKey ht.typeIs (by decide) ?_)
  refine wpAny_bind (wpAny_callSpecial?_slot (name := Str.ofString "__getitem__") ht.typeIs PyProof.Rows.slot_tuple_getitem
    (wpAny_call_entry PyProof.Rows.slot_tuple_getitem ht.typeIs entry_tuple_getitem ?_ (args_tuple_getitem _ _)))
  show wpAny _ _ (Builtin.Tuple.tupleItemsOf (.ref t) >>= _) _ _ s
  refine wpAny_bind (tupleItemsOf_ ht ?_)
  refine wpAny_bind (wpAny_typeOf hTs ?_)
  rw [if_pos (by decide)]
  refine wpAny_bind (sliceApplied_rev hs pk ?_)
  show wpAny _ _ (if (((items.size : Int) - 1) == 0 && (-1 : Int) == 1 && items.size == items.size) = true then _ else _) _ _ s
  rw [if_neg (by rw [show ((-1 : Int) == 1) = false from rfl, Bool.and_false, Bool.false_and]; exact Bool.false_ne_true)]
  have pick : ((List.range items.size).filterMap fun (k : Nat) => items[((items.size : Int) - 1 + (k : Int) * -1).toNat]?).toArray = items.toList.reverse.toArray := by
    have e1 := PySem.W.krv_pick items
    unfold slicePick at e1
    rw [PySem.W.krv_bounds] at e1
    have e2 : ((sliceRange ((items.size : Int) - 1) (-1) (-1)).filterMap (items[·]?)).toArray = items.toList.reverse.toArray := e1
    rw [PySem.W.krv_sliceRange, List.filterMap_map] at e2
    rw [← e2]
    congr 1
    refine fm_congr fun k hk => ?_
    have := List.mem_range.mp hk
    show items[((items.size : Int) - 1 + (k : Int) * -1).toNat]? = items[items.size - 1 - k]?
    congr 1
    omega
  rw [pick]
  first
    | exact wpAny_bind (m := Builtin.Tuple.tupleExact _) (wpAny_newObj_type (wpAny_pure ⟨_, rfl, wpAny_pure h⟩) htake)
    | exact wpAny_bind (m := Builtin.Tuple.tupleExact _) (wpAny_newObj_type (wpAny_bind (wpAny_pure (wpAny_pure ⟨_, rfl, wpAny_pure h⟩))) htake)
    | exact wpAny_bind (wpAny_bind (m := Builtin.Tuple.tupleExact _) (wpAny_newObj_type (wpAny_pure (wpAny_pure ⟨_, rfl, wpAny_pure h⟩)) htake))
    | exact wpAny_bind (wpAny_bind (m := Builtin.Tuple.tupleExact _) (wpAny_newObj_type (wpAny_pure ⟨_, rfl, wpAny_pure h⟩) htake))
end
end HT
namespace Pl
open PySem PySem.Spec PyProof.Rows L2
def tRevT (K : PySem.W.Frag) (te : TE) : TE := fun σ H Q => te σ H fun x H1 => ∃ a xs, x = .ref a ∧ SqT K H1 a xs ∧ ∀ p, H1 p = none → Q (.ref p) (upd H1 p (.tup xs.reverse))
section
variable {X : Cx} {K : PySem.W.Frag}
theorem pe_revT {e : Expr} {te : TE} {k : Nat} {p1 p2 p3 pos : Pos} (he : PE X e te) : PE X (.Subscript e (.Slice none none (some (.UnaryOp .USub (.Constant (.int 1) k p1) p2)) p3) pos) (tRevT X.K te) := by
  refine ⟨fun pins s σ H Q I h => ?_⟩
  refine Subscript_ (thn (he.run pins s σ H _ I h) fun v s1 z => ?_)
  obtain ⟨x, H1, I1, r1, a, xs, ex, hx, q⟩ := z
  subst ex
  cases r1
  have hst : PO X (some (.UnaryOp .USub (.Constant (.int 1) k p1) p2)) (tPart (tUn (rU fun i => .int (-i)) (tC (.int 1)))) := po_some (pe_un un_neg pe_int)
  refine wpAny_Slice (thn (po_none.run pins s1 σ H1 (fun o H2 => o = none ∧ H2 = H1) I1 ⟨rfl, rfl⟩) fun vl s2 z2 => ?_)
  obtain ⟨l, H2, I2, pl, el, e2⟩ := z2
  subst el e2
  refine thn (po_none.run pins s2 σ H2 (fun o H3 => o = none ∧ H3 = H2) I2 ⟨rfl, rfl⟩) fun vu s3 z3 => ?_
  obtain ⟨u, H3, I3, pu, eu, e3⟩ := z3
  subst eu e3
  refine thn (hst.run pins s3 σ H3 (fun o H4 => o = some (-1) ∧ H4 = H3) I3 ⟨1, rfl, -1, rfl, rfl, rfl⟩) fun vs s4 z4 => ?_
  obtain ⟨o, H4, I4, ps, eo, e4⟩ := z4
  subst eo e4
  cases pl
  cases pu
  have I5 : Inv X pins σ H4 { s4 with heap := s4.heap.push { cls := .type "slice", data := .fields #[.none, .none, vs] } } := I4.kept (t' := s4.toks) fun b ob q => Heap.get?_push_of_some _ q
  obtain ⟨its, r, ht, hz⟩ := I5.tuple hx
  have hlen : its.toArray.size = xs.length := by rw [List.size_toArray]; exact r.length.symm
  show wpAny (model X.prog X.w) X.A (subscriptTail e (.Slice none none (some (.UnaryOp .USub (.Constant (.int 1) k p1) p2)) p3) (.ref a) (.ref s4.heap.objs.size)) (EP X pins σ Q) X.xe { s4 with heap := s4.heap.push { cls := .type "slice", data := .fields #[.none, .none, vs] } }
  refine tail_any (ops := [.ref a, .ref s4.heap.objs.size]) ht.typeIs (PyProof.Rows.slot_tuple_getitem.lookup) ?_ (by with_unfolding_all rfl)
  refine HT.getItem_tuple_rev ht (Heap.IsSliceOf.new _ .none .none vs) ps ?_ (by rw [hlen]; exact hz)
  refine ⟨.ref _, _, I5.laid (t' := s4.toks) (o := .tup xs.reverse) (fun b ob q => Heap.get?_push_of_some _ q) (Nat.le_refl _) ?_, rfl, q _ (I5.hok.fresh (Nat.le_refl _))⟩
  exact ⟨by rw [List.length_reverse]; exact hz, _, r.reverse, IsTup.new _ _⟩
theorem k_revT {e : Expr} {te : TE} {k : Nat} {p1 p2 p3 pos : Pos} (he : PE X e te) (h : X.K = K := by rfl) : PE X (.Subscript e (.Slice none none (some (.UnaryOp .USub (.Constant (.int 1) k p1) p2)) p3) pos) (tRevT K te) := by subst h; exact pe_revT he
end
theorem ev_revT {K : PySem.W.Frag} {s c : Addr} {ρ : List Sl} {n n1 : Nat} {te : TE} {l : List D} (h : EvE K s c te ρ n n1 (fun d => d = .tup l)) : EvE K s c (tRevT K te) ρ n n1 (fun d => d = .tup l.reverse) := fun M0 H0 O σ H Q I k =>
  h M0 H0 O σ H _ I fun v H1 d g1 s1 r1 e => by
    subst e
    obtain ⟨a, xs, rfl, st, rl⟩ := r1
    exact ⟨a, xs, rfl, st, fun p hp => k (.ref p) _ (.tup l.reverse) (g1.trans (Gr.new hp)) (s1.new hp) ⟨p, _, rfl, .inl (.inl upd_same), (RepL.rev rl).gr (Gr.new hp)⟩ rfl⟩
end Pl
/-! text K14x -/
set_option Elab.async false
set_option linter.all false
set_option maxRecDepth 100000
set_option maxHeartbeats 4000000
set_option exponentiation.threshold 5000
namespace K14
open PySem PySem.Spec PyProof.Rows L2 Pl PlS

def Q1 (m : Nat) (l : List D) : Prop := (∀ x ∈ l, ok 1 x) ∧ l.length ≤ m
theorem Q1_one {x : D} (h : ok 1 x) : Q1 1 [x] := ⟨fun y hy => by rw [List.mem_singleton.mp hy]; exact h, Nat.le_refl _⟩
theorem Q1_app {m j : Nat} {l r : List D} (h : Q1 m l) (h2 : Q1 j r) : Q1 (m + j) (l ++ r) := ⟨fun x hx => by
  rcases List.mem_append.mp hx with hx | hx
  · exact h.1 x hx
  · exact h2.1 x hx, by rw [List.length_append]; have := h.2; have := h2.2; omega⟩
theorem Q1_cut {m : Nat} {l : List D} {lo hi : Option Int} (h : Q1 m l) : Q1 m (Pl.cutD l lo hi) := ⟨fun x hx => h.1 x (List.mem_of_mem_drop (List.mem_of_mem_take hx)), by
  unfold Pl.cutD
  rw [List.length_take, List.length_drop]
  have := h.2
  omega⟩
theorem Q1_rev {m : Nat} {l : List D} (h : Q1 m l) : Q1 m l.reverse := ⟨fun x hx => h.1 x (List.mem_reverse.mp hx), by rw [List.length_reverse]; exact h.2⟩
theorem Q1_rep {m j k : Nat} {l : List D} (h : Q1 m l) (hj : k * m ≤ j) : Q1 j (List.replicate k l).flatten := ⟨fun x hx => by
  obtain ⟨l', h1, h2⟩ := List.mem_flatten.mp hx
  rw [(List.mem_replicate.mp h1).2] at h2
  exact h.1 x h2, by
  have e : (List.replicate k l).flatten.length = k * l.length := by
    clear hj
    induction k with
    | zero => simp
    | succ j ih => rw [List.replicate_succ, List.flatten_cons, List.length_append, ih, Nat.succ_mul, Nat.add_comm]
  rw [e]
  exact Nat.le_trans (Nat.mul_le_mul_left _ h.2) hj⟩
theorem Q1_ok {m : Nat} {l : List D} (h : Q1 m l) (hm : m ≤ 16) : ok 2 (.tup l) := ok_tup h.1 ⟨by have := h.2; omega, Nat.le_trans (Nat.mul_le_mul_right _ (show l.length ≤ 16 by have := h.2; omega)) (by decide)⟩
section
variable {K : PySem.W.Frag} {s c : Addr} {ρ : List Sl} {n : Nat} {te ta tb : TE}
theorem q_known {m : Nat} {l : List D} (h : EvE K s c te ρ n n (fun d => d = .tup l)) (q : Q1 m l) : EvE K s c te ρ n n (fun d => ∃ l, d = .tup l ∧ Q1 m l) := h.imp fun d e => ⟨l, e, q⟩
theorem q_one (h : EvE K s c te ρ n n (ok 1)) : EvE K s c (tTup (tCons te tNil)) ρ n n (fun d => ∃ l, d = .tup l ∧ Q1 1 l) := (ev_tup (PL := fun l => ∃ x, l = [x] ∧ ok 1 x) ((ea_cons h ea_nil).imp fun l e => by
    obtain ⟨x, r, rfl, hx, rfl⟩ := e
    exact ⟨x, rfl, hx⟩) fun l e => by
    obtain ⟨x, rfl, _⟩ := e
    exact (by decide : (1 : Nat) ≤ 1000)).imp fun d e => by
    obtain ⟨l, rfl, x, rfl, hx⟩ := e
    exact ⟨_, rfl, Q1_one hx⟩
theorem q_app {m j : Nat} (ha : EvE K s c ta ρ n n (fun d => ∃ l, d = .tup l ∧ Q1 m l)) (hb : EvE K s c tb ρ n n (fun d => ∃ l, d = .tup l ∧ Q1 j l)) (hm : m + j ≤ 2000) : EvE K s c (tOp (rAddA K) ta tb) ρ n n (fun d => ∃ l, d = .tup l ∧ Q1 (m + j) l) := ev_opP ha hb fun x y e1 e2 => by
  obtain ⟨l, rfl, h1⟩ := e1
  obtain ⟨r, rfl, h2⟩ := e2
  exact ⟨_, rk_addT (by have := h1.2; have := h2.2; omega), _, rfl, Q1_app h1 h2⟩
theorem q_fin {m : Nat} (h : EvE K s c te ρ n n (fun d => ∃ l, d = .tup l ∧ Q1 m l)) (hm : m ≤ 16) : EvE K s c te ρ n n (ok 2) := h.imp fun d e => by
  obtain ⟨l, rfl, q⟩ := e
  exact Q1_ok q hm
theorem o_is {d : D} {k : Nat} (h : EvE K s c te ρ n n (fun x => x = d)) (hd : ok k d) : EvE K s c te ρ n n (ok k) := h.imp fun x e => by rw [e]; exact hd
/-- lists of things of a kind -/
def allQ (Q : D → Prop) (m : Nat) (l : List D) : Prop := l.length = m ∧ ∀ d ∈ l, Q d
variable {Q : D → Prop} {tr : TA} {n1 n2 : Nat}
theorem a_nil : EvA K s c tNil ρ n n (allQ Q 0) := ea_nil.imp fun l e => by rw [e]; exact ⟨rfl, fun d hd => by simp at hd⟩
theorem a_cons {m : Nat} (h : EvE K s c te ρ n n1 Q) (hr : EvA K s c tr ρ n1 n2 (allQ Q m)) : EvA K s c (tCons te tr) ρ n n2 (allQ Q (m + 1)) := (ea_cons h hr).imp fun l e => by
  obtain ⟨d, r, rfl, h1, h2, h3⟩ := e
  refine ⟨by rw [List.length_cons, h2], fun x hx => ?_⟩
  rcases List.mem_cons.mp hx with rfl | hx
  · exact h1
  · exact h3 x hx
theorem a_lst {m : Nat} (h : EvA K s c tr ρ n n1 (allQ Q m)) (hm : m ≤ 1000) : EvE K s c (tLst tr) ρ n n1 (fun d => ∃ l, d = .lst l ∧ allQ Q m l) := ev_lst h fun l e => by rw [e.1]; exact hm
theorem a_pick {m : Nat} {ta tb : TE} (ha : EvE K s c ta ρ n n1 (fun d => d = .obj s)) (hb : EvE K s c tb ρ n1 n2 (fun d => ∃ l, d = .lst l ∧ allQ Q m l)) (hn : n2 + 1 ≤ 2 ^ 40) (h0 : 1 ≤ m) (h1 : m ≤ 1000) :
    EvE K s c (tCall (Pr K prePick 1 postPick) [] E0 (tCons ta (tCons tb tNil))) ρ n (n2 + 1) Q :=
  (ev_def (A := fun l => ∃ L, l = [.obj s, .lst L] ∧ allQ Q m L) ((ea_cons ha (ea_cons hb ea_nil)).imp fun l e => by
    obtain ⟨d, r, rfl, rfl, d2, r2, rfl, ⟨L, rfl, hL⟩, rfl⟩ := e
    exact ⟨L, rfl, hL⟩) hn fun l e => by
    obtain ⟨L, rfl, hL⟩ := e
    exact ⟨.lst L, L, rfl, rfl, fun z => by rw [z] at hL; have := hL.1; simp at this; omega, by rw [hL.1]; exact h1⟩).imp fun z h => by
    obtain ⟨l, ⟨L, rfl, hL⟩, d, l2, e2, e3, e4⟩ := h
    cases e2
    cases e3
    exact hL.2 z e4
end
/-- not the text zz; not a tuple that begins with it -/
def nzB : D → Bool | .str z => decide (z ≠ Str.ofString "zz") | _ => true
def zzB : D → Bool | .tup (d :: _) => !nzB d | _ => false
def Q3 (d : D) : Prop := ok 3 d ∧ zzB d = false
theorem allQ_app {Q : D → Prop} {k m : Nat} {l r : List D} (h : allQ Q k l) (h2 : allQ Q m r) : allQ Q (k + m) (l ++ r) := ⟨by rw [List.length_append, h.1, h2.1], fun d hd => by
  rcases List.mem_append.mp hd with hd | hd
  · exact h.2 d hd
  · exact h2.2 d hd⟩
theorem allQ_one {Q : D → Prop} {d : D} (h : Q d) : allQ Q 1 [d] := ⟨rfl, fun x hx => by rw [List.mem_singleton.mp hx]; exact h⟩
theorem allQ_take {Q : D → Prop} {m j : Nat} {l : List D} (h : allQ Q m l) (hj : j ≤ m) : allQ Q j (l.take j) := ⟨by rw [List.length_take, h.1]; omega, fun d hd => h.2 d (List.mem_of_mem_take hd)⟩
theorem allQ_drop {Q : D → Prop} {m j : Nat} {l : List D} (h : allQ Q m l) : allQ Q (m - j) (l.drop j) := ⟨by rw [List.length_drop, h.1], fun d hd => h.2 d (List.mem_of_mem_drop hd)⟩
section
variable {K : PySem.W.Frag} {s c : Addr} {ρ : List Sl} {n n1 n2 : Nat} {te ta tb : TE} {tr : TA} {Q : D → Prop}
theorem a_addL {k m : Nat} {te2 : TE} (h : EvE K s c te ρ n n1 (fun d => ∃ l, d = .lst l ∧ allQ Q k l)) (h2 : EvE K s c te2 ρ n1 n2 (fun d => ∃ l, d = .lst l ∧ allQ Q m l)) (hm : k + m ≤ 2000) : EvE K s c (tOp (rAddA K) te te2) ρ n n2 (fun d => ∃ l, d = .lst l ∧ allQ Q (k + m) l) := ev_opP h h2 fun x y e1 e2 => by
  obtain ⟨l, rfl, a1⟩ := e1
  obtain ⟨r, rfl, b1⟩ := e2
  exact ⟨_, rk_addL (by rw [a1.1, b1.1]; exact hm), _, rfl, allQ_app a1 b1⟩
theorem a_varL {m : Nat} {i : Nat} {l : List D} (e : ρ[i]? = some (.va (.lst l))) (h : allQ Q m l) : EvE K s c (tVar i) ρ n n (fun d => ∃ l, d = .lst l ∧ allQ Q m l) := (ev_var e).imp fun x q => ⟨l, q, h⟩
theorem f_known {k : Nat} {d : D} (h : EvE K s c te ρ n n1 (fun x => x = d)) (o : ok k d) (z : nzB d = true) : EvE K s c te ρ n n1 (fun d => ok k d ∧ nzB d = true) := h.imp fun x e => by rw [e]; exact ⟨o, z⟩
theorem f_lst {k m : Nat} (h : EvA K s c tr ρ n n1 (allOk k m)) (hm : m ≤ 1000 ∧ m * (W k + 1) ≤ W (k + 1)) : EvE K s c (tLst tr) ρ n n1 (fun d => ok (k + 1) d ∧ nzB d = true) := (ev_lst h fun l e => by rw [e.1]; exact hm.1).imp fun d e => by
  obtain ⟨l, rfl, h1, h2⟩ := e
  exact ⟨ok_lst h2 (by rw [h1]; exact hm), rfl⟩
theorem z_known {d : D} (h : EvE K s c te ρ n n1 (fun x => x = d)) (o : ok 3 d) (z : zzB d = false) : EvE K s c te ρ n n1 Q3 := h.imp fun x e => by rw [e]; exact ⟨o, z⟩
theorem z_lst {m : Nat} (h : EvA K s c tr ρ n n1 (allOk 2 m)) (hm : m ≤ 1000 ∧ m * (W 2 + 1) ≤ W 3) : EvE K s c (tLst tr) ρ n n1 Q3 := (ev_lst h fun l e => by rw [e.1]; exact hm.1).imp fun d e => by
  obtain ⟨l, rfl, h1, h2⟩ := e
  exact ⟨ok_lst h2 (by rw [h1]; exact hm), rfl⟩
theorem z_tup {m : Nat} (h1 : EvE K s c te ρ n n1 (fun d => ok 2 d ∧ nzB d = true)) (hr : EvA K s c tr ρ n1 n2 (allOk 2 m)) (hm : m + 1 ≤ 1000 ∧ (m + 1) * (W 2 + 1) ≤ W 3) : EvE K s c (tTup (tCons te tr)) ρ n n2 Q3 := (ev_tup (PL := fun l => ∃ d r, l = d :: r ∧ (ok 2 d ∧ nzB d = true) ∧ allOk 2 m r) ((ea_cons h1 hr).imp fun l e => e) fun l e => by
    obtain ⟨d, r, rfl, _, h⟩ := e
    rw [List.length_cons, h.1]
    exact hm.1).imp fun x e => by
  obtain ⟨l, rfl, d, r, rfl, ⟨o, z⟩, h⟩ := e
  refine ⟨ok_tup (fun y hy => ?_) (by rw [List.length_cons, h.1]; exact hm), by show (!nzB d) = false; rw [z]; rfl⟩
  rcases List.mem_cons.mp hy with rfl | hy
  · exact o
  · exact h.2 y hy
end
theorem int_wt {i : Int} (h1 : -1000000000 ≤ i) (h2 : i ≤ 1000000000) : (py (.int i)).weight ≤ 140 := by
  show (if i == 0 then 0 else i.natAbs.log2 + 1) ≤ 140
  split
  · exact Nat.zero_le _
  · have : i.natAbs.log2 < 31 := by
      by_cases z : i.natAbs = 0
      · rw [z]; decide
      · exact (Nat.log2_lt z).mpr (by omega)
    omega
theorem ok_b {d : D} (h : (tame d && (decide (dp d = 0) && (ls d && decide (wt d ≤ 140)))) = true) (k : Nat) (hk : 1 ≤ k) : ok k d := by
  rw [Bool.and_eq_true, Bool.and_eq_true, Bool.and_eq_true, decide_eq_true_eq, decide_eq_true_eq] at h
  exact ⟨h.1, by rw [h.2.1]; exact Nat.zero_le _, h.2.2.1, Nat.le_trans h.2.2.2 (W_le (k := 1) hk)⟩
/-- what may come out as rows -/
def okR (z : D) : Prop := (ok 4 z ∧ ∃ l, (z = .tup l ∨ z = .lst l) ∧ ∀ d ∈ l, zzB d = false) ∨ z = .non ∨ z = .int 7 ∨ (∃ t : Str, z = .str t ∧ t.length ≤ 4 ∧ tame (.str t) = true ∧ (reprText t).length ≤ 100) ∨ z = .dct [] []
theorem ok_row {r : Row} (h0 : okRL r) : Q3 (dRow r) := by
  have h := h0.1
  refine ⟨?_, by show (!decide (r.1 ≠ Str.ofString "zz")) = false; rw [decide_eq_true h0.2.2]; rfl⟩
  have q : Q1 3 (dIs r.2.2) := ⟨fun x hx => by
    obtain ⟨i, rfl, hi⟩ := ints_mem hx
    have b := h.2.2.2.2 i hi
    exact ⟨rfl, Nat.zero_le _, h0.2.1 i hi, int_wt b.1 b.2⟩, by rw [is_len]; exact h.2.2.2.1⟩
  refine ok_tup (k := 2) (fun d hd => ?_) ⟨by exact (by decide : (3 : Nat) ≤ 1000), by exact (by decide : 3 * (W 2 + 1) ≤ W 3)⟩
  rcases List.mem_cons.mp hd with rfl | hd
  · exact ok_name h.1 2
  · rcases List.mem_cons.mp hd with rfl | hd
    · exact ok_name h.2.1 2
    · rw [List.mem_singleton.mp hd]
      exact Q1_ok q (by decide)
def preCh (s c : Addr) (ds : List D) : Prop := ∃ (ps : List (Str × Nat)) (rs : List Row), ds = [.obj s, .lst (ps.map dShape), .lst (rs.map dRow)] ∧ (∀ r ∈ rs, okRL r) ∧ rs.length ≤ 7
def postCh (s c : Addr) (ds : List D) (z : D) : Prop := okR z
section
variable {P : Program} {w : World} {K : PySem.W.Frag} {mg : Str → Option Value} {base : Heap} {A : Adr}
theorem ok__law_changed (T : Txt A K mg) : FnOk P w K mg base CX0 4 A.f__law_changed A.fd__law_changed ["source", "shapes", "rows"] (Pr K preCh 50 postCh) := by
  have G__law_pick := ok__law_pick (P := P) (w := w) (base := base) T
  have G__law_draw := ok__law_draw (P := P) (w := w) (base := base) T
  refine T.F__law_changed.ok sc__law_changed (fun vs H Q E h => pr_len h fun s c ds hp => ?_) (fun cdv A' outer st H vs Q E hr h => have hw : _ := hr.units; ⟨_, (pss_cons (ps_set (i := 3) sc__law_changed.nd rfl (by first | exact Or.inl rfl | exact Or.inr rfl) (pe_op (k_add K) (pv 2) (pe_lst (pa_cons (pe_tup (pa_cons pe_str (pa_cons pe_str (pa_cons (pe_tup (pa_cons pe_int (pa_cons pe_int pa_nil))) pa_nil)))) pa_nil))))
      (pss_cons (ps_for PassesOwn.never rfl (pi_range1 rfl T.m_range (pa_cons (pe_call G__law_draw (hr.mono (by decide)) (by rfl) T.m__law_draw T.F__law_draw.kp T.b__law_draw .nil pass0 (pa_cons (pv 0) (pa_cons pe_int pa_nil))) pa_nil)) (pg_name (i := 4) sc__law_changed.nd rfl (by first | exact Or.inl rfl | exact Or.inr rfl)) (pss_cons (ps_asg (pe_call G__law_pick (hr.mono (by decide)) (by rfl) T.m__law_pick T.F__law_pick.kp T.b__law_pick .nil pass0 (pa_cons (pv 0) (pa_cons (pv 3) pa_nil))) (k_pgtup K (n := 3) rfl (pgs_cons (pg_name (i := 5) sc__law_changed.nd rfl (by first | exact Or.inl rfl | exact Or.inr rfl)) (pgs_cons (pg_name (i := 6) sc__law_changed.nd rfl (by first | exact Or.inl rfl | exact Or.inr rfl)) (pgs_cons (pg_name (i := 7) sc__law_changed.nd rfl (by first | exact Or.inl rfl | exact Or.inr rfl)) pgs_nil)))))
      (pss_cons (ps_set (i := 8) sc__law_changed.nd rfl (by first | exact Or.inl rfl | exact Or.inr rfl) (pe_lst (pa_cons pe_non (pa_cons (pe_lst (pa_cons (pv 5) (pa_cons (pv 6) (pa_cons (pv 7) pa_nil)))) (pa_cons (pe_tup (pa_cons (pv 5) (pa_cons (pv 6) pa_nil))) (pa_cons (pe_tup (pa_cons (pv 5) (pa_cons (pv 6) (pa_cons (pv 7) (pa_cons pe_int pa_nil))))) (pa_cons (pe_tup (pa_cons (pv 5) (pa_cons (pv 6) (pa_cons (pe_callTy (k_list K) (by rfl) T.m_list (by decide +kernel) (pa_cons (pv 7) pa_nil)) pa_nil)))) pa_nil)))))))
      (pss_cons (ps_set (i := 8) sc__law_changed.nd rfl (by first | exact Or.inl rfl | exact Or.inr rfl) (pe_op (k_add K) (pv 8) (pe_lst (pa_cons (pe_tup (pa_cons pe_str (pa_cons (pv 6) (pa_cons (pv 7) pa_nil)))) (pa_cons (pe_tup (pa_cons pe_non (pa_cons (pv 6) (pa_cons (pv 7) pa_nil)))) (pa_cons (pe_tup (pa_cons (pv 5) (pa_cons pe_str (pa_cons (pv 7) pa_nil)))) (pa_cons (pe_tup (pa_cons pe_str (pa_cons (pv 6) (pa_cons (pe_tup pa_nil) pa_nil)))) pa_nil)))))))
      (pss_cons (ps_set (i := 8) sc__law_changed.nd rfl (by first | exact Or.inl rfl | exact Or.inr rfl) (pe_op (k_add K) (pv 8) (pe_lst (pa_cons (pe_tup (pa_cons pe_str (pa_cons (pv 6) (pa_cons (pe_op (k_add K) (pe_tup (pa_cons pe_bl pa_nil)) (pe_slice (k_sl K) (pv 7) (po_some pe_int) po_none)) pa_nil)))) (pa_cons (pe_tup (pa_cons pe_str (pa_cons (pv 6) (pa_cons (pe_op (k_add K) (pe_tup (pa_cons (pe_op (k_add K) (pe_op op_powW pe_int pe_int) pe_int) pa_nil)) (pe_slice (k_sl K) (pv 7) (po_some pe_int) po_none)) pa_nil)))) (pa_cons pe_int (pa_cons pe_str pa_nil)))))))
      (pss_cons (ps_set (i := 8) sc__law_changed.nd rfl (by first | exact Or.inl rfl | exact Or.inr rfl) (pe_op (k_add K) (pv 8) (pe_lst (pa_cons (pe_tup (pa_cons pe_str (pa_cons (pv 6) (pa_cons (pv 7) pa_nil)))) (pa_cons (pe_tup (pa_cons (pv 5) (pa_cons (pv 6) (pa_cons (k_revT (K := K) (pv 7)) pa_nil)))) (pa_cons (pe_tup (pa_cons pe_str (pa_cons (pv 6) (pa_cons (pe_slice (k_sl K) (pe_op (k_mulB (K := K)) (pv 7) pe_int) po_none (po_some pe_int)) pa_nil)))) pa_nil))))))
      (pss_cons (ps_set (i := 8) sc__law_changed.nd rfl (by first | exact Or.inl rfl | exact Or.inr rfl) (pe_op (k_add K) (pv 8) (pe_lst (pa_cons (pe_tup (pa_cons pe_str (pa_cons (pv 6) (pa_cons (pe_slice (k_sl K) (pe_op (k_add K) (pv 7) (pe_tup (pa_cons pe_int pa_nil))) po_none (po_some pe_int)) pa_nil)))) (pa_cons (pe_tup (pa_cons pe_str (pa_cons (pv 6) (pa_cons (pe_op (k_mulB (K := K)) (pe_tup (pa_cons (pe_op op_sub pe_int (pe_op op_powW pe_int pe_int)) pa_nil)) (pe_callB (k_len K) (by rfl) T.m_len (by decide +kernel) (pa_cons (pv 7) pa_nil))) pa_nil)))) pa_nil)))))
      (pss_cons (ps_set (i := 8) sc__law_changed.nd rfl (by first | exact Or.inl rfl | exact Or.inr rfl) (pe_op (k_add K) (pv 8) (pe_lst (pa_cons (pe_tup (pa_cons (pe_lst (pa_cons pe_str pa_nil)) (pa_cons (pv 6) (pa_cons (pv 7) pa_nil)))) (pa_cons (pe_tup (pa_cons (pv 5) (pa_cons (pv 6) (pa_cons pe_non pa_nil)))) (pa_cons (pe_tup (pa_cons (pv 5) (pa_cons (pv 6) (pa_cons pe_int pa_nil)))) (pa_cons (pe_tup (pa_cons (pv 5) (pa_cons (pv 6) (pa_cons pe_bl pa_nil)))) pa_nil)))))))
      (pss_cons (ps_set (i := 9) sc__law_changed.nd rfl (by first | exact Or.inl rfl | exact Or.inr rfl) (pe_lst (pa_cons pe_str (pa_cons pe_str (pa_cons pe_str (pa_cons pe_str (pa_cons pe_str (pa_cons pe_str (pa_cons pe_str (pa_cons pe_str (pa_cons pe_non (pa_cons pe_int (pa_cons (pe_lst (pa_cons pe_str pa_nil)) (pa_cons pe_bl (pa_cons pe_str (pa_cons pe_str pa_nil))))))))))))))))
      (pss_cons (ps_set (i := 10) sc__law_changed.nd rfl (by first | exact Or.inl rfl | exact Or.inr rfl) (pe_call G__law_pick (hr.mono (by decide)) (by rfl) T.m__law_pick T.F__law_pick.kp T.b__law_pick .nil pass0 (pa_cons (pv 0) (pa_cons (pv 9) pa_nil))))
      (pss_cons (ps_set (i := 11) sc__law_changed.nd rfl (by first | exact Or.inl rfl | exact Or.inr rfl) (pe_call G__law_pick (hr.mono (by decide)) (by rfl) T.m__law_pick T.F__law_pick.kp T.b__law_pick .nil pass0 (pa_cons (pv 0) (pa_cons (pe_lst (pa_cons pe_bl (pa_cons pe_non (pa_cons pe_str (pa_cons (pe_op (k_add K) (pe_op op_powW pe_int pe_int) pe_int) (pa_cons (pe_op op_sub (pe_op op_sub pe_int (pe_op op_powW pe_int pe_int)) pe_int) pa_nil)))))) pa_nil))))
      (pss_cons (ps_set (i := 8) sc__law_changed.nd rfl (by first | exact Or.inl rfl | exact Or.inr rfl) (pe_op (k_add K) (pv 8) (pe_lst (pa_cons (pe_tup (pa_cons (pv 10) (pa_cons (pv 6) (pa_cons (pv 7) pa_nil)))) (pa_cons (pe_tup (pa_cons (pv 5) (pa_cons (pv 10) (pa_cons (pv 7) pa_nil)))) (pa_cons (pe_tup (pa_cons pe_str (pa_cons (pv 6) (pa_cons (pe_op (k_add K) (pe_slice (k_sl K) (pv 7) po_none (po_some (pe_un un_neg pe_int))) (pe_tup (pa_cons (pv 11) pa_nil))) pa_nil)))) pa_nil))))))
      (pss_cons (ps_expr (k_bm K PySem.F.plainAttrs_list PySem.F.slot_list_append PySem.F.type_list_append mt_append (pv 8) (pa_cons (pe_tup (pa_cons pe_str (pa_cons (pv 6) (pa_cons (pe_op (k_add K) (pe_tup (pa_cons (pe_op op_sub (pe_op op_sub pe_int (pe_op op_powW pe_int pe_int)) pe_int) pa_nil)) (pe_slice (k_sl K) (pv 7) (po_some pe_int) po_none)) pa_nil)))) pa_nil)))
      (pss_cons (ps_expr (k_bm K PySem.F.plainAttrs_list PySem.F.slot_list_append PySem.F.type_list_append mt_append (pv 8) (pa_cons (pe_tup (pa_cons pe_str (pa_cons (pv 6) (pa_cons (pe_op (k_add K) (pe_op (k_add K) (pe_slice (k_sl K) (pv 7) po_none (po_some pe_int)) (pe_tup (pa_cons (pv 11) pa_nil))) (pe_slice (k_sl K) (pv 7) (po_some pe_int) po_none)) pa_nil)))) pa_nil)))
      (pss_cons (ps_set (i := 12) sc__law_changed.nd rfl (by first | exact Or.inl rfl | exact Or.inr rfl) (pe_call G__law_draw (hr.mono (by decide)) (by rfl) T.m__law_draw T.F__law_draw.kp T.b__law_draw .nil pass0 (pa_cons (pv 0) (pa_cons (pe_op (k_add K) (pe_callB (k_len K) (by rfl) T.m_len (by decide +kernel) (pa_cons (pv 2) pa_nil)) pe_int) pa_nil))))
      (pss_one (ps_set (i := 2) sc__law_changed.nd rfl (by first | exact Or.inl rfl | exact Or.inr rfl) (pe_op (k_add K) (pe_op (k_add K) (pe_slice (k_sl K) (pv 2) po_none (po_some (pv 12))) (pe_lst (pa_cons (pe_call G__law_pick (hr.mono (by decide)) (by rfl) T.m__law_pick T.F__law_pick.kp T.b__law_pick .nil pass0 (pa_cons (pv 0) (pa_cons (pv 8) pa_nil))) pa_nil))) (pe_slice (k_sl K) (pv 2) (po_some (pv 12)) po_none)))))))))))))))))))
      (pss_one (ps_ret (pe_call G__law_pick (hr.mono (by decide)) (by rfl) T.m__law_pick T.F__law_pick.kp T.b__law_pick .nil pass0 (pa_cons (pv 0) (pa_cons (pe_lst (pa_cons (pv 2) (pa_cons (pv 2) (pa_cons (pv 2) (pa_cons (pe_callTy (k_tuple K) (by rfl) T.m_tuple (by decide +kernel) (pa_cons (pv 2) pa_nil)) (pa_cons pe_non (pa_cons pe_int (pa_cons (pe_op (k_mulB (K := K)) (pv 2) pe_int) (pa_cons pe_str (pa_cons (pe_tup pa_nil) (pa_cons (pe_frz pe_dnewK) (pa_cons pe_str pa_nil)))))))))))) pa_nil))))))), body_ok h fun s c n ds hn hp => ?_⟩)
  · obtain ⟨ps, rs, rfl, _⟩ := hp
    rfl
  · obtain ⟨ps, rs, rfl, hrs, h7⟩ := hp
    have okn : okRL (Str.ofString "new", Str.ofString "e", [1, 2]) := ⟨⟨nm (by decide +kernel), nm (by decide +kernel), by decide, by decide, by decide⟩, by decide +kernel, by decide +kernel⟩
    refine s_seq (N := fun ρ' u => u = n ∧ ρ' = [.va (.obj s), .va (.lst (ps.map dShape)), .va (.lst (rs.map dRow)), .va (.lst ((rs ++ [(Str.ofString "new", Str.ofString "e", [1, 2])]).map dRow)), .no, .no, .no, .no, .no, .no, .no, .no, .no]) (s_set (P := fun d => d = .lst ((rs ++ [(Str.ofString "new", Str.ofString "e", [1, 2])]).map dRow)) (ev_is (ev_opK (ev_var rfl) (ev_lstE (ea_one (ev_tupE (ea_c ev_str (ea_c ev_str (ea_one (ev_tupE (ea_c ev_int (ea_one ev_int)) (by exact (by decide : (2 : Nat) ≤ 1000)))))) (by exact (by decide : (3 : Nat) ≤ 1000)))) (by exact (by decide : (1 : Nat) ≤ 1000))) (rk_addL (by rw [List.length_map]; show rs.length + 1 ≤ 2000; omega))) (by rw [List.map_append]; rfl)) rfl fun d h => ?_) fun ρ1 n1 h1 => ?_
    · rw [h]; exact ⟨rfl, rfl⟩
    obtain ⟨rfl, rfl⟩ := h1
    have hpl : ∀ q ∈ rs ++ [(Str.ofString "new", Str.ofString "e", [1, 2])], okRL q := fun q hq => by
      rcases snoc_mem hq with hq | hq
      · exact hrs q hq
      · rw [hq]; exact okn
    have plen : ((rs ++ [((Str.ofString "new" : Str), (Str.ofString "e" : Str), ([1, 2] : List Int))]).map dRow).length ≤ 8 := by
      rw [List.length_map, List.length_append]
      show rs.length + 1 ≤ 8
      omega
    have pne : (rs ++ [((Str.ofString "new" : Str), (Str.ofString "e" : Str), ([1, 2] : List Int))]).map dRow ≠ [] := by
      rw [List.map_append]
      simp
    generalize hpleq : (rs ++ [(Str.ofString "new", Str.ofString "e", [1, 2])]).map dRow = pl at plen pne ⊢
    have hplm : ∀ d ∈ pl, ∃ q, d = dRow q ∧ okRL q := fun d hd => by
      rw [← hpleq] at hd
      obtain ⟨q, hq, rfl⟩ := List.mem_map.mp hd
      exact ⟨q, rfl, hpl q hq⟩
    have hL0 : allQ Q3 rs.length (rs.map dRow) := ⟨List.length_map _, fun d hd => by
      obtain ⟨q, hq, rfl⟩ := List.mem_map.mp hd
      exact ok_row (hrs q hq)⟩
    refine s_seq (N := fun ρ' u => u ≤ n1 + 40 ∧ ∃ (L : List D) (m : Nat) (y4 y5 y6 y7 y8 y9 y10 y11 y12 : Sl), ρ' = [.va (.obj s), .va (.lst (ps.map dShape)), .va (.lst L), .va (.lst pl), y4, y5, y6, y7, y8, y9, y10, y11, y12] ∧ allQ Q3 m L ∧ m ≤ 10) ?_ fun ρ2 n2 h2 => ?_
    · refine s_for (n1 := n1 + 1) (ei_rng1 (PL := fun ds => ∃ j : Nat, ds = dInts 0 j ∧ j ≤ 3) (EvA.imp (ea_cons (ev_draw (ev_var rfl) ev_int (by omega) (by decide) (by decide)) ea_nil) fun l h => h) fun l h => ?_)
        (fun ds i ρ' u => u ≤ n1 + 1 + 5 * i ∧ ∃ (L : List D) (m : Nat) (y4 y5 y6 y7 y8 y9 y10 y11 y12 : Sl), ρ' = [.va (.obj s), .va (.lst (ps.map dShape)), .va (.lst L), .va (.lst pl), y4, y5, y6, y7, y8, y9, y10, y11, y12] ∧ (isOw (some y4) = false ∧ isOw (some y5) = false ∧ isOw (some y6) = false ∧ isOw (some y7) = false ∧ isOw (some y8) = false ∧ isOw (some y9) = false ∧ isOw (some y10) = false ∧ isOw (some y11) = false ∧ isOw (some y12) = false) ∧ allQ Q3 m L ∧ m ≤ 7 + i)
        (fun ds e => ⟨Nat.le_refl _, rs.map dRow, rs.length, .no, .no, .no, .no, .no, .no, .no, .no, .no, rfl, ⟨rfl, rfl, rfl, rfl, rfl, rfl, rfl, rfl, rfl⟩, hL0, h7⟩) (fun ds e i d ρ' u hi inv => ?_) fun ds e ρ' u inv => ?_
      · obtain ⟨_, _, rfl, ⟨k, rfl, k0, k1⟩, rfl⟩ := h
        exact ⟨k, rfl, by omega, by omega, k.toNat, rfl, by omega⟩
      · obtain ⟨hu, L, m, y4, y5, y6, y7, y8, y9, y10, y11, y12, rfl, ⟨o4, o5, o6, o7, o8, o9, o10, o11, o12⟩, hL, hm⟩ := inv
        obtain ⟨j, rfl, j3⟩ := e
        obtain ⟨il, rfl⟩ := ints_at' hi
        refine ⟨_, _, eg_name (j := 4) o4, ?_⟩
        refine s_seq (N := fun ρ' v => v = u + 1 ∧ ∃ r : Row, okRL r ∧ ρ' = [.va (.obj s), .va (.lst (ps.map dShape)), .va (.lst L), .va (.lst pl), .va (.int (0 + (i : Nat))), .va (.str r.1), .va (.str r.2.1), .va (.tup (dIs r.2.2)), y8, y9, y10, y11, y12]) (s_asg (P := fun x => x ∈ pl) (ev_pick (d := .lst pl) (ev_var rfl) (ev_var rfl) (by omega) rfl pne (by omega)) fun x hx => ?_) fun ρ1 n2 h1 => ?_
        · obtain ⟨q, rfl, hq⟩ := hplm x hx
          exact ⟨_, _, eg_tup (egs_cons (eg_name (j := 5) o5) (egs_cons (eg_name (j := 6) o6) (egs_cons (eg_name (j := 7) o7) egs_nil))) rfl, rfl, q, hq, rfl⟩
        obtain ⟨rfl, r, okrL, rfl⟩ := h1
        have okr := okrL.1
        have hnm : ∀ k, ok k (.str r.1) := ok_name okr.1
        have hnz : nzB (.str r.1) = true := decide_eq_true okrL.2.2
        have htb : ∀ k, ok k (.str r.2.1) := ok_name okr.2.1
        have hq : Q1 3 (dIs r.2.2) := ⟨fun x hx => by
          obtain ⟨i, rfl, hi⟩ := ints_mem hx
          have b := okr.2.2.2.2 i hi
          exact ⟨rfl, Nat.zero_le _, okrL.2.1 i hi, int_wt b.1 b.2⟩, by rw [is_len]; exact okr.2.2.2.1⟩
        have hvl : ok 2 (.tup (dIs r.2.2)) := Q1_ok hq (by decide)
        have hvl2 : ok 2 (.lst (dIs r.2.2)) := Q1_ok hq (by decide)
        have hl1 : 1 ≤ (dIs r.2.2).length := by rw [is_len]; exact okr.2.2.1
        have hl3 : (dIs r.2.2).length ≤ 3 := hq.2
        have hlen : (dIs r.2.2).length ≤ 1000 := by omega
        refine s_seq (N := fun ρ' v => v = u + 1 ∧ ∃ odd, ρ' = [.va (.obj s), .va (.lst (ps.map dShape)), .va (.lst L), .va (.lst pl), .va (.int (0 + (i : Nat))), .va (.str r.1), .va (.str r.2.1), .va (.tup (dIs r.2.2)), .va (.lst odd), y9, y10, y11, y12] ∧ allQ Q3 5 odd) (s_set (n1 := u + 1) (a_lst (Q := Q3) (m := 5) (a_cons (z_known ev_non (ok_0 rfl 3) rfl) (a_cons (z_lst (o_cons (o_var rfl (hnm 2)) (o_cons (o_var rfl (htb 2)) (o_cons (o_var rfl hvl) o_nil))) (by decide)) (a_cons (z_tup (f_known (k := 2) (ev_var rfl) (hnm 2) hnz) (o_cons (o_var rfl (htb 2)) o_nil) (by decide)) (a_cons (z_tup (f_known (k := 2) (ev_var rfl) (hnm 2) hnz) (o_cons (o_var rfl (htb 2)) (o_cons (o_var rfl hvl) (o_cons (o_int (by decide +kernel)) o_nil))) (by decide)) (a_cons (z_tup (f_known (k := 2) (ev_var rfl) (hnm 2) hnz) (o_cons (o_var rfl (htb 2)) (o_cons (o_is (ev_callK (ea_one (ev_var rfl)) (ck_list rfl)) hvl2) o_nil)) (by decide)) a_nil))))) (by decide)) o8 fun d h => ?_) fun ρ1 n2 h1 => ?_
        · obtain ⟨odd, rfl, ho⟩ := h
          exact ⟨rfl, odd, rfl, ho⟩
        obtain ⟨rfl, odd, rfl, hod⟩ := h1
        refine s_seq (N := fun ρ' v => v = u + 1 ∧ ∃ odd, ρ' = [.va (.obj s), .va (.lst (ps.map dShape)), .va (.lst L), .va (.lst pl), .va (.int (0 + (i : Nat))), .va (.str r.1), .va (.str r.2.1), .va (.tup (dIs r.2.2)), .va (.lst odd), y9, y10, y11, y12] ∧ allQ Q3 9 odd) (s_set (n1 := u + 1) (a_addL (m := 4) (a_varL rfl hod) (a_lst (Q := Q3) (m := 4) (a_cons (z_tup (f_known (k := 2) ev_str (ok_str 2 (by decide +kernel)) (by decide +kernel)) (o_cons (o_var rfl (htb 2)) (o_cons (o_var rfl hvl) o_nil)) (by decide)) (a_cons (z_tup (f_known (k := 2) ev_non (ok_0 rfl 2) rfl) (o_cons (o_var rfl (htb 2)) (o_cons (o_var rfl hvl) o_nil)) (by decide)) (a_cons (z_tup (f_known (k := 2) (ev_var rfl) (hnm 2) hnz) (o_cons (o_str (by decide +kernel)) (o_cons (o_var rfl hvl) o_nil)) (by decide)) (a_cons (z_tup (f_known (k := 2) ev_str (ok_str 2 (by decide +kernel)) (by decide +kernel)) (o_cons (o_var rfl (htb 2)) (o_cons (o_tup (k := 1) o_nil (by decide)) o_nil)) (by decide)) a_nil)))) (by decide)) (by decide)) rfl fun d h => ?_) fun ρ1 n2 h1 => ?_
        · obtain ⟨odd, rfl, ho⟩ := h
          exact ⟨rfl, odd, rfl, ho⟩
        obtain ⟨rfl, odd, rfl, hod⟩ := h1
        refine s_seq (N := fun ρ' v => v = u + 1 ∧ ∃ odd, ρ' = [.va (.obj s), .va (.lst (ps.map dShape)), .va (.lst L), .va (.lst pl), .va (.int (0 + (i : Nat))), .va (.str r.1), .va (.str r.2.1), .va (.tup (dIs r.2.2)), .va (.lst odd), y9, y10, y11, y12] ∧ allQ Q3 13 odd) (s_set (n1 := u + 1) (a_addL (m := 4) (a_varL rfl hod) (a_lst (Q := Q3) (m := 4) (a_cons (z_tup (f_known (k := 2) ev_str (ok_str 2 (by decide +kernel)) (by decide +kernel)) (o_cons (o_var rfl (htb 2)) (o_cons (q_fin (q_app (q_one o_bl) (q_known (ev_slT (ev_var rfl) (eo_some ev_int) eo_none) (Q1_cut hq)) (by decide)) (by decide)) o_nil)) (by decide)) (a_cons (z_tup (f_known (k := 2) ev_str (ok_str 2 (by decide +kernel)) (by decide +kernel)) (o_cons (o_var rfl (htb 2)) (o_cons (q_fin (q_app (q_one (o_is (ev_opK (ev_opK ev_int ev_int (rk_I (z := .int (10 ^ 9)) (fun _ _ => rfl) ⟨by decide, by decide +kernel⟩)) ev_int rk_add) (ok_b (by decide +kernel) 1 (by decide)))) (q_known (ev_slT (ev_var rfl) (eo_some ev_int) eo_none) (Q1_cut hq)) (by decide)) (by decide)) o_nil)) (by decide)) (a_cons (z_known ev_int (ok_0 (by decide +kernel) 3) rfl) (a_cons (z_known ev_str (ok_str 3 (by decide +kernel)) rfl) a_nil)))) (by decide)) (by decide)) rfl fun d h => ?_) fun ρ1 n2 h1 => ?_
        · obtain ⟨odd, rfl, ho⟩ := h
          exact ⟨rfl, odd, rfl, ho⟩
        obtain ⟨rfl, odd, rfl, hod⟩ := h1
        refine s_seq (N := fun ρ' v => v = u + 1 ∧ ∃ odd, ρ' = [.va (.obj s), .va (.lst (ps.map dShape)), .va (.lst L), .va (.lst pl), .va (.int (0 + (i : Nat))), .va (.str r.1), .va (.str r.2.1), .va (.tup (dIs r.2.2)), .va (.lst odd), y9, y10, y11, y12] ∧ allQ Q3 16 odd) (s_set (n1 := u + 1) (a_addL (m := 3) (a_varL rfl hod) (a_lst (Q := Q3) (m := 3) (a_cons (z_tup (f_known (k := 2) ev_str (ok_str 2 (by decide +kernel)) (by decide +kernel)) (o_cons (o_var rfl (htb 2)) (o_cons (o_var rfl hvl) o_nil)) (by decide)) (a_cons (z_tup (f_known (k := 2) (ev_var rfl) (hnm 2) hnz) (o_cons (o_var rfl (htb 2)) (o_cons (q_fin (q_known (ev_revT (ev_var rfl)) (Q1_rev hq)) (by decide)) o_nil)) (by decide)) (a_cons (z_tup (f_known (k := 2) ev_str (ok_str 2 (by decide +kernel)) (by decide +kernel)) (o_cons (o_var rfl (htb 2)) (o_cons (q_fin (q_known (ev_slT (ev_opK (ev_var rfl) ev_int (rk_timesT (by decide) (by decide) hlen)) eo_none (eo_some ev_int)) (Q1_cut (Q1_rep (j := 12) hq (by decide)))) (by decide)) o_nil)) (by decide)) a_nil))) (by decide)) (by decide)) rfl fun d h => ?_) fun ρ1 n2 h1 => ?_
        · obtain ⟨odd, rfl, ho⟩ := h
          exact ⟨rfl, odd, rfl, ho⟩
        obtain ⟨rfl, odd, rfl, hod⟩ := h1
        refine s_seq (N := fun ρ' v => v = u + 1 ∧ ∃ odd, ρ' = [.va (.obj s), .va (.lst (ps.map dShape)), .va (.lst L), .va (.lst pl), .va (.int (0 + (i : Nat))), .va (.str r.1), .va (.str r.2.1), .va (.tup (dIs r.2.2)), .va (.lst odd), y9, y10, y11, y12] ∧ allQ Q3 18 odd) (s_set (n1 := u + 1) (a_addL (m := 2) (a_varL rfl hod) (a_lst (Q := Q3) (m := 2) (a_cons (z_tup (f_known (k := 2) ev_str (ok_str 2 (by decide +kernel)) (by decide +kernel)) (o_cons (o_var rfl (htb 2)) (o_cons (q_fin (q_known (ev_slT (ev_opK (ev_var rfl) (ev_tupE (ea_one ev_int) (by exact (by decide : (1 : Nat) ≤ 1000))) (rk_addT (by show (dIs r.2.2).length + 1 ≤ 2000; omega))) eo_none (eo_some ev_int)) (Q1_cut (Q1_app hq (Q1_one (ok_0 (by decide +kernel) 1))))) (by decide)) o_nil)) (by decide)) (a_cons (z_tup (f_known (k := 2) ev_str (ok_str 2 (by decide +kernel)) (by decide +kernel)) (o_cons (o_var rfl (htb 2)) (o_cons (q_fin (q_known (ev_opK (ev_tupE (ea_one (ev_opK ev_int (ev_opK ev_int ev_int (rk_I (z := .int (10 ^ 9)) (fun _ _ => rfl) ⟨by decide, by decide +kernel⟩)) rk_sub)) (by exact (by decide : (1 : Nat) ≤ 1000))) (ev_callK (ea_one (ev_var rfl)) (ck_len rfl)) (rk_timesT (by omega) (by omega) (by exact (by decide : (1 : Nat) ≤ 1000)))) (Q1_rep (j := 3) (Q1_one (ok_b (by decide +kernel) 1 (by decide))) (by omega))) (by decide)) o_nil)) (by decide)) a_nil)) (by decide)) (by decide)) rfl fun d h => ?_) fun ρ1 n2 h1 => ?_
        · obtain ⟨odd, rfl, ho⟩ := h
          exact ⟨rfl, odd, rfl, ho⟩
        obtain ⟨rfl, odd, rfl, hod⟩ := h1
        refine s_seq (N := fun ρ' v => v = u + 1 ∧ ∃ odd, ρ' = [.va (.obj s), .va (.lst (ps.map dShape)), .va (.lst L), .va (.lst pl), .va (.int (0 + (i : Nat))), .va (.str r.1), .va (.str r.2.1), .va (.tup (dIs r.2.2)), .va (.lst odd), y9, y10, y11, y12] ∧ allQ Q3 22 odd) (s_set (n1 := u + 1) (a_addL (m := 4) (a_varL rfl hod) (a_lst (Q := Q3) (m := 4) (a_cons (z_tup (f_lst (k := 1) (o_cons (o_str (by decide +kernel)) o_nil) (by decide)) (o_cons (o_var rfl (htb 2)) (o_cons (o_var rfl hvl) o_nil)) (by decide)) (a_cons (z_tup (f_known (k := 2) (ev_var rfl) (hnm 2) hnz) (o_cons (o_var rfl (htb 2)) (o_cons o_non o_nil)) (by decide)) (a_cons (z_tup (f_known (k := 2) (ev_var rfl) (hnm 2) hnz) (o_cons (o_var rfl (htb 2)) (o_cons (o_int (by decide +kernel)) o_nil)) (by decide)) (a_cons (z_tup (f_known (k := 2) (ev_var rfl) (hnm 2) hnz) (o_cons (o_var rfl (htb 2)) (o_cons o_bl o_nil)) (by decide)) a_nil)))) (by decide)) (by decide)) rfl fun d h => ?_) fun ρ1 n2 h1 => ?_
        · obtain ⟨odd, rfl, ho⟩ := h
          exact ⟨rfl, odd, rfl, ho⟩
        obtain ⟨rfl, odd, rfl, hod⟩ := h1
        refine s_seq (N := fun ρ' v => v = u + 1 ∧ ∃ wds, ρ' = [.va (.obj s), .va (.lst (ps.map dShape)), .va (.lst L), .va (.lst pl), .va (.int (0 + (i : Nat))), .va (.str r.1), .va (.str r.2.1), .va (.tup (dIs r.2.2)), .va (.lst odd), .va (.lst wds), y10, y11, y12] ∧ allQ (fun d => ok 1 d ∧ nzB d = true) 14 wds) (s_set (n1 := u + 1) (a_lst (Q := fun d => ok 1 d ∧ nzB d = true) (m := 14) (a_cons (f_known (k := 1) ev_str (ok_str 1 (by decide +kernel)) (by decide +kernel)) (a_cons (f_known (k := 1) ev_str (ok_str 1 (by decide +kernel)) (by decide +kernel)) (a_cons (f_known (k := 1) ev_str (ok_str 1 (by decide +kernel)) (by decide +kernel)) (a_cons (f_known (k := 1) ev_str (ok_str 1 (by decide +kernel)) (by decide +kernel)) (a_cons (f_known (k := 1) ev_str (ok_str 1 (by decide +kernel)) (by decide +kernel)) (a_cons (f_known (k := 1) ev_str (ok_str 1 (by decide +kernel)) (by decide +kernel)) (a_cons (f_known (k := 1) ev_str (ok_str 1 (by decide +kernel)) (by decide +kernel)) (a_cons (f_known (k := 1) ev_str (ok_str 1 (by decide +kernel)) (by decide +kernel)) (a_cons (f_known (k := 1) ev_non (ok_0 rfl 1) rfl) (a_cons (f_known (k := 1) ev_int (ok_0 (by decide +kernel) 1) rfl) (a_cons (f_lst (k := 0) (o_cons (o_str (by decide +kernel)) o_nil) (by decide)) (a_cons (f_known (k := 1) ev_bl (ok_0 rfl 1) rfl) (a_cons (f_known (k := 1) ev_str (ok_str 1 (by decide +kernel)) (by decide +kernel)) (a_cons (f_known (k := 1) ev_str (ok_str 1 (by decide +kernel)) (by decide +kernel)) a_nil)))))))))))))) (by decide)) o9 fun d h => ?_) fun ρ1 n2 h1 => ?_
        · obtain ⟨wds, rfl, ho⟩ := h
          exact ⟨rfl, wds, rfl, ho⟩
        obtain ⟨rfl, wds, rfl, hwds⟩ := h1
        refine s_seq (N := fun ρ' v => v = u + 2 ∧ ∃ bad, ρ' = [.va (.obj s), .va (.lst (ps.map dShape)), .va (.lst L), .va (.lst pl), .va (.int (0 + (i : Nat))), .va (.str r.1), .va (.str r.2.1), .va (.tup (dIs r.2.2)), .va (.lst odd), .va (.lst wds), .va bad, y11, y12] ∧ ok 1 bad ∧ nzB bad = true) (s_set (n1 := u + 1 + 1) (a_pick (Q := fun d => ok 1 d ∧ nzB d = true) (m := 14) (ev_var rfl) (a_varL rfl hwds) (by omega) (by decide) (by decide)) o10 fun d h => ⟨rfl, d, rfl, h⟩) fun ρ1 n2 h1 => ?_
        obtain ⟨rfl, bad, rfl, hbad, hbz⟩ := h1
        refine s_seq (N := fun ρ' v => v = u + 3 ∧ ∃ far, ρ' = [.va (.obj s), .va (.lst (ps.map dShape)), .va (.lst L), .va (.lst pl), .va (.int (0 + (i : Nat))), .va (.str r.1), .va (.str r.2.1), .va (.tup (dIs r.2.2)), .va (.lst odd), .va (.lst wds), .va bad, .va far, y12] ∧ ok 1 far) (s_set (n1 := u + 2 + 1) (o_pickL (k := 1) (m := 5) (ev_var rfl) (o_lstL (k := 1) (m := 5) (o_cons o_bl (o_cons o_non (o_cons (o_str (by decide +kernel)) (o_cons (o_is (ev_opK (ev_opK ev_int ev_int (rk_I (z := .int (10 ^ 9)) (fun _ _ => rfl) ⟨by decide, by decide +kernel⟩)) ev_int rk_add) (ok_b (by decide +kernel) 1 (by decide))) (o_cons (o_is (ev_opK (ev_opK ev_int (ev_opK ev_int ev_int (rk_I (z := .int (10 ^ 9)) (fun _ _ => rfl) ⟨by decide, by decide +kernel⟩)) rk_sub) ev_int rk_sub) (ok_b (by decide +kernel) 1 (by decide))) o_nil))))) (by decide)) (by omega) (by decide) (by decide) (Nat.le_refl 1)) o11 fun d h => ⟨rfl, d, rfl, h⟩) fun ρ1 n2 h1 => ?_
        obtain ⟨rfl, far, rfl, hfar⟩ := h1
        refine s_seq (N := fun ρ' v => v = u + 3 ∧ ∃ odd, ρ' = [.va (.obj s), .va (.lst (ps.map dShape)), .va (.lst L), .va (.lst pl), .va (.int (0 + (i : Nat))), .va (.str r.1), .va (.str r.2.1), .va (.tup (dIs r.2.2)), .ow odd, .va (.lst wds), .va bad, .va far, y12] ∧ allQ Q3 25 odd) (s_own (n1 := u + 3) (en_addL (A := allQ Q3 22) (B := allQ Q3 3) (P := allQ Q3 (22 + 3)) (a_varL rfl hod) (a_lst (Q := Q3) (m := 3) (a_cons (z_tup (f_known (k := 2) (ev_var rfl) (ok_le hbad (by decide)) hbz) (o_cons (o_var rfl (htb 2)) (o_cons (o_var rfl hvl) o_nil)) (by decide)) (a_cons (z_tup (f_known (k := 2) (ev_var rfl) (hnm 2) hnz) (o_cons (o_var rfl (ok_le hbad (by decide))) (o_cons (o_var rfl hvl) o_nil)) (by decide)) (a_cons (z_tup (f_known (k := 2) ev_str (ok_str 2 (by decide +kernel)) (by decide +kernel)) (o_cons (o_var rfl (htb 2)) (o_cons (q_fin (q_app (q_known (ev_slT (ev_var rfl) eo_none (eo_some (ev_neg ev_int))) (Q1_cut hq)) (q_one (o_var rfl hfar)) (by decide)) (by decide)) o_nil)) (by decide)) a_nil))) (by decide)) fun l m h1 h2 => ⟨by rw [h1.1, h2.1]; decide, allQ_app h1 h2⟩) rfl (by exact (by decide : (8 : Nat) < 13)) fun d h => ⟨rfl, d, rfl, h⟩) fun ρ1 n2 h1 => ?_
        obtain ⟨rfl, odd, rfl, hod⟩ := h1
        refine s_seq (N := fun ρ' v => v = u + 3 ∧ ∃ odd, ρ' = [.va (.obj s), .va (.lst (ps.map dShape)), .va (.lst L), .va (.lst pl), .va (.int (0 + (i : Nat))), .va (.str r.1), .va (.str r.2.1), .va (.tup (dIs r.2.2)), .ow odd, .va (.lst wds), .va bad, .va far, y12] ∧ allQ Q3 26 odd) (s_append (i := 8) (l := odd) (P := Q3) (n1 := u + 3) rfl (z_tup (f_known (k := 2) ev_str (ok_str 2 (by decide +kernel)) (by decide +kernel)) (o_cons (o_var rfl (htb 2)) (o_cons (q_fin (q_app (q_one (o_is (ev_opK (ev_opK ev_int (ev_opK ev_int ev_int (rk_I (z := .int (10 ^ 9)) (fun _ _ => rfl) ⟨by decide, by decide +kernel⟩)) rk_sub) ev_int rk_sub) (ok_b (by decide +kernel) 1 (by decide)))) (q_known (ev_slT (ev_var rfl) (eo_some ev_int) eo_none) (Q1_cut hq)) (by decide)) (by decide)) o_nil)) (by decide)) (by have := hod.1; omega) fun d h => ⟨rfl, _, rfl, allQ_app hod (allQ_one h)⟩) fun ρ1 n2 h1 => ?_
        obtain ⟨rfl, odd, rfl, hod⟩ := h1
        refine s_seq (N := fun ρ' v => v = u + 3 ∧ ∃ odd, ρ' = [.va (.obj s), .va (.lst (ps.map dShape)), .va (.lst L), .va (.lst pl), .va (.int (0 + (i : Nat))), .va (.str r.1), .va (.str r.2.1), .va (.tup (dIs r.2.2)), .ow odd, .va (.lst wds), .va bad, .va far, y12] ∧ allQ Q3 27 odd) (s_append (i := 8) (l := odd) (P := Q3) (n1 := u + 3) rfl (z_tup (f_known (k := 2) ev_str (ok_str 2 (by decide +kernel)) (by decide +kernel)) (o_cons (o_var rfl (htb 2)) (o_cons (q_fin (q_app (q_app (q_known (ev_slT (ev_var rfl) eo_none (eo_some ev_int)) (Q1_cut hq)) (q_one (o_var rfl hfar)) (by decide)) (q_known (ev_slT (ev_var rfl) (eo_some ev_int) eo_none) (Q1_cut hq)) (by decide)) (by decide)) o_nil)) (by decide)) (by have := hod.1; omega) fun d h => ⟨rfl, _, rfl, allQ_app hod (allQ_one h)⟩) fun ρ1 n2 h1 => ?_
        obtain ⟨rfl, odd, rfl, hod⟩ := h1
        refine s_freeze (i := 8) rfl ?_
        refine s_seq (N := fun ρ' v => v = u + 4 ∧ ∃ k : Nat, ρ' = [.va (.obj s), .va (.lst (ps.map dShape)), .va (.lst L), .va (.lst pl), .va (.int (0 + (i : Nat))), .va (.str r.1), .va (.str r.2.1), .va (.tup (dIs r.2.2)), .va (.lst odd), .va (.lst wds), .va bad, .va far, .va (.int k)] ∧ k ≤ m) (s_set (n1 := u + 3 + 1) (P := fun d => ∃ k : Int, d = .int k ∧ 0 ≤ k ∧ k < (L.length : Int) + 1) (ev_draw (ev_var rfl) (ev_opK (ev_callK (ea_one (ev_var rfl)) (ck_len rfl)) ev_int rk_add) (by omega) (by omega) (by have := hL.1; omega)) o12 fun d h => ?_) fun ρ2 n2 h2 => ?_
        · obtain ⟨k, rfl, k0, k1⟩ := h
          have := hL.1
          refine ⟨rfl, k.toNat, ?_, by omega⟩
          rw [Int.toNat_of_nonneg k0]
          rfl
        obtain ⟨rfl, k, rfl, km⟩ := h2
        have e1 : allQ Q3 k (Pl.cutD L none (some (k : Int))) := by rw [cut_pre]; exact allQ_take hL km
        have e2 : allQ Q3 (m - k) (Pl.cutD L (some (k : Int)) none) := by rw [cut_suf (by rw [hL.1]; exact km)]; exact allQ_drop hL
        refine s_set (n1 := u + 5) (P := fun d => ∃ l, d = .lst l ∧ allQ Q3 (k + 1 + (m - k)) l) (a_addL (a_addL (n1 := u + 4) ((ev_slL (ev_var rfl) eo_none (eo_some (ev_var rfl))).imp fun d e => ⟨_, e, e1⟩) (a_lst (Q := Q3) (a_cons (a_pick (Q := Q3) (m := 27) (ev_var rfl) (a_varL rfl hod) (by omega) (by decide) (by decide)) a_nil) (by decide)) (by omega)) ((ev_slL (ev_var rfl) (eo_some (ev_var rfl)) eo_none).imp fun d e => ⟨_, e, e2⟩) (by omega)) rfl fun d h => ?_
        obtain ⟨l, rfl, hl⟩ := h
        exact ⟨by omega, l, _, _, _, _, _, _, _, _, _, _, rfl, ⟨rfl, rfl, rfl, rfl, rfl, rfl, rfl, rfl, rfl⟩, hl, by omega⟩
      · obtain ⟨hu, L, m, y4, y5, y6, y7, y8, y9, y10, y11, y12, rfl, _, hL, hm⟩ := inv
        obtain ⟨j, rfl, j3⟩ := e
        rw [ints_len] at hu hm
        exact ⟨by omega, L, m, y4, y5, y6, y7, y8, y9, y10, y11, y12, rfl, hL, by omega⟩
    obtain ⟨hu, L, m, y4, y5, y6, y7, y8, y9, y10, y11, y12, rfl, hL, hm⟩ := h2
    have ll := hL.1
    have hL2 : ∀ d ∈ L, ok 3 d := fun d hd => (hL.2 d hd).1
    have hL3 : ∀ d ∈ L, zzB d = false := fun d hd => (hL.2 d hd).2
    have rL : okR (.lst L) := .inl ⟨ok_lst hL2 ⟨by omega, by rw [ll]; exact Nat.le_trans (Nat.mul_le_mul_right _ hm) (by decide)⟩, L, .inr rfl, hL3⟩
    have rT : okR (.tup L) := .inl ⟨ok_tup hL2 ⟨by omega, by rw [ll]; exact Nat.le_trans (Nat.mul_le_mul_right _ hm) (by decide)⟩, L, .inl rfl, hL3⟩
    have r4 : okR (.lst (List.replicate 4 L).flatten) := .inl ⟨times_okL hL2 ⟨by omega, Nat.le_trans (Nat.mul_le_mul_right _ (show L.length * 4 ≤ 40 by omega)) (by decide)⟩, _, .inr rfl, fun d hd => by
      obtain ⟨l', h1, h2⟩ := List.mem_flatten.mp hd
      rw [(List.mem_replicate.mp h1).2] at h2
      exact hL3 d h2⟩
    have rV : ∀ {ρ : List Sl} {d : D} {t : TE}, okR d → EvE K s c t ρ n2 n2 (fun x => x = d) → EvE K s c t ρ n2 n2 okR := fun hd h => h.imp fun x e => by rw [e]; exact hd
    exact s_ret (a_pick (Q := okR) (m := 11) (ev_var rfl) (a_lst (a_cons (rV rL (ev_var rfl)) (a_cons (rV rL (ev_var rfl)) (a_cons (rV rL (ev_var rfl)) (a_cons (rV rT (ev_callK (ea_one (ev_var rfl)) (ck_tuple rfl))) (a_cons (rV (.inr (.inl rfl)) ev_non) (a_cons (rV (.inr (.inr (.inl rfl))) ev_int) (a_cons (rV r4 (ev_opK (ev_var rfl) ev_int (rk_timesL (by decide) (by decide) (by omega))))
      (a_cons (rV (.inr (.inr (.inr (.inl ⟨_, rfl, by decide +kernel, by decide +kernel, by decide +kernel⟩)))) ev_str) (a_cons (rV (.inl ⟨ok_tup (k := 3) (fun d hd => by cases hd) (by exact ⟨by decide, by decide⟩), [], .inl rfl, fun d hd => by cases hd⟩) (ev_tupE ea_nil (Nat.zero_le _))) (a_cons (rV (.inr (.inr (.inr (.inr rfl)))) ev_emp) (a_cons (rV (.inr (.inr (.inr (.inl ⟨_, rfl, by decide +kernel, by decide +kernel, by decide +kernel⟩)))) ev_str) a_nil))))))))))) (by decide)) (by omega) (by decide) (by decide)) fun d h => ⟨by omega, h⟩
end
end K14
/-! text K14y -/
set_option Elab.async false
set_option linter.all false
set_option maxRecDepth 100000
set_option maxHeartbeats 4000000
set_option exponentiation.threshold 5000
namespace K14
open PySem PySem.Spec PyProof.Rows L2 Pl PlS

/-- strange: no row, or one with a name that none has -/
def SQ (d : D) : Prop := rowOk d ∧ (rowB d = false ∨ ∃ r, d = dRow r ∧ okRow r ∧ r.1 = Str.ofString "zz")
theorem vals_bl {l : List D} {b : Bool} (h : .bl b ∈ l) : valsB (.tup l) = false := by
  show (decide (1 ≤ (l.length : Int)) && decide ((l.length : Int) ≤ 3) && l.all valB) = false
  have : l.all valB = false := by
    rw [List.all_eq_false]
    exact ⟨_, h, by exact Bool.false_ne_true⟩
  rw [this, Bool.and_false]
theorem row_vals {a b v : D} (h : valsB v = false) : rowB (.tup [a, b, v]) = false := by
  show (nameB a && nameB b && valsB v) = false
  rw [h, Bool.and_false]
theorem at_ends : ∀ {vs : List Int}, 1 ≤ vs.length → vs.length ≤ 3 → ∃ a z, atI (dIs vs) 0 = some (.int a) ∧ atI (dIs vs) (-1) = some (.int z)
  | [a], _, _ => ⟨a, a, rfl, rfl⟩
  | [a, b], _, _ => ⟨a, b, rfl, rfl⟩
  | [a, b, c], _, _ => ⟨a, c, rfl, rfl⟩
  | [], h, _ => absurd h (by decide)
  | _ :: _ :: _ :: _ :: _, _, h => absurd h (by simp only [List.length_cons]; omega)
theorem tame3 {a b v : D} (ha : tame a = true) (hb : tame b = true) (hv : tame v = true) : tame (.tup [a, b, v]) = true := tame_tupOf (fun d hd => by
  rcases List.mem_cons.mp hd with rfl | hd
  · exact ha
  · rcases List.mem_cons.mp hd with rfl | hd
    · exact hb
    · rw [List.mem_singleton.mp hd]; exact hv) (by exact (by decide : (3 : Nat) ≤ 1000))
def preSt (s c : Addr) (ds : List D) : Prop := ∃ rs : List Row, ds = [.lst (rs.map dRow)] ∧ (∀ r ∈ rs, okRow r) ∧ rs.length ≤ 6
def postSt (s c : Addr) (ds : List D) (z : D) : Prop := ∃ L, z = .lst L ∧ (∀ x ∈ L, SQ x) ∧ L.length ≤ 100
section
variable {P : Program} {w : World} {K : PySem.W.Frag} {mg : Str → Option Value} {base : Heap} {A : Adr}
theorem ok__law_strange (T : Txt A K mg) : FnOk P w K mg base CX0 1 A.f__law_strange A.fd__law_strange ["rows"] (Pr K preSt 0 postSt) := by
  refine T.F__law_strange.ok sc__law_strange (fun vs H Q E h => pr_len h fun s c ds hp => ?_) (fun cdv A' outer st H vs Q E hr h => have hw : _ := hr.units; ⟨_, (pss_cons (ps_set (i := 1) sc__law_strange.nd rfl (by first | exact Or.inl rfl | exact Or.inr rfl) (pe_lst (pa_cons pe_non (pa_cons pe_int (pa_cons pe_str (pa_cons (pe_tup (pa_cons pe_str (pa_cons pe_str (pa_cons (pe_tup (pa_cons pe_int (pa_cons pe_int pa_nil))) pa_nil)))) (pa_cons (pe_lst (pa_cons pe_str pa_nil)) (pa_cons (pe_tup pa_nil) (pa_cons (pe_tup (pa_cons pe_str (pa_cons pe_str (pa_cons pe_int pa_nil)))) (pa_cons (pe_tup (pa_cons pe_str (pa_cons pe_str (pa_cons (pe_frz (pe_disp (pps_cons pe_int pe_int pps_nil) rfl rfl (by exact fun z => nomatch z) (by exact (by decide : (1 : Nat) ≤ 15)))) pa_nil)))) pa_nil))))))))))
      (pss_cons (ps_for PassesOwn.never rfl (k_pilist K (pv 0)) (k_pgtup K (n := 3) rfl (pgs_cons (pg_name (i := 2) sc__law_strange.nd rfl (by first | exact Or.inl rfl | exact Or.inr rfl)) (pgs_cons (pg_name (i := 3) sc__law_strange.nd rfl (by first | exact Or.inl rfl | exact Or.inr rfl)) (pgs_cons (pg_name (i := 4) sc__law_strange.nd rfl (by first | exact Or.inl rfl | exact Or.inr rfl)) pgs_nil)))) (pss_cons (ps_set (i := 1) sc__law_strange.nd rfl (by first | exact Or.inl rfl | exact Or.inr rfl) (pe_op (k_add K) (pv 1) (pe_lst (pa_cons (pe_lst (pa_cons (pv 2) (pa_cons (pv 3) (pa_cons (pv 4) pa_nil)))) (pa_cons (pe_tup (pa_cons (pv 2) (pa_cons (pv 3) (pa_cons (pe_op (k_add K) (pe_tup (pa_cons (pe_cmpR (k_eqA hw) (pe_ix (k_ix K) (pv 4) pe_int (fun _ _ => rfl)) pe_int (nomark _)) pa_nil)) (pe_slice (k_sl K) (pv 4) (po_some pe_int) po_none)) pa_nil)))) (pa_cons (pe_tup (pa_cons (pv 2) (pa_cons (pv 3) (pa_cons pe_non pa_nil)))) pa_nil))))))
      (pss_cons (ps_set (i := 1) sc__law_strange.nd rfl (by first | exact Or.inl rfl | exact Or.inr rfl) (pe_op (k_add K) (pv 1) (pe_lst (pa_cons (pe_tup (pa_cons (pv 2) (pa_cons (pv 3) (pa_cons (pe_op (k_add K) (pe_slice (k_sl K) (pv 4) po_none (po_some (pe_un un_neg pe_int))) (pe_tup (pa_cons (pe_cmpR (k_eqA hw) (pe_ix (k_ix K) (pv 4) (pe_un un_neg pe_int) (fun _ _ => rfl)) pe_int (nomark _)) pa_nil))) pa_nil)))) (pa_cons (pe_tup (pa_cons (pv 2) (pa_cons (pv 3) (pa_cons (pe_callTy (k_list K) (by rfl) T.m_list (by decide +kernel) (pa_cons (pv 4) pa_nil)) pa_nil)))) pa_nil)))))
      (pss_one (ps_set (i := 1) sc__law_strange.nd rfl (by first | exact Or.inl rfl | exact Or.inr rfl) (pe_op (k_add K) (pv 1) (pe_lst (pa_cons (pe_tup (pa_cons (pe_lst (pa_cons (pv 2) pa_nil)) (pa_cons (pv 3) (pa_cons (pv 4) pa_nil)))) pa_nil))))))))
      (pss_one (ps_ret (pv 1))))), body_ok h fun s c n ds hn hp => ?_⟩)
  · obtain ⟨rs, rfl, _⟩ := hp
    rfl
  · obtain ⟨rs, rfl, hr, h6⟩ := hp
    have S0 : ∀ {ρ : List Sl} {t : TE} {d : D}, EvE K s c t ρ n n (fun x => x = d) → tame d = true → rowB d = false → EvE K s c t ρ n n SQ := fun h ht hb => h.imp fun x e => by rw [e]; exact ⟨.inl ht, .inl hb⟩
    have okz : okRow (Str.ofString "zz", Str.ofString "e", [1, 2]) := ⟨nm (by decide +kernel), nm (by decide +kernel), by decide, by decide, by decide⟩
    refine s_seq (N := fun ρ' m => n = m ∧ ∃ L, ρ' = [.va (.lst (rs.map dRow)), .va (.lst L), .no, .no, .no] ∧ allQ SQ 8 L) (s_set (a_lst (Q := SQ) (m := 8) (a_cons (S0 ev_non rfl rfl) (a_cons (S0 ev_int rfl rfl) (a_cons (S0 ev_str (by decide +kernel) rfl)
      (a_cons (EvE.imp (ev_tupE (ea_c ev_str (ea_c ev_str (ea_one (ev_tupE (ea_c ev_int (ea_one ev_int)) (by exact (by decide : (2 : Nat) ≤ 1000)))))) (by exact (by decide : (3 : Nat) ≤ 1000))) fun x e => by rw [e]; exact ⟨.inl (by decide +kernel), .inr ⟨(Str.ofString "zz", Str.ofString "e", [1, 2]), rfl, okz, rfl⟩⟩)
      (a_cons (S0 (ev_lstE (ea_one ev_str) (by exact (by decide : (1 : Nat) ≤ 1000))) (by decide +kernel) rfl) (a_cons (S0 (ev_tupE ea_nil (Nat.zero_le _)) rfl rfl) (a_cons (S0 (ev_tupE (ea_c ev_str (ea_c ev_str (ea_one ev_int))) (by exact (by decide : (3 : Nat) ≤ 1000))) (by decide +kernel) (row_vals rfl))
      (a_cons (EvE.imp (ev_tupE (ea_c ev_str (ea_c ev_str (ea_one ev_dij))) (by exact (by decide : (3 : Nat) ≤ 1000))) fun x e => by rw [e]; exact ⟨.inr ⟨_, _, _, _, rfl, by decide +kernel, by decide +kernel⟩, .inl (row_vals rfl)⟩) a_nil)))))))) (by decide)) rfl fun d h => ?_) fun ρ1 n1 h1 => ?_
    · obtain ⟨L, rfl, h⟩ := h
      exact ⟨rfl, L, rfl, h⟩
    obtain ⟨rfl, L, rfl, hL⟩ := h1
    refine s_seq (N := fun ρ' m => n = m ∧ ∃ (L : List D) (y2 y3 y4 : Sl), ρ' = [.va (.lst (rs.map dRow)), .va (.lst L), y2, y3, y4] ∧ allQ SQ (8 + 6 * rs.length) L) ?_ fun ρ1 n1 h1 => ?_
    · refine s_for (ei_list (PL := fun ds => ds = rs.map dRow) (ev_var rfl) fun d e => ⟨_, e, rfl⟩)
        (fun ds i ρ' m => n = m ∧ ∃ (L : List D) (y2 y3 y4 : Sl), ρ' = [.va (.lst (rs.map dRow)), .va (.lst L), y2, y3, y4] ∧ (isOw (some y2) = false ∧ isOw (some y3) = false ∧ isOw (some y4) = false) ∧ allQ SQ (8 + 6 * i) L)
        (fun ds e => ⟨rfl, L, .no, .no, .no, rfl, ⟨rfl, rfl, rfl⟩, hL⟩) (fun ds e i d ρ' m hi inv => ?_) fun ds e ρ' m inv => ?_
      · obtain ⟨rfl, L, y2, y3, y4, rfl, ⟨o2, o3, o4⟩, hL⟩ := inv
        rw [e] at hi
        rw [List.getElem?_map] at hi
        obtain ⟨r, hri, rfl⟩ : ∃ r, rs[i]? = some r ∧ dRow r = d := by
          cases q : rs[i]? with
          | none => rw [q] at hi; cases hi
          | some r => rw [q] at hi; cases hi; exact ⟨r, rfl, rfl⟩
        have il := (List.getElem?_eq_some_iff.mp hri).1
        have okr := hr r (List.mem_of_getElem? hri)
        obtain ⟨a, z, ha, hz⟩ := at_ends okr.2.2.1 okr.2.2.2.1
        have tn := (name_tame okr.1).1
        have tt := (name_tame okr.2.1).1
        have l3 : (dIs r.2.2).length ≤ 3 := by rw [is_len]; exact okr.2.2.2.1
        have tm : ∀ d ∈ dIs r.2.2, tame d = true := fun d hd => by
          obtain ⟨j, rfl, _⟩ := ints_mem hd
          rfl
        have tv : tame (.tup (dIs r.2.2)) = true := tame_tupOf tm (by omega)
        have cl : ∀ lo hi, (Pl.cutD (dIs r.2.2) lo hi).length ≤ 3 := fun lo hi => by
          unfold Pl.cutD
          rw [List.length_take, List.length_drop]
          omega
        have cm : ∀ lo hi, ∀ d ∈ Pl.cutD (dIs r.2.2) lo hi, tame d = true := fun lo hi d hd => tm d (List.mem_of_mem_drop (List.mem_of_mem_take hd))
        refine ⟨_, _, eg_tup (egs_cons (eg_name (j := 2) o2) (egs_cons (eg_name (j := 3) o3) (egs_cons (eg_name (j := 4) o4) egs_nil))) rfl, ?_⟩
        have b1 : EvE K s c (tOp (rAddA K) (tTup (tCons (tOp (rEqA K) (tOp (rIx K) (tVar 4) (tC (.int 0))) (tC (.int 1))) tNil)) (tSl (rSlAny K) (tVar 4) (tPart (tC (.int 1))) tNoPart)) [.va (.lst (rs.map dRow)), .va (.lst L), .va (.str r.1), .va (.str r.2.1), .va (.tup (dIs r.2.2))] n n (fun d => d = .tup ([.bl (decide (a = 1))] ++ Pl.cutD (dIs r.2.2) (some 1) none)) :=
          ev_opK (ev_tupE (ea_one (ev_opK (ev_opK (ev_var rfl) ev_int (rk_ixT ha)) ev_int rk_eqI)) (by exact (by decide : (1 : Nat) ≤ 1000))) (ev_slT (ev_var rfl) (eo_some ev_int) eo_none) (rk_addT (by have := cl (some 1) none; show 1 + _ ≤ 2000; omega))
        refine s_seq (N := fun ρ' m => n = m ∧ ∃ L, ρ' = [.va (.lst (rs.map dRow)), .va (.lst L), .va (.str r.1), .va (.str r.2.1), .va (.tup (dIs r.2.2))] ∧ allQ SQ (8 + 6 * i + 3) L) (s_set (a_addL (m := 3) (a_varL rfl hL) (a_lst (Q := SQ) (m := 3) (a_cons (S0 (ev_lstE (ea_c (ev_var rfl) (ea_c (ev_var rfl) (ea_one (ev_var rfl)))) (by exact (by decide : (3 : Nat) ≤ 1000))) (tame3 tn tt tv) rfl)
            (a_cons (S0 (ev_tupE (ea_c (ev_var rfl) (ea_c (ev_var rfl) (ea_one b1))) (by exact (by decide : (3 : Nat) ≤ 1000))) (tame3 tn tt (tame_tupOf (fun d hd => ?_) ?_)) (row_vals (vals_bl (List.mem_append_left _ List.mem_cons_self))))
            (a_cons (S0 (ev_tupE (ea_c (ev_var rfl) (ea_c (ev_var rfl) (ea_one ev_non))) (by exact (by decide : (3 : Nat) ≤ 1000))) (tame3 tn tt rfl) (row_vals rfl)) a_nil))) (by decide)) (by omega)) rfl fun d h => ?_) fun ρ1 n1 h1 => ?_
        · rcases List.mem_append.mp hd with hd | hd
          · rw [List.mem_singleton.mp hd]; rfl
          · exact cm _ _ d hd
        · rw [List.length_append]
          have := cl (some 1) none
          show 1 + _ ≤ 1000
          omega
        · obtain ⟨L, rfl, h⟩ := h
          exact ⟨rfl, L, rfl, h⟩
        obtain ⟨rfl, L, rfl, hL⟩ := h1
        have b2 : EvE K s c (tOp (rAddA K) (tSl (rSlAny K) (tVar 4) tNoPart (tPart (tUn (rU fun i => .int (-i)) (tC (.int 1))))) (tTup (tCons (tOp (rEqA K) (tOp (rIx K) (tVar 4) (tUn (rU fun i => .int (-i)) (tC (.int 1)))) (tC (.int 1))) tNil))) [.va (.lst (rs.map dRow)), .va (.lst L), .va (.str r.1), .va (.str r.2.1), .va (.tup (dIs r.2.2))] n n (fun d => d = .tup (Pl.cutD (dIs r.2.2) none (some (-1)) ++ [.bl (decide (z = 1))])) :=
          ev_opK (ev_slT (ev_var rfl) eo_none (eo_some (ev_neg ev_int))) (ev_tupE (ea_one (ev_opK (ev_opK (ev_var rfl) (ev_neg ev_int) (rk_ixT hz)) ev_int rk_eqI)) (by exact (by decide : (1 : Nat) ≤ 1000))) (rk_addT (by have := cl none (some (-1)); show _ + 1 ≤ 2000; omega))
        refine s_seq (N := fun ρ' m => n = m ∧ ∃ L, ρ' = [.va (.lst (rs.map dRow)), .va (.lst L), .va (.str r.1), .va (.str r.2.1), .va (.tup (dIs r.2.2))] ∧ allQ SQ (8 + 6 * i + 3 + 2) L) (s_set (a_addL (m := 2) (a_varL rfl hL) (a_lst (Q := SQ) (m := 2) (a_cons (S0 (ev_tupE (ea_c (ev_var rfl) (ea_c (ev_var rfl) (ea_one b2))) (by exact (by decide : (3 : Nat) ≤ 1000))) (tame3 tn tt (tame_tupOf (fun d hd => ?_) ?_)) (row_vals (vals_bl (List.mem_append_right _ List.mem_cons_self))))
            (a_cons (S0 (ev_tupE (ea_c (ev_var rfl) (ea_c (ev_var rfl) (ea_one (ev_callK (ea_one (ev_var rfl)) (ck_list rfl))))) (by exact (by decide : (3 : Nat) ≤ 1000))) (tame3 tn tt tv) (row_vals rfl)) a_nil)) (by decide)) (by omega)) rfl fun d h => ?_) fun ρ1 n1 h1 => ?_
        · rcases List.mem_append.mp hd with hd | hd
          · exact cm _ _ d hd
          · rw [List.mem_singleton.mp hd]; rfl
        · rw [List.length_append]
          have := cl none (some (-1))
          show _ + 1 ≤ 1000
          omega
        · obtain ⟨L, rfl, h⟩ := h
          exact ⟨rfl, L, rfl, h⟩
        obtain ⟨rfl, L, rfl, hL⟩ := h1
        refine s_set (P := fun d => ∃ L, d = .lst L ∧ allQ SQ (8 + 6 * i + 3 + 2 + 1) L) (a_addL (m := 1) (a_varL rfl hL) (a_lst (Q := SQ) (m := 1) (a_cons (S0 (ev_tupE (ea_c (ev_lstE (ea_one (ev_var rfl)) (by exact (by decide : (1 : Nat) ≤ 1000))) (ea_c (ev_var rfl) (ea_one (ev_var rfl)))) (by exact (by decide : (3 : Nat) ≤ 1000))) (tame3 (tame_lstOf (fun d hd => by rw [List.mem_singleton.mp hd]; exact tn) (by exact (by decide : (1 : Nat) ≤ 1000))) tt tv) rfl) a_nil) (by decide)) (by omega)) rfl fun d h => ?_
        obtain ⟨L, rfl, h⟩ := h
        exact ⟨rfl, L, _, _, _, rfl, ⟨rfl, rfl, rfl⟩, (show 8 + 6 * i + 3 + 2 + 1 = 8 + 6 * (i + 1) by omega) ▸ h⟩
      · obtain ⟨rfl, L, y2, y3, y4, rfl, _, hL⟩ := inv
        rw [e, List.length_map] at hL
        exact ⟨rfl, L, y2, y3, y4, rfl, hL⟩
    · obtain ⟨rfl, L, y2, y3, y4, rfl, hL⟩ := h1
      exact s_ret (ev_var rfl) fun d e => ⟨Nat.le_refl _, L, e, hL.2, by have := hL.1; omega⟩
end
end K14
/-! text K14z -/
set_option Elab.async false
set_option linter.all false
set_option maxRecDepth 100000
set_option maxHeartbeats 4000000
set_option exponentiation.threshold 5000
namespace K14
open PySem PySem.Spec PyProof.Rows L2 Pl PlS
open ClX

/-! ### the order of names -/
theorem le_name {a b : Row} (h : PySem.W.dataLe false py (dRow a) (dRow b) = true) : PySem.W.dataLe false py (.str a.1) (.str b.1) = true := by
  have h : (!(PyProof.Rows.listOrd itemOrd).blt (PySem.W.keyToks (py (dRow b))) (PySem.W.keyToks (py (dRow a)))) = true := h
  show (!(PyProof.Rows.listOrd itemOrd).blt (PySem.W.keyToks (.str b.1)) (PySem.W.keyToks (.str a.1))) = true
  rw [Bool.not_eq_true'] at h ⊢
  by_cases e : a.1 = b.1
  · rw [e]
    exact lex_irrefl _
  · have al : PySem.W.alike (.str b.1) (.str a.1) = true := rfl
    have ne : PyData.eqv (.str b.1) (.str a.1) = false := by
      show (b.1 == a.1) = false
      exact beq_eq_false_iff_ne.mpr fun z => e z.symm
    have q := (PySem.W.toks_eqv _ _ al).2 ne (PySem.W.keyToksAll [.str b.2.1, .tuple (b.2.2.map PyData.int)]) (PySem.W.keyToksAll [.str a.2.1, .tuple (a.2.2.map PyData.int)])
    rw [py_row, py_row] at h
    have h : PyProof.Rows.lexLt itemOrd ([.inl 1] ++ (PySem.W.keyToks (.str b.1) ++ PySem.W.keyToksAll [.str b.2.1, .tuple (b.2.2.map PyData.int)])) ([.inl 1] ++ (PySem.W.keyToks (.str a.1) ++ PySem.W.keyToksAll [.str a.2.1, .tuple (a.2.2.map PyData.int)])) = false := h
    rw [PySem.W.lex_pre, q] at h
    exact h
theorem names_sorted (rs : List Row) : ordD (dStrs (rs.map (·.1))) = dStrs ((sortR rs).map (·.1)) := by
  have t := PySem.W.sortLe_total (PyProof.Rows.listOrd PyProof.Rows.itemOrd) false (fun d : D => PySem.W.keyToks (py d))
  have p1 : (ordD (dStrs (rs.map (·.1)))).Pairwise fun a b => PySem.W.dataLe false py a b = true := PySem.W.sort_pairwise t _
  have p2 : ((sortR rs).map dRow).Pairwise fun a b => PySem.W.dataLe false py a b = true := by
    rw [← sortR_of]
    exact PySem.W.sort_pairwise t _
  rw [List.pairwise_map] at p2
  have p3 : (dStrs ((sortR rs).map (·.1))).Pairwise fun a b => PySem.W.dataLe false py a b = true := by
    unfold dStrs
    rw [List.map_map, List.pairwise_map]
    exact p2.imp fun h => le_name h
  have pm : (ordD (dStrs (rs.map (·.1)))).Perm (dStrs ((sortR rs).map (·.1))) := by
    refine (ordD_perm _).trans ?_
    unfold dStrs
    rw [List.map_map, List.map_map]
    exact ((sortR_perm rs).symm).map _
  refine List.Perm.eq_of_pairwise (le := fun a b => PySem.W.dataLe false py a b = true) (fun a b ha hb h1 h2 => ?_) p1 p3 pm
  obtain ⟨x, rfl, _⟩ := strs_mem ((ordD_perm _).mem_iff.mp ha)
  obtain ⟨y, rfl, _⟩ := strs_mem hb
  have := eqv_of_toks (x := .str x) (y := .str y) rfl (rank_toks h1 h2)
  have : (x == y) = true := this
  rw [beq_iff_eq.mp this]
theorem ck_sortS {K : PySem.W.Frag} {s c : Addr} {l : List Str} : CK K s c (rSortD K) [.lst (dStrs l)] (.lst (ordD (dStrs l))) := by
  refine ck_sortD (plainL_of fun d hd => ?_) (fun d hd e he => ?_) (.inr fun d hd => ?_) fun d hd => ?_
  · obtain ⟨z, rfl, _⟩ := strs_mem hd
    rfl
  · obtain ⟨d', hd', rfl⟩ := List.mem_map.mp hd
    obtain ⟨e', he', rfl⟩ := List.mem_map.mp he
    obtain ⟨z, rfl, _⟩ := strs_mem hd'
    obtain ⟨z, rfl, _⟩ := strs_mem he'
    rfl
  · obtain ⟨d', hd', rfl⟩ := List.mem_map.mp hd
    obtain ⟨z, rfl, _⟩ := strs_mem hd'
    exact ⟨fun z => (by cases z), fun xs z => (by cases z)⟩
  · obtain ⟨z, rfl, _⟩ := strs_mem hd
    exact Nat.zero_le _
theorem tI_inj {CT : Addr} {a b : List Row} (h : tI CT a = tI CT b) : sortR a = sortR b := by
  unfold tI tL at h
  injection h with _ _ h
  injection h with h _
  injection h with h
  exact rows_inj h
section
variable {K : PySem.W.Frag} {mg : Str → Option Value} {s c CT CE : Addr} {mcT : Value} {ρ : List Sl} {n n1 n2 : Nat} {te ta tb : TE} {E : XK}
theorem ev_tab {x : D} {rs : List Row} (h : EvE K s c te ρ n n1 (fun d => d = x)) (hn : n1 ≤ 2 ^ 40) (hs : seqD x = some (rs.map dRow)) (g : GoodR rs) (ht : tame x = true) : EvE K s c (tMake CT (PrC K CT ksT (preT CT) valT (badT CE)) [] E (tCons te tNil)) ρ n n1 (fun d => d = tI CT rs) :=
  (ev_makeC (ea_one h) hn ⟨x, rfl, .inl ht⟩ fun C nm e hb => by
    obtain ⟨x', e1, no, _⟩ := hb
    cases e1
    exact no (err_good.mpr ⟨rs, hs, g⟩)).imp fun d h => by
    obtain ⟨l, ⟨x', rs', e1, _, hs', _, rfl⟩, rfl⟩ := h
    cases e1
    rw [hs] at hs'
    rw [rows_inj (Option.some.inj hs')]
    rfl
theorem ev_eqTT (G : CTxt K mg CT mcT) {ps qs : List Row} (ha : EvE K s c ta ρ n n1 (fun x => x = tI CT ps)) (hb : EvE K s c tb ρ n1 n2 (fun x => x = tI CT qs)) (hn : n2 ≤ 2 ^ 40) (gp : GoodR ps) (gq : GoodR qs) : EvE K s c (tOp (rEqI K CT (Pr K (preEq CT) 0 (postEq CT))) ta tb) ρ n n2 (fun x => x = .bl (decide (sortR ps = sortR qs))) :=
  ev_eqI G.isC ha hb hn (.inr ⟨_, _, rfl⟩) ⟨ps, _, rfl, gp, .inr ⟨qs, rfl, gq⟩⟩ fun z h => by
    obtain ⟨rs, o, e, h⟩ := h
    injection e with e1 e2
    injection e2 with e2 _
    rcases h with ⟨h, _⟩ | ⟨qs', e3, rfl⟩
    · rw [← e2] at h; cases h
    · rw [tI_inj e1, tI_inj (e2.trans e3)]
theorem ev_neTT (G : CTxt K mg CT mcT) {ps qs : List Row} (ha : EvE K s c ta ρ n n1 (fun x => x = tI CT ps)) (hb : EvE K s c tb ρ n1 n2 (fun x => x = tI CT qs)) (hn : n2 ≤ 2 ^ 40) (gp : GoodR ps) (gq : GoodR qs) : EvE K s c (tOp (rNeI K CT (Pr K (preEq CT) 0 (postEq CT))) ta tb) ρ n n2 (fun x => x = .bl (!decide (sortR ps = sortR qs))) :=
  ev_neI G.isC ha hb hn (.inr ⟨_, _, rfl⟩) ⟨ps, _, rfl, gp, .inr ⟨qs, rfl, gq⟩⟩ fun z h => by
    obtain ⟨rs, o, e, h⟩ := h
    injection e with e1 e2
    injection e2 with e2 _
    rcases h with ⟨h, _⟩ | ⟨qs', e3, rfl⟩
    · rw [← e2] at h; cases h
    · rw [tI_inj e1, tI_inj (e2.trans e3)]
theorem post_o {ps : List Row} {o z : D} (ho : topD o = true) (h : postEq CT s c [tI CT ps, o] z) : z = .bl false := by
  obtain ⟨rs, o', e, h⟩ := h
  injection e with e1 e2
  injection e2 with e2 _
  rcases h with ⟨_, h⟩ | ⟨qs', e3, rfl⟩
  · exact h
  · rw [e2, e3] at ho; cases ho
theorem ev_eqTo (G : CTxt K mg CT mcT) {ps : List Row} {o : D} (ha : EvE K s c ta ρ n n1 (fun x => x = tI CT ps)) (hb : EvE K s c tb ρ n1 n2 (fun x => x = o)) (hn : n2 ≤ 2 ^ 40) (gp : GoodR ps) (ho : topD o = true) : EvE K s c (tOp (rEqI K CT (Pr K (preEq CT) 0 (postEq CT))) ta tb) ρ n n2 (fun x => x = .bl false) :=
  ev_eqI G.isC ha hb hn (.inl ho) ⟨ps, _, rfl, gp, .inl ho⟩ fun z h => post_o ho h
theorem ev_neTo (G : CTxt K mg CT mcT) {ps : List Row} {o : D} (ha : EvE K s c ta ρ n n1 (fun x => x = tI CT ps)) (hb : EvE K s c tb ρ n1 n2 (fun x => x = o)) (hn : n2 ≤ 2 ^ 40) (gp : GoodR ps) (ho : topD o = true) : EvE K s c (tOp (rNeI K CT (Pr K (preEq CT) 0 (postEq CT))) ta tb) ρ n n2 (fun x => x = .bl true) :=
  ev_neI (b := false) G.isC ha hb hn (.inl ho) ⟨ps, _, rfl, gp, .inl ho⟩ fun z h => post_o ho h
/-- x in the tables, x not in them -/
theorem ev_inT {ps : List Row} {x : D} {neg : Bool} (hx : EvE K s c ta ρ n n1 (fun d => d = x)) (h : EvE K s c tb ρ n1 n2 (fun d => d = tI CT ps)) (hn : n2 ≤ 2 ^ 40) (gp : GoodR ps) (ok : rowOk x) : EvE K s c (tOp (rInI CT (Pr K (preHas CT) 0 (postHas CT)) neg) ta tb) ρ n n2 (fun d => d = .bl (if neg then !hasB (sortR ps) x else hasB (sortR ps) x)) :=
  ev_inI hx h hn ⟨ps, x, rfl, gp, ok⟩ fun d h => by
    obtain ⟨rs, x', e, rfl⟩ := h
    injection e with e1 e2
    injection e2 with e2 _
    rw [tI_inj e1, e2]
/-- xs[::-1], a new list -/
theorem en_revL {l : List D} (h : EvE K s c te ρ n n1 (fun d => d = .lst l)) : EvN K s c (tRevL K te) ρ n n1 (fun r => r = l.reverse) := fun M0 H0 O σ H Q I k =>
  h M0 H0 O σ H _ I fun v H1 d g1 s1 r1 e => by
    subst e
    obtain ⟨a, xs, rfl, ma, ea, rl⟩ := r1
    have J := I.next g1 s1
    exact ⟨a, xs, rfl, SqL.of ea, fun p hp => k p _ l.reverse xs.reverse (g1.trans (Gr.new hp)) (s1.new hp) (g1.none hp fun z => (J.new_out hp) (J.sub p z)) upd_same (((RepL.rev rl).apart hp).gr (Gr.new hp)) rfl⟩
end
theorem hasB_of {rs : List Row} {r : Row} (h : okRow r) : hasB rs (dRow r) = decide (r ∈ rs) := by
  unfold hasB
  rw [rowB_of h, unR_of, Bool.true_and]
theorem good_one {r : Row} (h : okRow r) : GoodR [r] := ⟨fun x hx => by rw [List.mem_singleton.mp hx]; exact h, ⟨List.nodup_cons.mpr ⟨by simp, List.nodup_nil⟩, fun a ha b hb _ => by rw [List.mem_singleton.mp ha, List.mem_singleton.mp hb], List.nodup_cons.mpr ⟨by simp, List.nodup_nil⟩⟩, by exact (by decide : (1 : Nat) ≤ 6)⟩
theorem sort_one (r : Row) : sortR [r] = [r] := by
  have p := sortR_perm [r]
  exact List.perm_singleton.mp p
theorem sort_len (rs : List Row) : (sortR rs).length = rs.length := (sortR_perm rs).length_eq
theorem nodup_fst {α β : Type} {f : α → β} : ∀ {l : List α}, (l.map f).Nodup → ∀ a ∈ l, ∀ b ∈ l, f a = f b → a = b
  | [], _, a, ha, _, _, _ => by cases ha
  | x :: l, h, a, ha, b, hb, e => by
    rw [List.map_cons, List.nodup_cons] at h
    rcases List.mem_cons.mp ha with ea | ha'
    · rcases List.mem_cons.mp hb with eb | hb'
      · rw [ea, eb]
      · rw [ea] at e
        exact absurd (List.mem_map.mpr ⟨b, hb', e.symm⟩) h.1
    · rcases List.mem_cons.mp hb with eb | hb'
      · rw [eb] at e
        exact absurd (List.mem_map.mpr ⟨a, ha', e⟩) h.1
      · exact nodup_fst h.2 a ha' b hb' e
end K14
/-! text K14H -/
set_option Elab.async false
set_option linter.all false
set_option maxRecDepth 100000
set_option maxHeartbeats 4000000
set_option exponentiation.threshold 5000
namespace K14
open PySem PySem.Spec PyProof.Rows L2 Pl PlS
open ClX

theorem at_last {r0 : Row} {rt : List Row} : ∃ rl ∈ r0 :: rt, atI ((r0 :: rt).map dRow) (-1) = some (dRow rl) := by
  have lt : rt.length < (r0 :: rt).length := Nat.lt_succ_self _
  refine ⟨(r0 :: rt)[rt.length], List.getElem_mem _, ?_⟩
  have e : ((r0 :: rt).map dRow)[rt.length]? = some (dRow (r0 :: rt)[rt.length]) := by
    rw [List.getElem?_map, List.getElem?_eq_getElem lt]
    rfl
  rw [← e]
  have hn : ((r0 :: rt).map dRow).length = rt.length + 1 := by rw [List.length_map]; rfl
  unfold atI ixN
  rw [if_neg (by decide), if_pos (by rw [hn]; omega), show ((-1 : Int) + (((r0 :: rt).map dRow).length : Int)).toNat = rt.length by rw [hn]; omega]
  rfl
def preH (s c : Addr) (ds : List D) : Prop := ∃ rs : List Row, ds = [.lst (rs.map dRow)] ∧ GoodR rs ∧ ∀ r ∈ rs, r.1 ≠ Str.ofString "zz"
def postH (s c : Addr) (ds : List D) (z : D) : Prop := z = .bl true
section
variable {P : Program} {w : World} {K : PySem.W.Frag} {mg : Str → Option Value} {base : Heap} {A : Adr} {CT fT CE fE rr gr rn gn fl fc fe : Addr} {mcT : Value} {dT dE dr dn dl dc de : FuncData}
theorem ok__law_parts_hold (T : Txt A K mg) (G : CTxt K mg CT mcT) (U : QTxt K mg CT fT CE fE dT dE) (M : MTxt K CT rr gr rn gn fl fc fe dr dn dl dc de) : FnOk P w K mg base CX0 9 A.f__law_parts_hold A.fd__law_parts_hold ["rows"] (Pr K preH 0 postH) := by
  have G__law_strange := ok__law_strange (P := P) (w := w) (base := base) T
  have G_rows := ok_t_rows (P := P) (w := w) (base := base) T G U M
  have G_names := ok_t_names (P := P) (w := w) (base := base) T G U M
  have G_len := ok_t_len (P := P) (w := w) (base := base) T G U M
  have G_has := ok_t_has (P := P) (w := w) (base := base) T G U M
  have G_eq := ok_t_eq (P := P) (w := w) (base := base) T G U M
  refine T.F__law_parts_hold.ok sc__law_parts_hold (fun vs H Q E h => pr_len h fun s c ds hp => ?_) (fun cdv A' outer st H vs Q E hr h => have hw : _ := hr.units; have hs70 : _ := (by have := hr.un; omega : (A'.deeper (envOfC "_law_parts_hold" (defScope s__law_parts_hold) st.heap.objs.size A.f__law_parts_hold cdv)).units + 70 < cLine); have hs65 : _ := (by have := hr.un; omega : (A'.deeper (envOfC "_law_parts_hold" (defScope s__law_parts_hold) st.heap.objs.size A.f__law_parts_hold cdv)).units + 65 < cLine); ⟨_, (pss_cons (ps_set (i := 1) sc__law_parts_hold.nd rfl (by first | exact Or.inl rfl | exact Or.inr rfl) (k_revL (K := K) (pe_callTy (k_list K) (by rfl) T.m_list (by decide +kernel) (pa_cons (pv 0) pa_nil))))
      (pss_cons (ps_set (i := 2) sc__law_parts_hold.nd rfl (by first | exact Or.inl rfl | exact Or.inr rfl) (pe_make (E := fun _ _ _ => False) U.kT (ok_t_init T G U) (hr.mono (by decide)) (by rfl) G.gT U.bT .nil pass_no (pa_cons (pv 1) pa_nil)))
      (pss_cons (ps_expr (k_bm K PySem.F.plainAttrs_list PySem.F.slot_list_append PySem.F.type_list_append mt_append (pv 1) (pa_cons pe_non pa_nil)))
      (pss_cons (ps_if (PW.pt (pw_or (pt_cmpR (k_neA hw) (pe_prop (pv 2) U.cT M.rr G_rows (hr.mono (by decide)) M.br .nil pass0 rfl) (pe_callTy (k_tuple K) (by rfl) T.m_tuple (by decide +kernel) (pa_cons (pe_callB (k_sortD (K := K) hs70) (by rfl) T.m_sorted (by decide +kernel) (pa_cons (pv 0) pa_nil)) pa_nil)) (nomark _)) (pw_or1 (pt_cmpR (k_neA hw) (pe_prop (pv 2) U.cT M.rn G_names (hr.mono (by decide)) M.bn .nil pass0 rfl) (pe_callTy (k_tuple K) (by rfl) T.m_tuple (by decide +kernel) (pa_cons (pe_callB (k_sortD (K := K) hs70) (by rfl) T.m_sorted (by decide +kernel) (pa_cons (pe_lc (own := [("row", 3)]) rfl sc__law_parts_hold.nd (k_pilist K (pv 0)) (blkOk_by (N := ["rows", "raw", "tables", "row", "value", "thing", "name", "table", "values", "turned", "crossed", "less"]) (sc := defScope s__law_parts_hold) (by decide +kernel)) (fun _ _ _ _ _ => (pg_name (i := 3) sc__law_parts_hold.nd rfl (by first | exact Or.inl rfl | exact Or.inr rfl))) (fun _ _ _ _ _ => pts_nil) (fun _ _ _ _ _ => (pe_ix (k_ix K) (pv 3) pe_int (fun _ _ => rfl)))) pa_nil)) pa_nil)) (nomark _))))) (pss_one (ps_ret pe_bl)) pss_nil)
      (pss_cons (ps_if (PW.pt (pw_or (pt_cmpR (k_neA hw) (pe_callB (call_lenI G_len (hr.mono (by decide)) M.al M.il M.bl) (by rfl) T.m_len (by decide +kernel) (pa_cons (pv 2) pa_nil)) (pe_callB (k_len K) (by rfl) T.m_len (by decide +kernel) (pa_cons (pv 0) pa_nil)) (nomark _)) (pw_or (pt_cmpR (k_neA hw) (pe_lc (own := [("row", 3)]) rfl sc__law_parts_hold.nd (k_pilist K (pv 0)) (blkOk_by (N := ["rows", "raw", "tables", "row", "value", "thing", "name", "table", "values", "turned", "crossed", "less"]) (sc := defScope s__law_parts_hold) (by decide +kernel)) (fun _ _ _ _ _ => (pg_name (i := 3) sc__law_parts_hold.nd rfl (by first | exact Or.inl rfl | exact Or.inr rfl))) (fun _ _ _ _ _ => (pts_one (pt_cmpR (op_ninI G_has (hr.mono (by decide)) M.ac M.ic M.bc) (pv 3) (pv 2) rfl))) (fun _ _ _ _ _ => (pv 3))) (pe_lst pa_nil) (nomark _)) (pw_or1 (pt_cmpR (op_neI G_eq (hr.mono (by decide)) M.ae M.ne G.isC.hm M.ie M.be) (pe_make (E := fun _ _ _ => False) U.kT (ok_t_init T G U) (hr.mono (by decide)) (by rfl) G.gT U.bT .nil pass_no (pa_cons (pe_callTy (k_tuple K) (by rfl) T.m_tuple (by decide +kernel) (pa_cons (pv 0) pa_nil)) pa_nil)) (pv 2) (nomark _)))))) (pss_one (ps_ret pe_bl)) pss_nil)
      (pss_cons (ps_if (pt_cmpR (k_neA hw) (pe_lc (own := [("value", 4)]) rfl sc__law_parts_hold.nd (k_pilist K (pe_call G__law_strange (hr.mono (by decide)) (by rfl) T.m__law_strange T.F__law_strange.kp T.b__law_strange .nil pass0 (pa_cons (pv 0) pa_nil))) (blkOk_by (N := ["rows", "raw", "tables", "row", "value", "thing", "name", "table", "values", "turned", "crossed", "less"]) (sc := defScope s__law_parts_hold) (by decide +kernel)) (fun _ _ _ _ _ => (pg_name (i := 4) sc__law_parts_hold.nd rfl (by first | exact Or.inl rfl | exact Or.inr rfl))) (fun _ _ _ _ _ => (pts_one (pt_cmpR (op_inI G_has (hr.mono (by decide)) M.ac M.ic M.bc) (pv 4) (pv 2) rfl))) (fun _ _ _ _ _ => (pv 4))) (pe_lst pa_nil) (nomark _)) (pss_one (ps_ret pe_bl)) pss_nil)
      (pss_cons (ps_for PassesOwn.never rfl (k_pilist K (pe_lst (pa_cons (pe_prop (pv 2) U.cT M.rr G_rows (hr.mono (by decide)) M.br .nil pass0 rfl) (pa_cons (pe_callTy (k_list K) (by rfl) T.m_list (by decide +kernel) (pa_cons (pe_prop (pv 2) U.cT M.rr G_rows (hr.mono (by decide)) M.br .nil pass0 rfl) pa_nil)) (pa_cons (pe_prop (pv 2) U.cT M.rn G_names (hr.mono (by decide)) M.bn .nil pass0 rfl) (pa_cons (pe_tup pa_nil) (pa_cons pe_non (pa_cons pe_int pa_nil)))))))) (pg_name (i := 5) sc__law_parts_hold.nd rfl (by first | exact Or.inl rfl | exact Or.inr rfl)) (pss_one (ps_if (PW.pt (pw_or (pt_cmpR (op_eqI G_eq (hr.mono (by decide)) M.ae M.ie M.be) (pv 2) (pv 5) (nomark _)) (pw_or1 (pt_not (pt_cmpR (op_neI G_eq (hr.mono (by decide)) M.ae M.ne G.isC.hm M.ie M.be) (pv 2) (pv 5) (nomark _)))))) (pss_one (ps_ret pe_bl)) pss_nil)))
      (pss_cons (ps_if (pt_cmpR (k_eqA hw) (pv 0) (pe_lst pa_nil) (nomark _)) (pss_one (ps_ret pe_bl)) pss_nil)
      (pss_cons (ps_asg (pe_ix (k_ix K) (pv 0) pe_int (fun _ _ => rfl)) (k_pgtup K (n := 3) rfl (pgs_cons (pg_name (i := 6) sc__law_parts_hold.nd rfl (by first | exact Or.inl rfl | exact Or.inr rfl)) (pgs_cons (pg_name (i := 7) sc__law_parts_hold.nd rfl (by first | exact Or.inl rfl | exact Or.inr rfl)) (pgs_cons (pg_name (i := 8) sc__law_parts_hold.nd rfl (by first | exact Or.inl rfl | exact Or.inr rfl)) pgs_nil)))))
      (pss_cons (ps_set (i := 9) sc__law_parts_hold.nd rfl (by first | exact Or.inl rfl | exact Or.inr rfl) (pe_lst (pa_cons (pe_tup (pa_cons (pv 6) (pa_cons pe_str (pa_cons (pv 8) pa_nil)))) (pa_cons (pe_tup (pa_cons (pv 6) (pa_cons (pv 7) (pa_cons (pe_op (k_mulB (K := K)) (pe_tup (pa_cons pe_int pa_nil)) (pe_callB (k_len K) (by rfl) T.m_len (by decide +kernel) (pa_cons (pv 8) pa_nil))) pa_nil)))) pa_nil))))
      (pss_cons (ps_set (i := 9) sc__law_parts_hold.nd rfl (by first | exact Or.inl rfl | exact Or.inr rfl) (pe_op (k_add K) (pv 9) (pe_lst (pa_cons (pe_tup (pa_cons (pv 6) (pa_cons (pv 7) (pa_cons (pe_slice (k_sl K) (pe_op (k_add K) (pv 8) (pe_tup (pa_cons pe_int (pa_cons pe_int pa_nil)))) po_none (po_some pe_int)) pa_nil)))) (pa_cons (pe_tup (pa_cons pe_str (pa_cons (pv 7) (pa_cons (pv 8) pa_nil)))) pa_nil)))))
      (pss_cons (ps_set (i := 10) sc__law_parts_hold.nd rfl (by first | exact Or.inl rfl | exact Or.inr rfl) (pe_op (k_add K) (pe_tup (pa_cons (pv 6) pa_nil)) (pe_slice (k_sl K) (pe_ix (k_ix K) (pv 0) (pe_un un_neg pe_int) (fun _ _ => rfl)) (po_some pe_int) po_none)))
      (pss_cons (ps_if (PW.pt (pw_and (pt_cmpR (k_neA hw) (pv 10) (pe_ix (k_ix K) (pv 0) pe_int (fun _ _ => rfl)) (nomark _)) (pw_and1 (pt_cmpR (op_inI G_has (hr.mono (by decide)) M.ac M.ic M.bc) (pv 10) (pv 2) rfl)))) (pss_one (ps_ret pe_bl)) pss_nil)
      (pss_cons (ps_for PassesOwn.never rfl (k_pilist K (pv 9)) (pg_name (i := 3) sc__law_parts_hold.nd rfl (by first | exact Or.inl rfl | exact Or.inr rfl)) (pss_one (ps_if (PW.pt (pw_and (pt_cmpR (k_neA hw) (pv 3) (pe_ix (k_ix K) (pv 0) pe_int (fun _ _ => rfl)) (nomark _)) (pw_and1 (PW.pt (pw_or (pt_cmpR (op_inI G_has (hr.mono (by decide)) M.ac M.ic M.bc) (pv 3) (pv 2) rfl) (pw_or1 (pt_cmpR (op_eqI G_eq (hr.mono (by decide)) M.ae M.ie M.be) (pe_make (E := fun _ _ _ => False) U.kT (ok_t_init T G U) (hr.mono (by decide)) (by rfl) G.gT U.bT .nil pass_no (pa_cons (pe_lst (pa_cons (pv 3) pa_nil)) pa_nil)) (pe_make (E := fun _ _ _ => False) U.kT (ok_t_init T G U) (hr.mono (by decide)) (by rfl) G.gT U.bT .nil pass_no (pa_cons (pe_slice (k_sl K) (pv 0) po_none (po_some pe_int)) pa_nil)) (nomark _)))))))) (pss_one (ps_ret pe_bl)) pss_nil)))
      (pss_cons (ps_set (i := 11) sc__law_parts_hold.nd rfl (by first | exact Or.inl rfl | exact Or.inr rfl) (pe_make (E := fun _ _ _ => False) U.kT (ok_t_init T G U) (hr.mono (by decide)) (by rfl) G.gT U.bT .nil pass_no (pa_cons (pe_slice (k_sl K) (pe_callTy (k_list K) (by rfl) T.m_list (by decide +kernel) (pa_cons (pv 0) pa_nil)) (po_some pe_int) po_none) pa_nil)))
      (pss_one (ps_ret (pe_and (pe_cmpR (op_neI G_eq (hr.mono (by decide)) M.ae M.ne G.isC.hm M.ie M.be) (pv 2) (pv 11) (nomark _)) (pe_and (pe_cmpR (op_neI G_eq (hr.mono (by decide)) M.ae M.ne G.isC.hm M.ie M.be) (pv 11) (pv 2) (nomark _)) (pe_and (pe_cmpR (op_neI G_eq (hr.mono (by decide)) M.ae M.ne G.isC.hm M.ie M.be) (pe_make (E := fun _ _ _ => False) U.kT (ok_t_init T G U) (hr.mono (by decide)) (by rfl) G.gT U.bT .nil pass_no (pa_cons (pe_lst pa_nil) pa_nil)) (pv 2) (nomark _)) (pe_one (pe_cmpR (op_neI G_eq (hr.mono (by decide)) M.ae M.ne G.isC.hm M.ie M.be) (pv 2) (pv 0) (nomark _))))))))))))))))))))))), body_ok h fun s c n ds hn hp => ?_⟩)
  · obtain ⟨rs, rfl, _⟩ := hp
    rfl
  · obtain ⟨rs, rfl, gr, hzz⟩ := hp
    have fin : (⟨fun _ m => m ≤ n + 0 ∧ postH s c [.lst (rs.map dRow)] .non, fun d m => m ≤ n + 0 ∧ postH s c [.lst (rs.map dRow)] d, fun _ _ => False, fun _ _ => False⟩ : Pn).rt (.bl true) n := ⟨Nat.le_refl _, rfl⟩
    have r6 := gr.2.2
    have gs := good_sort gr
    have tr := tame_rows gr.1 (by omega)
    have gv : GoodR rs.reverse := good_perm (List.reverse_perm rs).symm gr
    have trv := tame_rows gv.1 (by rw [List.length_reverse]; omega)
    have ts := tame_rows gs.1 (by rw [sort_len]; omega)
    have evv : sortR rs.reverse = sortR rs := sortR_eq (List.reverse_perm rs)
    have rowsE : ∀ {ρ : List Sl} {t : TE}, EvE K s c t ρ n n (fun d => d = tI CT rs) → EvE K s c (tProp CT (Pr K (preG CT) 0 (postRows CT)) [] E0 t) ρ n n (fun d => d = .tup ((sortR rs).map dRow)) := fun h => ev_propP (ks := ksT) (l := tL rs) h hn ⟨rs, rfl, gr⟩ fun d h => by
      obtain ⟨qs, e, rfl⟩ := h
      injection e with e _
      rw [tI_inj e]
    have namesE : ∀ {ρ : List Sl} {t : TE}, EvE K s c t ρ n n (fun d => d = tI CT rs) → EvE K s c (tProp CT (Pr K (preG CT) 0 (postNms CT)) [] E0 t) ρ n n (fun d => d = .tup (dStrs ((sortR rs).map (·.1)))) := fun h => ev_propP (ks := ksT) (l := tL rs) h hn ⟨rs, rfl, gr⟩ fun d h => by
      obtain ⟨qs, e, rfl⟩ := h
      injection e with e _
      rw [tI_inj e]
    have tabEq : tI CT rs.reverse = tI CT rs := by
      unfold tI tL
      rw [evv]
    -- raw
    refine s_seq (N := fun ρ' m => n = m ∧ ρ' = [.va (.lst (rs.map dRow)), .ow (rs.map dRow).reverse, .no, .no, .no, .no, .no, .no, .no, .no, .no, .no]) (s_own (en_revL (ev_callK (ea_one (ev_var rfl)) (ck_list rfl))) rfl (by exact (by decide : (1 : Nat) < 12)) fun x e => ⟨rfl, by rw [e]; rfl⟩) fun ρ1 n1 h1 => ?_
    obtain ⟨rfl, rfl⟩ := h1
    have flT : flatL (tL rs) = true := by
      show (flatL ((sortR rs).map dRow) && true) = true
      rw [Bool.and_true]
      generalize sortR rs = l
      induction l with
      | nil => rfl
      | cons x l ih =>
        show (flat (dRow x) && flatL (l.map dRow)) = true
        rw [flat_row, ih]
        rfl
    refine s_seq (N := fun ρ' m => n = m ∧ ρ' = [.va (.lst (rs.map dRow)), .ow (rs.map dRow).reverse, .va (tI CT rs), .no, .no, .no, .no, .no, .no, .no, .no, .no]) (s_set (P := fun d => d = tI CT rs) (ev_thawI (i := 1) rfl (EvE.imp (ev_tab (rs := rs.reverse) (ev_var rfl) hn (by rw [List.map_reverse]; rfl) gv (by rw [← List.map_reverse]; exact trv.2.1)) fun d e => by rw [e]; exact tabEq) (fun d e => ⟨CT, ksT, tL rs, e, flT⟩) (by exact (by decide : (1 : Nat) < 12))) rfl fun d e => ⟨rfl, by rw [e]; rfl⟩) fun ρ1 n1 h1 => ?_
    obtain ⟨rfl, rfl⟩ := h1
    refine s_seq (N := fun ρ' m => n = m ∧ ρ' = [.va (.lst (rs.map dRow)), .ow ((rs.map dRow).reverse ++ [.non]), .va (tI CT rs), .no, .no, .no, .no, .no, .no, .no, .no, .no]) (s_append (i := 1) (l := (rs.map dRow).reverse) (P := fun d => d = .non) rfl ev_non (by rw [List.length_reverse, List.length_map]; omega) fun d e => ⟨rfl, by rw [e]; rfl⟩) fun ρ1 n1 h1 => ?_
    obtain ⟨rfl, rfl⟩ := h1
    generalize (rs.map dRow).reverse ++ [.non] = rw_
    -- rows and names
    have neD : RK K s c (rNeA K) (.tup ((sortR rs).map dRow)) (.tup ((sortR rs).map dRow)) (.bl false) := by
      have z := rk_neD (K := K) (s := s) (c := c) (plain_of ts.1.1) (plain_of ts.1.1) (shaped_of ts.1.1 (Nat.le_trans ts.1.2 (by decide))) (shaped_of ts.1.1 (Nat.le_trans ts.1.2 (by decide)))
      have e : PyData.eqv (py (.tup ((sortR rs).map dRow))) (py (.tup ((sortR rs).map dRow))) = true := by
        show PyData.eqvAll (pyL ((sortR rs).map dRow)) (pyL ((sortR rs).map dRow)) = true
        rw [eqv_rows, decide_eq_true rfl]
      rw [e] at z
      exact z
    have nmok : ∀ v ∈ (sortR rs).map (·.1), isName v := fun v hv => by
      obtain ⟨r, hr', rfl⟩ := List.mem_map.mp hv
      exact (gs.1 r hr').1
    have tnm : tame (.tup (dStrs ((sortR rs).map (·.1)))) = true ∧ dp (.tup (dStrs ((sortR rs).map (·.1)))) ≤ 1 := by
      have hs : ∀ d ∈ dStrs ((sortR rs).map (·.1)), tame d = true ∧ dp d ≤ 0 := fun d hd => by
        obtain ⟨z, rfl, hz⟩ := strs_mem hd
        exact ⟨(name_tame (nmok z hz)).1, Nat.le_refl _⟩
      exact ⟨tame_tupOf (fun d hd => (hs d hd).1) (by rw [strs_len, List.length_map, sort_len]; omega), (dp_seq fun d hd => (hs d hd).2).2⟩
    have neN : RK K s c (rNeA K) (.tup (dStrs ((sortR rs).map (·.1)))) (.tup (dStrs ((sortR rs).map (·.1)))) (.bl false) := by
      have z := rk_neD (K := K) (s := s) (c := c) (plain_of tnm.1) (plain_of tnm.1) (shaped_of tnm.1 (Nat.le_trans tnm.2 (by decide))) (shaped_of tnm.1 (Nat.le_trans tnm.2 (by decide)))
      rw [eqv_strsT, decide_eq_true rfl] at z
      exact z
    refine s_seq (N := fun ρ' m => n = m ∧ ρ' = [.va (.lst (rs.map dRow)), .ow rw_, .va (tI CT rs), .no, .no, .no, .no, .no, .no, .no, .no, .no]) (s_ifK (b := false || false) (et_orK (et_K (ev_opK (rowsE (ev_var rfl)) (ev_callK (ea_one (ev_callK (ea_one (ev_var rfl)) (ck_sortR (rs := rs)))) (ck_tuple rfl)) neD)) fun _ => et_K (ev_opK (namesE (ev_var rfl)) (ev_callK (ea_one (ev_callK (ea_one (EvE.imp (P' := fun d => d = .lst (dStrs (rs.map (·.1)))) (EvN.evK (en_mapK (L := rs.map dRow) (fun d => D.str (unR d).1) (ei_list (PL := fun ds => ds = rs.map dRow) (ev_var rfl) fun d e => ⟨_, e, rfl⟩) rfl (by rw [List.length_map]; omega) fun j d hj => ?_)) fun d e => ?_)) (ck_sortS (l := rs.map (·.1))))) (ck_tuple (show seqD (.lst (ordD (dStrs (rs.map (·.1))))) = some (dStrs ((sortR rs).map (·.1))) by rw [names_sorted]; rfl))) neN)) (fun e => by cases e) fun _ => s_next ⟨rfl, rfl⟩) fun ρ1 n1 h1 => ?_
    · obtain ⟨a, ha, rfl⟩ := List.mem_map.mp (List.mem_of_getElem? hj)
      refine ⟨_, _, eg_name (j := 3) rfl, fun j hj => hj, ?_⟩
      rw [unR_of]
      exact ev_opK (ev_var rfl) ev_int (rk_ixT rfl)
    · rw [e, List.map_map]
      unfold dStrs
      rw [List.map_map]
      congr 1
    obtain ⟨rfl, rfl⟩ := h1
    -- length, members, again
    have lenT : EvE K s c (tCB (rLenI CT (Pr K (preG CT) 0 (postLen CT))) (tCons (tVar 2) tNil)) [.va (.lst (rs.map dRow)), .ow rw_, .va (tI CT rs), .no, .no, .no, .no, .no, .no, .no, .no, .no] n n (fun d => d = .int (rs.length : Nat)) := ev_lenI (ev_var rfl) hn ⟨rs, rfl, gr⟩ (by omega) fun d h => by
      obtain ⟨qs, e, rfl⟩ := h
      injection e with e _
      rw [← tI_inj e, sort_len]
    have memE : ∀ r ∈ rs, hasB (sortR rs) (dRow r) = true := fun r hr' => by
      rw [hasB_of (gr.1 r hr'), decide_eq_true ((sortR_perm rs).mem_iff.mpr hr')]
    refine s_seq (N := fun ρ' m => n = m ∧ ρ' = [.va (.lst (rs.map dRow)), .ow rw_, .va (tI CT rs), .no, .no, .no, .no, .no, .no, .no, .no, .no]) (s_ifK (b := !decide (((rs.length : Nat) : Int) = ((rs.map dRow).length : Int)) || (false || !decide (sortR rs = sortR rs))) (et_orK (et_K (ev_opK lenT (ev_callK (ea_one (ev_var rfl)) (ck_len rfl)) rk_neI)) fun _ => et_orK ((et_K (ev_opK (EvE.imp (P' := fun d => d = .lst []) (EvN.evK (en_lcK (L := rs.map dRow) (fun d => d) (fun _ => false) (ei_list (PL := fun ds => ds = rs.map dRow) (ev_var rfl) fun d e => ⟨_, e, rfl⟩) rfl (by rw [List.length_map]; omega) fun j d hj => ?_)) fun d e => ?_) (ev_lstE ea_nil (Nat.zero_le _)) (rk_neNil (l := []) (fun d hd => by cases hd) (Nat.zero_le _) fun d hd => by cases hd))).imp fun b e => e) fun _ => et_K (ev_neTT G (ev_tab (rs := rs) (ev_callK (ea_one (ev_var rfl)) (ck_tuple rfl)) hn rfl gr tr.1.1) (ev_var rfl) hn gr gr)) (fun e => ?_) fun _ => s_next ⟨rfl, rfl⟩) fun ρ1 n1 h1 => ?_
    · obtain ⟨a, ha, rfl⟩ := List.mem_map.mp (List.mem_of_getElem? hj)
      refine ⟨_, _, eg_name (j := 3) rfl, fun j hj => hj, (et_K (ev_inT (ps := rs) (neg := true) (ev_var rfl) (ev_var rfl) hn gr (.inl (tame_row (gr.1 a ha)).1))).imp fun b e => ?_, fun _ => ev_var rfl⟩
      rw [e, memE a ha]
      rfl
    · rw [e]
      have : ∀ l : List D, (l.filter fun _ => false) = [] := fun l => by
        induction l with
        | nil => rfl
        | cons x l ih => rw [List.filter_cons_of_neg (by exact Bool.false_ne_true), ih]
      rw [this]
      rfl
    · rw [List.length_map, decide_eq_true rfl, decide_eq_true rfl] at e
      cases e
    obtain ⟨rfl, rfl⟩ := h1
    -- strange things
    refine s_seq (N := fun ρ' m => n = m ∧ ρ' = [.va (.lst (rs.map dRow)), .ow rw_, .va (tI CT rs), .no, .no, .no, .no, .no, .no, .no, .no, .no]) (s_if (n1 := n) (T := fun b => b = false) (EvT.imp (et_test (P := fun d => d = .bl false) (ev_opP (A := fun d => d = .lst []) (B := fun d => d = .lst []) (EvE.imp (EvN.ev (en_lc (n2 := n) (PL := fun L => (∀ x ∈ L, SQ x) ∧ L.length ≤ 100) (ei_list (PL := fun L => (∀ x ∈ L, SQ x) ∧ L.length ≤ 100) (ev_def (A := fun l => l = [.lst (rs.map dRow)]) (ea_one (ev_var rfl)) hn fun l e => ⟨rs, e, gr.1, r6⟩) fun d h => ?_) rfl (fun ds i acc m => m = n ∧ acc = []) (fun ds h => ⟨by omega, rfl, rfl⟩) (fun ds h i d acc m hi ha inv => ?_) fun ds h acc m inv => by omega)) fun d h => ?_) (ev_lstE ea_nil (Nat.zero_le _)) fun x y e1 e2 => ⟨_, by rw [e1, e2]; exact rk_neNil (l := []) (fun d hd => by cases hd) (Nat.zero_le _) (fun d hd => by cases hd), rfl⟩) fun d e => ⟨_, e⟩) fun b e => D.bl.inj e) (fun e => by cases e) fun _ => s_next ⟨rfl, rfl⟩) fun ρ1 n1 h1 => ?_
    · obtain ⟨l, _, L, rfl, h1, h2⟩ := h
      exact ⟨L, rfl, h1, h2⟩
    · obtain ⟨rfl, rfl⟩ := inv
      have sq := h.1 d (List.mem_of_getElem? hi)
      have no : hasB (sortR rs) d = false := by
        rcases sq.2 with q | ⟨r, rfl, okr, hz⟩
        · unfold hasB
          rw [q]
          rfl
        · rw [hasB_of okr, decide_eq_false]
          exact fun z => hzz r ((sortR_perm rs).mem_iff.mp z) hz
      refine ⟨_, _, _, _, eg_name (j := 4) rfl, fun j hj => hj, (et_K (ev_inT (ps := rs) (neg := false) (ev_var rfl) (ev_var rfl) hn gr sq.1)).imp (T' := fun b => b = false) fun b e => ?_, (fun z => by cases z), fun _ => ⟨rfl, rfl⟩⟩
      rw [e]
      exact no
    · obtain ⟨l', rfl, ds, _, m, _, h2⟩ := h
      rw [h2]
    obtain ⟨rfl, rfl⟩ := h1
    -- things
    refine s_seq (N := fun ρ' m => n = m ∧ ∃ y5, ρ' = [.va (.lst (rs.map dRow)), .ow rw_, .va (tI CT rs), .no, .no, y5, .no, .no, .no, .no, .no, .no]) ?_ fun ρ1 n1 h1 => ?_
    · refine s_for (ei_list (PL := fun ds => ds = [.tup ((sortR rs).map dRow), .lst ((sortR rs).map dRow), .tup (dStrs ((sortR rs).map (·.1))), .tup [], .non, .int 7]) (ev_lstE (ea_c (rowsE (ev_var rfl)) (ea_c (ev_callK (ea_one (rowsE (ev_var rfl))) (ck_list rfl)) (ea_c (namesE (ev_var rfl)) (ea_c (ev_tupE ea_nil (Nat.zero_le _)) (ea_c ev_non (ea_one ev_int)))))) (by exact (by decide : (6 : Nat) ≤ 1000))) fun d e => ⟨_, e, rfl⟩) (fun ds i ρ' m => n = m ∧ ∃ y5, ρ' = [.va (.lst (rs.map dRow)), .ow rw_, .va (tI CT rs), .no, .no, y5, .no, .no, .no, .no, .no, .no] ∧ isOw (some y5) = false)
        (fun ds e => ⟨rfl, .no, rfl, rfl⟩) (fun ds e i d ρ' m hi inv => ?_) fun ds e ρ' m inv => ?_
      · obtain ⟨rfl, y5, rfl, o5⟩ := inv
        have td : topD d = true := by
          rw [e] at hi
          have := List.mem_of_getElem? hi
          simp only [List.mem_cons, List.not_mem_nil, or_false] at this
          rcases this with rfl | rfl | rfl | rfl | rfl | rfl <;> rfl
        refine ⟨_, _, eg_name (j := 5) o5, ?_⟩
        refine s_ifK (b := false || !true) (et_orK (et_K (ev_eqTo G (ev_var rfl) (ev_var rfl) hn gr td)) fun _ => et_notK (et_K (ev_neTo G (ev_var rfl) (ev_var rfl) hn gr td))) (fun e => by cases e) fun _ => s_next ⟨rfl, _, rfl, rfl⟩
      · obtain ⟨rfl, y5, rfl, _⟩ := inv
        exact ⟨rfl, y5, rfl⟩
    obtain ⟨rfl, y5, rfl⟩ := h1
    -- no rows
    have eqN : EvT K s c (tTest (tOp (rEqA K) (tVar 0) (tLst tNil))) [.va (.lst (rs.map dRow)), .ow rw_, .va (tI CT rs), .no, .no, y5, .no, .no, .no, .no, .no, .no] n n (fun b => b = rs.isEmpty) := (et_K (ev_opK (ev_var rfl) (ev_lstE ea_nil (Nat.zero_le _)) (rk_eqNil (fun d hd => ?_) (by rw [List.length_map]; omega) fun d hd => ?_))).imp fun b e => by
      rw [e]
      cases rs <;> rfl
    · refine s_seq (N := fun ρ' m => n = m ∧ ρ' = [.va (.lst (rs.map dRow)), .ow rw_, .va (tI CT rs), .no, .no, y5, .no, .no, .no, .no, .no, .no] ∧ rs.isEmpty = false) (s_ifK eqN (fun _ => s_ret ev_bl fun d e => by rw [e]; exact fin) fun e => s_next ⟨rfl, rfl, e⟩) fun ρ1 n1 h1 => ?_
      obtain ⟨rfl, rfl, hne⟩ := h1
      obtain ⟨r0, rt, rfl⟩ : ∃ r0 rt, rs = r0 :: rt := by
        cases rs with
        | nil => cases hne
        | cons x l => exact ⟨x, l, rfl⟩
      obtain ⟨rl, rlm, hl⟩ := at_last (r0 := r0) (rt := rt)
      have okr := gr.1 r0 List.mem_cons_self
      have okl := gr.1 rl rlm
      have l1 := okr.2.2.1
      have l3 := okr.2.2.2.1
      have il : (dIs r0.2.2).length ≤ 1000 := by rw [is_len]; omega
      have r0E : ∀ {ρ : List Sl}, ρ[0]? = some (.va (.lst ((r0 :: rt).map dRow))) → EvE K s c (tOp (rIx K) (tVar 0) (tC (.int 0))) ρ n n (fun d => d = dRow r0) := fun h => ev_opK (ev_var h) ev_int (rk_ixL (atI_at (i := 0) rfl))
      refine s_seq (N := fun ρ' m => n = m ∧ ρ' = [.va (.lst ((r0 :: rt).map dRow)), .ow rw_, .va (tI CT (r0 :: rt)), .no, .no, y5, .va (.str r0.1), .va (.str r0.2.1), .va (.tup (dIs r0.2.2)), .no, .no, .no]) (s_asg (r0E rfl) fun x hx => by
        rw [hx]
        exact ⟨_, _, eg_tup (egs_cons (eg_name (j := 6) rfl) (egs_cons (eg_name (j := 7) rfl) (egs_cons (eg_name (j := 8) rfl) egs_nil))) rfl, rfl, rfl⟩) fun ρ1 n1 h1 => ?_
      obtain ⟨rfl, rfl⟩ := h1
      have e3 : (by exact (3 : Nat)) ≤ 1000 := by decide
      have q2E : (List.replicate ((dIs r0.2.2).length : Int).toNat [D.int 77]).flatten = dIs (List.replicate r0.2.2.length 77) := by
        rw [Int.toNat_natCast, is_len]
        generalize r0.2.2.length = k
        induction k with
        | zero => rfl
        | succ k ih =>
          rw [List.replicate_succ, List.flatten_cons, ih, List.replicate_succ]
          rfl
      have q3E : Pl.cutD (dIs r0.2.2 ++ [.int 1, .int 1]) none (some 3) = dIs ((r0.2.2 ++ [1, 1]).take 3) := by
        have := cut_pre (l := dIs r0.2.2 ++ [.int 1, .int 1]) (k := 3)
        rw [show ((3 : Nat) : Int) = 3 from rfl] at this
        rw [this]
        unfold dIs
        rw [List.map_take, List.map_append]
        rfl
      have t1 : EvE K s c (tLst (tCons (tTup (tCons (tVar 6) (tCons (tC (.str "anothert")) (tCons (tVar 8) tNil)))) (tCons (tTup (tCons (tVar 6) (tCons (tVar 7) (tCons (tOp (rMulB K) (tTup (tCons (tC (.int 77)) tNil)) (tCB (rLenA K) (tCons (tVar 8) tNil))) tNil)))) tNil))) [.va (.lst ((r0 :: rt).map dRow)), .ow rw_, .va (tI CT (r0 :: rt)), .no, .no, y5, .va (.str r0.1), .va (.str r0.2.1), .va (.tup (dIs r0.2.2)), .no, .no, .no] n n (fun d => d = .lst ([(r0.1, Str.ofString "anothert", r0.2.2), (r0.1, r0.2.1, List.replicate r0.2.2.length 77)].map dRow)) :=
        ev_lstE (ea_c (ev_tupE (ea_c (ev_var rfl) (ea_c ev_str (ea_one (ev_var rfl)))) (by exact (by decide : (3 : Nat) ≤ 1000))) (ea_one (ev_tupE (ea_c (ev_var rfl) (ea_c (ev_var rfl) (ea_one (ev_is (ev_opK (ev_tupE (ea_one ev_int) (by exact (by decide : (1 : Nat) ≤ 1000))) (ev_callK (ea_one (ev_var rfl)) (ck_len rfl)) (rk_timesT (by rw [is_len]; omega) (by omega) (by exact (by decide : (1 : Nat) ≤ 1000)))) (by rw [q2E]))))) (by exact (by decide : (3 : Nat) ≤ 1000))))) (by exact (by decide : (2 : Nat) ≤ 1000))
      refine s_seq (N := fun ρ' m => n = m ∧ ρ' = [.va (.lst ((r0 :: rt).map dRow)), .ow rw_, .va (tI CT (r0 :: rt)), .no, .no, y5, .va (.str r0.1), .va (.str r0.2.1), .va (.tup (dIs r0.2.2)), .va (.lst ([(r0.1, Str.ofString "anothert", r0.2.2), (r0.1, r0.2.1, List.replicate r0.2.2.length 77)].map dRow)), .no, .no]) (s_set t1 rfl fun d e => ⟨rfl, by rw [e]; rfl⟩) fun ρ1 n1 h1 => ?_
      obtain ⟨rfl, rfl⟩ := h1
      have t2 : EvE K s c (tLst (tCons (tTup (tCons (tVar 6) (tCons (tVar 7) (tCons (tSl (rSlAny K) (tOp (rAddA K) (tVar 8) (tTup (tCons (tC (.int 1)) (tCons (tC (.int 1)) tNil)))) tNoPart (tPart (tC (.int 3)))) tNil)))) (tCons (tTup (tCons (tC (.str "zz")) (tCons (tVar 7) (tCons (tVar 8) tNil)))) tNil))) [.va (.lst ((r0 :: rt).map dRow)), .ow rw_, .va (tI CT (r0 :: rt)), .no, .no, y5, .va (.str r0.1), .va (.str r0.2.1), .va (.tup (dIs r0.2.2)), .va (.lst ([(r0.1, Str.ofString "anothert", r0.2.2), (r0.1, r0.2.1, List.replicate r0.2.2.length 77)].map dRow)), .no, .no] n n (fun d => d = .lst ([(r0.1, r0.2.1, (r0.2.2 ++ [1, 1]).take 3), (Str.ofString "zz", r0.2.1, r0.2.2)].map dRow)) :=
        ev_lstE (ea_c (ev_tupE (ea_c (ev_var rfl) (ea_c (ev_var rfl) (ea_one (ev_is (ev_slT (ev_opK (ev_var rfl) (ev_tupE (ea_c ev_int (ea_one ev_int)) (by exact (by decide : (2 : Nat) ≤ 1000))) (rk_addT (by show (dIs r0.2.2).length + 2 ≤ 2000; omega))) eo_none (eo_some ev_int)) (by rw [q3E]))))) (by exact (by decide : (3 : Nat) ≤ 1000))) (ea_one (ev_tupE (ea_c ev_str (ea_c (ev_var rfl) (ea_one (ev_var rfl)))) (by exact (by decide : (3 : Nat) ≤ 1000))))) (by exact (by decide : (2 : Nat) ≤ 1000))
      refine s_seq (N := fun ρ' m => n = m ∧ ρ' = [.va (.lst ((r0 :: rt).map dRow)), .ow rw_, .va (tI CT (r0 :: rt)), .no, .no, y5, .va (.str r0.1), .va (.str r0.2.1), .va (.tup (dIs r0.2.2)), .va (.lst ([(r0.1, Str.ofString "anothert", r0.2.2), (r0.1, r0.2.1, List.replicate r0.2.2.length 77), (r0.1, r0.2.1, (r0.2.2 ++ [1, 1]).take 3), (Str.ofString "zz", r0.2.1, r0.2.2)].map dRow)), .no, .no]) (s_set (P := fun d => d = .lst ([(r0.1, Str.ofString "anothert", r0.2.2), (r0.1, r0.2.1, List.replicate r0.2.2.length 77), (r0.1, r0.2.1, (r0.2.2 ++ [1, 1]).take 3), (Str.ofString "zz", r0.2.1, r0.2.2)].map dRow)) (ev_opK (ev_var rfl) t2 (rk_addL (l := [(r0.1, Str.ofString "anothert", r0.2.2), (r0.1, r0.2.1, List.replicate r0.2.2.length 77)].map dRow) (by exact (by decide : 2 + 2 ≤ 2000)))) rfl fun d e => ⟨rfl, by rw [e]; rfl⟩) fun ρ1 n1 h1 => ?_
      obtain ⟨rfl, rfl⟩ := h1
      have nA : isName (Str.ofString "anothert") := nm (by decide +kernel)
      have nZ : isName (Str.ofString "zz") := nm (by decide +kernel)
      have turnOk : ∀ q ∈ [(r0.1, Str.ofString "anothert", r0.2.2), (r0.1, r0.2.1, List.replicate r0.2.2.length 77), (r0.1, r0.2.1, (r0.2.2 ++ [1, 1]).take 3), (Str.ofString "zz", r0.2.1, r0.2.2)], okRow q ∧ (q ∈ r0 :: rt → q = r0) := fun q hq => by
        simp only [List.mem_cons, List.not_mem_nil, or_false] at hq
        rcases hq with rfl | rfl | rfl | rfl
        · exact ⟨⟨okr.1, nA, okr.2.2⟩, fun h => nodup_fst gr.2.1.1 _ h _ List.mem_cons_self rfl⟩
        · refine ⟨⟨okr.1, okr.2.1, by show 1 ≤ (List.replicate r0.2.2.length (77 : Int)).length; rw [List.length_replicate]; exact l1, by show (List.replicate r0.2.2.length (77 : Int)).length ≤ 3; rw [List.length_replicate]; exact l3, fun i hi => by rw [(List.mem_replicate.mp hi).2]; decide⟩, fun h => nodup_fst gr.2.1.1 _ h _ List.mem_cons_self rfl⟩
        · refine ⟨⟨okr.1, okr.2.1, by show 1 ≤ ((r0.2.2 ++ [1, 1]).take 3).length; rw [List.length_take, List.length_append]; show 1 ≤ min 3 (r0.2.2.length + 2); omega, by show ((r0.2.2 ++ [1, 1]).take 3).length ≤ 3; rw [List.length_take]; omega, fun i hi => ?_⟩, fun h => nodup_fst gr.2.1.1 _ h _ List.mem_cons_self rfl⟩
          rcases List.mem_append.mp (List.mem_of_mem_take hi) with h | h
          · exact okr.2.2.2.2 i h
          · simp only [List.mem_cons, List.not_mem_nil, or_false] at h
            rcases h with rfl | rfl <;> decide
        · exact ⟨⟨nZ, okr.2.1, okr.2.2⟩, fun h => nodup_fst gr.2.1.2.2 _ h _ List.mem_cons_self rfl⟩
      have okc : okRow (r0.1, rl.2) := ⟨okr.1, okl.2⟩
      have neR : ∀ {q : Row}, okRow q → RK K s c (rNeA K) (dRow q) (dRow r0) (.bl (!decide (q = r0))) := fun {q} hq => by
        have z := rk_neD (K := K) (s := s) (c := c) (plain_row q) (plain_row r0) (shaped_of (tame_row hq).1 (Nat.le_trans (tame_row hq).2 (by decide))) (shaped_of (tame_row okr).1 (Nat.le_trans (tame_row okr).2 (by decide)))
        rw [eqv_row] at z
        exact z
      -- crossed
      have cx : EvE K s c (tOp (rAddA K) (tTup (tCons (tVar 6) tNil)) (tSl (rSlAny K) (tOp (rIx K) (tVar 0) (tUn (rU fun i => .int (-i)) (tC (.int 1)))) (tPart (tC (.int 1))) tNoPart)) [.va (.lst ((r0 :: rt).map dRow)), .ow rw_, .va (tI CT (r0 :: rt)), .no, .no, y5, .va (.str r0.1), .va (.str r0.2.1), .va (.tup (dIs r0.2.2)), .va (.lst ([(r0.1, Str.ofString "anothert", r0.2.2), (r0.1, r0.2.1, List.replicate r0.2.2.length 77), (r0.1, r0.2.1, (r0.2.2 ++ [1, 1]).take 3), (Str.ofString "zz", r0.2.1, r0.2.2)].map dRow)), .no, .no] n n (fun d => d = dRow (r0.1, rl.2)) :=
        ev_is (ev_opK (ev_tupE (ea_one (ev_var rfl)) (by exact (by decide : (1 : Nat) ≤ 1000))) (ev_slT (ev_opK (ev_var rfl) (ev_neg ev_int) (rk_ixL hl)) (eo_some ev_int) eo_none) (rk_addT (by exact (by decide : 1 + 2 ≤ 2000)))) rfl
      refine s_seq (N := fun ρ' m => n = m ∧ ρ' = [.va (.lst ((r0 :: rt).map dRow)), .ow rw_, .va (tI CT (r0 :: rt)), .no, .no, y5, .va (.str r0.1), .va (.str r0.2.1), .va (.tup (dIs r0.2.2)), .va (.lst ([(r0.1, Str.ofString "anothert", r0.2.2), (r0.1, r0.2.1, List.replicate r0.2.2.length 77), (r0.1, r0.2.1, (r0.2.2 ++ [1, 1]).take 3), (Str.ofString "zz", r0.2.1, r0.2.2)].map dRow)), .va (dRow (r0.1, rl.2)), .no]) (s_set cx rfl fun d e => ⟨rfl, by rw [e]; rfl⟩) fun ρ1 n1 h1 => ?_
      obtain ⟨rfl, rfl⟩ := h1
      refine s_seq (N := fun ρ' m => n = m ∧ ρ' = [.va (.lst ((r0 :: rt).map dRow)), .ow rw_, .va (tI CT (r0 :: rt)), .no, .no, y5, .va (.str r0.1), .va (.str r0.2.1), .va (.tup (dIs r0.2.2)), .va (.lst ([(r0.1, Str.ofString "anothert", r0.2.2), (r0.1, r0.2.1, List.replicate r0.2.2.length 77), (r0.1, r0.2.1, (r0.2.2 ++ [1, 1]).take 3), (Str.ofString "zz", r0.2.1, r0.2.2)].map dRow)), .va (dRow (r0.1, rl.2)), .no]) (s_ifK (b := !decide ((r0.1, rl.2) = r0) && hasB (sortR (r0 :: rt)) (dRow (r0.1, rl.2))) (et_andK (et_K (ev_opK (ev_var rfl) (r0E rfl) (neR okc))) fun _ => et_K (ev_inT (ps := r0 :: rt) (neg := false) (ev_var rfl) (ev_var rfl) hn gr (.inl (tame_row okc).1))) (fun e => ?_) fun _ => s_next ⟨rfl, rfl⟩) fun ρ1 n1 h1 => ?_
      · rw [Bool.and_eq_true, Bool.not_eq_true', decide_eq_false_iff_not, hasB_of okc, decide_eq_true_eq] at e
        exact absurd (nodup_fst gr.2.1.1 _ ((sortR_perm (r0 :: rt)).mem_iff.mp e.2) _ List.mem_cons_self rfl) e.1
      obtain ⟨rfl, rfl⟩ := h1
      -- turned
      refine s_seq (N := fun ρ' m => n = m ∧ ∃ y3, ρ' = [.va (.lst ((r0 :: rt).map dRow)), .ow rw_, .va (tI CT (r0 :: rt)), y3, .no, y5, .va (.str r0.1), .va (.str r0.2.1), .va (.tup (dIs r0.2.2)), .va (.lst ([(r0.1, Str.ofString "anothert", r0.2.2), (r0.1, r0.2.1, List.replicate r0.2.2.length 77), (r0.1, r0.2.1, (r0.2.2 ++ [1, 1]).take 3), (Str.ofString "zz", r0.2.1, r0.2.2)].map dRow)), .va (dRow (r0.1, rl.2)), .no]) ?_ fun ρ1 n1 h1 => ?_
      · refine s_for (ei_list (PL := fun ds => ds = [(r0.1, Str.ofString "anothert", r0.2.2), (r0.1, r0.2.1, List.replicate r0.2.2.length 77), (r0.1, r0.2.1, (r0.2.2 ++ [1, 1]).take 3), (Str.ofString "zz", r0.2.1, r0.2.2)].map dRow) (ev_var rfl) fun d e => ⟨_, e, rfl⟩) (fun ds i ρ' m => n = m ∧ ∃ y3, ρ' = [.va (.lst ((r0 :: rt).map dRow)), .ow rw_, .va (tI CT (r0 :: rt)), y3, .no, y5, .va (.str r0.1), .va (.str r0.2.1), .va (.tup (dIs r0.2.2)), .va (.lst ([(r0.1, Str.ofString "anothert", r0.2.2), (r0.1, r0.2.1, List.replicate r0.2.2.length 77), (r0.1, r0.2.1, (r0.2.2 ++ [1, 1]).take 3), (Str.ofString "zz", r0.2.1, r0.2.2)].map dRow)), .va (dRow (r0.1, rl.2)), .no] ∧ isOw (some y3) = false)
          (fun ds e => ⟨rfl, .no, rfl, rfl⟩) (fun ds e i d ρ' m hi inv => ?_) fun ds e ρ' m inv => ?_
        · obtain ⟨rfl, y3, rfl, o3⟩ := inv
          rw [e] at hi
          obtain ⟨q, hq, rfl⟩ := List.mem_map.mp (List.mem_of_getElem? hi)
          obtain ⟨okq, only⟩ := turnOk q hq
          refine ⟨_, _, eg_name (j := 3) o3, ?_⟩
          refine s_ifK (b := !decide (q = r0) && (hasB (sortR (r0 :: rt)) (dRow q) || decide (sortR [q] = sortR [r0]))) (et_andK (et_K (ev_opK (ev_var rfl) (r0E rfl) (neR okq))) fun _ => et_orK (et_K (ev_inT (ps := r0 :: rt) (neg := false) (ev_var rfl) (ev_var rfl) hn gr (.inl (tame_row okq).1))) fun _ => et_K (ev_eqTT G (ev_tab (rs := [q]) (ev_lstE (ea_one (ev_var rfl)) (by exact (by decide : (1 : Nat) ≤ 1000))) hn rfl (good_one okq) (tame_rows (rs := [q]) (good_one okq).1 (by exact (by decide : (1 : Nat) ≤ 1000))).2.1) (ev_tab (rs := [r0]) (ev_slL (ev_var rfl) eo_none (eo_some ev_int)) hn rfl (good_one okr) (tame_rows (rs := [r0]) (good_one okr).1 (by exact (by decide : (1 : Nat) ≤ 1000))).2.1) hn (good_one okq) (good_one okr))) (fun e => ?_) fun _ => s_next ⟨rfl, _, rfl, rfl⟩
          rw [Bool.and_eq_true, Bool.not_eq_true', decide_eq_false_iff_not, Bool.or_eq_true, hasB_of okq, decide_eq_true_eq, decide_eq_true_eq, sort_one, sort_one] at e
          rcases e.2 with h | h
          · exact absurd (only ((sortR_perm (r0 :: rt)).mem_iff.mp h)) e.1
          · exact absurd (List.cons.inj h).1 e.1
        · obtain ⟨rfl, y3, rfl, _⟩ := inv
          exact ⟨rfl, y3, rfl⟩
      obtain ⟨rfl, y3, rfl⟩ := h1
      -- less
      have grt : GoodR rt := good_sub (List.sublist_cons_self r0 rt) gr
      have trt := tame_rows grt.1 (by have := grt.2.2; omega)
      have cut1 : Pl.cutD ((r0 :: rt).map dRow) (some 1) none = rt.map dRow := by
        have := cut_suf (l := (r0 :: rt).map dRow) (k := 1) (by rw [List.length_map]; exact Nat.succ_le_succ (Nat.zero_le _))
        rw [show ((1 : Nat) : Int) = 1 from rfl] at this
        rw [this]
        rfl
      refine s_seq (N := fun ρ' m => n = m ∧ ρ' = [.va (.lst ((r0 :: rt).map dRow)), .ow rw_, .va (tI CT (r0 :: rt)), y3, .no, y5, .va (.str r0.1), .va (.str r0.2.1), .va (.tup (dIs r0.2.2)), .va (.lst ([(r0.1, Str.ofString "anothert", r0.2.2), (r0.1, r0.2.1, List.replicate r0.2.2.length 77), (r0.1, r0.2.1, (r0.2.2 ++ [1, 1]).take 3), (Str.ofString "zz", r0.2.1, r0.2.2)].map dRow)), .va (dRow (r0.1, rl.2)), .va (tI CT rt)]) (s_set (ev_tab (rs := rt) (x := .lst (rt.map dRow)) (ev_is (ev_slL (ev_callK (ea_one (ev_var rfl)) (ck_list rfl)) (eo_some ev_int) eo_none) (by rw [cut1])) hn rfl grt trt.2.1) rfl fun d e => ⟨rfl, by rw [e]; rfl⟩) fun ρ1 n1 h1 => ?_
      obtain ⟨rfl, rfl⟩ := h1
      have lne : ∀ {a b : List Row}, a.length ≠ b.length → decide (sortR a = sortR b) = false := fun {a b} h => decide_eq_false fun z => h (by rw [← sort_len a, ← sort_len b, z])
      refine s_ret (ev_andK (a := !decide (sortR (r0 :: rt) = sortR rt)) (ev_neTT G (ev_var rfl) (ev_var rfl) hn gr grt) fun _ => ev_andK (a := !decide (sortR rt = sortR (r0 :: rt))) (ev_neTT G (ev_var rfl) (ev_var rfl) hn grt gr) fun _ => ev_andK (a := !decide (sortR [] = sortR (r0 :: rt))) (b := true) (ev_neTT G (ev_tab (rs := []) (ev_lstE ea_nil (Nat.zero_le _)) hn rfl ⟨fun r h => (by cases h), good_nil, by exact Nat.zero_le _⟩ rfl) (ev_var rfl) hn ⟨fun r h => (by cases h), good_nil, by exact Nat.zero_le _⟩ gr) fun _ => ev_neTo G (ev_var rfl) (ev_var rfl) hn gr rfl) fun d e => ?_
      rw [e, lne (by simp), lne (by simp), lne (by simp)]
      exact fin

    · obtain ⟨a, ha, rfl⟩ := List.mem_map.mp hd
      exact (tame_row (gr.1 a ha)).1
    · obtain ⟨a, ha, rfl⟩ := List.mem_map.mp hd
      exact (tame_row (gr.1 a ha)).2
end
end K14
/-! text K14o -/
set_option Elab.async false
set_option linter.all false
set_option maxRecDepth 100000
set_option maxHeartbeats 4000000
set_option exponentiation.threshold 5000
namespace K14
open PySem PySem.Spec PyProof.Rows L2 Pl PlS

/-- of the script at a: a new source -/
def spSrc (K : PySem.W.Frag) : Sp := fun vs H Q _ => ∃ a, ∃ ns : List Int, vs = [.ref a] ∧ SqL K H a (ns.map V.int) ∧ ∀ s c H', H s = none → H c = none → (∀ b o, H b = some o → H' b = some o) → Src s c 0 H' → Q (.ref s) H'
theorem dp_ints {K : PySem.W.Frag} {H : Hp} : ∀ qs : List Int, DpAll K H (qs.map V.int) (qs.map PyData.int)
  | [] => .nil
  | q :: qs => .cons (.int q) (dp_ints qs)
theorem lay_ints : ∀ qs : List Int, PyData.canLayAll0 (qs.map PyData.int) = true ∧ PyData.depthAll (qs.map PyData.int) = 0
  | [] => ⟨rfl, rfl⟩
  | q :: qs => by
    obtain ⟨h1, h2⟩ := lay_ints qs
    refine ⟨?_, ?_⟩
    · show (true && PyData.canLayAll0 (qs.map PyData.int)) = true
      rw [h1]
      rfl
    · show max 0 (PyData.depthAll (qs.map PyData.int)) = 0
      rw [h2]
      rfl
theorem shaped_ints (qs : List Int) : SeqAt.shaped (.list (qs.map PyData.int)) = true := by
  obtain ⟨h1, h2⟩ := lay_ints qs
  show (PyData.canLayAll0 (qs.map PyData.int) && decide (PyData.depthAll (qs.map PyData.int) + 1 ≤ 64)) = true
  rw [h1, h2]
  rfl
theorem cut_ints (ns : List Int) : cutV (ns.map V.int) none (some 63) = (ns.take 63).map V.int := by
  unfold cutV
  rw [HT.sIx_none, show ((63 : Int)) = ((63 : Nat) : Int) from rfl, HT.sIx_nat, List.drop_zero, Nat.sub_zero, List.length_map, List.map_take]
  by_cases q : 63 ≤ ns.length
  · rw [Nat.min_eq_left q]
  · rw [Nat.min_eq_right (by omega), List.take_of_length_le (by rw [List.length_map]; omega), List.take_of_length_le (by rw [List.length_map]; omega)]
def MX : Int := (10 ^ (60 : Int).toNat) ^ (20 : Int).toNat
theorem mx_pos : 0 < MX := by decide +kernel
theorem mx_small : MX.natAbs < 2 ^ 4000 := by decide +kernel
theorem wd_mx (x : Int) : Wd (x % MX) := by
  have h1 := Int.emod_nonneg x (Int.ne_of_gt mx_pos)
  have h2 := Int.emod_lt_of_pos x mx_pos
  have h3 := mx_small
  unfold Wd
  omega
theorem wd_small {x : Int} (h : (if x < 0 then -x else x) < 10 ^ (18 : Int).toNat) : Wd x := by
  have e : (10 : Int) ^ (18 : Int).toNat = 1000000000000000000 := by decide
  rw [e] at h
  have : x.natAbs < 2 ^ 60 := by
    have e2 : (2 : Nat) ^ 60 = 1152921504606846976 := by decide
    split at h <;> omega
  exact wd_of this (by decide)
section
variable {P : Program} {w : World} {K : PySem.W.Frag} {mg : Str → Option Value} {base : Heap} {A : Adr}
theorem ok__law_source (T : Txt A K mg) : FnOk P w K mg base CX0 1 A.f__law_source A.fd__law_source ["script"] (spSrc K) := by
  refine T.F__law_source.ok sc__law_source (fun vs H Q E h => ?_) (fun cdv A' outer st H vs Q E hr h => have hw : _ := hr.units; ⟨_, (pss_cons (ps_set (i := 1) sc__law_source.nd rfl (by first | exact Or.inl rfl | exact Or.inr rfl) (pe_slice (k_sl K) (pv 0) po_none (po_some pe_int)))
      (pss_cons (ps_for PassesOwn.never rfl (pi_range1 rfl T.m_range (pa_cons (pe_callB (k_len K) (by rfl) T.m_len (by decide +kernel) (pa_cons (pv 1) pa_nil)) pa_nil)) (pg_name (i := 2) sc__law_source.nd rfl (by first | exact Or.inl rfl | exact Or.inr rfl)) (pss_one (ps_if (pt_cmpR op_ge (pe_callB call_abs (by rfl) T.m_abs (by decide +kernel) (pa_cons (pe_ix (k_ix K) (pv 1) (pv 2) (fun _ _ => rfl)) pa_nil)) (pe_op op_powW pe_int pe_int) (nomark _)) (pss_one (ps_asg (pe_op op_mod (pe_callTy call_int1 (by rfl) T.m_int (by decide +kernel) (pa_cons (pe_ix (k_ix K) (pv 1) (pv 2) (fun _ _ => rfl)) pa_nil)) (pe_op op_powW (pe_op op_powW pe_int pe_int) pe_int)) (pg_sub (pv 1) (pv 2) set_list))) pss_nil)))
      (pss_cons (ps_if (pt_cmpR (k_eqA hw) (pv 1) (pe_lst pa_nil) (nomark _)) (pss_one (ps_set (i := 1) sc__law_source.nd rfl (by first | exact Or.inl rfl | exact Or.inr rfl) (pe_lst (pa_cons pe_int pa_nil)))) pss_nil)
      (pss_one (ps_ret (pe_lst (pa_cons (pv 1) (pa_cons pe_int pa_nil)))))))), ?_⟩)
  · obtain ⟨a, ns, rfl, _⟩ := h
    rfl
  · obtain ⟨a, ns, rfl, hs, q⟩ := h
    refine ⟨.ref a, rfl, 63, rfl, .inl ⟨a, _, rfl, hs, fun p hp => ?_⟩⟩
    rw [cut_ints]
    have old : ∀ {o : HO} b u, H b = some u → upd H p o b = some u := fun {o} b u e => by
      rw [upd_ne (ne_of_none e hp)]
      exact e
    have len63 : (ns.take 63).length ≤ 63 := by rw [List.length_take]; omega
    generalize hL : (ns.take 63).length = L at len63
    refine ⟨.ref p, rfl, .inl ⟨p, _, rfl, .inl (SqL.of upd_same), ((ns.take 63).map V.int).length, rfl, by omega, by rw [List.length_map, hL]; omega, ?_⟩⟩
    rw [List.length_map, hL, Int.toNat_natCast]
    refine ⟨fun i m σ' H' => ∃ (qs : List Int) (y : Option V), σ' = [some (.ref a), some (.ref p), y] ∧ H' = upd H p (.lst (qs.map V.int)) ∧ qs.length = L ∧ (∀ j, j < i → ∀ x, qs[j]? = some x → Wd x) ∧ i ≤ L ∧ m = L - i, ⟨L, ns.take 63, none, rfl, rfl, hL, fun j hj => absurd hj (Nat.not_lt_zero j), Nat.zero_le _, rfl⟩, ?_⟩
    rintro i m σ' H' ⟨qs, y, rfl, rfl, hl, hw', hi, rfl⟩
    by_cases hlt : i < L
    · refine .inr ⟨hlt, fun σ2 H2 => ∃ (qs : List Int) (y : Option V), σ2 = [some (.ref a), some (.ref p), y] ∧ H2 = upd H p (.lst (qs.map V.int)) ∧ qs.length = L ∧ (∀ j, j < i + 1 → ∀ x, qs[j]? = some x → Wd x), fun σ2 H2 z => ?_, fun v H2 yl => ?_⟩
      · obtain ⟨qs, y, rfl, rfl, h1, h2⟩ := z
        exact ⟨L - (i + 1), by omega, qs, y, rfl, rfl, h1, h2, hlt, rfl⟩
      · obtain ⟨rfl, rfl⟩ := yl
        obtain ⟨x, hx⟩ : ∃ x, qs[i]? = some x := ⟨qs[i], List.getElem?_eq_getElem (by omega)⟩
        have hxV : (qs.map V.int)[i]? = some (.int x) := by rw [List.getElem?_map, hx]; rfl
        have at_ : atI (qs.map V.int) (0 + (i : Nat)) = some (.int x) := by rw [Int.zero_add]; exact atI_nat hxV
        have rdC : SqL K (upd H p (.lst (qs.map V.int))) p (qs.map V.int) := SqL.of upd_same
        refine ⟨.ref p, rfl, .int (0 + (i : Nat)), rfl, .inl ⟨p, _, _, .int x, rfl, rfl, rdC, at_, x, rfl, 10, 18, rfl, rfl, ⟨by decide, by decide +kernel⟩, _, _, rfl, rfl, _, rfl, ite2 (fun h => ?_) fun h => ?_⟩⟩
        · refine ⟨.ref p, rfl, .int (0 + (i : Nat)), rfl, .inl ⟨p, _, _, .int x, rfl, rfl, rdC, at_, .inl ⟨x, rfl, 10, 60, rfl, rfl, ⟨by decide, by decide +kernel⟩, _, 20, rfl, rfl, ⟨by decide, by decide +kernel⟩, x, MX, rfl, rfl, mx_pos, .ref p, rfl, .int (0 + (i : Nat)), rfl, p, _, _, i, rfl, rfl, upd_same, ?_, ?_⟩⟩⟩
          · rw [Int.zero_add]
            unfold ixN
            rw [List.length_map, hl, if_pos (by omega), if_pos (by omega)]
            rfl
          · refine ⟨qs.set i (x % MX), _, rfl, ?_, by rw [List.length_set]; exact hl, fun j hj z hz => ?_⟩
            · rw [List.map_set]
              funext b
              by_cases e : b = p
              · rw [e, upd_same, upd_same]
              · rw [upd_ne e, upd_ne e, upd_ne e]
            · by_cases e : i = j
              · subst e
                rw [List.getElem?_set_self (by omega)] at hz
                cases hz
                exact wd_mx x
              · rw [List.getElem?_set_ne e] at hz
                exact hw' j (by omega) z hz
        · refine ⟨qs, _, rfl, rfl, hl, fun j hj z hz => ?_⟩
          by_cases e : j = i
          · subst e
            rw [hx] at hz
            cases hz
            exact wd_small (Int.not_le.mp fun z => h (decide_eq_true z))
          · exact hw' j (by omega) z hz
    · have e : i = L := by omega
      subst e
      refine .inl ⟨Nat.le_refl _, ?_⟩
      have wide : ∀ x ∈ qs, Wd x := fun x hx => by
        obtain ⟨j, hj⟩ := List.getElem?_of_mem hx
        have := (List.getElem?_eq_some_iff.mp hj).1
        exact hw' j (by omega) x hj
      refine ⟨.ref p, rfl, Nat.zero_le _, fun r hr => ?_⟩
      have rp : r ≠ p := fun z => by rw [z, upd_same] at hr; cases hr
      have r0 : H r = none := by rw [upd_ne rp] at hr; exact hr
      refine .inl ⟨.list (qs.map PyData.int), .list [], .lst (SqL.of (by rw [upd_ne (Ne.symm rp)]; exact upd_same)) (dp_ints qs), .lst (SqL.of upd_same) .nil, shaped_ints qs, rfl, _, rfl, ite2 (fun h => ?_) fun h => ?_⟩
      · refine ⟨by decide, fun c hc => ?_⟩
        have cr : c ≠ r := fun z => by rw [z, upd_same] at hc; cases hc
        have cp : c ≠ p := fun z => by rw [z, upd_ne (Ne.symm rp), upd_same] at hc; cases hc
        have c0 : H c = none := by rw [upd_ne cr, upd_ne cp] at hc; exact hc
        refine ⟨.ref c, rfl, by show 2 ≤ sizeLine; decide, fun s hs' => ?_⟩
        have sc : s ≠ c := fun z => by rw [z, upd_same] at hs'; cases hs'
        have sr : s ≠ r := fun z => by rw [z, upd_ne (Ne.symm cr), upd_same] at hs'; cases hs'
        have sp : s ≠ p := fun z => by rw [z, upd_ne (Ne.symm cp), upd_ne (Ne.symm rp), upd_same] at hs'; cases hs'
        have s0 : H s = none := by rw [upd_ne sc, upd_ne sr, upd_ne sp] at hs'; exact hs'
        refine q s c _ s0 c0 (fun b o e => ?_) ⟨sc, 0, [0], upd_same, by rw [upd_ne (Ne.symm sc)]; exact upd_same, by simp, by decide, fun x hx => ?_, Int.le_refl _, Int.le_refl _⟩
        · rw [upd_ne (ne_of_none e s0), upd_ne (ne_of_none e c0), upd_ne (ne_of_none e r0), upd_ne (ne_of_none e hp)]
          exact e
        · rw [List.mem_singleton.mp hx]
          exact wd_of (k := 1) (by decide) (by decide)
      · refine ⟨.ref p, rfl, by show 2 ≤ sizeLine; decide, fun s hs' => ?_⟩
        have sr : s ≠ r := fun z => by rw [z, upd_same] at hs'; cases hs'
        have sp : s ≠ p := fun z => by rw [z, upd_ne (Ne.symm rp), upd_same] at hs'; cases hs'
        have s0 : H s = none := by rw [upd_ne sr, upd_ne sp] at hs'; exact hs'
        refine q s p _ s0 hp (fun b o e => ?_) ⟨sp, 0, qs, upd_same, by rw [upd_ne (Ne.symm sp), upd_ne (Ne.symm rp)]; exact upd_same, fun z => ?_, by omega, wide, Int.le_refl _, Int.le_refl _⟩
        · rw [upd_ne (ne_of_none e s0), upd_ne (ne_of_none e r0), upd_ne (ne_of_none e hp)]
          exact e
        · rw [z] at h
          exact absurd h (by decide)
end

end K14
/-! text K14L -/
set_option Elab.async false
set_option linter.all false
set_option maxRecDepth 100000
set_option maxHeartbeats 4000000
set_option exponentiation.threshold 5000
namespace K14
open PySem PySem.Spec PyProof.Rows L2 Pl PlS
open ClX

theorem err_lits (x : D) : errT x = E1 "rows" ∨ (∃ z ∈ ([Str.ofString "row", Str.ofString "name", Str.ofString "places", Str.ofString "repeated"] : List Str), ∃ k, errT x = E2 z k) ∨ errT x = .non := by
  have hS : ∀ (k : Nat) (rs : List Row) (d e : D), stepE k rs d = some e → ∃ z ∈ ([Str.ofString "row", Str.ofString "name", Str.ofString "places", Str.ofString "repeated"] : List Str), ∃ k, e = E2 z k := fun k rs d e h => by
    unfold stepE at h
    split at h
    · cases h; exact ⟨_, by simp, _, rfl⟩
    · split at h
      · cases h; exact ⟨_, by simp, _, rfl⟩
      · split at h
        · cases h; exact ⟨_, by simp, _, rfl⟩
        · split at h
          · cases h; exact ⟨_, by simp, _, rfl⟩
          · cases h
  have hR : ∀ (l : List D) (rs : List Row) (k : Nat), (∃ z ∈ ([Str.ofString "row", Str.ofString "name", Str.ofString "places", Str.ofString "repeated"] : List Str), ∃ j, errR rs k l = E2 z j) ∨ errR rs k l = .non := fun l => by
    induction l with
    | nil => exact fun _ _ => .inr rfl
    | cons d l ih =>
      intro rs k
      cases q : stepE k rs d with
      | some e =>
        obtain ⟨z, hz, j, rfl⟩ := hS k rs d e q
        exact .inl ⟨z, hz, j, errR_hit q⟩
      | none =>
        have e : errR rs k (d :: l) = errR (rs ++ [unR d]) (k + 1) l := by
          show (match stepE k rs d with | some e => e | none => errR (rs ++ [unR d]) (k + 1) l) = _
          rw [q]
        rw [e]
        exact ih _ _
  unfold errT
  cases seqD x with
  | none => exact .inl rfl
  | some l =>
    show (if 6 < (l.length : Int) then E1 "rows" else errR [] 0 l) = _ ∨ _
    by_cases h : 6 < (l.length : Int)
    · exact .inl (if_pos h)
    · refine .inr ?_
      show (∃ z ∈ _, ∃ k, (if 6 < (l.length : Int) then E1 "rows" else errR [] 0 l) = E2 z k) ∨ (if 6 < (l.length : Int) then E1 "rows" else errR [] 0 l) = .non
      rw [if_neg h]
      exact hR l [] 0
theorem err_ok (x : D) : plain (errT x) = true ∧ SeqAt.shaped (py (errT x)) = true ∧ PyData.eqv (py (errT x)) (py (errT x)) = true := by
  have fin : ∀ z : D, plain z = true → SeqAt.shaped (py z) = true → plain z = true ∧ SeqAt.shaped (py z) = true ∧ PyData.eqv (py z) (py z) = true := fun z h1 h2 => ⟨h1, h2, SeqAt.eqv_refl _ (SeqAt.canLay_of_shaped h2)⟩
  have lits : ∀ z ∈ ([Str.ofString "row", Str.ofString "name", Str.ofString "places", Str.ofString "repeated"] : List Str), PyData.strOk z = true := by decide +kernel
  have two : ∀ z (k : Nat), PyData.strOk z = true → SeqAt.shaped (py (E2 z k)) = true := fun z k h => by
    show ((PyData.strOk z && (true && true)) && decide (max 0 (max 0 0) + 1 ≤ 64)) = true
    rw [h]
    rfl
  rcases err_lits x with e | ⟨z, hz, k, e⟩ | e
  · rw [e]
    exact fin _ rfl (by decide +kernel)
  · rw [e]
    exact fin _ rfl (two z k (lits z hz))
  · rw [e]
    exact fin _ rfl rfl
theorem k_reprX {X : Cx} {K : PySem.W.Frag} (hg : X.A.guards = some []) (hu : X.A.units + 66 < cLine) (h : X.K = K := by rfl) : CallR X (.builtin "repr") (rReprX K) := by subst h; exact call_reprX hg hu
/-- rows as the law makes them -/
structure RowsF (x : D) : Prop where
  ex : okX x
  rows : ∀ CT, rowsOk CT x
  rp : ∀ (K : PySem.W.Frag) (s c : Addr), CK K s c (rReprX K) [x] (.str (reprD x))
  zz : ∀ l, seqD x = some l → ∀ d ∈ l, zzB d = false
theorem rowsF {x : D} (h : okR x) : RowsF x := by
  rcases h with ⟨h, l, hl, hz⟩ | rfl | rfl | ⟨t, rfl, t4, tt, tr⟩ | rfl
  · have it : isTup x = true ∨ isLst x = true := by
      rcases hl with rfl | rfl
      · exact .inl rfl
      · exact .inr rfl
    refine ⟨.inl ⟨h.1, Nat.le_trans h.2.1 (by decide)⟩, fun _ => .inl h.1, fun K s c => ?_, fun l' e d hd => ?_⟩
    · have z := ck_reprX (ck_reprOk (K := K) (s := s) (c := c) (ok_le h (by decide : 4 ≤ 5)) it)
      rcases hl with rfl | rfl <;> exact z
    · rcases hl with rfl | rfl <;> (cases e; exact hz d hd)
  · exact ⟨.inl ⟨rfl, Nat.zero_le _⟩, fun _ => .inl rfl, fun _ _ _ => ck_reprN, fun l e => by cases e⟩
  · exact ⟨.inl ⟨rfl, Nat.zero_le _⟩, fun _ => .inl rfl, fun _ _ _ => ck_reprI (i := 7) (by decide), fun l e => by cases e⟩
  · exact ⟨.inl ⟨tt, Nat.zero_le _⟩, fun _ => .inl tt, fun _ _ _ => ck_reprS (Nat.le_trans tr (by decide)), fun l e => by cases e⟩
  · exact ⟨.inr ⟨_, _, rfl⟩, fun _ => .inr (.inl ⟨_, _, rfl⟩), fun _ _ _ => ck_reprE, fun l e => by cases e⟩
theorem okR_db {rs : List Row} (h : ∀ r ∈ rs, okRL r) (h7 : rs.length ≤ 7) : okR (.lst (rs.map dRow)) := by
  have hq : ∀ d ∈ rs.map dRow, Q3 d := fun d hd => by
    obtain ⟨r, hr, rfl⟩ := List.mem_map.mp hd
    exact ok_row (h r hr)
  exact .inl ⟨ok_lst (k := 3) (fun d hd => (hq d hd).1) ⟨by rw [List.length_map]; omega, Nat.le_trans (Nat.mul_le_mul_right _ (show (rs.map dRow).length ≤ 7 by rw [List.length_map]; exact h7)) (by decide)⟩, _, .inr rfl, fun d hd => (hq d hd).2⟩
theorem ev_isN {K : PySem.W.Frag} {s c : Addr} {te : TE} {ρ : List Sl} {n n1 : Nat} {d : D} {b : Bool} (h : EvE K s c te ρ n n1 (fun x => x = d)) (hb : ∀ M H v, Rep K M H d v → decide (v = .non) = b) : EvE K s c (tIsN te) ρ n n1 (fun x => x = .bl b) := fun M0 H0 O σ H Q I k =>
  h M0 H0 O σ H _ I fun v H1 x g s1 r p => by
    subst p
    rw [hb _ _ _ r]
    exact k _ H1 (.bl b) g s1 rfl rfl
def isNonD : D → Bool | .non => true | _ => false
theorem err_isN {K : PySem.W.Frag} (x : D) : ∀ M H v, Rep K M H (errT x) v → decide (v = .non) = isNonD (errT x) := fun M H v r => by
  by_cases h : errT x = .non
  · rw [h] at r ⊢
    have r : v = .non := r
    rw [r]
    rfl
  · rw [decide_eq_false (err_ref h r)]
    rcases err_form x with ⟨l, e⟩ | e
    · rw [e]; rfl
    · exact absurd e h
def spLaw (K : PySem.W.Frag) : Sp := fun vs H Q _ => ∃ a, ∃ ns : List Int, vs = [.ref a] ∧ SqL K H a (ns.map V.int) ∧ ∀ H', Q (.bl true) H'
section
variable {P : Program} {w : World} {K : PySem.W.Frag} {mg : Str → Option Value} {base : Heap} {A : Adr} {CT fT CE fE CM rr gr rn gn fl fc fe : Addr} {mcT : Value} {dT dE dr dn dl dc de : FuncData}
theorem runs_law (T : Txt A K mg) (G : CTxt K mg CT mcT) (U : QTxt K mg CT fT CE fE dT dE) (M : MTxt K CT rr gr rn gn fl fc fe dr dn dl dc de) (V : VTxt K mg CE CM) (room : Room 12 callerA) : RunsAt P w K mg base callerA A.f_law A.fd_law ["script"] (spLaw K) := by
  have G__law_parts_hold := ok__law_parts_hold (P := P) (w := w) (base := base) T G U M
  have G__law_expected := ok__law_expected (P := P) (w := w) (base := base) T
  have G__law_raised := ok__law_raised (P := P) (w := w) (base := base) T G U V
  have G__law_changed := ok__law_changed (P := P) (w := w) (base := base) T
  have G__law_database := ok__law_database (P := P) (w := w) (base := base) T
  have G__law_shapes := ok__law_shapes (P := P) (w := w) (base := base) T
  have G__law_source := ok__law_source (P := P) (w := w) (base := base) T
  refine runs_at (k := 11) T.F_law sc_law room (fun vs H Q E h => ?_) (fun cdv st H vs Q hr h => have hw : _ := hr.units; have hgd : (callerA.deeper (envOfC "law" (defScope s_law) st.heap.objs.size A.f_law cdv)).guards = some [] := rfl; have hun : (callerA.deeper (envOfC "law" (defScope s_law) st.heap.objs.size A.f_law cdv)).units + 66 < cLine := (by have := hr.un; omega); ⟨_, (pss_cons (ps_set (i := 1) sc_law.nd rfl (by first | exact Or.inl rfl | exact Or.inr rfl) (pe_call G__law_source (hr.mono (by decide)) (by rfl) T.m__law_source T.F__law_source.kp T.b__law_source .nil pass0 (pa_cons (pv 0) pa_nil)))
      (pss_cons (ps_if (PW.pt (pw_or (pt_cmpR (k_neA hw) (k_cval (K := K) (pe_glob (v := .ref CT) rfl G.gT rfl)) pe_int (nomark _)) (pw_or1 (pt_cmpR (k_neA hw) (pe_call G__law_raised (hr.mono (by decide)) (by rfl) T.m__law_raised T.F__law_raised.kp T.b__law_raised .nil pass0 (pa_cons (pe_make (E := fun _ _ _ => False) U.kT (ok_t_init T G U) (hr.mono (by decide)) (by rfl) G.gT U.bT .nil pass_no (pa_cons (pe_lst pa_nil) pa_nil)) pa_nil)) (pe_tup (pa_cons pe_str pa_nil)) (nomark _))))) (pss_one (ps_ret pe_bl)) pss_nil)
      (pss_cons (ps_for PassesOwn.never rfl (pi_range1 rfl T.m_range (pa_cons pe_int pa_nil)) (pg_name (i := 2) sc_law.nd rfl (by first | exact Or.inl rfl | exact Or.inr rfl)) (pss_cons (ps_set (i := 3) sc_law.nd rfl (by first | exact Or.inl rfl | exact Or.inr rfl) (pe_call G__law_shapes (hr.mono (by decide)) (by rfl) T.m__law_shapes T.F__law_shapes.kp T.b__law_shapes .nil pass0 (pa_cons (pv 1) pa_nil)))
      (pss_cons (ps_set (i := 4) sc_law.nd rfl (by first | exact Or.inl rfl | exact Or.inr rfl) (pe_call G__law_database (hr.mono (by decide)) (by rfl) T.m__law_database T.F__law_database.kp T.b__law_database .nil pass0 (pa_cons (pv 1) (pa_cons (pv 3) (pa_cons pe_int pa_nil)))))
      (pss_cons (ps_if (pt_cmpR op_gt (pe_op op_mod (pe_callTy call_int1 (by rfl) T.m_int (by decide +kernel) (pa_cons (pv 2) pa_nil)) pe_int) pe_int (nomark _)) (pss_one (ps_set (i := 4) sc_law.nd rfl (by first | exact Or.inl rfl | exact Or.inr rfl) (pe_call G__law_changed (hr.mono (by decide)) (by rfl) T.m__law_changed T.F__law_changed.kp T.b__law_changed .nil pass0 (pa_cons (pv 1) (pa_cons (pv 3) (pa_cons (pv 4) pa_nil)))))) pss_nil)
      (pss_cons (ps_set (i := 5) sc_law.nd rfl (by first | exact Or.inl rfl | exact Or.inr rfl) (pe_callB (k_reprX (K := K) hgd hun) (by rfl) T.m_repr (by decide +kernel) (pa_cons (pv 4) pa_nil)))
      (pss_cons (ps_if (PW.pt (pw_or (pt_cmpR (k_neA hw) (pe_call G__law_raised (hr.mono (by decide)) (by rfl) T.m__law_raised T.F__law_raised.kp T.b__law_raised .nil pass0 (pa_cons (pv 4) pa_nil)) (pe_call G__law_expected (hr.mono (by decide)) (by rfl) T.m__law_expected T.F__law_expected.kp T.b__law_expected .nil pass0 (pa_cons (pv 4) pa_nil)) (nomark _)) (pw_or1 (pt_cmpR (k_neA hw) (pe_callB (k_reprX (K := K) hgd hun) (by rfl) T.m_repr (by decide +kernel) (pa_cons (pv 4) pa_nil)) (pv 5) (nomark _))))) (pss_one (ps_ret pe_bl)) pss_nil)
      (pss_one (ps_if (PW.pt (pw_and (pt_cmp (pc_isN (pe_call G__law_expected (hr.mono (by decide)) (by rfl) T.m__law_expected T.F__law_expected.kp T.b__law_expected .nil pass0 (pa_cons (pv 4) pa_nil))) rfl) (pw_and1 (pt_not (pt_val (pe_call G__law_parts_hold (hr.mono (by decide)) (by rfl) T.m__law_parts_hold T.F__law_parts_hold.kp T.b__law_parts_hold .nil pass0 (pa_cons (pe_callTy (k_list K) (by rfl) T.m_list (by decide +kernel) (pa_cons (pv 4) pa_nil)) pa_nil))))))) (pss_one (ps_ret pe_bl)) pss_nil))))))))
      (pss_one (ps_ret pe_bl))))), ?_⟩)
  · obtain ⟨a, ns, rfl, _⟩ := h
    rfl
  · obtain ⟨a, ns, rfl, hS, q⟩ := h
    refine ⟨.ref a, rfl, a, ns, rfl, hS, fun s c H' hs hc keep src => ?_⟩
    have I0 : Ok K s c [s, c] H' [] [.va (.obj a), .no, .no, .no, .no, .no] 0 (L2.start ["script", "source", "repeat", "shapes", "rows", "before"] [.ref a]) H' := ⟨⟨by simp, by simp⟩, fun b hb => by
      rcases List.mem_cons.mp hb with e | hb
      · exact .inl e
      · exact .inr (.inl (List.mem_singleton.mp hb)), src, Gr.refl _ _, fun o ho => by simp at ho, List.nodup_nil, ⟨rfl, trivial⟩⟩
    refine eg_name (K := K) (s := s) (c := c) (j := 1) (d := .obj s) rfl [s, c] H' [] 0 _ H' (.ref s) _ I0 rfl fun σ2 I _ => ?_
    dsimp only
    refine (?_ : EvS K s c _ [.va (.obj a), .va (.obj s), .no, .no, .no, .no] 0 ⟨fun _ _ => False, fun d _ => d = .bl true, fun _ _ => False, fun _ _ => False⟩) [s, c] H' [] σ2 H' _ I ⟨fun _ _ _ _ _ _ z => z.elim, fun v H2 d n' _ _ r e => ?_, fun _ _ _ _ _ _ z => z.elim, fun _ _ _ _ _ _ z => z.elim⟩
    · have raisedE : ∀ {ρ : List Sl} {n n1 : Nat} {t : TE} {x : D}, rowsOk CT x → n1 ≤ 2 ^ 40 → EvE K s c t ρ n n1 (fun d => d = x) → EvE K s c (tCall (Pr K (preErr CT) 0 postErr) [] E0 (tCons t tNil)) ρ n n1 (fun d => d = errT x) := fun hx hn h => ev_defK (ea_one h) hn ⟨_, rfl, hx⟩ fun d h => by
        obtain ⟨x', e, rfl⟩ := h
        cases e
        rfl
      have expE : ∀ {ρ : List Sl} {n n1 : Nat} {t : TE} {x : D}, okX x → n1 ≤ 2 ^ 40 → EvE K s c t ρ n n1 (fun d => d = x) → EvE K s c (tCall (Pr K preX 0 postErr) [] E0 (tCons t tNil)) ρ n n1 (fun d => d = errT x) := fun hx hn h => ev_defK (ea_one h) hn ⟨_, rfl, hx⟩ fun d h => by
        obtain ⟨x', e, rfl⟩ := h
        cases e
        rfl
      have g0 : GoodR [] := ⟨fun r h => (by cases h), good_nil, by exact Nat.zero_le _⟩
      -- the class attribute, and tables of tables
      refine s_seq (N := fun ρ' m => m = 0 ∧ ρ' = [.va (.obj a), .va (.obj s), .no, .no, .no, .no]) (s_ifK (b := !decide ((6 : Int) = 6) || !PyData.eqv (py (E1 "rows")) (py (E1 "rows"))) (et_orK (et_K (ev_opK (ev_most G) ev_int rk_neI)) fun _ => et_K (ev_opK (x := E1 "rows") (y := E1 "rows") (EvE.imp (raisedE (x := tI CT []) (.inr (.inr ⟨_, _, rfl⟩)) (by decide) (ev_tab (rs := []) (ev_lstE ea_nil (Nat.zero_le _)) (by decide) rfl g0 rfl)) fun d e => e) (ev_tupE (ea_one ev_str) (by exact (by decide : (1 : Nat) ≤ 1000))) (rk_neD rfl rfl (by decide +kernel) (by decide +kernel)))) (fun e => ?_) fun _ => s_next ⟨rfl, rfl⟩) fun ρ1 n1 h1 => ?_
      · exact absurd e (by decide +kernel)
      obtain ⟨rfl, rfl⟩ := h1
      refine s_seq (N := fun ρ' m => True) ?_ fun ρ1 n1 _ => s_ret ev_bl fun d e => e
      refine s_for (ei_rng1 (PL := fun ds => ds = dInts 0 20) (ea_one ev_int) fun l e => ⟨20, e, by decide, by decide, rfl⟩)
        (fun ds i ρ' m => m ≤ 341 * i ∧ ∃ y2 y3 y4 y5, ρ' = [.va (.obj a), .va (.obj s), y2, y3, y4, y5] ∧ isOw (some y2) = false ∧ isOw (some y3) = false ∧ isOw (some y4) = false ∧ isOw (some y5) = false)
        (fun ds e => ⟨Nat.zero_le _, .no, .no, .no, .no, rfl, rfl, rfl, rfl, rfl⟩) (fun ds e i d ρ' m hi inv => ?_) fun ds e ρ' m inv => trivial
      obtain ⟨hm, y2, y3, y4, y5, rfl, o2, o3, o4, o5⟩ := inv
      rw [e] at hi
      obtain ⟨il, rfl⟩ := ints_at' hi
      refine ⟨_, _, eg_name (j := 2) o2, ?_⟩
      -- shapes
      refine s_seq (N := fun ρ' u => u = m + 121 ∧ ∃ ps, ρ' = [.va (.obj a), .va (.obj s), .va (.int (0 + (i : Nat))), .va (.lst (ps.map dShape)), y4, y5] ∧ shapesOk ps ∧ ps ≠ [] ∧ ps.length ≤ 3)
        (s_set (P := fun d => ∃ l, l = [.obj s] ∧ postShapes s c l d) (ev_def (ea_c (ev_var rfl) ea_nil) (by omega) fun x e => e) o3 fun d h => ?_) fun ρ1 n1 h1 => ?_
      · obtain ⟨_, _, ps, rfl, h⟩ := h
        exact ⟨rfl, ps, rfl, h⟩
      obtain ⟨rfl, ps, rfl, shp, pne, p3⟩ := h1
      -- rows
      refine s_seq (N := fun ρ' u => u = m + 291 ∧ ∃ rs : List Row, ρ' = [.va (.obj a), .va (.obj s), .va (.int (0 + (i : Nat))), .va (.lst (ps.map dShape)), .va (.lst (rs.map dRow)), y5] ∧ (∀ r ∈ rs, okRL r) ∧ rs.length ≤ 7)
        (s_set (P := fun d => ∃ l, l = [.obj s, .lst (ps.map dShape), .int 7] ∧ postDb s c l d) (ev_def (n1 := m + 121) (A := fun l => l = [.obj s, .lst (ps.map dShape), .int 7]) (ea_c (ev_var rfl) (ea_c (ev_var rfl) (ea_one ev_int))) (by omega) fun l e => ⟨ps, e, shp, pne, p3⟩) o4 fun d h => ?_) fun ρ1 n1 h1 => ?_
      · obtain ⟨_, rfl, rs, rfl, h⟩ := h
        exact ⟨rfl, rs, rfl, h⟩
      obtain ⟨rfl, rs, rfl, hrs, h7⟩ := h1
      refine s_seq (N := fun ρ' u => u ≤ m + 341 ∧ ∃ x, ρ' = [.va (.obj a), .va (.obj s), .va (.int (0 + (i : Nat))), .va (.lst (ps.map dShape)), .va x, y5] ∧ okR x) (s_ifK (b := decide ((0 : Int) < (0 + (i : Nat)) % 4)) (et_K (ev_opK (ev_opK (ev_callK (ea_one (ev_var rfl)) ck_int) ev_int (rk_mod (by decide))) ev_int rk_gt)) (fun _ => ?_) fun _ => s_next ⟨by omega, _, rfl, okR_db hrs h7⟩) fun ρ1 n1 h1 => ?_
      · refine s_set (P := okR) (EvE.imp (ev_def (n1 := m + 291) (pre := preCh) (post := postCh) (A := fun l => l = [.obj s, .lst (ps.map dShape), .lst (rs.map dRow)]) (ea_c (ev_var rfl) (ea_c (ev_var rfl) (ea_one (ev_var rfl)))) (by omega) fun l e => ⟨ps, rs, e, hrs, h7⟩) fun d h => h.choose_spec.2) rfl fun d h => ⟨by omega, d, rfl, h⟩
      obtain ⟨hu, x, rfl, hx⟩ := h1
      have F := rowsF hx
      have hn : n1 ≤ 2 ^ 40 := by omega
      -- before
      refine s_seq (N := fun ρ' u => u = n1 ∧ ρ' = [.va (.obj a), .va (.obj s), .va (.int (0 + (i : Nat))), .va (.lst (ps.map dShape)), .va x, .va (.str (reprD x))]) (s_set (ev_callK (ea_one (ev_var rfl)) (F.rp K s c)) o5 fun d e => ⟨rfl, by rw [e]; rfl⟩) fun ρ1 n2 h1 => ?_
      obtain ⟨rfl, rfl⟩ := h1
      have er := err_ok x
      refine s_seq (N := fun ρ' u => u = n2 ∧ ρ' = [.va (.obj a), .va (.obj s), .va (.int (0 + (i : Nat))), .va (.lst (ps.map dShape)), .va x, .va (.str (reprD x))]) (s_ifK (b := !PyData.eqv (py (errT x)) (py (errT x)) || !decide (reprD x = reprD x)) (et_orK (et_K (ev_opK (raisedE (F.rows CT) hn (ev_var rfl)) (expE F.ex hn (ev_var rfl)) (rk_neD er.1 er.1 er.2.1 er.2.1))) fun _ => et_K (ev_opK (ev_callK (ea_one (ev_var rfl)) (F.rp K s c)) (ev_var rfl) rk_neS)) (fun e => ?_) fun _ => s_next ⟨rfl, rfl⟩) fun ρ1 n3 h1 => ?_
      · rw [er.2.2, decide_eq_true rfl] at e
        cases e
      obtain ⟨rfl, rfl⟩ := h1
      refine s_ifK (b := isNonD (errT x) && !true) (et_andK (et_BK (ev_isN (expE F.ex hn (ev_var rfl)) (err_isN x))) fun e => et_notK (et_BK ?_)) (fun e => ?_) fun _ => s_next ⟨by omega, _, _, _, _, rfl, rfl, rfl, rfl, rfl⟩
      · have none_ : errT x = .non := by
          cases h : errT x with
          | non => rfl
          | _ => rw [h] at e; cases e
        obtain ⟨rs2, hseq, gr⟩ := err_good.mp none_
        refine ev_defK (ea_one (ev_callK (ea_one (ev_var rfl)) (ck_list hseq))) hn ⟨rs2, rfl, gr, fun r hr z => ?_⟩ fun d h => h
        have := F.zz _ hseq (dRow r) (List.mem_map.mpr ⟨r, hr, rfl⟩)
        have this : (!decide (r.1 ≠ Str.ofString "zz")) = false := this
        rw [decide_eq_false (fun n => n z)] at this
        cases this
      · rw [Bool.not_true, Bool.and_false] at e
        cases e
    · subst e
      have r : v = .bl true := r
      subst r
      exact q _
end
end K14
/-! text K14E -/
set_option Elab.async false
set_option linter.all false
set_option maxRecDepth 100000
set_option maxHeartbeats 4000000
set_option exponentiation.threshold 5000
namespace K14
open PySem PySem.Spec PySem.Calls PySem.W PyProof.Rows L2 Pl PlS
theorem one_self {K : PySem.W.Frag} {v : Value} : PySem.W.kitOne K v v = some true := by
  unfold PySem.W.kitOne
  rw [if_pos (beq_self_eq_true v)]
theorem one_type {K : PySem.W.Frag} {C : Addr} {t : String} {b : Bool} (m : PySem.W.kitMeta t = true) (h : PySem.W.subIn K (.ref C) (.type t) = some b) : PySem.W.kitOne K (.ref C) (.type t) = some b := by
  show PySem.W.kitCls K (.ref C) (.type t) = some b
  show (if PySem.W.kitMeta t = true then PySem.W.subIn K (.ref C) (.type t) else none) = some b
  rw [if_pos m]
  exact h
theorem one_none {K : PySem.W.Frag} {C : Addr} (h1 : PySem.W.isClsIn K C = true) (h2 : PySem.W.typeIn K (.ref C) = some (.type "type")) (h : PySem.W.subIn K (.type "NoneType") (.ref C) = some false) : PySem.W.kitOne K (.type "NoneType") (.ref C) = some false := by
  show PySem.W.kitCls K (.type "NoneType") (.ref C) = some false
  have h1' : (PySem.W.clsIn K C).isSome = true := h1
  show (if ((PySem.W.clsIn K C).isSome && PySem.W.typeIn K (.ref C) == some (.type "type")) = true then PySem.W.subIn K (.type "NoneType") (.ref C) else none) = some false
  rw [h1', h2, if_pos (by rfl)]
  exact h
theorem one_own {K : PySem.W.Frag} {B C : Addr} (ne : (B == C) = false) (h1 : PySem.W.isClsIn K C = true) (h2 : PySem.W.typeIn K (.ref C) = some (.type "type")) (h : PySem.W.subIn K (.ref B) (.ref C) = some false) : PySem.W.kitOne K (.ref B) (.ref C) = some false := by
  have nv : (Value.ref B == Value.ref C) = false := by
    cases q : (Value.ref B == Value.ref C) with
    | false => rfl
    | true =>
      have e := Value.ref.inj (beq_iff_eq.mp q)
      rw [e, beq_self_eq_true] at ne
      cases ne
  unfold PySem.W.kitOne
  rw [if_neg (by rw [nv]; exact Bool.false_ne_true)]
  have h1' : (PySem.W.clsIn K C).isSome = true := h1
  show (if ((PySem.W.clsIn K C).isSome && PySem.W.typeIn K (.ref C) == some (.type "type")) = true then PySem.W.subIn K (.ref B) (.ref C) else none) = some false
  rw [h1', h2, if_pos (by rfl)]
  exact h
theorem all_mk {P : Program} {w : World} {K : PySem.W.Frag} {h : Heap} {mg : Str → Option Value} {fa f_is_plain_integer f_is_name f__tables_error f__is_row f__is_value f__law_source f__law_draw f__law_pick f__law_shuffle f__law_word f__law_shapes f__law_database f__law_is_word f__law_is_value f__law_is_row f__law_expected f__law_raised f__law_changed f__law_strange f__law_parts_hold f_law CE CM CT f_iti f_ti f_tr p_tr f_tn p_tn f_tl f_th f_te : Addr} {od_is_plain_integer an_is_plain_integer : Option Addr} {sl_is_plain_integer : Array (Option Value)} {oc_is_plain_integer kV_is_plain_integer dc_is_plain_integer pm_is_plain_integer cd_is_plain_integer ct_is_plain_integer : Value} {od_is_name an_is_name : Option Addr} {sl_is_name : Array (Option Value)} {oc_is_name kV_is_name dc_is_name pm_is_name cd_is_name ct_is_name : Value} {od__tables_error an__tables_error : Option Addr} {sl__tables_error : Array (Option Value)} {oc__tables_error kV__tables_error dc__tables_error pm__tables_error cd__tables_error ct__tables_error : Value} {od__is_row an__is_row : Option Addr} {sl__is_row : Array (Option Value)} {oc__is_row kV__is_row dc__is_row pm__is_row cd__is_row ct__is_row : Value} {od__is_value an__is_value : Option Addr} {sl__is_value : Array (Option Value)} {oc__is_value kV__is_value dc__is_value pm__is_value cd__is_value ct__is_value : Value} {od__law_source an__law_source : Option Addr} {sl__law_source : Array (Option Value)} {oc__law_source kV__law_source dc__law_source pm__law_source cd__law_source ct__law_source : Value} {od__law_draw an__law_draw : Option Addr} {sl__law_draw : Array (Option Value)} {oc__law_draw kV__law_draw dc__law_draw pm__law_draw cd__law_draw ct__law_draw : Value} {od__law_pick an__law_pick : Option Addr} {sl__law_pick : Array (Option Value)} {oc__law_pick kV__law_pick dc__law_pick pm__law_pick cd__law_pick ct__law_pick : Value} {od__law_shuffle an__law_shuffle : Option Addr} {sl__law_shuffle : Array (Option Value)} {oc__law_shuffle kV__law_shuffle dc__law_shuffle pm__law_shuffle cd__law_shuffle ct__law_shuffle : Value} {od__law_word an__law_word : Option Addr} {sl__law_word : Array (Option Value)} {oc__law_word kV__law_word dc__law_word pm__law_word cd__law_word ct__law_word : Value} {od__law_shapes an__law_shapes : Option Addr} {sl__law_shapes : Array (Option Value)} {oc__law_shapes kV__law_shapes dc__law_shapes pm__law_shapes cd__law_shapes ct__law_shapes : Value} {od__law_database an__law_database : Option Addr} {sl__law_database : Array (Option Value)} {oc__law_database kV__law_database dc__law_database pm__law_database cd__law_database ct__law_database : Value} {od__law_is_word an__law_is_word : Option Addr} {sl__law_is_word : Array (Option Value)} {oc__law_is_word kV__law_is_word dc__law_is_word pm__law_is_word cd__law_is_word ct__law_is_word : Value} {od__law_is_value an__law_is_value : Option Addr} {sl__law_is_value : Array (Option Value)} {oc__law_is_value kV__law_is_value dc__law_is_value pm__law_is_value cd__law_is_value ct__law_is_value : Value} {od__law_is_row an__law_is_row : Option Addr} {sl__law_is_row : Array (Option Value)} {oc__law_is_row kV__law_is_row dc__law_is_row pm__law_is_row cd__law_is_row ct__law_is_row : Value} {od__law_expected an__law_expected : Option Addr} {sl__law_expected : Array (Option Value)} {oc__law_expected kV__law_expected dc__law_expected pm__law_expected cd__law_expected ct__law_expected : Value} {od__law_raised an__law_raised : Option Addr} {sl__law_raised : Array (Option Value)} {oc__law_raised kV__law_raised dc__law_raised pm__law_raised cd__law_raised ct__law_raised : Value} {od__law_changed an__law_changed : Option Addr} {sl__law_changed : Array (Option Value)} {oc__law_changed kV__law_changed dc__law_changed pm__law_changed cd__law_changed ct__law_changed : Value} {od__law_strange an__law_strange : Option Addr} {sl__law_strange : Array (Option Value)} {oc__law_strange kV__law_strange dc__law_strange pm__law_strange cd__law_strange ct__law_strange : Value} {od__law_parts_hold an__law_parts_hold : Option Addr} {sl__law_parts_hold : Array (Option Value)} {oc__law_parts_hold kV__law_parts_hold dc__law_parts_hold pm__law_parts_hold cd__law_parts_hold ct__law_parts_hold : Value} {od_law an_law : Option Addr} {sl_law : Array (Option Value)} {oc_law kV_law dc_law pm_law cd_law ct_law : Value} {t_LONGEST_NAME : Tok} {t_MOST_VALUES : Tok} {t_GREATEST_VALUE : Tok} {od_iti an_iti : Option Addr} {sl_iti : Array (Option Value)} {oc_iti kV_iti dc_iti pm_iti cd_iti ct_iti : Value} {od_ti an_ti : Option Addr} {sl_ti : Array (Option Value)} {oc_ti kV_ti dc_ti pm_ti cd_ti ct_ti : Value} {rest_tr : List Value} {od_tr an_tr : Option Addr} {sl_tr : Array (Option Value)} {oc_tr kV_tr dc_tr pm_tr cd_tr ct_tr : Value} {rest_tn : List Value} {od_tn an_tn : Option Addr} {sl_tn : Array (Option Value)} {oc_tn kV_tn dc_tn pm_tn cd_tn ct_tn : Value} {od_tl an_tl : Option Addr} {sl_tl : Array (Option Value)} {oc_tl kV_tl dc_tl pm_tl cd_tl ct_tl : Value} {od_th an_th : Option Addr} {sl_th : Array (Option Value)} {oc_th kV_th dc_th pm_th cd_th ct_th : Value} {od_te an_te : Option Addr} {sl_te : Array (Option Value)} {oc_te kV_te dc_te pm_te cd_te ct_te : Value} {nmCE qnCE : Str} {NNCE : Addr} {bsCE : List Value} {snCE : List Str} {subCE : List Value} {abCE : Bool} {colCE : Option Bool} {ddCE : Option Addr} {k0CE k1CE k2CE k3CE k5CE : Option Value} {t_most : Tok} (X : K.In h) (G : h.Ns mainGlobals mg) (hfa : mg "law" = some (.ref fa))
    (a_is_plain_integer : PySem.W.nsIn K mainGlobals "is_plain_integer" = some (some (.ref f_is_plain_integer)))
    (l_is_plain_integer : K.lookup f_is_plain_integer = some ⟨oc_is_plain_integer, od_is_plain_integer, .func (PySem.W.fnOf "is_plain_integer" "is_plain_integer" (defArgs s_is_plain_integer) (defBody s_is_plain_integer) (defScope s_is_plain_integer) .none kV_is_plain_integer dc_is_plain_integer pm_is_plain_integer an_is_plain_integer cd_is_plain_integer ct_is_plain_integer), sl_is_plain_integer⟩)
    (c_is_plain_integer : PySem.W.codeIn K cd_is_plain_integer "is_plain_integer" = true)
    (k_is_plain_integer : PySem.W.keepIn K (.ref f_is_plain_integer) = true)
    (a_is_name : PySem.W.nsIn K mainGlobals "is_name" = some (some (.ref f_is_name)))
    (l_is_name : K.lookup f_is_name = some ⟨oc_is_name, od_is_name, .func (PySem.W.fnOf "is_name" "is_name" (defArgs s_is_name) (defBody s_is_name) (defScope s_is_name) .none kV_is_name dc_is_name pm_is_name an_is_name cd_is_name ct_is_name), sl_is_name⟩)
    (c_is_name : PySem.W.codeIn K cd_is_name "is_name" = true)
    (k_is_name : PySem.W.keepIn K (.ref f_is_name) = true)
    (a__tables_error : PySem.W.nsIn K mainGlobals "_tables_error" = some (some (.ref f__tables_error)))
    (l__tables_error : K.lookup f__tables_error = some ⟨oc__tables_error, od__tables_error, .func (PySem.W.fnOf "_tables_error" "_tables_error" (defArgs s__tables_error) (defBody s__tables_error) (defScope s__tables_error) .none kV__tables_error dc__tables_error pm__tables_error an__tables_error cd__tables_error ct__tables_error), sl__tables_error⟩)
    (c__tables_error : PySem.W.codeIn K cd__tables_error "_tables_error" = true)
    (k__tables_error : PySem.W.keepIn K (.ref f__tables_error) = true)
    (a__is_row : PySem.W.nsIn K mainGlobals "_is_row" = some (some (.ref f__is_row)))
    (l__is_row : K.lookup f__is_row = some ⟨oc__is_row, od__is_row, .func (PySem.W.fnOf "_is_row" "_is_row" (defArgs s__is_row) (defBody s__is_row) (defScope s__is_row) .none kV__is_row dc__is_row pm__is_row an__is_row cd__is_row ct__is_row), sl__is_row⟩)
    (c__is_row : PySem.W.codeIn K cd__is_row "_is_row" = true)
    (k__is_row : PySem.W.keepIn K (.ref f__is_row) = true)
    (a__is_value : PySem.W.nsIn K mainGlobals "_is_value" = some (some (.ref f__is_value)))
    (l__is_value : K.lookup f__is_value = some ⟨oc__is_value, od__is_value, .func (PySem.W.fnOf "_is_value" "_is_value" (defArgs s__is_value) (defBody s__is_value) (defScope s__is_value) .none kV__is_value dc__is_value pm__is_value an__is_value cd__is_value ct__is_value), sl__is_value⟩)
    (c__is_value : PySem.W.codeIn K cd__is_value "_is_value" = true)
    (k__is_value : PySem.W.keepIn K (.ref f__is_value) = true)
    (a__law_source : PySem.W.nsIn K mainGlobals "_law_source" = some (some (.ref f__law_source)))
    (l__law_source : K.lookup f__law_source = some ⟨oc__law_source, od__law_source, .func (PySem.W.fnOf "_law_source" "_law_source" (defArgs s__law_source) (defBody s__law_source) (defScope s__law_source) .none kV__law_source dc__law_source pm__law_source an__law_source cd__law_source ct__law_source), sl__law_source⟩)
    (c__law_source : PySem.W.codeIn K cd__law_source "_law_source" = true)
    (k__law_source : PySem.W.keepIn K (.ref f__law_source) = true)
    (a__law_draw : PySem.W.nsIn K mainGlobals "_law_draw" = some (some (.ref f__law_draw)))
    (l__law_draw : K.lookup f__law_draw = some ⟨oc__law_draw, od__law_draw, .func (PySem.W.fnOf "_law_draw" "_law_draw" (defArgs s__law_draw) (defBody s__law_draw) (defScope s__law_draw) .none kV__law_draw dc__law_draw pm__law_draw an__law_draw cd__law_draw ct__law_draw), sl__law_draw⟩)
    (c__law_draw : PySem.W.codeIn K cd__law_draw "_law_draw" = true)
    (k__law_draw : PySem.W.keepIn K (.ref f__law_draw) = true)
    (a__law_pick : PySem.W.nsIn K mainGlobals "_law_pick" = some (some (.ref f__law_pick)))
    (l__law_pick : K.lookup f__law_pick = some ⟨oc__law_pick, od__law_pick, .func (PySem.W.fnOf "_law_pick" "_law_pick" (defArgs s__law_pick) (defBody s__law_pick) (defScope s__law_pick) .none kV__law_pick dc__law_pick pm__law_pick an__law_pick cd__law_pick ct__law_pick), sl__law_pick⟩)
    (c__law_pick : PySem.W.codeIn K cd__law_pick "_law_pick" = true)
    (k__law_pick : PySem.W.keepIn K (.ref f__law_pick) = true)
    (a__law_shuffle : PySem.W.nsIn K mainGlobals "_law_shuffle" = some (some (.ref f__law_shuffle)))
    (l__law_shuffle : K.lookup f__law_shuffle = some ⟨oc__law_shuffle, od__law_shuffle, .func (PySem.W.fnOf "_law_shuffle" "_law_shuffle" (defArgs s__law_shuffle) (defBody s__law_shuffle) (defScope s__law_shuffle) .none kV__law_shuffle dc__law_shuffle pm__law_shuffle an__law_shuffle cd__law_shuffle ct__law_shuffle), sl__law_shuffle⟩)
    (c__law_shuffle : PySem.W.codeIn K cd__law_shuffle "_law_shuffle" = true)
    (k__law_shuffle : PySem.W.keepIn K (.ref f__law_shuffle) = true)
    (a__law_word : PySem.W.nsIn K mainGlobals "_law_word" = some (some (.ref f__law_word)))
    (l__law_word : K.lookup f__law_word = some ⟨oc__law_word, od__law_word, .func (PySem.W.fnOf "_law_word" "_law_word" (defArgs s__law_word) (defBody s__law_word) (defScope s__law_word) .none kV__law_word dc__law_word pm__law_word an__law_word cd__law_word ct__law_word), sl__law_word⟩)
    (c__law_word : PySem.W.codeIn K cd__law_word "_law_word" = true)
    (k__law_word : PySem.W.keepIn K (.ref f__law_word) = true)
    (a__law_shapes : PySem.W.nsIn K mainGlobals "_law_shapes" = some (some (.ref f__law_shapes)))
    (l__law_shapes : K.lookup f__law_shapes = some ⟨oc__law_shapes, od__law_shapes, .func (PySem.W.fnOf "_law_shapes" "_law_shapes" (defArgs s__law_shapes) (defBody s__law_shapes) (defScope s__law_shapes) .none kV__law_shapes dc__law_shapes pm__law_shapes an__law_shapes cd__law_shapes ct__law_shapes), sl__law_shapes⟩)
    (c__law_shapes : PySem.W.codeIn K cd__law_shapes "_law_shapes" = true)
    (k__law_shapes : PySem.W.keepIn K (.ref f__law_shapes) = true)
    (a__law_database : PySem.W.nsIn K mainGlobals "_law_database" = some (some (.ref f__law_database)))
    (l__law_database : K.lookup f__law_database = some ⟨oc__law_database, od__law_database, .func (PySem.W.fnOf "_law_database" "_law_database" (defArgs s__law_database) (defBody s__law_database) (defScope s__law_database) .none kV__law_database dc__law_database pm__law_database an__law_database cd__law_database ct__law_database), sl__law_database⟩)
    (c__law_database : PySem.W.codeIn K cd__law_database "_law_database" = true)
    (k__law_database : PySem.W.keepIn K (.ref f__law_database) = true)
    (a__law_is_word : PySem.W.nsIn K mainGlobals "_law_is_word" = some (some (.ref f__law_is_word)))
    (l__law_is_word : K.lookup f__law_is_word = some ⟨oc__law_is_word, od__law_is_word, .func (PySem.W.fnOf "_law_is_word" "_law_is_word" (defArgs s__law_is_word) (defBody s__law_is_word) (defScope s__law_is_word) .none kV__law_is_word dc__law_is_word pm__law_is_word an__law_is_word cd__law_is_word ct__law_is_word), sl__law_is_word⟩)
    (c__law_is_word : PySem.W.codeIn K cd__law_is_word "_law_is_word" = true)
    (k__law_is_word : PySem.W.keepIn K (.ref f__law_is_word) = true)
    (a__law_is_value : PySem.W.nsIn K mainGlobals "_law_is_value" = some (some (.ref f__law_is_value)))
    (l__law_is_value : K.lookup f__law_is_value = some ⟨oc__law_is_value, od__law_is_value, .func (PySem.W.fnOf "_law_is_value" "_law_is_value" (defArgs s__law_is_value) (defBody s__law_is_value) (defScope s__law_is_value) .none kV__law_is_value dc__law_is_value pm__law_is_value an__law_is_value cd__law_is_value ct__law_is_value), sl__law_is_value⟩)
    (c__law_is_value : PySem.W.codeIn K cd__law_is_value "_law_is_value" = true)
    (k__law_is_value : PySem.W.keepIn K (.ref f__law_is_value) = true)
    (a__law_is_row : PySem.W.nsIn K mainGlobals "_law_is_row" = some (some (.ref f__law_is_row)))
    (l__law_is_row : K.lookup f__law_is_row = some ⟨oc__law_is_row, od__law_is_row, .func (PySem.W.fnOf "_law_is_row" "_law_is_row" (defArgs s__law_is_row) (defBody s__law_is_row) (defScope s__law_is_row) .none kV__law_is_row dc__law_is_row pm__law_is_row an__law_is_row cd__law_is_row ct__law_is_row), sl__law_is_row⟩)
    (c__law_is_row : PySem.W.codeIn K cd__law_is_row "_law_is_row" = true)
    (k__law_is_row : PySem.W.keepIn K (.ref f__law_is_row) = true)
    (a__law_expected : PySem.W.nsIn K mainGlobals "_law_expected" = some (some (.ref f__law_expected)))
    (l__law_expected : K.lookup f__law_expected = some ⟨oc__law_expected, od__law_expected, .func (PySem.W.fnOf "_law_expected" "_law_expected" (defArgs s__law_expected) (defBody s__law_expected) (defScope s__law_expected) .none kV__law_expected dc__law_expected pm__law_expected an__law_expected cd__law_expected ct__law_expected), sl__law_expected⟩)
    (c__law_expected : PySem.W.codeIn K cd__law_expected "_law_expected" = true)
    (k__law_expected : PySem.W.keepIn K (.ref f__law_expected) = true)
    (a__law_raised : PySem.W.nsIn K mainGlobals "_law_raised" = some (some (.ref f__law_raised)))
    (l__law_raised : K.lookup f__law_raised = some ⟨oc__law_raised, od__law_raised, .func (PySem.W.fnOf "_law_raised" "_law_raised" (defArgs s__law_raised) (defBody s__law_raised) (defScope s__law_raised) .none kV__law_raised dc__law_raised pm__law_raised an__law_raised cd__law_raised ct__law_raised), sl__law_raised⟩)
    (c__law_raised : PySem.W.codeIn K cd__law_raised "_law_raised" = true)
    (k__law_raised : PySem.W.keepIn K (.ref f__law_raised) = true)
    (a__law_changed : PySem.W.nsIn K mainGlobals "_law_changed" = some (some (.ref f__law_changed)))
    (l__law_changed : K.lookup f__law_changed = some ⟨oc__law_changed, od__law_changed, .func (PySem.W.fnOf "_law_changed" "_law_changed" (defArgs s__law_changed) (defBody s__law_changed) (defScope s__law_changed) .none kV__law_changed dc__law_changed pm__law_changed an__law_changed cd__law_changed ct__law_changed), sl__law_changed⟩)
    (c__law_changed : PySem.W.codeIn K cd__law_changed "_law_changed" = true)
    (k__law_changed : PySem.W.keepIn K (.ref f__law_changed) = true)
    (a__law_strange : PySem.W.nsIn K mainGlobals "_law_strange" = some (some (.ref f__law_strange)))
    (l__law_strange : K.lookup f__law_strange = some ⟨oc__law_strange, od__law_strange, .func (PySem.W.fnOf "_law_strange" "_law_strange" (defArgs s__law_strange) (defBody s__law_strange) (defScope s__law_strange) .none kV__law_strange dc__law_strange pm__law_strange an__law_strange cd__law_strange ct__law_strange), sl__law_strange⟩)
    (c__law_strange : PySem.W.codeIn K cd__law_strange "_law_strange" = true)
    (k__law_strange : PySem.W.keepIn K (.ref f__law_strange) = true)
    (a__law_parts_hold : PySem.W.nsIn K mainGlobals "_law_parts_hold" = some (some (.ref f__law_parts_hold)))
    (l__law_parts_hold : K.lookup f__law_parts_hold = some ⟨oc__law_parts_hold, od__law_parts_hold, .func (PySem.W.fnOf "_law_parts_hold" "_law_parts_hold" (defArgs s__law_parts_hold) (defBody s__law_parts_hold) (defScope s__law_parts_hold) .none kV__law_parts_hold dc__law_parts_hold pm__law_parts_hold an__law_parts_hold cd__law_parts_hold ct__law_parts_hold), sl__law_parts_hold⟩)
    (c__law_parts_hold : PySem.W.codeIn K cd__law_parts_hold "_law_parts_hold" = true)
    (k__law_parts_hold : PySem.W.keepIn K (.ref f__law_parts_hold) = true)
    (a_law : PySem.W.nsIn K mainGlobals "law" = some (some (.ref f_law)))
    (l_law : K.lookup f_law = some ⟨oc_law, od_law, .func (PySem.W.fnOf "law" "law" (defArgs s_law) (defBody s_law) (defScope s_law) .none kV_law dc_law pm_law an_law cd_law ct_law), sl_law⟩)
    (c_law : PySem.W.codeIn K cd_law "law" = true)
    (k_law : PySem.W.keepIn K (.ref f_law) = true)
    (z_int : PySem.W.nsIn K mainGlobals "int" = some none)
    (z_len : PySem.W.nsIn K mainGlobals "len" = some none)
    (z_range : PySem.W.nsIn K mainGlobals "range" = some none)
    (z_tuple : PySem.W.nsIn K mainGlobals "tuple" = some none)
    (z_list : PySem.W.nsIn K mainGlobals "list" = some none)
    (z_set : PySem.W.nsIn K mainGlobals "set" = some none)
    (z_sorted : PySem.W.nsIn K mainGlobals "sorted" = some none)
    (z_isinstance : PySem.W.nsIn K mainGlobals "isinstance" = some none)
    (z_str : PySem.W.nsIn K mainGlobals "str" = some none)
    (z_abs : PySem.W.nsIn K mainGlobals "abs" = some none)
    (z_repr : PySem.W.nsIn K mainGlobals "repr" = some none)
    (z_enumerate : PySem.W.nsIn K mainGlobals "enumerate" = some none)
    (z_all : PySem.W.nsIn K mainGlobals "all" = some none)
    (z_bool : PySem.W.nsIn K mainGlobals "bool" = some none)
    (z_ValueError : PySem.W.nsIn K mainGlobals "ValueError" = some none)
    (n_LONGEST_NAME : PySem.W.nsIn K mainGlobals "LONGEST_NAME" = some (some (.int 8 t_LONGEST_NAME)))
    (n_MOST_VALUES : PySem.W.nsIn K mainGlobals "MOST_VALUES" = some (some (.int 3 t_MOST_VALUES)))
    (n_GREATEST_VALUE : PySem.W.nsIn K mainGlobals "GREATEST_VALUE" = some (some (.int 1000000000 t_GREATEST_VALUE)))
    (gCE : PySem.W.nsIn K mainGlobals "InvalidTables" = some (some (.ref CE)))
    (gCM : PySem.W.nsIn K mainGlobals "MarkError" = some (some (.ref CM)))
    (gCT : PySem.W.nsIn K mainGlobals "Tables" = some (some (.ref CT)))
    (a_iti : PySem.W.findIn K (.ref CE) "__init__" = some (some (.ref f_iti)))
    (l_iti : K.lookup f_iti = some ⟨oc_iti, od_iti, .func (PySem.W.fnOf "__init__" "InvalidTables.__init__" (defArgs s_iq_init) (defBody s_iq_init) (defScope s_iq_init) .none kV_iti dc_iti pm_iti an_iti cd_iti ct_iti), sl_iti⟩)
    (c_iti : PySem.W.codeIn K cd_iti "InvalidTables.__init__" = true)
    (k_iti : PySem.W.keepIn K (.ref f_iti) = true)
    (a_ti : PySem.W.findIn K (.ref CT) "__init__" = some (some (.ref f_ti)))
    (l_ti : K.lookup f_ti = some ⟨oc_ti, od_ti, .func (PySem.W.fnOf "__init__" "Tables.__init__" (defArgs s_t_init) (defBody s_t_init) (defScope s_t_init) .none kV_ti dc_ti pm_ti an_ti cd_ti ct_ti), sl_ti⟩)
    (c_ti : PySem.W.codeIn K cd_ti "Tables.__init__" = true)
    (k_ti : PySem.W.keepIn K (.ref f_ti) = true)
    (a_tr : PySem.W.findIn K (.ref CT) "rows" = some (some (.ref p_tr)))
    (r_tr : PySem.W.recIn K p_tr "property" = some (.ref f_tr :: rest_tr))
    (g_tr : PySem.W.specialIn K (.ref p_tr) "__get__" = some (some (.builtin "property.__get__")))
    (t_tr : PySem.W.takesIn K (.ref p_tr) = some true)
    (l_tr : K.lookup f_tr = some ⟨oc_tr, od_tr, .func (PySem.W.fnOf "rows" "Tables.rows" (defArgs s_t_rows) (defBody s_t_rows) (defScope s_t_rows) .none kV_tr dc_tr pm_tr an_tr cd_tr ct_tr), sl_tr⟩)
    (c_tr : PySem.W.codeIn K cd_tr "Tables.rows" = true)
    (k_tr : PySem.W.keepIn K (.ref f_tr) = true)
    (a_tn : PySem.W.findIn K (.ref CT) "names" = some (some (.ref p_tn)))
    (r_tn : PySem.W.recIn K p_tn "property" = some (.ref f_tn :: rest_tn))
    (g_tn : PySem.W.specialIn K (.ref p_tn) "__get__" = some (some (.builtin "property.__get__")))
    (t_tn : PySem.W.takesIn K (.ref p_tn) = some true)
    (l_tn : K.lookup f_tn = some ⟨oc_tn, od_tn, .func (PySem.W.fnOf "names" "Tables.names" (defArgs s_t_names) (defBody s_t_names) (defScope s_t_names) .none kV_tn dc_tn pm_tn an_tn cd_tn ct_tn), sl_tn⟩)
    (c_tn : PySem.W.codeIn K cd_tn "Tables.names" = true)
    (k_tn : PySem.W.keepIn K (.ref f_tn) = true)
    (a_tl : PySem.W.findIn K (.ref CT) "__len__" = some (some (.ref f_tl)))
    (l_tl : K.lookup f_tl = some ⟨oc_tl, od_tl, .func (PySem.W.fnOf "__len__" "Tables.__len__" (defArgs s_t_len) (defBody s_t_len) (defScope s_t_len) .none kV_tl dc_tl pm_tl an_tl cd_tl ct_tl), sl_tl⟩)
    (c_tl : PySem.W.codeIn K cd_tl "Tables.__len__" = true)
    (k_tl : PySem.W.keepIn K (.ref f_tl) = true)
    (a_th : PySem.W.findIn K (.ref CT) "__contains__" = some (some (.ref f_th)))
    (l_th : K.lookup f_th = some ⟨oc_th, od_th, .func (PySem.W.fnOf "__contains__" "Tables.__contains__" (defArgs s_t_has) (defBody s_t_has) (defScope s_t_has) .none kV_th dc_th pm_th an_th cd_th ct_th), sl_th⟩)
    (c_th : PySem.W.codeIn K cd_th "Tables.__contains__" = true)
    (k_th : PySem.W.keepIn K (.ref f_th) = true)
    (a_te : PySem.W.findIn K (.ref CT) "__eq__" = some (some (.ref f_te)))
    (l_te : K.lookup f_te = some ⟨oc_te, od_te, .func (PySem.W.fnOf "__eq__" "Tables.__eq__" (defArgs s_t_eq) (defBody s_t_eq) (defScope s_t_eq) .none kV_te dc_te pm_te an_te cd_te ct_te), sl_te⟩)
    (c_te : PySem.W.codeIn K cd_te "Tables.__eq__" = true)
    (k_te : PySem.W.keepIn K (.ref f_te) = true)
    (xCE : K.lookup CE = some (excClassObj nmCE qnCE CE NNCE bsCE [.ref CM, .type "ValueError", .type "Exception", .type "BaseException", .type "object"] true snCE subCE abCE colCE ddCE k0CE k1CE k2CE k3CE k5CE "ValueError.__new__"))
    (saCE : PySem.W.findIn K (.ref CE) "__setattr__" = some (some (.builtin "object.__setattr__")))
    (tICE : PySem.W.typeIn K (.ref f_iti) = some (.type "function"))
    (nrCE : PySem.W.findIn K (.ref CE) "reason" = some none)
    (exCE : PySem.W.subIn K (.ref CE) (.type "BaseException") = some true)
    (tyCE : PySem.W.typeIn K (.ref CE) = some (.type "type"))
    (kCE : PySem.W.keepIn K (.ref CE) = true)
    (hn : PySem.W.specialIn K (.builtin "object.__class__") "__get__" = some (some (.builtin "getset_descriptor.__get__")))
    (ht : PySem.W.takesIn K (.builtin "object.__class__") = some true)
    (gaCE : PySem.W.findIn K (.ref CE) "__getattribute__" = some (some (.builtin "BaseException.__getattribute__")))
    (ggCE : PySem.W.findIn K (.ref CE) "__getattr__" = some none)
    (hdCE : PySem.W.hasDictIn K CE = true)
    (haCE : PySem.W.findIn K (.ref CE) "__class__" = some (some (.builtin "object.__class__")))
    (hmCE : PySem.W.mroIn K CE (.type "object") = some true)
    (svCE : PySem.W.subIn K (.ref CE) (.type "ValueError") = some true)
    (exCM : PySem.W.subIn K (.ref CM) (.type "BaseException") = some true)
    (hdCM : PySem.W.hasDictIn K CM = true)
    (tyCM : PySem.W.typeIn K (.ref CM) = some (.type "type"))
    (sCE_CM : PySem.W.subIn K (.ref CE) (.ref CM) = some true)
    (mkCT : PySem.W.makesIn K CT = true)
    (fn_ti : PySem.W.isFn K (.ref f_ti) = true)
    (kCT : PySem.W.keepIn K (.ref CT) = true)
    (pgCT : PySem.W.plainGet K CT Str.empty = true)
    (hdCT : PySem.W.hasDictIn K CT = true)
    (poCT : PySem.W.plainOver K CT = true)
    (saCT : PySem.W.findIn K (.ref CT) "__setattr__" = some (some (.builtin "object.__setattr__")))
    (nCT_rows : PySem.W.findIn K (.ref CT) "_rows" = some none)
    (haCT : PySem.W.findIn K (.ref CT) "__class__" = some (some (.builtin "object.__class__")))
    (hmCT : PySem.W.mroIn K CT (.type "object") = some true)
    (icCT : PySem.W.isClsIn K CT = true)
    (tyCT : PySem.W.typeIn K (.ref CT) = some (.type "type"))
    (noCT_NoneType : PySem.W.subIn K (.type "NoneType") (.ref CT) = some false)
    (noCT_bool : PySem.W.subIn K (.type "bool") (.ref CT) = some false)
    (noCT_int : PySem.W.subIn K (.type "int") (.ref CT) = some false)
    (noCT_str : PySem.W.subIn K (.type "str") (.ref CT) = some false)
    (noCT_tuple : PySem.W.subIn K (.type "tuple") (.ref CT) = some false)
    (noCT_list : PySem.W.subIn K (.type "list") (.ref CT) = some false)
    (nqCT : PySem.W.findIn K (.ref CT) "__ne__" = some (some (.builtin "object.__ne__")))
    (fn_tl : PySem.W.isFn K (.ref f_tl) = true)
    (fn_th : PySem.W.isFn K (.ref f_th) = true)
    (fn_te : PySem.W.isFn K (.ref f_te) = true)
    (icCE : PySem.W.isClsIn K CE = true)
    (nzCE : PySem.W.subIn K (.type "NoneType") (.ref CE) = some false)
    (slCT : PySem.W.subIn K (.ref CT) (.type "list") = some false)
    (stCT : PySem.W.subIn K (.ref CT) (.type "tuple") = some false)
    (rdCT : PySem.W.readsIn K CT (.type "type") = true)
    (tgCT : PySem.W.specialIn K (.ref CT) "__getattribute__" = some (some (.builtin "type.__getattribute__")))
    (cvCT : PySem.W.findCls K (.ref CT) (.type "type") "MOST_ROWS" = some (.val (.int 6 t_most))) :
    ∃ fd : FuncData, (∀ (s : Shared) (u : Value), BindsTo s fd ⟨[u], []⟩ [("script", u)]) ∧ ∀ base : Heap, K.In base → base.Ns mainGlobals mg → RunsAt P w K mg base callerA fa fd ["script"] (spLaw K) := by
  have e := hfa.symm.trans (PySem.W.mg_of X G a_law)
  cases e
  have F_is_plain_integer := fun_mk (st := s_is_plain_integer) l_is_plain_integer c_is_plain_integer k_is_plain_integer
  have b_is_plain_integer := F_is_plain_integer.binds (ps := ["value"]) fun _ _ _ _ _ _ us hl => match us, hl with | [_], _ => rfl
  have F_is_name := fun_mk (st := s_is_name) l_is_name c_is_name k_is_name
  have b_is_name := F_is_name.binds (ps := ["value"]) fun _ _ _ _ _ _ us hl => match us, hl with | [_], _ => rfl
  have F__tables_error := fun_mk (st := s__tables_error) l__tables_error c__tables_error k__tables_error
  have b__tables_error := F__tables_error.binds (ps := ["rows"]) fun _ _ _ _ _ _ us hl => match us, hl with | [_], _ => rfl
  have F__is_row := fun_mk (st := s__is_row) l__is_row c__is_row k__is_row
  have b__is_row := F__is_row.binds (ps := ["value"]) fun _ _ _ _ _ _ us hl => match us, hl with | [_], _ => rfl
  have F__is_value := fun_mk (st := s__is_value) l__is_value c__is_value k__is_value
  have b__is_value := F__is_value.binds (ps := ["value"]) fun _ _ _ _ _ _ us hl => match us, hl with | [_], _ => rfl
  have F__law_source := fun_mk (st := s__law_source) l__law_source c__law_source k__law_source
  have b__law_source := F__law_source.binds (ps := ["script"]) fun _ _ _ _ _ _ us hl => match us, hl with | [_], _ => rfl
  have F__law_draw := fun_mk (st := s__law_draw) l__law_draw c__law_draw k__law_draw
  have b__law_draw := F__law_draw.binds (ps := ["source", "limit"]) fun _ _ _ _ _ _ us hl => match us, hl with | [_, _], _ => rfl
  have F__law_pick := fun_mk (st := s__law_pick) l__law_pick c__law_pick k__law_pick
  have b__law_pick := F__law_pick.binds (ps := ["source", "values"]) fun _ _ _ _ _ _ us hl => match us, hl with | [_, _], _ => rfl
  have F__law_shuffle := fun_mk (st := s__law_shuffle) l__law_shuffle c__law_shuffle k__law_shuffle
  have b__law_shuffle := F__law_shuffle.binds (ps := ["source", "values"]) fun _ _ _ _ _ _ us hl => match us, hl with | [_, _], _ => rfl
  have F__law_word := fun_mk (st := s__law_word) l__law_word c__law_word k__law_word
  have b__law_word := F__law_word.binds (ps := ["source", "size"]) fun _ _ _ _ _ _ us hl => match us, hl with | [_, _], _ => rfl
  have F__law_shapes := fun_mk (st := s__law_shapes) l__law_shapes c__law_shapes k__law_shapes
  have b__law_shapes := F__law_shapes.binds (ps := ["source"]) fun _ _ _ _ _ _ us hl => match us, hl with | [_], _ => rfl
  have F__law_database := fun_mk (st := s__law_database) l__law_database c__law_database k__law_database
  have b__law_database := F__law_database.binds (ps := ["source", "shapes", "most"]) fun _ _ _ _ _ _ us hl => match us, hl with | [_, _, _], _ => rfl
  have F__law_is_word := fun_mk (st := s__law_is_word) l__law_is_word c__law_is_word k__law_is_word
  have b__law_is_word := F__law_is_word.binds (ps := ["value"]) fun _ _ _ _ _ _ us hl => match us, hl with | [_], _ => rfl
  have F__law_is_value := fun_mk (st := s__law_is_value) l__law_is_value c__law_is_value k__law_is_value
  have b__law_is_value := F__law_is_value.binds (ps := ["value"]) fun _ _ _ _ _ _ us hl => match us, hl with | [_], _ => rfl
  have F__law_is_row := fun_mk (st := s__law_is_row) l__law_is_row c__law_is_row k__law_is_row
  have b__law_is_row := F__law_is_row.binds (ps := ["value"]) fun _ _ _ _ _ _ us hl => match us, hl with | [_], _ => rfl
  have F__law_expected := fun_mk (st := s__law_expected) l__law_expected c__law_expected k__law_expected
  have b__law_expected := F__law_expected.binds (ps := ["rows"]) fun _ _ _ _ _ _ us hl => match us, hl with | [_], _ => rfl
  have F__law_raised := fun_mk (st := s__law_raised) l__law_raised c__law_raised k__law_raised
  have b__law_raised := F__law_raised.binds (ps := ["rows"]) fun _ _ _ _ _ _ us hl => match us, hl with | [_], _ => rfl
  have F__law_changed := fun_mk (st := s__law_changed) l__law_changed c__law_changed k__law_changed
  have b__law_changed := F__law_changed.binds (ps := ["source", "shapes", "rows"]) fun _ _ _ _ _ _ us hl => match us, hl with | [_, _, _], _ => rfl
  have F__law_strange := fun_mk (st := s__law_strange) l__law_strange c__law_strange k__law_strange
  have b__law_strange := F__law_strange.binds (ps := ["rows"]) fun _ _ _ _ _ _ us hl => match us, hl with | [_], _ => rfl
  have F__law_parts_hold := fun_mk (st := s__law_parts_hold) l__law_parts_hold c__law_parts_hold k__law_parts_hold
  have b__law_parts_hold := F__law_parts_hold.binds (ps := ["rows"]) fun _ _ _ _ _ _ us hl => match us, hl with | [_], _ => rfl
  have F_law := fun_mk (st := s_law) l_law c_law k_law
  have b_law := F_law.binds (ps := ["script"]) fun _ _ _ _ _ _ us hl => match us, hl with | [_], _ => rfl
  have F_iti := fun_mk (st := s_iq_init) l_iti c_iti k_iti
  have b_iti := F_iti.binds (ps := ["self", "reason"]) fun _ _ _ _ _ _ us hl => match us, hl with | [_, _], _ => rfl
  have F_ti := fun_mk (st := s_t_init) l_ti c_ti k_ti
  have b_ti := F_ti.binds (ps := ["self", "rows"]) fun _ _ _ _ _ _ us hl => match us, hl with | [_, _], _ => rfl
  have F_tr := fun_mk (st := s_t_rows) l_tr c_tr k_tr
  have b_tr := F_tr.binds (ps := ["self"]) fun _ _ _ _ _ _ us hl => match us, hl with | [_], _ => rfl
  have F_tn := fun_mk (st := s_t_names) l_tn c_tn k_tn
  have b_tn := F_tn.binds (ps := ["self"]) fun _ _ _ _ _ _ us hl => match us, hl with | [_], _ => rfl
  have F_tl := fun_mk (st := s_t_len) l_tl c_tl k_tl
  have b_tl := F_tl.binds (ps := ["self"]) fun _ _ _ _ _ _ us hl => match us, hl with | [_], _ => rfl
  have F_th := fun_mk (st := s_t_has) l_th c_th k_th
  have b_th := F_th.binds (ps := ["self", "value"]) fun _ _ _ _ _ _ us hl => match us, hl with | [_, _], _ => rfl
  have F_te := fun_mk (st := s_t_eq) l_te c_te k_te
  have b_te := F_te.binds (ps := ["self", "other"]) fun _ _ _ _ _ _ us hl => match us, hl with | [_, _], _ => rfl
  have T : Txt { f_is_plain_integer := f_is_plain_integer, fd_is_plain_integer := _, f_is_name := f_is_name, fd_is_name := _, f__tables_error := f__tables_error, fd__tables_error := _, f__is_row := f__is_row, fd__is_row := _, f__is_value := f__is_value, fd__is_value := _, f__law_source := f__law_source, fd__law_source := _, f__law_draw := f__law_draw, fd__law_draw := _, f__law_pick := f__law_pick, fd__law_pick := _, f__law_shuffle := f__law_shuffle, fd__law_shuffle := _, f__law_word := f__law_word, fd__law_word := _, f__law_shapes := f__law_shapes, fd__law_shapes := _, f__law_database := f__law_database, fd__law_database := _, f__law_is_word := f__law_is_word, fd__law_is_word := _, f__law_is_value := f__law_is_value, fd__law_is_value := _, f__law_is_row := f__law_is_row, fd__law_is_row := _, f__law_expected := f__law_expected, fd__law_expected := _, f__law_raised := f__law_raised, fd__law_raised := _, f__law_changed := f__law_changed, fd__law_changed := _, f__law_strange := f__law_strange, fd__law_strange := _, f__law_parts_hold := f__law_parts_hold, fd__law_parts_hold := _, f_law := fa, fd_law := _ } K mg := { F_is_plain_integer := F_is_plain_integer, m_is_plain_integer := PySem.W.mg_of X G a_is_plain_integer, b_is_plain_integer := b_is_plain_integer, F_is_name := F_is_name, m_is_name := PySem.W.mg_of X G a_is_name, b_is_name := b_is_name, F__tables_error := F__tables_error, m__tables_error := PySem.W.mg_of X G a__tables_error, b__tables_error := b__tables_error, F__is_row := F__is_row, m__is_row := PySem.W.mg_of X G a__is_row, b__is_row := b__is_row, F__is_value := F__is_value, m__is_value := PySem.W.mg_of X G a__is_value, b__is_value := b__is_value, F__law_source := F__law_source, m__law_source := PySem.W.mg_of X G a__law_source, b__law_source := b__law_source, F__law_draw := F__law_draw, m__law_draw := PySem.W.mg_of X G a__law_draw, b__law_draw := b__law_draw, F__law_pick := F__law_pick, m__law_pick := PySem.W.mg_of X G a__law_pick, b__law_pick := b__law_pick, F__law_shuffle := F__law_shuffle, m__law_shuffle := PySem.W.mg_of X G a__law_shuffle, b__law_shuffle := b__law_shuffle, F__law_word := F__law_word, m__law_word := PySem.W.mg_of X G a__law_word, b__law_word := b__law_word, F__law_shapes := F__law_shapes, m__law_shapes := PySem.W.mg_of X G a__law_shapes, b__law_shapes := b__law_shapes, F__law_database := F__law_database, m__law_database := PySem.W.mg_of X G a__law_database, b__law_database := b__law_database, F__law_is_word := F__law_is_word, m__law_is_word := PySem.W.mg_of X G a__law_is_word, b__law_is_word := b__law_is_word, F__law_is_value := F__law_is_value, m__law_is_value := PySem.W.mg_of X G a__law_is_value, b__law_is_value := b__law_is_value, F__law_is_row := F__law_is_row, m__law_is_row := PySem.W.mg_of X G a__law_is_row, b__law_is_row := b__law_is_row, F__law_expected := F__law_expected, m__law_expected := PySem.W.mg_of X G a__law_expected, b__law_expected := b__law_expected, F__law_raised := F__law_raised, m__law_raised := PySem.W.mg_of X G a__law_raised, b__law_raised := b__law_raised, F__law_changed := F__law_changed, m__law_changed := PySem.W.mg_of X G a__law_changed, b__law_changed := b__law_changed, F__law_strange := F__law_strange, m__law_strange := PySem.W.mg_of X G a__law_strange, b__law_strange := b__law_strange, F__law_parts_hold := F__law_parts_hold, m__law_parts_hold := PySem.W.mg_of X G a__law_parts_hold, b__law_parts_hold := b__law_parts_hold, F_law := F_law, m_law := PySem.W.mg_of X G a_law, b_law := b_law, m_int := PySem.W.mg_none_of X G z_int, m_len := PySem.W.mg_none_of X G z_len, m_range := PySem.W.mg_none_of X G z_range, m_tuple := PySem.W.mg_none_of X G z_tuple, m_list := PySem.W.mg_none_of X G z_list, m_set := PySem.W.mg_none_of X G z_set, m_sorted := PySem.W.mg_none_of X G z_sorted, m_isinstance := PySem.W.mg_none_of X G z_isinstance, m_str := PySem.W.mg_none_of X G z_str, m_abs := PySem.W.mg_none_of X G z_abs, m_repr := PySem.W.mg_none_of X G z_repr, m_enumerate := PySem.W.mg_none_of X G z_enumerate, m_all := PySem.W.mg_none_of X G z_all, m_bool := PySem.W.mg_none_of X G z_bool, m_ValueError := PySem.W.mg_none_of X G z_ValueError, m_LONGEST_NAME := ⟨_, PySem.W.mg_of X G n_LONGEST_NAME⟩, m_MOST_VALUES := ⟨_, PySem.W.mg_of X G n_MOST_VALUES⟩, m_GREATEST_VALUE := ⟨_, PySem.W.mg_of X G n_GREATEST_VALUE⟩ }
  have oCE : OexC K CE := ⟨⟨nmCE, qnCE, NNCE, bsCE, _, snCE, subCE, abCE, colCE, ddCE, k0CE, k1CE, k2CE, k3CE, k5CE, xCE, rfl⟩, saCE, exCE, tyCE, kCE⟩
  have cCT : Cls K CT := ⟨pgCT, hdCT, poCT, saCT⟩
  have ICT : IsC K CT := ⟨cCT, haCT, hn, ht, hmCT, icCT, tyCT, fun d hd => match d, hd with
    | .non, _ => noCT_NoneType
    | .bl _, _ => noCT_bool
    | .int _, _ => noCT_int
    | .str _, _ => noCT_str
    | .tup _, _ => noCT_tuple
    | .lst _, _ => noCT_list
    | .obj _, hd => (nomatch hd)
    | .ins _ _ _, hd => (nomatch hd)
    | .dct _ _, hd => (nomatch hd)⟩
  have kL : PySem.W.kitOne K (.ref CT) (.type "list") = some false := one_type (by decide +kernel) slCT
  have kT : PySem.W.kitOne K (.ref CT) (.type "tuple") = some false := one_type (by decide +kernel) stCT
  have kA : PySem.W.kitAny K (.ref CT) [.type "list", .type "tuple"] = some false := by
    show (match PySem.W.kitOne K (.ref CT) (.type "list") with | some true => some true | some false => (match PySem.W.kitOne K (.ref CT) (.type "tuple") with | some true => some true | some false => some false | none => none) | none => none) = some false
    rw [kL, kT]
  have G' : CTxt K mg CT (.type "type") := { gT := PySem.W.mg_of X G gCT, rd := ⟨rdCT, tgCT⟩, cv := ⟨_, ⟨cvCT, ⟨_, rfl⟩⟩⟩, isC := ICT, any := kA }
  have U : QTxt K mg CT f_ti CE f_iti _ _ := { gE := PySem.W.mg_of X G gCE, oE := oCE, iE := a_iti, tE := tICE, FE := F_iti, bE := b_iti, nE := nrCE, kT := ⟨mkCT, a_ti, fn_ti, kCT⟩, FT := F_ti, bT := b_ti, cT := cCT, nR := nCT_rows }
  have M : MTxt K CT p_tr f_tr p_tn f_tn f_tl f_th f_te _ _ _ _ _ := { rr := ⟨a_tr, g_tr, t_tr, _, r_tr⟩, Fr := F_tr, br := b_tr, rn := ⟨a_tn, g_tn, t_tn, _, r_tn⟩, Fn := F_tn, bn := b_tn, Fl := F_tl, bl := b_tl, al := a_tl, il := fn_tl, Fc := F_th, bc := b_th, ac := a_th, ic := fn_th, Fe := F_te, be := b_te, ae := a_te, ne := nqCT, ie := fn_te }
  have V : VTxt K mg CE CM := { gM := PySem.W.mg_of X G gCM, exm := PySem.W.exm_ref exCM hdCM tyCM sCE_CM, eC := ⟨gaCE, ggCE, exCE, hdCE, haCE, hn, ht, hmCE⟩, fC := ⟨gaCE, ggCE, exCE, hdCE⟩, one1 := one_self, one2 := one_type (by decide +kernel) svCE, one0 := one_none icCE tyCE nzCE, m_ValueError := PySem.W.mg_none_of X G z_ValueError }
  exact ⟨_, fun s u => .of_eq rfl, fun base _ _ => runs_law T G' U M V ⟨rfl, by decide, by decide⟩⟩
theorem walk {l : PySem.W.OpenLaw} {q : Program} {loose : List Str} {XP : (Str → Option Value) → Heap → Prop} {YP : World → Heap → Prop} {d : DefRec} {K : Params → PySem.W.Frag} (most : l.most = some 63) (plain : d.params.defaults = [])
    (written : ∀ (w : World) (h : Heap), YP w h → (K w.params).In h)
    (F : ∀ (w : World) (mg : Str → Option Value) (fa : Addr) (h : Heap), (K w.params).In h → h.Ns mainGlobals mg → mg d.name = some (.ref fa) →
      ∃ fd : FuncData, (∀ (s : Shared) (u : Value), BindsTo s fd ⟨[u], []⟩ [("script", u)]) ∧ ∀ base : Heap, (K w.params).In base → base.Ns mainGlobals mg → RunsAt l.prog w (K w.params) mg base callerA fa fd ["script"] (spLaw (K w.params))) :
    PySem.W.WalkO q loose XP YP l.row.toRowW d [] (fun f vs => PySem.call f vs) :=
  walk_at (n := 63) (x := "script") (sp := fun w => spLaw (K w.params)) most (by decide) plain written F fun _ _ a ns _ _ sq => ⟨a, ns, rfl, sq, fun _ => rfl⟩
end K14
/-! text K14F -/
set_option Elab.async false
open PySem PySem.W PyProof.Rows
set_option maxRecDepth 100000 in
set_option maxHeartbeats 0 in
theorem PySem.Challenge.cw_marktables_k14_tables_errors_holds : PySem.Challenge.rw_marktables_k14_tables_errors.Holds := by
  refine head14 ?_
  k_fill
  refine K14.walk (l := PySem.Challenge.rw_marktables_k14_tables_errors) rfl rfl (fun w h Y => PySem.W.kIn_of Y) ?F
  case F =>
    intro w mg fa h KX G hmg
    refine' K14.all_mk KX G hmg ?a_is_plain_integer ?l_is_plain_integer ?c_is_plain_integer ?k_is_plain_integer ?a_is_name ?l_is_name ?c_is_name ?k_is_name ?a__tables_error ?l__tables_error ?c__tables_error ?k__tables_error ?a__is_row ?l__is_row ?c__is_row ?k__is_row ?a__is_value ?l__is_value ?c__is_value ?k__is_value ?a__law_source ?l__law_source ?c__law_source ?k__law_source ?a__law_draw ?l__law_draw ?c__law_draw ?k__law_draw ?a__law_pick ?l__law_pick ?c__law_pick ?k__law_pick ?a__law_shuffle ?l__law_shuffle ?c__law_shuffle ?k__law_shuffle ?a__law_word ?l__law_word ?c__law_word ?k__law_word ?a__law_shapes ?l__law_shapes ?c__law_shapes ?k__law_shapes ?a__law_database ?l__law_database ?c__law_database ?k__law_database ?a__law_is_word ?l__law_is_word ?c__law_is_word ?k__law_is_word ?a__law_is_value ?l__law_is_value ?c__law_is_value ?k__law_is_value ?a__law_is_row ?l__law_is_row ?c__law_is_row ?k__law_is_row ?a__law_expected ?l__law_expected ?c__law_expected ?k__law_expected ?a__law_raised ?l__law_raised ?c__law_raised ?k__law_raised ?a__law_changed ?l__law_changed ?c__law_changed ?k__law_changed ?a__law_strange ?l__law_strange ?c__law_strange ?k__law_strange ?a__law_parts_hold ?l__law_parts_hold ?c__law_parts_hold ?k__law_parts_hold ?a_law ?l_law ?c_law ?k_law ?z_int ?z_len ?z_range ?z_tuple ?z_list ?z_set ?z_sorted ?z_isinstance ?z_str ?z_abs ?z_repr ?z_enumerate ?z_all ?z_bool ?z_ValueError ?n_LONGEST_NAME ?n_MOST_VALUES ?n_GREATEST_VALUE ?gCE ?gCM ?gCT ?a_iti ?l_iti ?c_iti ?k_iti ?a_ti ?l_ti ?c_ti ?k_ti ?a_tr ?r_tr ?g_tr ?t_tr ?l_tr ?c_tr ?k_tr ?a_tn ?r_tn ?g_tn ?t_tn ?l_tn ?c_tn ?k_tn ?a_tl ?l_tl ?c_tl ?k_tl ?a_th ?l_th ?c_th ?k_th ?a_te ?l_te ?c_te ?k_te ?xCE ?saCE ?tICE ?nrCE ?exCE ?tyCE ?kCE ?hn ?ht ?gaCE ?ggCE ?hdCE ?haCE ?hmCE ?svCE ?exCM ?hdCM ?tyCM ?sCE_CM ?mkCT ?fn_ti ?kCT ?pgCT ?hdCT ?poCT ?saCT ?nCT_rows ?haCT ?hmCT ?icCT ?tyCT ?noCT_NoneType ?noCT_bool ?noCT_int ?noCT_str ?noCT_tuple ?noCT_list ?nqCT ?fn_tl ?fn_th ?fn_te ?icCE ?nzCE ?slCT ?stCT ?rdCT ?tgCT ?cvCT
    (case gCT => k_is)
    (case gCM => k_is)
    (case gCE => k_is)
    (case a_tr => k_is)
    (case r_tr => k_is)
    (case a_tn => k_is)
    (case r_tn => k_is)
    (case a_is_plain_integer => k_is)
    (case l_is_plain_integer => k_is)
    (case c_is_plain_integer => k_is)
    (case k_is_plain_integer => k_is)
    (case a_is_name => k_is)
    (case l_is_name => k_is)
    (case c_is_name => k_is)
    (case k_is_name => k_is)
    (case a__tables_error => k_is)
    (case l__tables_error => k_is)
    (case c__tables_error => k_is)
    (case k__tables_error => k_is)
    (case a__is_row => k_is)
    (case l__is_row => k_is)
    (case c__is_row => k_is)
    (case k__is_row => k_is)
    (case a__is_value => k_is)
    (case l__is_value => k_is)
    (case c__is_value => k_is)
    (case k__is_value => k_is)
    (case a__law_source => k_is)
    (case l__law_source => k_is)
    (case c__law_source => k_is)
    (case k__law_source => k_is)
    (case a__law_draw => k_is)
    (case l__law_draw => k_is)
    (case c__law_draw => k_is)
    (case k__law_draw => k_is)
    (case a__law_pick => k_is)
    (case l__law_pick => k_is)
    (case c__law_pick => k_is)
    (case k__law_pick => k_is)
    (case a__law_shuffle => k_is)
    (case l__law_shuffle => k_is)
    (case c__law_shuffle => k_is)
    (case k__law_shuffle => k_is)
    (case a__law_word => k_is)
    (case l__law_word => k_is)
    (case c__law_word => k_is)
    (case k__law_word => k_is)
    (case a__law_shapes => k_is)
    (case l__law_shapes => k_is)
    (case c__law_shapes => k_is)
    (case k__law_shapes => k_is)
    (case a__law_database => k_is)
    (case l__law_database => k_is)
    (case c__law_database => k_is)
    (case k__law_database => k_is)
    (case a__law_is_word => k_is)
    (case l__law_is_word => k_is)
    (case c__law_is_word => k_is)
    (case k__law_is_word => k_is)
    (case a__law_is_value => k_is)
    (case l__law_is_value => k_is)
    (case c__law_is_value => k_is)
    (case k__law_is_value => k_is)
    (case a__law_is_row => k_is)
    (case l__law_is_row => k_is)
    (case c__law_is_row => k_is)
    (case k__law_is_row => k_is)
    (case a__law_expected => k_is)
    (case l__law_expected => k_is)
    (case c__law_expected => k_is)
    (case k__law_expected => k_is)
    (case a__law_raised => k_is)
    (case l__law_raised => k_is)
    (case c__law_raised => k_is)
    (case k__law_raised => k_is)
    (case a__law_changed => k_is)
    (case l__law_changed => k_is)
    (case c__law_changed => k_is)
    (case k__law_changed => k_is)
    (case a__law_strange => k_is)
    (case l__law_strange => k_is)
    (case c__law_strange => k_is)
    (case k__law_strange => k_is)
    (case a__law_parts_hold => k_is)
    (case l__law_parts_hold => k_is)
    (case c__law_parts_hold => k_is)
    (case k__law_parts_hold => k_is)
    (case a_law => k_is)
    (case l_law => k_is)
    (case c_law => k_is)
    (case k_law => k_is)
    (case z_int => k_is)
    (case z_len => k_is)
    (case z_range => k_is)
    (case z_tuple => k_is)
    (case z_list => k_is)
    (case z_set => k_is)
    (case z_sorted => k_is)
    (case z_isinstance => k_is)
    (case z_str => k_is)
    (case z_abs => k_is)
    (case z_repr => k_is)
    (case z_enumerate => k_is)
    (case z_all => k_is)
    (case z_bool => k_is)
    (case z_ValueError => k_is)
    (case n_LONGEST_NAME => k_is)
    (case n_MOST_VALUES => k_is)
    (case n_GREATEST_VALUE => k_is)
    (case a_iti => k_is)
    (case l_iti => k_is)
    (case c_iti => k_is)
    (case k_iti => k_is)
    (case a_ti => k_is)
    (case l_ti => k_is)
    (case c_ti => k_is)
    (case k_ti => k_is)
    (case g_tr => k_is)
    (case t_tr => k_is)
    (case l_tr => k_is)
    (case c_tr => k_is)
    (case k_tr => k_is)
    (case g_tn => k_is)
    (case t_tn => k_is)
    (case l_tn => k_is)
    (case c_tn => k_is)
    (case k_tn => k_is)
    (case a_tl => k_is)
    (case l_tl => k_is)
    (case c_tl => k_is)
    (case k_tl => k_is)
    (case a_th => k_is)
    (case l_th => k_is)
    (case c_th => k_is)
    (case k_th => k_is)
    (case a_te => k_is)
    (case l_te => k_is)
    (case c_te => k_is)
    (case k_te => k_is)
    (case xCE => k_is)
    (case saCE => k_is)
    (case tICE => k_is)
    (case nrCE => k_is)
    (case exCE => k_is)
    (case tyCE => k_is)
    (case kCE => k_is)
    (case hn => k_is)
    (case ht => k_is)
    (case gaCE => k_is)
    (case ggCE => k_is)
    (case hdCE => k_is)
    (case haCE => k_is)
    (case hmCE => k_is)
    (case svCE => k_is)
    (case exCM => k_is)
    (case hdCM => k_is)
    (case tyCM => k_is)
    (case sCE_CM => k_is)
    (case mkCT => k_is)
    (case fn_ti => k_is)
    (case kCT => k_is)
    (case pgCT => k_is)
    (case hdCT => k_is)
    (case poCT => k_is)
    (case saCT => k_is)
    (case nCT_rows => k_is)
    (case haCT => k_is)
    (case hmCT => k_is)
    (case icCT => k_is)
    (case tyCT => k_is)
    (case noCT_NoneType => k_is)
    (case noCT_bool => k_is)
    (case noCT_int => k_is)
    (case noCT_str => k_is)
    (case noCT_tuple => k_is)
    (case noCT_list => k_is)
    (case nqCT => k_is)
    (case fn_tl => k_is)
    (case fn_th => k_is)
    (case fn_te => k_is)
    (case icCE => k_is)
    (case nzCE => k_is)
    (case slCT => k_is)
    (case stCT => k_is)
    (case rdCT => k_is)
    (case tgCT => k_is)
    (case cvCT => k_is)
