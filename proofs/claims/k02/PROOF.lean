import PyProof.Rows.All
import PySem.Challenge.RW_countsfall_k02_values_of_formulas
import HandS.ForMost
import HandS.Flow
import HandS.Deep
import HandS.Conv
import HandS.Wide
import HandS.SetBool
import HandS.DictComp
import HandS.Zip
import KE.SortData
import PyProof.ReprReads
import HandS.TupAny
import HandS.TupLen
import HandS.SortKw
import HandS.Style
import HandS.SetFor
import HandS.Strs
import HandS.Small
import Lean
import HandS.Defaults
import HandS.Head0
import HandS.Head1
import HandS.Head2
import HandS.HeadEnd
import HandS.HeadHook1
import HandS.HeadHook2
import PyProof.FitsInt
import Wide.FinOn
import KE.KStateDown
set_option Elab.async false
set_option linter.all false
set_option maxRecDepth 100000
set_option maxHeartbeats 0
/-! CF1: values as trees; how a tree stands in the abstract heap, and at which addresses it may be changed. -/
namespace CF
open PySem PySem.Spec PyProof.Rows L2
abbrev St := L2.St

abbrev D := PyData
def keyD : Key → D
  | .inl i => .int i
  | .inr s => .str s

mutual
/-- nothing in it can be changed -/
def imm : D → Bool
  | .list _ => false
  | .dict _ => false
  | .tuple xs => immAll xs
  | .none => true
  | .bool _ => true
  | .int _ => true
  | .str _ => true
def immAll : List D → Bool
  | [] => true
  | x :: xs => imm x && immAll xs
end

/-- a dict that may be read: locked it is not empty -/
def RdK (H : Hp) (a : Addr) (kvs : List (Key × V)) : Prop := H a = some (.dK kvs) ∨ (kvs ≠ [] ∧ ∃ o, H a = some (.frz o (.dK kvs)))
def RdT (H : Hp) (a : Addr) (kvs : List (List Key × V)) : Prop := H a = some (.dT kvs) ∨ (kvs ≠ [] ∧ ∃ o, H a = some (.frz o (.dT kvs)))
theorem RdK.rd {H : Hp} {a : Addr} {kvs : List (Key × V)} (h : RdK H a kvs) : Rd H a (.dK kvs) := h.elim .inl fun z => .inr z.2
theorem RdT.rd {H : Hp} {a : Addr} {kvs : List (List Key × V)} (h : RdT H a kvs) : Rd H a (.dT kvs) := h.elim .inl fun z => .inr z.2
theorem RdK.nil {H : Hp} {a : Addr} (h : RdK H a []) : H a = some (.dK []) := h.elim id fun z => absurd rfl z.1
theorem RdT.nil {H : Hp} {a : Addr} (h : RdT H a []) : H a = some (.dT []) := h.elim id fun z => absurd rfl z.1

mutual
/-- v stands for the tree d; F: the addresses of what can be changed in it -/
inductive Rp (K : PySem.W.Frag) (H : Hp) : V → D → List Addr → Prop
  | non : Rp K H .non .none []
  | bl (b : Bool) : Rp K H (.bl b) (.bool b) []
  | int (i : Int) : Rp K H (.int i) (.int i) []
  | str (s : Str) : Rp K H (.str s) (.str s) []
  | lst {a : Addr} {xs : List V} {ds : List D} {F : List Addr} : H a = some (.lst xs) → Rps K H xs ds F → Rp K H (.ref a) (.list ds) (a :: F)
  | tup {a : Addr} {xs : List V} {ds : List D} {F : List Addr} : H a = some (.tup xs) → Rps K H xs ds F → Rp K H (.ref a) (.tuple ds) F
  | dct {a : Addr} {kvs : List (Key × V)} {ds : List (D × D)} {F : List Addr} : RdK H a kvs → ds.map (·.1) = kvs.map (fun p => keyD p.1) → Rps K H (kvs.map (·.2)) (ds.map (·.2)) F → Rp K H (.ref a) (.dict ds) (a :: F)
  | dcT {a : Addr} {kvs : List (List Key × V)} {ds : List (D × D)} {F : List Addr} : RdT H a kvs → ds.map (·.1) = kvs.map (fun p => .tuple (p.1.map keyD)) → Rps K H (kvs.map (·.2)) (ds.map (·.2)) F → Rp K H (.ref a) (.dict ds) (a :: F)
inductive Rps (K : PySem.W.Frag) (H : Hp) : List V → List D → List Addr → Prop
  | nil : Rps K H [] [] []
  | cons {v : V} {vs : List V} {d : D} {ds : List D} {F G : List Addr} : Rp K H v d F → Rps K H vs ds G → Rps K H (v :: vs) (d :: ds) (F ++ G)
end

/-- what reads as a tuple -/
def isT : HO → Prop
  | .tup _ => True
  | .frz _ (.tup _) => True
  | _ => False
/-- from H to H' all is kept but what W names (tuples are kept) -/
def Kp (W : Addr → Prop) (H H' : Hp) : Prop := ∀ a o, H a = some o → (W a → isT o) → H' a = some o

theorem Kp.refl {W : Addr → Prop} {H : Hp} : Kp W H H := fun _ _ e _ => e
theorem Kp.trans {W : Addr → Prop} {H H1 H2 : Hp} (a : Kp W H H1) (b : Kp W H1 H2) : Kp W H H2 := fun x o e h => b x o (a x o e h) h
theorem Kp.mono {W W' : Addr → Prop} {H H' : Hp} (a : Kp W H H') (h : ∀ x, W x → W' x) : Kp W' H H' := fun x o e q => a x o e fun w => q (h x w)
theorem Kp.upd_new {W : Addr → Prop} {H : Hp} {p : Addr} {o : HO} (n : H p = none) : Kp W H (upd H p o) := fun x u e _ => by rw [upd_ne (ne_of_none e n)]; exact e
theorem Kp.none {W : Addr → Prop} {H H' : Hp} (k : Kp W H H') {a : Addr} (e : H' a = none) (w : ¬ W a) : H a = none := by
  cases q : H a with
  | none => rfl
  | some o => rw [k a o q fun z => absurd z w] at e; cases e
/-- nothing named: H' has all of H -/
abbrev Ex (H H' : Hp) : Prop := Kp (fun _ => False) H H'

theorem Kp.rd {W : Addr → Prop} {H H' : Hp} (k : Kp W H H') {a : Addr} {u : HO} (r : Rd H a u) (w : ¬ W a) : Rd H' a u := by
  rcases r with r | ⟨o, r⟩
  · exact .inl (k a _ r fun z => absurd z w)
  · exact .inr ⟨o, k a _ r fun z => absurd z w⟩
theorem Kp.sqt {W : Addr → Prop} {H H' : Hp} (k : Kp W H H') {K : PySem.W.Frag} {a : Addr} {xs : List V} (r : SqT K H a xs) : SqT K H' a xs := by
  rcases r with (r | ⟨o, r⟩) | r
  · exact .inl (.inl (k a _ r fun _ => trivial))
  · exact .inl (.inr ⟨o, k a _ r fun _ => trivial⟩)
  · exact .inr r

theorem Kp.rdk {W : Addr → Prop} {H H' : Hp} (k : Kp W H H') {a : Addr} {kvs : List (Key × V)} (r : RdK H a kvs) (w : ¬ W a) : RdK H' a kvs := by
  rcases r with r | ⟨n, o, r⟩
  · exact .inl (k a _ r fun z => absurd z w)
  · exact .inr ⟨n, o, k a _ r fun z => absurd z w⟩
theorem Kp.rdt {W : Addr → Prop} {H H' : Hp} (k : Kp W H H') {a : Addr} {kvs : List (List Key × V)} (r : RdT H a kvs) (w : ¬ W a) : RdT H' a kvs := by
  rcases r with r | ⟨n, o, r⟩
  · exact .inl (k a _ r fun z => absurd z w)
  · exact .inr ⟨n, o, k a _ r fun z => absurd z w⟩

mutual
theorem Rp.keep {K : PySem.W.Frag} {H H' : Hp} {W : Addr → Prop} (k : Kp W H H') : ∀ {v : V} {d : D} {F : List Addr}, Rp K H v d F → (∀ a ∈ F, ¬ W a) → Rp K H' v d F
  | _, _, _, .non, _ => .non
  | _, _, _, .bl b, _ => .bl b
  | _, _, _, .int i, _ => .int i
  | _, _, _, .str s, _ => .str s
  | _, _, _, .lst r q, h => .lst (k _ _ r fun z => absurd z (h _ List.mem_cons_self)) (q.keep k fun a m => h a (List.mem_cons_of_mem _ m))
  | _, _, _, .tup r q, h => .tup (k _ _ r fun _ => trivial) (q.keep k h)
  | _, _, _, .dct r e q, h => .dct (k.rdk r (h _ List.mem_cons_self)) e (q.keep k fun a m => h a (List.mem_cons_of_mem _ m))
  | _, _, _, .dcT r e q, h => .dcT (k.rdt r (h _ List.mem_cons_self)) e (q.keep k fun a m => h a (List.mem_cons_of_mem _ m))
theorem Rps.keep {K : PySem.W.Frag} {H H' : Hp} {W : Addr → Prop} (k : Kp W H H') : ∀ {vs : List V} {ds : List D} {F : List Addr}, Rps K H vs ds F → (∀ a ∈ F, ¬ W a) → Rps K H' vs ds F
  | _, _, _, .nil, _ => .nil
  | _, _, _, .cons r q, h => .cons (r.keep k fun a m => h a (List.mem_append_left _ m)) (q.keep k fun a m => h a (List.mem_append_right _ m))
end

mutual
theorem Rp.imm {K : PySem.W.Frag} {H : Hp} : ∀ {v : V} {d : D} {F : List Addr}, Rp K H v d F → imm d = true → F = []
  | _, _, _, .non, _ => rfl
  | _, _, _, .bl b, _ => rfl
  | _, _, _, .int i, _ => rfl
  | _, _, _, .str s, _ => rfl
  | _, _, _, .lst _ _, h => by simp [CF.imm] at h
  | _, _, _, .tup _ q, h => q.imm (by simpa [CF.imm] using h)
  | _, _, _, .dct _ _ _, h => by simp [CF.imm] at h
  | _, _, _, .dcT _ _ _, h => by simp [CF.imm] at h
theorem Rps.imm {K : PySem.W.Frag} {H : Hp} : ∀ {vs : List V} {ds : List D} {F : List Addr}, Rps K H vs ds F → immAll ds = true → F = []
  | _, _, _, .nil, _ => rfl
  | _, _, _, .cons r q, h => by
    simp only [immAll, Bool.and_eq_true] at h
    rw [r.imm h.1, q.imm h.2]; rfl
end

theorem Rps.length {K : PySem.W.Frag} {H : Hp} : ∀ {vs : List V} {ds : List D} {F : List Addr}, Rps K H vs ds F → vs.length = ds.length
  | _, _, _, .nil => rfl
  | _, _, _, .cons _ q => by simp [q.length]

theorem Rd.some {H : Hp} {a : Addr} {u : HO} (r : Rd H a u) : H a ≠ none := by
  rcases r with r | ⟨o, r⟩ <;> rw [r] <;> simp

mutual
/-- what can be changed is there -/
theorem Rp.dom {K : PySem.W.Frag} {H : Hp} : ∀ {v : V} {d : D} {F : List Addr}, Rp K H v d F → ∀ a ∈ F, ∃ o, H a = some o ∧ ¬ isT o
  | _, _, _, .non, _, m => nomatch m
  | _, _, _, .bl b, _, m => nomatch m
  | _, _, _, .int i, _, m => nomatch m
  | _, _, _, .str s, _, m => nomatch m
  | _, _, _, .lst r q, a, m => by
    rcases List.mem_cons.mp m with rfl | m
    · exact ⟨_, r, fun z => z⟩
    · exact q.dom a m
  | _, _, _, .tup r q, a, m => q.dom a m
  | _, _, _, .dct r e q, a, m => by
    rcases List.mem_cons.mp m with rfl | m
    · rcases r with r | ⟨_, o, r⟩
      · exact ⟨_, r, fun z => z⟩
      · exact ⟨_, r, fun z => z⟩
    · exact q.dom a m
  | _, _, _, .dcT r e q, a, m => by
    rcases List.mem_cons.mp m with rfl | m
    · rcases r with r | ⟨_, o, r⟩
      · exact ⟨_, r, fun z => z⟩
      · exact ⟨_, r, fun z => z⟩
    · exact q.dom a m
theorem Rps.dom {K : PySem.W.Frag} {H : Hp} : ∀ {vs : List V} {ds : List D} {F : List Addr}, Rps K H vs ds F → ∀ a ∈ F, ∃ o, H a = some o ∧ ¬ isT o
  | _, _, _, .nil, _, m => nomatch m
  | _, _, _, .cons r q, a, m => by
    rcases List.mem_append.mp m with m | m
    · exact r.dom a m
    · exact q.dom a m
end
theorem Rp.live {K : PySem.W.Frag} {H : Hp} {v : V} {d : D} {F : List Addr} (r : Rp K H v d F) {a : Addr} (m : a ∈ F) : H a ≠ none := by
  obtain ⟨o, e, _⟩ := r.dom a m
  rw [e]; simp
theorem Rps.live {K : PySem.W.Frag} {H : Hp} {v : List V} {d : List D} {F : List Addr} (r : Rps K H v d F) {a : Addr} (m : a ∈ F) : H a ≠ none := by
  obtain ⟨o, e, _⟩ := r.dom a m
  rw [e]; simp

/-- the i-th of several -/
theorem Rps.get {K : PySem.W.Frag} {H : Hp} : ∀ {vs : List V} {ds : List D} {F : List Addr}, Rps K H vs ds F → ∀ {i : Nat} {d : D}, ds[i]? = some d →
    ∃ v G, vs[i]? = some v ∧ Rp K H v d G ∧ ∀ a ∈ G, a ∈ F
  | _, _, _, .nil, i, d, h => by simp at h
  | _, _, _, .cons r q, 0, d, h => by
    simp at h; subst h
    exact ⟨_, _, rfl, r, fun a m => List.mem_append_left _ m⟩
  | _, _, _, .cons r q, i + 1, d, h => by
    obtain ⟨v, G, e, r', m⟩ := q.get (i := i) (d := d) (by simpa using h)
    exact ⟨v, G, by simpa using e, r', fun a z => List.mem_append_right _ (m a z)⟩
/-- .. with nothing that can be changed -/
theorem Rps.append {K : PySem.W.Frag} {H : Hp} : ∀ {vs : List V} {ds : List D} {F : List Addr}, Rps K H vs ds F → ∀ {ws : List V} {es : List D} {G : List Addr}, Rps K H ws es G → Rps K H (vs ++ ws) (ds ++ es) (F ++ G)
  | _, _, _, .nil, _, _, _, s => s
  | _, _, _, .cons r q, _, _, _, s => by
    rw [List.append_assoc]
    exact .cons r (q.append s)
theorem Rps.split {K : PySem.W.Frag} {H : Hp} : ∀ {vs : List V} {ds es : List D} {F : List Addr}, Rps K H vs (ds ++ es) F → ∃ F1 F2, F = F1 ++ F2 ∧ Rps K H (vs.take ds.length) ds F1 ∧ Rps K H (vs.drop ds.length) es F2
  | vs, [], es, F, q => ⟨[], F, rfl, .nil, by simpa using q⟩
  | _, d :: ds, es, _, .cons (F := F) (G := G) r q => by
    obtain ⟨F1, F2, rfl, q1, q2⟩ := q.split
    exact ⟨F ++ F1, F2, by rw [List.append_assoc], .cons r q1, q2⟩
theorem Rps.one {K : PySem.W.Frag} {H : Hp} {v : V} {d : D} {F : List Addr} (r : Rp K H v d F) : Rps K H [v] [d] F := by
  have := Rps.cons r .nil
  rwa [List.append_nil] at this

/-! ### reading it off the heap itself -/
theorem vals_keys {kvs : List (Key × V)} {vs : List (Key × Value)} (h : KV kvs vs) : vs.map (·.1) = kvs.map (·.1) := by
  induction h with
  | nil => rfl
  | cons r _ ih => simp [ih, r.1]
theorem vals_vals {κ : Type} {kvs : List (κ × V)} {vs : List (κ × Value)} (h : KV kvs vs) : Vals (kvs.map (·.2)) (vs.map (·.2)) := by
  induction h with
  | nil => exact .nil
  | cons r _ ih => exact .cons r.2 ih

theorem pairs_keys {P : Program} {w : World} : ∀ {es : List DictEntry} {vs : List (Key × Value)}, Pairs (mixKind P w) es vs → ∀ {h : Heap}, ReadsAll h (es.map (·.key)) (vs.map fun p => keyD p.1) []
  | _, _, .nil, _ => .nil
  | e :: es, (k, v) :: vs, .cons hk _ q, h => by
    have q' := pairs_keys q (h := h)
    have hk' : keyIs k e.key = true := hk
    rcases keyIs_shape hk' with ⟨i, t, rfl, ek⟩ | ⟨x, t, rfl, ek⟩
    · rw [List.map_cons, ek]
      exact ReadsAll.cons (.int i t) q'
    · rw [List.map_cons, ek]
      exact ReadsAll.cons (.str x t) q'
theorem pairs_vals {P : Program} {w : World} : ∀ {es : List DictEntry} {vs : List (Key × Value)}, Pairs (mixKind P w) es vs → es.map (·.val) = vs.map (·.2)
  | _, _, .nil => rfl
  | e :: es, (k, v) :: vs, .cons _ hv q => by
    rw [List.map_cons, List.map_cons, pairs_vals q, hv]

/-- what is known of a dict with plain keys -/
theorem dk_obj {X : Cx} {pins : List (Addr × Obj)} {σ : L2.St} {H : Hp} {s : Shared} {a : Addr} {kvs : List (Key × V)} (I : Inv X pins σ H s) (h : Rd H a (.dK kvs)) :
    (a == sysModules) = false ∧ ∃ o es ep, s.heap.get? a = some o ∧ o.cls = .type "dict" ∧ o.data = .dict es ep ∧
      ReadsAll s.heap (es.toList.map (·.key)) (kvs.map fun p => keyD p.1) [] ∧ Vals (kvs.map (·.2)) (es.toList.map (·.val)) := by
  obtain ⟨_, z, vs, rel, o, es, ep, ho, hx, hd, _, hp, _⟩ := h.ok I.hok
  refine ⟨z, o, es, ep, ho, hx.1, hd, ?_, ?_⟩
  · have e : (vs.map fun p => keyD p.1) = kvs.map fun p => keyD p.1 := by
      have e0 := vals_keys rel
      have e1 := congrArg (List.map keyD) e0
      simpa [List.map_map, Function.comp_def] using e1
    rw [← e]
    exact pairs_keys hp
  · rw [pairs_vals hp]
    exact vals_vals rel
theorem keys_reads {h : Heap} {H : Hp} {P : Program} {w : World} (ok : HOk P w H h) : ∀ {k : List Key} {q : Addr}, H q = some (.tup (k.map kV)) → ∃ as, Reads h (.ref q) (.tuple (k.map keyD)) as ∧ as = [] := by
  intro k q hq
  obtain ⟨_, its, rv, o, ho, hc, n, hd⟩ := ok q _ hq
  have all : ∀ {k : List Key} {its : List Value}, Vals (k.map kV) its → ReadsAll h its (k.map keyD) [] := by
    intro k
    induction k with
    | nil => intro its r; cases r; exact .nil
    | cons x k ih =>
      intro its r
      cases r with
      | cons rx rr =>
        cases x with
        | inl i => obtain ⟨t, rfl⟩ := rx; exact ReadsAll.cons (.int i t) (ih rr)
        | inr y => obtain ⟨t, rfl⟩ := rx; exact ReadsAll.cons (.str y t) (ih rr)
  exact ⟨[], .tuple ho hc hd (by simpa using all rv), rfl⟩
theorem dt_obj {X : Cx} {pins : List (Addr × Obj)} {σ : L2.St} {H : Hp} {s : Shared} {a : Addr} {kvs : List (List Key × V)} (I : Inv X pins σ H s) (h : Rd H a (.dT kvs)) :
    (a == sysModules) = false ∧ ∃ o es ep, s.heap.get? a = some o ∧ o.cls = .type "dict" ∧ o.data = .dict es ep ∧
      ReadsAll s.heap (es.toList.map (·.key)) (kvs.map fun p => .tuple (p.1.map keyD)) [] ∧ Vals (kvs.map (·.2)) (es.toList.map (·.val)) := by
  have hh := h.ok I.hok
  obtain ⟨hl, z, xs, rel, o, es, ep, ho, hx, hd, he, hnd⟩ := hh
  refine ⟨z, o, es, ep, ho, hx.1, hd, ?_, ?_⟩
  · rw [he]
    clear he hnd hl h
    induction rel with
    | nil => exact .nil
    | cons r _ ih =>
      obtain ⟨e1, e2, _⟩ := r
      obtain ⟨as, ra, rfl⟩ := keys_reads I.hok e2
      rw [List.map_cons, List.map_cons, List.map_cons]
      exact ReadsAll.cons ra ih
  · rw [he]
    clear he hnd hl h
    induction rel with
    | nil => exact .nil
    | cons r _ ih => exact .cons r.2.2 ih

section
variable {X : Cx} {pins : List (Addr × Obj)} {σ : L2.St} {H : Hp} {s : Shared}
theorem lst_obj (I : Inv X pins σ H s) {a : Addr} {xs : List V} (h : H a = some (.lst xs)) : ∃ o its n, s.heap.get? a = some o ∧ o.cls = .type "list" ∧ o.data = .seq its n ∧ Vals xs its.toList := by
  obtain ⟨its, rv, ⟨o, n, ho, hc, hd, hdt⟩, _⟩ := I.list (.inl (.inl h))
  exact ⟨o, _, n, ho, hc, hdt, by simpa using rv⟩
theorem tup_obj (I : Inv X pins σ H s) {a : Addr} {xs : List V} (h : H a = some (.tup xs)) : ∃ o its n, s.heap.get? a = some o ∧ o.cls = .type "tuple" ∧ o.data = .seq its n ∧ Vals xs its.toList := by
  obtain ⟨its, rv, ⟨o, ho, hc, n, hdt⟩, _⟩ := I.tuple (.inl (.inl h))
  exact ⟨o, _, n, ho, hc, hdt, by simpa using rv⟩

mutual
theorem Rp.reads (I : Inv X pins σ H s) : ∀ {v : V} {d : D} {F : List Addr}, Rp X.K H v d F → ∀ {u : Value}, RelV v u → ∃ as, Reads s.heap u d as
  | _, _, _, .non, u, r => by cases r; exact ⟨_, .none⟩
  | _, _, _, .bl b, u, r => by cases r; exact ⟨_, .bool b⟩
  | _, _, _, .int i, u, r => by obtain ⟨t, rfl⟩ := r; exact ⟨_, .int i t⟩
  | _, _, _, .str x, u, r => by obtain ⟨t, rfl⟩ := r; exact ⟨_, .str x t⟩
  | _, _, _, .lst h q, u, r => by
    cases r
    obtain ⟨o, its, n, ho, hc, hd, rv⟩ := lst_obj I h
    obtain ⟨as, ra⟩ := q.reads I rv
    exact ⟨_, .list ho hc hd ra⟩
  | _, _, _, .tup h q, u, r => by
    cases r
    obtain ⟨o, its, n, ho, hc, hd, rv⟩ := tup_obj I h
    obtain ⟨as, ra⟩ := q.reads I rv
    exact ⟨_, .tuple ho hc hd ra⟩
  | _, _, _, .dct h e q, u, r => by
    cases r
    obtain ⟨_, o, es, ep, ho, hc, hd, rk, rv⟩ := dk_obj I h.rd
    obtain ⟨as, ra⟩ := q.reads I rv
    exact ⟨_, .dict ho hc hd (by rw [e]; exact rk) ra⟩
  | _, _, _, .dcT h e q, u, r => by
    cases r
    obtain ⟨_, o, es, ep, ho, hc, hd, rk, rv⟩ := dt_obj I h.rd
    obtain ⟨as, ra⟩ := q.reads I rv
    exact ⟨_, .dict ho hc hd (by rw [e]; exact rk) ra⟩
theorem Rps.reads (I : Inv X pins σ H s) : ∀ {vs : List V} {ds : List D} {F : List Addr}, Rps X.K H vs ds F → ∀ {us : List Value}, Vals vs us → ∃ as, ReadsAll s.heap us ds as
  | _, _, _, .nil, us, r => by cases r; exact ⟨_, .nil⟩
  | _, _, _, .cons h q, us, r => by
    cases r with
    | cons r rr =>
      obtain ⟨as, ra⟩ := h.reads I r
      obtain ⟨bs, rb⟩ := q.reads I rr
      exact ⟨_, .cons ra rb⟩
end

mutual
theorem Rp.repr {prog : Program} {w : World} (I : Inv X pins σ H s) : ∀ {v : V} {d : D} {F : List Addr}, Rp X.K H v d F → ∀ {u : Value}, RelV v u → d.showable = true → d.shown.length ≤ sizeLine →
    ∃ bs, ReadAtMost s.heap d.depth bs ∧ ReprK prog w bs s.heap d.depth u d.shown
  | _, _, _, .non, u, r, _, _ => by cases r; exact ⟨[], (fun _ h => nomatch h), by simp only [PyData.shown]; exact .of_is ReprIs.none _ _ _⟩
  | _, _, _, .bl b, u, r, _, _ => by cases r; exact ⟨[], (fun _ h => nomatch h), by simp only [PyData.shown]; exact .of_is (ReprIs.bool b) _ _ _⟩
  | _, _, _, .int i, u, r, hs, _ => by
    obtain ⟨t, rfl⟩ := r
    exact ⟨[], (fun _ h => nomatch h), by simp only [PyData.shown]; exact .of_is (ReprIs.int t (by simpa [PyData.showable] using hs)) _ _ _⟩
  | _, _, _, .str x, u, r, _, hz => by
    obtain ⟨t, rfl⟩ := r
    exact ⟨[], (fun _ h => nomatch h), by simp only [PyData.shown]; exact .of_is (ReprIs.str x t (by simpa only [PyData.shown] using hz)) _ _ _⟩
  | _, _, _, .lst (a := a) (ds := ds) h q, u, r, hs, hz => by
    cases r
    obtain ⟨o, its, n, ho, hc, hd, rv⟩ := lst_obj I h
    have hz' : (listText (PyData.shownAll ds)).length ≤ sizeLine := by simpa only [PyData.shown] using hz
    obtain ⟨bs, hb, hk⟩ := q.reprs (prog := prog) (w := w) I rv (by simpa [PyData.showable] using hs) fun t ht => Nat.le_trans (listText_mem_le ht) hz'
    obtain ⟨as, ra⟩ := q.reads I rv
    have rr : Reads s.heap (.ref a) (.list ds) _ := .list ho hc hd ra
    have hna : a ∉ bs := not_mem_of_deeper rr (by simp only [PyData.depth]; omega) hb
    refine ⟨a :: bs, ReadAtMost.cons rr (by simp only [PyData.depth]; omega) hb, ?_⟩
    simp only [PyData.depth, PyData.shown]
    obtain ⟨l⟩ := its
    cases l with
    | nil =>
      have ra' : ReadsAll s.heap [] ds _ := ra
      cases ra'
      simp only [PyData.shownAll, listText_nil]
      exact ReprK.listEmpty ho hc hd
    | cons x l => exact ReprK.list ho hc hd hna (by simpa using hk.length_eq) (fun i y e => hk.item i y (by simpa using e))
  | _, _, _, .tup (a := a) (ds := ds) h q, u, r, hs, hz => by
    cases r
    obtain ⟨o, its, n, ho, hc, hd, rv⟩ := tup_obj I h
    have hz' : (tupleText (PyData.shownAll ds)).length ≤ sizeLine := by simpa only [PyData.shown] using hz
    obtain ⟨bs, hb, hk⟩ := q.reprs (prog := prog) (w := w) I rv (by simpa [PyData.showable] using hs) fun t ht => Nat.le_trans (tupleText_mem_le ht) hz'
    obtain ⟨as, ra⟩ := q.reads I rv
    have rr : Reads s.heap (.ref a) (.tuple ds) _ := .tuple ho hc hd ra
    have hna : a ∉ bs := not_mem_of_deeper rr (by simp only [PyData.depth]; omega) hb
    refine ⟨a :: bs, ReadAtMost.cons rr (by simp only [PyData.depth]; omega) hb, ?_⟩
    simp only [PyData.depth, PyData.shown]
    exact ReprK.tuple ho hc hd hna hk
  | _, _, _, .dct (a := a) (ds := ds) h e q, u, r, hs, hz => by
    cases r
    obtain ⟨hsys, o, es, ep, ho, hc, hd, rk, rv⟩ := dk_obj I h.rd
    obtain ⟨hs1, hs2⟩ := PyData.showableKv_split ds (by simpa [PyData.showable] using hs)
    have hz' : (dictText (PyData.shownKv ds)).length ≤ sizeLine := by simpa only [PyData.shown] using hz
    rw [← e] at rk
    obtain ⟨b1, hb1, k1⟩ := ReprAllK.of_readsAll (prog := prog) (w := w) rk hs1 (fun _ hm => nomatch hm) (fun t ht => let ⟨p, hp, hl⟩ := PyData.shownKv_key_le ds t ht; Nat.le_trans hl (Nat.le_trans (dictText_mem_le hp) hz'))
    obtain ⟨b2, hb2, k2⟩ := q.reprs (prog := prog) (w := w) I rv hs2 (fun t ht => let ⟨p, hp, hl⟩ := PyData.shownKv_val_le ds t ht; Nat.le_trans hl (Nat.le_trans (dictText_mem_le hp) hz'))
    obtain ⟨as, ra⟩ := q.reads I rv
    have rr : Reads s.heap (.ref a) (.dict ds) _ := .dict ho hc hd rk ra
    have hb : ReadAtMost s.heap (PyData.depthKv ds) (b1 ++ b2) := (hb1.mono (PyData.depthAll_keys_le ds)).append (hb2.mono (PyData.depthAll_vals_le ds))
    have hna : a ∉ b1 ++ b2 := not_mem_of_deeper rr (by simp only [PyData.depth]; omega) hb
    refine ⟨a :: (b1 ++ b2), ReadAtMost.cons rr (by simp only [PyData.depth]; omega) hb, ?_⟩
    simp only [PyData.depth, PyData.shown, PyData.shownKv_eq]
    exact ReprK.dict ho hc hd hsys hna (ReprEntriesK.of_two es.toList _ _
      (k1.more_le (fun b hb => List.mem_append_left _ hb) (PyData.depthAll_keys_le ds)) (k2.more_le (fun b hb => List.mem_append_right _ hb) (PyData.depthAll_vals_le ds)))
  | _, _, _, .dcT (a := a) (ds := ds) h e q, u, r, hs, hz => by
    cases r
    obtain ⟨hsys, o, es, ep, ho, hc, hd, rk, rv⟩ := dt_obj I h.rd
    obtain ⟨hs1, hs2⟩ := PyData.showableKv_split ds (by simpa [PyData.showable] using hs)
    have hz' : (dictText (PyData.shownKv ds)).length ≤ sizeLine := by simpa only [PyData.shown] using hz
    rw [← e] at rk
    obtain ⟨b1, hb1, k1⟩ := ReprAllK.of_readsAll (prog := prog) (w := w) rk hs1 (fun _ hm => nomatch hm) (fun t ht => let ⟨p, hp, hl⟩ := PyData.shownKv_key_le ds t ht; Nat.le_trans hl (Nat.le_trans (dictText_mem_le hp) hz'))
    obtain ⟨b2, hb2, k2⟩ := q.reprs (prog := prog) (w := w) I rv hs2 (fun t ht => let ⟨p, hp, hl⟩ := PyData.shownKv_val_le ds t ht; Nat.le_trans hl (Nat.le_trans (dictText_mem_le hp) hz'))
    obtain ⟨as, ra⟩ := q.reads I rv
    have rr : Reads s.heap (.ref a) (.dict ds) _ := .dict ho hc hd rk ra
    have hb : ReadAtMost s.heap (PyData.depthKv ds) (b1 ++ b2) := (hb1.mono (PyData.depthAll_keys_le ds)).append (hb2.mono (PyData.depthAll_vals_le ds))
    have hna : a ∉ b1 ++ b2 := not_mem_of_deeper rr (by simp only [PyData.depth]; omega) hb
    refine ⟨a :: (b1 ++ b2), ReadAtMost.cons rr (by simp only [PyData.depth]; omega) hb, ?_⟩
    simp only [PyData.depth, PyData.shown, PyData.shownKv_eq]
    exact ReprK.dict ho hc hd hsys hna (ReprEntriesK.of_two es.toList _ _
      (k1.more_le (fun b hb => List.mem_append_left _ hb) (PyData.depthAll_keys_le ds)) (k2.more_le (fun b hb => List.mem_append_right _ hb) (PyData.depthAll_vals_le ds)))
theorem Rps.reprs {prog : Program} {w : World} (I : Inv X pins σ H s) : ∀ {vs : List V} {ds : List D} {F : List Addr}, Rps X.K H vs ds F → ∀ {us : List Value}, Vals vs us → PyData.showableAll ds = true → (∀ t ∈ PyData.shownAll ds, t.length ≤ sizeLine) →
    ∃ bs, ReadAtMost s.heap (PyData.depthAll ds) bs ∧ ReprAllK prog w bs s.heap (PyData.depthAll ds) us (PyData.shownAll ds)
  | _, _, _, .nil, us, r, _, _ => by cases r; exact ⟨[], (fun _ h => nomatch h), by simp only [PyData.shownAll]; exact .nil⟩
  | _, _, _, .cons (d := d) (ds := ds) h q, us, r, hs, hz => by
    cases r with
    | cons r rr =>
      have hs' : d.showable = true ∧ PyData.showableAll ds = true := by simpa [PyData.showableAll] using hs
      obtain ⟨b1, hb1, k1⟩ := h.repr (prog := prog) (w := w) I r hs'.1 (hz _ (by simp only [PyData.shownAll]; exact List.mem_cons_self ..))
      obtain ⟨b2, hb2, k2⟩ := q.reprs (prog := prog) (w := w) I rr hs'.2 (fun t ht => hz t (by simp only [PyData.shownAll]; exact List.mem_cons_of_mem _ ht))
      refine ⟨b1 ++ b2, ?_, ?_⟩
      · intro b hm
        simp only [PyData.depthAll]
        rcases List.mem_append.mp hm with hm | hm
        · obtain ⟨d', as', r', hd'⟩ := hb1 b hm
          exact ⟨d', as', r', Nat.le_trans hd' (Nat.le_max_left _ _)⟩
        · obtain ⟨d', as', r', hd'⟩ := hb2 b hm
          exact ⟨d', as', r', Nat.le_trans hd' (Nat.le_max_right _ _)⟩
      · simp only [PyData.depthAll, PyData.shownAll]
        exact .cons ((k1.more fun b hb => List.mem_append_left _ hb).level_le (Nat.le_max_left _ _)) (k2.more_le (fun b hb => List.mem_append_right _ hb) (Nat.le_max_right _ _))
end
end
end CF
/-! CF2: a small language over trees, and what a run of it gives: values, raised errors, or nothing known. -/
namespace CF
open PySem PySem.Spec PyProof.Rows L2

/-- an error: its class by number, its fields -/
structure Xc where
  cls : Nat
  fs : List (Str × D)
inductive Out (α : Type) where
  | ok (a : α)
  | ex (x : Xc)
  | no
def Out.bind {α β : Type} (o : Out α) (f : α → Out β) : Out β := match o with
  | .ok a => f a
  | .ex x => .ex x
  | .no => .no
instance : Monad Out where
  pure := .ok
  bind := Out.bind
@[simp] theorem Out.ok_bind {α β : Type} (a : α) (f : α → Out β) : (Out.ok a >>= f) = f a := rfl
@[simp] theorem Out.pure_eq {α : Type} (a : α) : (pure a : Out α) = .ok a := rfl
@[simp] theorem Out.no_bind {α β : Type} (f : α → Out β) : ((Out.no : Out α) >>= f) = .no := rfl
@[simp] theorem Out.ex_bind {α β : Type} (x : Xc) (f : α → Out β) : ((Out.ex x : Out α) >>= f) = .ex x := rfl
theorem Out.bind_ok {α β : Type} {o : Out α} {f : α → Out β} {b : β} (h : (o >>= f) = .ok b) : ∃ a, o = .ok a ∧ f a = .ok b := by
  cases o with
  | ok a => exact ⟨a, rfl, h⟩
  | ex x => exact nomatch h
  | no => exact nomatch h
theorem Out.bind_ex {α β : Type} {o : Out α} {f : α → Out β} {x : Xc} (h : (o >>= f) = .ex x) : o = .ex x ∨ ∃ a, o = .ok a ∧ f a = .ex x := by
  cases o with
  | ok a => exact .inr ⟨a, rfl, h⟩
  | ex y => exact .inl (by injection h with h; rw [h])
  | no => exact nomatch h
def guardO (c : Bool) : Out Unit := if c = true then .ok () else .no

/-- what a slot may hold: a tree, the script -/
inductive Val where
  | d (x : D)
  | s (ns : List Int)
inductive SlV where
  | un
  | v (x : Val) (o : Bool)
abbrev EnvT := List SlV

mutual
def deq : D → D → Bool
  | .none, .none => true
  | .bool a, .bool b => a == b
  | .int a, .int b => a == b
  | .str a, .str b => a == b
  | .list a, .list b => deqAll a b
  | .tuple a, .tuple b => deqAll a b
  | .dict a, .dict b => deqKv a b
  | _, _ => false
def deqAll : List D → List D → Bool
  | [], [] => true
  | x :: xs, y :: ys => deq x y && deqAll xs ys
  | _, _ => false
def deqKv : List (D × D) → List (D × D) → Bool
  | [], [] => true
  | (k, x) :: xs, (l, y) :: ys => deq k l && deq x y && deqKv xs ys
  | _, _ => false
end

/-! ### operations on trees -/
inductive BOp where
  | add | sub | mul | mod | fdiv | pow
inductive COp where
  | eq | ne | lt | le | gt | ge | isin | notin

def cut {α : Type} (xs : List α) (lo hi : Option Int) : List α := (xs.drop (HT.sIx xs.length 0 lo)).take (HT.sIx xs.length xs.length hi - HT.sIx xs.length 0 lo)
def small (n : Nat) : Bool := decide (n ≤ sizeLine)
def mulOk (i j : Int) : Bool := decide (-(2 ^ 64) < i ∧ i < 2 ^ 64) || decide (-(2 ^ 64) < j ∧ j < 2 ^ 64)
def truD : D → Bool
  | .none => false
  | .bool b => b
  | .int i => i != 0
  | .str s => (s.length : Int) != 0
  | .list xs => !xs.isEmpty
  | .tuple xs => !xs.isEmpty
  | .dict kvs => !kvs.isEmpty
def truthOk : D → Bool
  | .str s => small s.length
  | .dict _ => false
  | _ => true

/-- a binary operation; the flags tell whether what can be changed in a value is its own -/
def binD (op : BOp) (a : D) (fa : Bool) (b : D) (fb : Bool) : Out (D × Bool) := match op, a, b with
  | .add, .int i, .int j => .ok (.int (i + j), true)
  | .sub, .int i, .int j => .ok (.int (i - j), true)
  | .mul, .int i, .int j => if mulOk i j = true then .ok (.int (i * j), true) else .no
  | .mod, .int i, .int j => if 0 < j then .ok (.int (i % j), true) else .no
  | .fdiv, .int i, .int j => if 0 < j ∧ j.natAbs.log2 < 9000 then .ok (.int (i / j), true) else .no
  | .pow, .int i, .int j => if 0 ≤ j ∧ j ≤ 1000000 ∧ i.natAbs < 2 ^ 64 then .ok (.int (i ^ j.toNat), true) else .no
  | .add, .str x, .str y => if small (x.length + y.length) = true then .ok (.str (x ++ y), true) else .no
  | .add, .list xs, .list ys => if small (xs.length + ys.length) = true then .ok (.list (xs ++ ys), (fa || immAll xs) && (fb || immAll ys)) else .no
  | .add, .tuple xs, .tuple ys => if small (xs.length + ys.length) = true then .ok (.tuple (xs ++ ys), (fa || immAll xs) && (fb || immAll ys)) else .no
  | _, _, _ => .no

def scalD : D → D → Bool
  | .none, .none => true | .none, .int _ => true | .int _, .none => true | .none, .bool _ => true | .bool _, .none => true | .none, .str _ => true | .str _, .none => true
  | .int _, .int _ => true | .bool _, .bool _ => true | .str _, .str _ => true
  | .int _, .str _ => true | .str _, .int _ => true | .bool _, .str _ => true | .str _, .bool _ => true
  | _, _ => false
def shapedD (d : D) : Bool := SeqAt.shaped d
/-- == of two trees: at once, or by all of what is in them, or of two that are the same -/
def eqD (a b : D) : Out Bool :=
  if scalD a b = true then .ok (deq a b)
  else if (shapedD a && shapedD b) = true then .ok (PyData.eqv a b)
  else .no
def keyOf : D → Option Key
  | .int i => some (.inl i)
  | .str s => some (.inr s)
  | _ => none
def keysOf : D → Option (List Key)
  | .tuple xs => xs.mapM keyOf
  | _ => none
/-- what may stand as a key: an int, a text, a tuple of these -/
def isKey (d : D) : Bool := (keyOf d).isSome || (keysOf d).isSome
/-- the keys of a dict and k are of one kind -/
def keyFits (kvs : List (D × D)) (k : D) : Bool := isKey k && kvs.all fun p => (keyOf p.1).isSome == (keyOf k).isSome
def dget (kvs : List (D × D)) (k : D) : Option D := (kvs.find? fun p => deq p.1 k).map (·.2)
def dput (kvs : List (D × D)) (k v : D) : List (D × D) :=
  if kvs.any (fun p => deq p.1 k) then kvs.map (fun p => if deq p.1 k then (p.1, v) else p) else kvs ++ [(k, v)]
def flatD : D → Bool
  | .none => true | .bool _ => true | .int _ => true | .str _ => true
  | _ => false
def inOk (a : D) (xs : List D) : Bool := (flatD a && xs.all flatD) || (PyData.canLayAll0 xs && a.canLay0 && decide (a.depth ≤ 64))
def cmpD (op : COp) (a b : D) : Out Bool := match op, a, b with
  | .eq, a, b => eqD a b
  | .ne, a, b => (eqD a b).bind fun c => .ok (!c)
  | .lt, .int i, .int j => .ok (decide (i < j))
  | .le, .int i, .int j => .ok (decide (i ≤ j))
  | .gt, .int i, .int j => .ok (decide (j < i))
  | .ge, .int i, .int j => .ok (decide (j ≤ i))
  | .lt, .str i, .str j => .ok (decide (i.cps.toList < j.cps.toList))
  | .le, .str i, .str j => .ok (!decide (j.cps.toList < i.cps.toList))
  | .gt, .str i, .str j => .ok (decide (j.cps.toList < i.cps.toList))
  | .ge, .str i, .str j => .ok (!decide (i.cps.toList < j.cps.toList))
  | .isin, a, .dict kvs => if keyFits kvs a = true then .ok (dget kvs a).isSome else .no
  | .notin, a, .dict kvs => if keyFits kvs a = true then .ok (!(dget kvs a).isSome) else .no
  | .isin, a, .list xs => if inOk a xs = true then .ok (xs.any fun y => PyData.eqv y a) else .no
  | .notin, a, .list xs => if inOk a xs = true then .ok (!xs.any fun y => PyData.eqv y a) else .no
  | .isin, a, .tuple xs => if inOk a xs = true then .ok (xs.any fun y => PyData.eqv y a) else .no
  | .notin, a, .tuple xs => if inOk a xs = true then .ok (!xs.any fun y => PyData.eqv y a) else .no
  | _, _, _ => .no
def ixD (a : D) (fa : Bool) (b : D) : Out (D × Bool) := match a, b with
  | .list xs, .int i => match atI xs i with
    | some d => .ok (d, fa)
    | none => .no
  | .tuple xs, .int i => match atI xs i with
    | some d => .ok (d, fa)
    | none => .no
  | .str s, .int i => if small s.length = true then (match atI s.cps.toList i with
    | some c => .ok (.str ⟨#[c]⟩, true)
    | none => .no) else .no
  | .dict kvs, k => if keyFits kvs k = true then (match dget kvs k with
    | some d => .ok (d, fa)
    | none => .no) else .no
  | _, _ => .no
def partD : Option D → Out (Option Int)
  | none => .ok none
  | some (.int i) => .ok (some i)
  | _ => .no
def slD (a : D) (fa : Bool) (lo hi : Option Int) : Out (D × Bool) := match a with
  | .list xs => .ok (.list (cut xs lo hi), fa || immAll xs)
  | .tuple xs => .ok (.tuple (cut xs lo hi), fa)
  | .str s => if small s.length = true then .ok (.str (cutS s lo hi), true) else .no
  | _ => .no
def revD (a : D) (fa : Bool) : Out (D × Bool) := match a with
  | .list xs => .ok (.list xs.reverse, fa || immAll xs)
  | _ => .no

/-! ### built-ins -/
inductive BI where
  | len | list | tuple | int | abs | repr | min | max | sum | all | any | sorted | sortedR
def allInt : List D → Option (List Int)
  | [] => some []
  | .int i :: r => (allInt r).map (i :: ·)
  | _ :: _ => none
def allBool : List D → Option (List Bool)
  | [] => some []
  | .bool i :: r => (allBool r).map (i :: ·)
  | _ :: _ => none
open Classical in
/-- the arguments by values -/
noncomputable def bltD (b : BI) (xs : List (D × Bool)) : Out (D × Bool) := match b, xs with
  | .len, [(.list ds, _)] => .ok (.int (ds.length : Nat), true)
  | .len, [(.tuple ds, _)] => .ok (.int (ds.length : Nat), true)
  | .len, [(.dict kvs, _)] => if kvs.all (fun p => (keyOf p.1).isSome) = true then .ok (.int (kvs.length : Nat), true) else .no
  | .len, [(.str s, _)] => if small s.length = true then .ok (.int (s.length : Nat), true) else .no
  | .list, [(.list ds, f)] => .ok (.list ds, f || immAll ds)
  | .list, [(.tuple ds, f)] => .ok (.list ds, f || immAll ds)
  | .tuple, [(.list ds, f)] => .ok (.tuple ds, f || immAll ds)
  | .tuple, [(.tuple ds, f)] => .ok (.tuple ds, f || immAll ds)
  | .int, [(.int i, _)] => .ok (.int i, true)
  | .abs, [(.int i, _)] => .ok (.int i.natAbs, true)
  | .repr, [(d, _)] => if (d.showable && small d.shown.length && decide (d.depth ≤ 64)) = true then .ok (.str d.shown, true) else .no
  | .min, [(.int i, _), (.int j, _)] => .ok (.int (if j < i then j else i), true)
  | .max, [(.int i, _), (.int j, _)] => .ok (.int (if i < j then j else i), true)
  | .sum, [(.list ds, _)] => match allInt ds with
    | some ns => .ok (.int ns.sum, true)
    | none => .no
  | .all, [(.list ds, _)] => match allBool ds with
    | some bs => .ok (.bool (bs.all id), true)
    | none => .no
  | .any, [(.list ds, _)] => match allBool ds with
    | some bs => .ok (.bool (bs.any id), true)
    | none => .no
  | .sorted, [(.list ds, f)] => if W.AllAlike ds ∧ W.Sortable ds ∧ (∀ d ∈ ds, d.depth ≤ 64) then .ok (.list (ds.mergeSort (W.dataLe false id)), f || immAll ds) else .no
  | .sortedR, [(.list ds, f)] => if W.AllAlike ds ∧ W.Sortable ds ∧ (∀ d ∈ ds, d.depth ≤ 64) then .ok (.list (ds.mergeSort (W.dataLe true id)), f || immAll ds) else .no
  | _, _ => .no

inductive Tg where
  | nm (i : Nat)
  | tup (ts : List Tg)
end CF
/-! CF3: how slots hold trees, what an expression leaves, and how two in a row fit. -/
namespace CF
open PySem PySem.Spec PyProof.Rows L2

/-- no lock on it -/
def Unf (H : Hp) (a : Addr) : Prop := ∀ o u, H a ≠ some (.frz o u)
def Own (ε : EnvT) (i : Nat) : Prop := ∃ x, ε[i]? = some (.v x true)
/-- from H to H': Kp, and what is there stays there -/
structure Fr (W : Addr → Prop) (H H' : Hp) : Prop where
  kp : Kp W H H'
  live : ∀ a, H' a = none → H a = none
theorem Fr.refl {W : Addr → Prop} {H : Hp} : Fr W H H := ⟨.refl, fun _ e => e⟩
theorem Fr.trans {W : Addr → Prop} {H H1 H2 : Hp} (a : Fr W H H1) (b : Fr W H1 H2) : Fr W H H2 := ⟨a.kp.trans b.kp, fun x e => a.live x (b.live x e)⟩
theorem Fr.mono {W W' : Addr → Prop} {H H' : Hp} (a : Fr W H H') (h : ∀ x, W x → W' x) : Fr W' H H' := ⟨a.kp.mono h, a.live⟩
theorem Fr.new {W : Addr → Prop} {H : Hp} {p : Addr} {o : HO} (n : H p = none) : Fr W H (upd H p o) := ⟨.upd_new n, fun a e => by
  by_cases h : a = p
  · rw [h]; exact n
  · rw [upd_ne h] at e; exact e⟩
theorem Unf.keep {W : Addr → Prop} {H H' : Hp} {a : Addr} (u : Unf H a) (k : Kp W H H') (w : ¬ W a) (l : H a ≠ none) : Unf H' a := fun o x e => by
  cases q : H a with
  | none => exact l q
  | some z =>
    have := k a z q fun y => absurd y w
    rw [this] at e
    cases e
    exact u o x q

/-- what is fixed through a def's run: the written part, where it may write, where its things may stand -/
structure Fx where
  K : PySem.W.Frag
  Wr : Addr → Prop
  Og : Addr → Prop
  /-- an error may leave here -/
  Ex : Hp → Xc → Prop
  exm : ∀ {H H' : Hp} {x : Xc}, Ex H x → Fr Wr H H' → Ex H' x
  /-- slots that no statement sets: what stands in them -/
  io : List Nat
  pv : Nat → V

/-- the slots -/
structure EnvR (F : Fx) (H : Hp) (σ : L2.St) (ε : EnvT) (Fs : Nat → List Addr) : Prop where
  d : ∀ (i : Nat) (x : D) (o : Bool), ε[i]? = some (.v (.d x) o) → ∃ v, σ[i]? = some (some v) ∧ Rp F.K H v x (Fs i)
  s : ∀ (i : Nat) (ns : List Int) (o : Bool), ε[i]? = some (.v (.s ns) o) → ∃ a, σ[i]? = some (some (.ref a)) ∧ SqL F.K H a (ns.map V.int) ∧ ((Rd H a (.lst (ns.map V.int)) ∧ ¬ F.Wr a) ∨ ∀ H', SqL F.K H' a (ns.map V.int)) ∧ o = false
  og : ∀ j, ∀ a ∈ Fs j, F.Og a
  own : ∀ i, Own ε i → (Fs i).Nodup ∧ (∀ a ∈ Fs i, F.Wr a ∧ Unf H a) ∧ ∀ j, j ≠ i → ∀ a ∈ Fs i, a ∉ Fs j
  nw : ∀ a, H a = none → F.Wr a ∧ F.Og a
  un : ∀ (j : Nat), (∀ (x : D) (o : Bool), ε[j]? ≠ some (.v (.d x) o)) → Fs j = []
  io : ∀ i ∈ F.io, σ[i]? = some (some (F.pv i))
  len : σ.length = ε.length

theorem EnvR.live {F : Fx} {H : Hp} {σ : L2.St} {ε : EnvT} {Fs : Nat → List Addr} (R : EnvR F H σ ε Fs) {j : Nat} {a : Addr} (m : a ∈ Fs j) : H a ≠ none := by
  by_cases h : ∃ x o, ε[j]? = some (.v (.d x) o)
  · obtain ⟨x, o, e⟩ := h
    obtain ⟨v, _, r⟩ := R.d j x o e
    exact r.live m
  · rw [R.un j fun x o e => h ⟨x, o, e⟩] at m
    exact nomatch m

/-- what an expression leaves: its value v for the tree d, at F; fr: what can be changed in it is its own -/
structure PostE (X : Fx) (H : Hp) (σ : L2.St) (ε : EnvT) (Fs : Nat → List Addr) (rd ef : List Nat) (H' : Hp) (ε' : EnvT) (Fs' : Nat → List Addr) (v : V) (d : D) (fr : Bool) (F : List Addr) : Prop where
  env : EnvR X H' σ ε' Fs'
  kp : Fr (fun a => ∃ j ∈ ef, Own ε j ∧ a ∈ Fs j) H H'
  oo : ∀ j, Own ε' j → Own ε j
  fe : ∀ j, ∀ a ∈ Fs' j, H a = none ∨ a ∈ Fs j ∨ (j ∈ ef ∧ ∃ j' ∈ ef, Own ε j' ∧ a ∈ Fs j')
  ne : ∀ j, ¬ Own ε j → Fs' j = Fs j
  rp : Rp X.K H' v d F
  org : ∀ a ∈ F, H a = none ∨ ∃ j, a ∈ Fs j
  fr : fr = true → F.Nodup ∧ (∀ a ∈ F, X.Wr a ∧ Unf H' a) ∧ ∀ j, ∀ a ∈ F, a ∉ Fs' j
  al : ∀ j, j ∉ rd → Own ε' j → ∀ a ∈ F, a ∉ Fs' j

section
variable {X : Fx} {H H1 H2 : Hp} {σ : L2.St} {ε ε1 ε2 : EnvT} {Fs Fs1 Fs2 : Nat → List Addr} {rd rd1 rd2 ef ef1 ef2 : List Nat} {v v1 v2 : V} {d d1 d2 : D} {fr fr1 fr2 : Bool} {F F1 F2 : List Addr}
theorem EnvR.ow (R : EnvR X H σ ε Fs) {j : Nat} (o : Own ε j) {a : Addr} (m : a ∈ Fs j) : X.Wr a := ((R.own j o).2.1 a m).1
theorem PostE.kw (P : PostE X H σ ε Fs rd ef H1 ε1 Fs1 v d fr F) (R : EnvR X H σ ε Fs) : Fr X.Wr H H1 := P.kp.mono fun _ ⟨_, _, o, m⟩ => R.ow o m
/-- no more read, no more changed than what is said -/
theorem PostE.mono (P : PostE X H σ ε Fs rd1 ef1 H1 ε1 Fs1 v d fr F) (h1 : ∀ j ∈ rd1, j ∈ rd) (h2 : ∀ j ∈ ef1, j ∈ ef) : PostE X H σ ε Fs rd ef H1 ε1 Fs1 v d fr F :=
  ⟨P.env, P.kp.mono fun _ ⟨j, m, q⟩ => ⟨j, h2 j m, q⟩, P.oo, fun j a m => (P.fe j a m).imp id fun z => z.imp id fun ⟨w, j', m', q⟩ => ⟨h2 j w, j', h2 j' m', q⟩, P.ne, P.rp, P.org, P.fr, fun j hj => P.al j fun z => hj (h1 j z)⟩
/-- a value that was there ahead stays, where it is not among what may be changed -/
structure Held (X : Fx) (H2 : Hp) (ε2 : EnvT) (Fs2 : Nat → List Addr) (rd : List Nat) (v : V) (d : D) (fr : Bool) (F : List Addr) : Prop where
  rp : Rp X.K H2 v d F
  fr : fr = true → F.Nodup ∧ (∀ a ∈ F, X.Wr a ∧ Unf H2 a) ∧ ∀ j, ∀ a ∈ F, a ∉ Fs2 j
  al : ∀ j, j ∉ rd → Own ε2 j → ∀ a ∈ F, a ∉ Fs2 j
theorem PostE.held0 (P : PostE X H σ ε Fs rd ef H1 ε1 Fs1 v d fr F) : Held X H1 ε1 Fs1 rd v d fr F := ⟨P.rp, P.fr, P.al⟩
/-- an effect comes in between: either it touches nothing that was read, or the value can't be changed, or is its own -/
theorem Held.next' (P : Held X H1 ε1 Fs1 rd1 v1 d1 fr1 F1) (hF : Fr (fun a => ∃ j ∈ ef2, Own ε1 j ∧ a ∈ Fs1 j) H1 H2) (hoo : ∀ j, Own ε2 j → Own ε1 j)
    (hfe : ∀ j, ∀ a ∈ Fs2 j, H1 a = none ∨ a ∈ Fs1 j ∨ (j ∈ ef2 ∧ ∃ j' ∈ ef2, Own ε1 j' ∧ a ∈ Fs1 j'))
    (h : (∀ j ∈ ef2, j ∉ rd1) ∨ imm d1 = true ∨ fr1 = true) : Held X H2 ε2 Fs2 rd1 v1 d1 fr1 F1 := by
  -- what may be changed in the value is not among what is changed
  have nw : ∀ a ∈ F1, ¬ ∃ j ∈ ef2, Own ε1 j ∧ a ∈ Fs1 j := fun a m ⟨j, hj, o, m'⟩ => by
    rcases h with h | h | h
    · exact P.al j (h j hj) o a m m'
    · rw [P.rp.imm h] at m; exact nomatch m
    · exact (P.fr h).2.2 j a m m'
  have lv : ∀ a ∈ F1, H1 a ≠ none := fun a m => P.rp.live m
  have out : ∀ j, (∀ a ∈ F1, a ∉ Fs1 j) → ∀ a ∈ F1, a ∉ Fs2 j := fun j hj a m m2 => by
    rcases hfe j a m2 with z | z | ⟨_, j', hj', o, z⟩
    · exact lv a m z
    · exact hj a m z
    · exact nw a m ⟨j', hj', o, z⟩
  refine ⟨P.rp.keep hF.kp nw, fun e => ?_, fun j hj o => out j (P.al j hj (hoo j o))⟩
  obtain ⟨f1, f2, f3⟩ := P.fr e
  exact ⟨f1, fun a m => ⟨(f2 a m).1, (f2 a m).2.keep hF.kp (nw a m) (lv a m)⟩, fun j => out j (f3 j)⟩
theorem Held.next (P : Held X H1 ε1 Fs1 rd1 v1 d1 fr1 F1) (R1 : EnvR X H1 σ ε1 Fs1) (hF : Fr (fun a => ∃ j ∈ ef2, Own ε1 j ∧ a ∈ Fs1 j) H1 H2) (hoo : ∀ j, Own ε2 j → Own ε1 j)
    (hfe : ∀ j, ∀ a ∈ Fs2 j, H1 a = none ∨ a ∈ Fs1 j ∨ (j ∈ ef2 ∧ ∃ j' ∈ ef2, Own ε1 j' ∧ a ∈ Fs1 j'))
    (h : (∀ j ∈ ef2, j ∉ rd1) ∨ imm d1 = true ∨ fr1 = true) : Held X H2 ε2 Fs2 rd1 v1 d1 fr1 F1 := P.next' hF hoo hfe h
theorem Held.step (P : Held X H1 ε1 Fs1 rd1 v1 d1 fr1 F1) (R1 : EnvR X H1 σ ε1 Fs1) (Q : PostE X H1 σ ε1 Fs1 rd2 ef2 H2 ε2 Fs2 v2 d2 fr2 F2)
    (h : (∀ j ∈ ef2, j ∉ rd1) ∨ imm d1 = true ∨ fr1 = true) : Held X H2 ε2 Fs2 rd1 v1 d1 fr1 F1 := P.next R1 Q.kp Q.oo Q.fe h
/-- the state's part of two in a row -/
structure Seq (X : Fx) (H : Hp) (σ : L2.St) (ε : EnvT) (Fs : Nat → List Addr) (ef : List Nat) (H' : Hp) (ε' : EnvT) (Fs' : Nat → List Addr) : Prop where
  env : EnvR X H' σ ε' Fs'
  kp : Fr (fun a => ∃ j ∈ ef, Own ε j ∧ a ∈ Fs j) H H'
  oo : ∀ j, Own ε' j → Own ε j
  fe : ∀ j, ∀ a ∈ Fs' j, H a = none ∨ a ∈ Fs j ∨ (j ∈ ef ∧ ∃ j' ∈ ef, Own ε j' ∧ a ∈ Fs j')
  ne : ∀ j, ¬ Own ε j → Fs' j = Fs j
theorem PostE.seq (P : PostE X H σ ε Fs rd ef H1 ε1 Fs1 v d fr F) : Seq X H σ ε Fs ef H1 ε1 Fs1 := ⟨P.env, P.kp, P.oo, P.fe, P.ne⟩
theorem Seq.refl (R : EnvR X H σ ε Fs) : Seq X H σ ε Fs ef H ε Fs := ⟨R, .refl, fun _ o => o, fun _ _ m => .inr (.inl m), fun _ _ => rfl⟩
theorem Seq.mono (P : Seq X H σ ε Fs ef1 H1 ε1 Fs1) (h2 : ∀ j ∈ ef1, j ∈ ef) : Seq X H σ ε Fs ef H1 ε1 Fs1 :=
  ⟨P.env, P.kp.mono fun _ ⟨j, m, q⟩ => ⟨j, h2 j m, q⟩, P.oo, fun j a m => (P.fe j a m).imp id fun z => z.imp id fun ⟨w, j', m', q⟩ => ⟨h2 j w, j', h2 j' m', q⟩, P.ne⟩
theorem Seq.kw (P : Seq X H σ ε Fs ef H1 ε1 Fs1) (R : EnvR X H σ ε Fs) : Fr X.Wr H H1 := P.kp.mono fun _ ⟨_, _, o, m⟩ => R.ow o m
theorem Seq.trans (P : Seq X H σ ε Fs ef H1 ε1 Fs1) (Q : Seq X H1 σ ε1 Fs1 ef H2 ε2 Fs2) : Seq X H σ ε Fs ef H2 ε2 Fs2 := by
  -- where the second may write, the first may, or it is new
  have back : ∀ a, (∃ j ∈ ef, Own ε1 j ∧ a ∈ Fs1 j) → (∃ j ∈ ef, Own ε j ∧ a ∈ Fs j) ∨ H a = none := fun a ⟨j, hj, o, m⟩ => by
    rcases P.fe j a m with z | z | ⟨_, j', hj', o', z⟩
    · exact .inr z
    · exact .inl ⟨j, hj, P.oo j o, z⟩
    · exact .inl ⟨j', hj', o', z⟩
  refine ⟨Q.env, ⟨fun a o e w => ?_, fun a e => P.kp.live a (Q.kp.live a e)⟩, fun j o => P.oo j (Q.oo j o), fun j a m => ?_, fun j n => (Q.ne j fun o => n (P.oo j o)).trans (P.ne j n)⟩
  · refine Q.kp.kp a o (P.kp.kp a o e w) fun z => ?_
    rcases back a z with z | z
    · exact w z
    · rw [e] at z; cases z
  · rcases Q.fe j a m with z | z | ⟨hj, j', hj', o, z⟩
    · exact .inl (P.kp.live a z)
    · exact P.fe j a z
    · rcases back a ⟨j', hj', o, z⟩ with ⟨j'', hj'', o'', z⟩ | z
      · exact .inr (.inr ⟨hj, j'', hj'', o'', z⟩)
      · exact .inl z
/-- new things come -/
theorem EnvR.ext (R : EnvR X H σ ε Fs) (k : Fr (fun _ => False) H H1) : EnvR X H1 σ ε Fs := by
  refine ⟨fun i x o e => ?_, fun i ns o e => ?_, R.og, fun i o => ?_, fun a e => R.nw a (k.live a e), R.un, R.io, R.len⟩
  · obtain ⟨v, e1, r⟩ := R.d i x o e
    exact ⟨v, e1, r.keep k.kp fun _ _ z => z⟩
  · obtain ⟨a, e1, r, w, q⟩ := R.s i ns o e
    rcases w with ⟨w1, w2⟩ | w
    · exact ⟨a, e1, .inl (k.kp.rd w1 fun z => z), .inl ⟨k.kp.rd w1 fun z => z, w2⟩, q⟩
    · exact ⟨a, e1, w _, .inr w, q⟩
  · obtain ⟨f1, f2, f3⟩ := R.own i o
    exact ⟨f1, fun a m => ⟨(f2 a m).1, (f2 a m).2.keep k.kp (fun z => z) (R.live m)⟩, f3⟩
theorem Seq.ext (R : EnvR X H σ ε Fs) (k : Fr (fun _ => False) H H1) : Seq X H σ ε Fs ef H1 ε Fs := ⟨R.ext k, k.mono fun _ z => z.elim, fun _ o => o, fun _ _ m => .inr (.inl m), fun _ _ => rfl⟩
/-- a state's part with a value -/
theorem Seq.post (S : Seq X H σ ε Fs ef H1 ε1 Fs1) (h : Held X H1 ε1 Fs1 rd v d fr F) (o : ∀ a ∈ F, H a = none ∨ ∃ j, a ∈ Fs j) : PostE X H σ ε Fs rd ef H1 ε1 Fs1 v d fr F :=
  ⟨S.env, S.kp, S.oo, S.fe, S.ne, h.rp, o, h.fr, h.al⟩
/-- .. in which nothing can be changed -/
theorem Seq.post0 (S : Seq X H σ ε Fs ef H1 ε1 Fs1) (r : Rp X.K H1 v d []) : PostE X H σ ε Fs rd ef H1 ε1 Fs1 v d fr [] :=
  S.post ⟨r, fun _ => ⟨List.nodup_nil, (fun _ m => nomatch m), (fun _ _ m => nomatch m)⟩, (fun _ _ _ _ m => nomatch m)⟩ fun _ m => nomatch m
/-- what was changed or new behind two in a row was so from the start -/
theorem Seq.org (S : Seq X H σ ε Fs ef H1 ε1 Fs1) {a : Addr} (o : H1 a = none ∨ ∃ j, a ∈ Fs1 j) : H a = none ∨ ∃ j, a ∈ Fs j := by
  rcases o with o | ⟨j, m⟩
  · exact .inl (S.kp.live a o)
  · rcases S.fe j a m with z | z | ⟨_, j', _, _, z⟩
    · exact .inl z
    · exact .inr ⟨j, z⟩
    · exact .inr ⟨j', z⟩
end
end CF
/-! CF4: the parts of which the run of a text is put together. -/
namespace CF
open PySem PySem.Spec PyProof.Rows L2

abbrev M := EnvT → Out (D × Bool × EnvT)
abbrev MT := EnvT → Out (Bool × EnvT)
abbrev ML := EnvT → Out (List (D × Bool) × EnvT)
theorem Out.bind_eq {α β : Type} (o : Out α) (f : α → Out β) : (o >>= f) = o.bind f := rfl
@[simp] theorem Out.bind_ok' {α β : Type} (a : α) (f : α → Out β) : (Out.ok a).bind f = f a := rfl
@[simp] theorem Out.bind_ex' {α β : Type} (x : Xc) (f : α → Out β) : (Out.ex x : Out α).bind f = .ex x := rfl
@[simp] theorem Out.bind_no' {α β : Type} (f : α → Out β) : (Out.no : Out α).bind f = .no := rfl

/-- what a def gives back: a tree, whether what can be changed in it is its own, what its changed arguments hold then -/
structure FRet where
  d : D
  fr : Bool
  io : List D
/-- a def: which arguments it changes; its run -/
structure FS where
  np : Nat
  io : List Nat
  run : List Val → Out FRet
inductive Arg where
  | ref (i : Nat)
  | val (d : D) (f : Bool)
  /-- a list just made, nothing to be changed in its items -/
  | tmp (d : D)
abbrev MA := EnvT → Out (List Arg × EnvT)

def hold (h : Bool) (d : D) (f : Bool) : Out Unit := if (!h || imm d || f) = true then .ok () else .no
@[simp] theorem hold_false (d : D) (f : Bool) : hold false d f = .ok () := rfl
@[simp] theorem hold_true (h : Bool) (d : D) : hold h d true = .ok () := by simp [hold]
def getD (ε : EnvT) (i : Nat) : Out (D × Bool) := match ε[i]? with
  | some (.v (.d x) o) => .ok (x, o)
  | _ => .no
def valAt (ε : EnvT) : Arg → Option Val
  | .ref i => match ε[i]? with
    | some (.v x _) => some x
    | _ => none
  | .val d _ => some (.d d)
  | .tmp d => some (.d d)
def ownB (ε : EnvT) (i : Nat) : Bool := match ε[i]? with
  | some (.v (.d _) true) => true
  | _ => false
/-- the k-th argument, changed by the def: one's own slot, or a list just made -/
def ioSlot (ε : EnvT) (as : List Arg) (k : Nat) : Option (Option Nat) := match as[k]? with
  | some (.ref i) => if ownB ε i = true then some (some i) else none
  | some (.tmp _) => some none
  | _ => none
def isRef (i : Nat) : Arg → Bool
  | .ref j => j == i
  | _ => false
def okArg : Arg → Bool
  | .val d f => imm d || f
  | _ => true
def setAll (ε : EnvT) : List (Option Nat) → List D → EnvT
  | some i :: is, d :: ds => (setAll ε is ds).set i (.v (.d d) true)
  | none :: is, _ :: ds => setAll ε is ds
  | _, _ => ε
/-- what is changed stands in one place alone; js: the slots that may be changed -/
def ioFits (js : List Nat) (as : List Arg) (is : List (Option Nat)) : Bool := is.isEmpty || (as.all okArg && is.all fun o => match o with
  | some i => js.contains i && decide ((as.filter (isRef i)).length ≤ 1)
  | none => true)
def doCall (S : FS) (js : List Nat) (as : List Arg) (ε : EnvT) : Out (D × Bool × EnvT) := match S.io.mapM (ioSlot ε as), as.mapM (valAt ε) with
  | some is, some vs => if (ioFits js as is && decide (as.length = S.np)) = true then (S.run vs).bind fun r => .ok (r.d, r.fr, setAll ε is r.io) else .no
  | _, _ => .no

/-- a target takes a tree -/
def bindOne (ε : EnvT) (i : Nat) (d : D) (f : Bool) : EnvT := ε.set i (.v (.d d) (f || imm d))
mutual
def bindTg (ε : EnvT) : Tg → D → Bool → Out EnvT
  | .nm i, d, f => if i < ε.length then .ok (bindOne ε i d f) else .no
  | .tup ts, .tuple ds, f => bindTgs ε ts ds f
  | .tup _, _, _ => .no
def bindTgs (ε : EnvT) : List Tg → List D → Bool → Out EnvT
  | [], [], _ => .ok ε
  | t :: ts, d :: ds, f => (bindTg ε t d f).bind fun ε1 => bindTgs ε1 ts ds f
  | _, _, _ => .no
end
def allFr : List (D × Bool) → Bool
  | [] => true
  | (d, f) :: r => (f || imm d) && allFr r

/-! ### expressions -/
def mNm (i : Nat) (mv : Bool) : M := fun ε => (getD ε i).bind fun p => if (mv && p.2) = true then .ok (p.1, true, ε.set i .un) else .ok (p.1, false, ε)
def mC (d : D) : M := fun ε => .ok (d, true, ε)
def m2 (a b : M) (h : Bool) (f : D → Bool → D → Bool → Out (D × Bool)) : M := fun ε => (a ε).bind fun p => (b p.2.2).bind fun q => (hold h p.1 p.2.1).bind fun _ => (f p.1 p.2.1 q.1 q.2.1).bind fun r => .ok (r.1, r.2, q.2.2)
def mBin (op : BOp) (a b : M) (h : Bool) : M := m2 a b h (binD op)
def mCmp (op : COp) (a b : M) (h : Bool) : M := m2 a b h fun x _ y _ => (cmpD op x y).bind fun r => .ok (.bool r, true)
def mIx (a b : M) (h : Bool) : M := m2 a b h fun x f y _ => ixD x f y
def negD : D → Out (D × Bool)
  | .int i => .ok (.int (-i), true)
  | _ => .no
def m1 (a : M) (f : D → Bool → Out (D × Bool)) : M := fun ε => (a ε).bind fun p => (f p.1 p.2.1).bind fun r => .ok (r.1, r.2, p.2.2)
def mNeg (a : M) : M := m1 a fun d _ => negD d
def mT (a : M) : MT := fun ε => (a ε).bind fun p => if truthOk p.1 = true then .ok (truD p.1, p.2.2) else .no
/-- a value that is a bool -/
def mTb (a : M) : MT := fun ε => (a ε).bind fun p => match p.1 with
  | .bool c => .ok (c, p.2.2)
  | _ => .no
def mNot (a : MT) : MT := fun ε => (a ε).bind fun p => .ok (!p.1, p.2)
def mAnd (a b : MT) : MT := fun ε => (a ε).bind fun p => if p.1 = true then b p.2 else .ok (false, p.2)
def mOr (a b : MT) : MT := fun ε => (a ε).bind fun p => if p.1 = true then .ok (true, p.2) else b p.2
/-- a test as a value -/
def mB (a : MT) : M := fun ε => (a ε).bind fun p => .ok (.bool p.1, true, p.2)
def isNone : D → Bool
  | .none => true
  | _ => false
def mIs (a : M) (ng : Bool) : MT := fun ε => (a ε).bind fun p => .ok (isNone p.1 != ng, p.2.2)
def mIte (t : MT) (a b : M) : M := fun ε => (t ε).bind fun p => if p.1 = true then a p.2 else b p.2
def lNil : ML := fun ε => .ok ([], ε)
def lCons (a : M) (h : Bool) (r : ML) : ML := fun ε => (a ε).bind fun p => (r p.2.2).bind fun q => (hold h p.1 p.2.1).bind fun _ => .ok ((p.1, p.2.1) :: q.1, q.2)
def mTup (es : ML) : M := fun ε => (es ε).bind fun p => if small p.1.length = true then .ok (.tuple (p.1.map (·.1)), allFr p.1, p.2) else .no
def mLst (es : ML) : M := fun ε => (es ε).bind fun p => if small p.1.length = true then .ok (.list (p.1.map (·.1)), allFr p.1, p.2) else .no
noncomputable def mBlt (b : BI) (es : ML) : M := fun ε => (es ε).bind fun p => (bltD b p.1).bind fun r => .ok (r.1, r.2, p.2)
abbrev MO := EnvT → Out (Option Int × EnvT)
def oNo : MO := fun ε => .ok (none, ε)
def oYes (a : M) : MO := fun ε => (a ε).bind fun p => match p.1 with
  | .int i => .ok (some i, p.2.2)
  | _ => .no
def mSl (a : M) (lo hi : MO) (h : Bool) : M := fun ε => (a ε).bind fun p => (lo p.2.2).bind fun l => (hi l.2).bind fun u => (hold h p.1 p.2.1).bind fun _ => (slD p.1 p.2.1 l.1 u.1).bind fun r => .ok (r.1, r.2, u.2)
def mRev (a : M) : M := m1 a revD
/-- a part of the script -/
def mScr (i : Nat) (lo hi : Option Int) : M := fun ε => match ε[i]? with
  | some (.v (.s ns) _) => .ok (.list ((cut ns lo hi).map .int), true, ε)
  | _ => .no
def aNil : MA := fun ε => .ok ([], ε)
def hasV (ε : EnvT) (i : Nat) : Bool := match ε[i]? with
  | some (.v _ _) => true
  | _ => false
def aRef (i : Nat) (r : MA) : MA := fun ε => if hasV ε i = true then (r ε).bind fun q => .ok (.ref i :: q.1, q.2) else .no
def aVal (a : M) (h : Bool) (r : MA) : MA := fun ε => (a ε).bind fun p => (r p.2.2).bind fun q => (hold h p.1 p.2.1).bind fun _ => .ok (.val p.1 p.2.1 :: q.1, q.2)
def aTmp (l : ML) (r : MA) : MA := fun ε => (mLst l ε).bind fun p => match p.1 with
  | .list ds => if immAll ds = true then (r p.2.2).bind fun q => .ok (.tmp p.1 :: q.1, q.2) else .no
  | _ => .no
def mCall (S : FS) (js : List Nat) (as : MA) : M := fun ε => (as ε).bind fun p => doCall S js p.1 p.2
def dNew : D := .dict []

/-! ### what is walked: the items; whether nothing can be changed in what is walked but by itself -/
abbrev MI := EnvT → Out (List D × Bool × EnvT)
def iEx (a : M) : MI := fun ε => (a ε).bind fun p => match p.1 with
  | .list ds => .ok (ds, p.2.1, p.2.2)
  | .tuple ds => .ok (ds, p.2.1 || immAll ds, p.2.2)
  | _ => .no
def iStr (a : M) : MI := fun ε => (a ε).bind fun p => match p.1 with
  | .str s => if small s.length = true then .ok (s.cps.toList.map fun c => .str ⟨#[c]⟩, true, p.2.2) else .no
  | _ => .no
def iR1 (a : M) : MI := fun ε => (a ε).bind fun p => match p.1 with
  | .int j => if -(2 ^ 62) ≤ j ∧ j < 2 ^ 62 then .ok ((List.range j.toNat).map fun k => .int (k : Nat), true, p.2.2) else .no
  | _ => .no
def iR2 (a b : M) : MI := fun ε => (a ε).bind fun p => (b p.2.2).bind fun q => match p.1, q.1 with
  | .int i, .int j => if -(2 ^ 62) ≤ i ∧ i < 2 ^ 62 ∧ -(2 ^ 62) ≤ j ∧ j < 2 ^ 62 then .ok ((List.range (j - i).toNat).map fun k => .int (i + (k : Nat)), true, q.2.2) else .no
  | _, _ => .no
def seqOf : D → Option (List D)
  | .list ds => some ds
  | .tuple ds => some ds
  | _ => none
def iZip (a b : M) (h : Bool) : MI := fun ε => (a ε).bind fun p => (b p.2.2).bind fun q => (hold h p.1 p.2.1).bind fun _ => match seqOf p.1, seqOf q.1 with
  | some xs, some ys => .ok ((xs.zip ys).map fun z => .tuple [z.1, z.2], (p.2.1 || imm p.1) && (q.2.1 || imm q.1), q.2.2)
  | _, _ => .no
def iEnum (a : M) : MI := fun ε => (a ε).bind fun p => match seqOf p.1 with
  | some xs => .ok (xs.zipIdx.map fun z => .tuple [.int (z.2 : Nat), z.1], p.2.1 || imm p.1, p.2.2)
  | none => .no
def noEx {α : Type} : Out α → Out α
  | .ok a => .ok a
  | _ => .no
/-- the keys of the dict in a slot, in their order -/
def iKeys (i : Nat) : MI := fun ε => match ε[i]? with
  | some (.v (.d (.dict kvs)) _) => .ok (kvs.map (·.1), false, ε)
  | _ => .no
/-- while the dict in a slot is walked -/
def mKeyLock (i : Nat) (m : M) : M := fun ε => match ε[i]? with
  | some (.v (.d (.dict kvs)) o) => if kvs.isEmpty = true then .ok (.list [], true, ε) else (noEx (m (ε.set i (.v (.d (.dict kvs)) false)))).bind fun r => .ok (r.1, r.2.1, r.2.2.set i (.v (.d (.dict kvs)) o))
  | _ => .no
def wipeE (ε : EnvT) : List Nat → EnvT
  | [] => ε
  | i :: is => (wipeE ε is).set i .un
/-- the slots of a comprehension as they were ahead of it -/
def restE (ε ε0 : EnvT) : List Nat → EnvT
  | [] => ε
  | i :: is => (restE ε ε0 is).set i (ε0.getD i .un)
/-- a comprehension's turns -/
def turns (own : List Nat) (tg : Tg) (body : EnvT → Out (List (D × Bool) × EnvT)) : List D → EnvT → Out (List (D × Bool) × EnvT)
  | [], ε => .ok ([], ε)
  | d :: r, ε => (bindTg ε tg d false).bind fun ε1 => (body ε1).bind fun p => (turns own tg body r (wipeE p.2 own)).bind fun q => .ok (p.1 ++ q.1, q.2)
def cEnd (elt : M) (h : Bool) : ML := fun ε => (elt ε).bind fun p => (hold h p.1 p.2.1).bind fun _ => .ok ([(p.1, p.2.1)], p.2.2)
def cIf (t : MT) (a : ML) : ML := fun ε => (t ε).bind fun p => if p.1 = true then a p.2 else .ok ([], p.2)
/-- a slot that a block may take: nothing that can be changed is in it -/
def freeSlot (ε : EnvT) (i : Nat) : Bool := match ε[i]? with
  | some (.v (.d d) _) => imm d
  | some (.v (.s _) _) => false
  | _ => true
/-- own: the block's names that are bound here; rds: the slots that what is walked reads -/
def itOk (h : Bool) (rds : List Nat) (ds : List D) (f : Bool) (ε : EnvT) : Bool := f || (!h && (immAll ds || rds.all fun j => !ownB ε j))
def cFor (it : MI) (own : List Nat) (tg : Tg) (h : Bool) (rds : List Nat) (a : ML) : ML := fun ε => (it ε).bind fun p => if (itOk h rds p.1 p.2.1 p.2.2 && own.all (freeSlot p.2.2)) = true then (noEx (turns own tg a p.1 (wipeE p.2.2 own))).bind fun q => .ok (q.1, restE q.2 p.2.2 own) else .no
def mLc (c : ML) : M := fun ε => (c ε).bind fun p => if small p.1.length = true then .ok (.list (p.1.map (·.1)), allFr p.1, p.2) else .no
end CF
/-! CF5: what it is that an expression runs as the small language says. -/
namespace CF
open PySem PySem.Spec PyProof.Rows L2

/-- readings -/
def tE (F : Fx) (rd ef : List Nat) (m : EnvT → Out (D × Bool × EnvT)) : TE := fun σ H Q => ∃ ε Fs, EnvR F H σ ε Fs ∧ match m ε with
  | .ok r => ∀ v H' Fs' G, PostE F H σ ε Fs rd ef H' r.2.2 Fs' v r.1 r.2.1 G → Q v H'
  | .ex x => F.Ex H x
  | .no => False
def tT (F : Fx) (ef : List Nat) (m : EnvT → Out (Bool × EnvT)) : TT := fun σ H Q => ∃ ε Fs, EnvR F H σ ε Fs ∧ match m ε with
  | .ok r => ∀ H' Fs', Seq F H σ ε Fs ef H' r.2 Fs' → Q r.1 H'
  | .ex x => F.Ex H x
  | .no => False
/-- several values, held -/
inductive HeldL (F : Fx) (H : Hp) (ε : EnvT) (Fs : Nat → List Addr) (rd : List Nat) : List V → List (D × Bool) → List Addr → Prop
  | nil : HeldL F H ε Fs rd [] [] []
  | cons {v : V} {vs : List V} {d : D} {fr : Bool} {ds : List (D × Bool)} {G G' : List Addr} : Held F H ε Fs rd v d fr G → HeldL F H ε Fs rd vs ds G' → (fr = true → ∀ a ∈ G, a ∉ G') → HeldL F H ε Fs rd (v :: vs) ((d, fr) :: ds) (G ++ G')
def tL (F : Fx) (rd ef : List Nat) (m : EnvT → Out (List (D × Bool) × EnvT)) : TA := fun σ H Q => ∃ ε Fs, EnvR F H σ ε Fs ∧ match m ε with
  | .ok r => ∀ vs H' Fs' G, Seq F H σ ε Fs ef H' r.2 Fs' → HeldL F H' r.2 Fs' rd vs r.1 G → (∀ a ∈ G, H a = none ∨ ∃ j, a ∈ Fs j) → Q vs H'
  | .ex x => F.Ex H x
  | .no => False

/-- less asked, more known -/
theorem _root_.L2.PE.imp {X : Cx} {e : Expr} {t t' : TE} (h : PE X e t) (i : ∀ σ H Q, t' σ H Q → t σ H Q) : PE X e t' := ⟨fun pins s σ H Q I q => h.run pins s σ H Q I (i _ _ _ q)⟩
theorem _root_.L2.PT.imp {X : Cx} {e : Expr} {t t' : TT} (h : PT X e t) (i : ∀ σ H Q, t' σ H Q → t σ H Q) : PT X e t' := ⟨fun pins s σ H Q I q => h.run pins s σ H Q I (i _ _ _ q)⟩
theorem _root_.L2.PW.imp {X : Cx} {e : Expr} {t t' : TT} (h : PW X e t) (i : ∀ σ H Q, t' σ H Q → t σ H Q) : PW X e t' := ⟨fun wh pins s σ H Q I q => h.run wh pins s σ H Q I (i _ _ _ q)⟩
theorem _root_.L2.PA.imp {X : Cx} {e : List Expr} {t t' : TA} (h : PA X e t) (i : ∀ σ H Q, t' σ H Q → t σ H Q) : PA X e t' := ⟨fun wh pins s σ H Q I q => h.run wh pins s σ H Q I (i _ _ _ q)⟩
theorem _root_.L2.PE.or {X : Cx} {e : Expr} {t t' : TE} (h : PE X e t) (h' : PE X e t') : PE X e (fun σ H Q => t σ H Q ∨ t' σ H Q) :=
  ⟨fun pins s σ H Q I q => q.elim (h.run pins s σ H Q I) (h'.run pins s σ H Q I)⟩
theorem _root_.L2.PC.or {X : Cx} {op : CmpOp} {a b : Expr} {t t' : TE} (h : PC X op a b t) (h' : PC X op a b t') : PC X op a b (fun σ H Q => t σ H Q ∨ t' σ H Q) :=
  ⟨fun pins s σ H Q I q => q.elim (h.run pins s σ H Q I) (h'.run pins s σ H Q I)⟩
theorem _root_.L2.PC.imp {X : Cx} {op : CmpOp} {a b : Expr} {t t' : TE} (h : PC X op a b t) (i : ∀ σ H Q, t' σ H Q → t σ H Q) : PC X op a b t' := ⟨fun pins s σ H Q I q => h.run pins s σ H Q I (i _ _ _ q)⟩
theorem pc_ofR {X : Cx} {op : CmpOp} {a b : Expr} {ta tb : TE} {r : R2} (ho : OpR X (compareOp op) r) (ha : PE X a ta) (hb : PE X b tb) : PC X op a b (tOp r ta tb) :=
  ⟨fun pins s σ H Q I h => binT ha hb I h fun v u s2 x y H2 I2 rx ry q => ho pins s2 σ H2 x y v u Q I2 rx ry q⟩

section
variable {X : Cx} {F : Fx} {σ : L2.St} {H : Hp}
/-- two in a row: what the reading of an operator over both has -/
theorem tE_two {ma mb : EnvT → Out (D × Bool × EnvT)} {rda rdb efa efb : List Nat} {h : Bool} {f : D × Bool × EnvT → D × Bool × EnvT → Out (D × Bool × EnvT)} {Q : VK} {rd ef : List Nat} {R2' : V → V → Hp → Prop}
    (hrd : (∀ j ∈ rda, j ∈ rd) ∧ ∀ j ∈ rdb, j ∈ rd) (hef : (∀ j ∈ efa, j ∈ ef) ∧ ∀ j ∈ efb, j ∈ ef) (hh : h = true ∨ ∀ j ∈ efb, j ∉ rda)
    (H0 : tE F rd ef (fun ε => (ma ε).bind fun p => (mb p.2.2).bind fun q => (hold h p.1 p.2.1).bind fun _ => f p q) σ H Q)
    (go : ∀ (ε : EnvT) (Fs : Nat → List Addr) (p q : D × Bool × EnvT) (v u : V) (H2 : Hp) (Fs2 : Nat → List Addr) (G1 G2 : List Addr), EnvR F H σ ε Fs → Seq F H σ ε Fs ef H2 q.2.2 Fs2 →
      Held F H2 q.2.2 Fs2 rd v p.1 p.2.1 G1 → Held F H2 q.2.2 Fs2 rd u q.1 q.2.1 G2 → (p.2.1 = true → ∀ a ∈ G1, a ∉ G2) → (∀ a ∈ G1, H a = none ∨ ∃ j, a ∈ Fs j) → (∀ a ∈ G2, H a = none ∨ ∃ j, a ∈ Fs j) →
      (match f p q with
        | .ok r => ∀ v H' Fs' G, PostE F H σ ε Fs rd ef H' r.2.2 Fs' v r.1 r.2.1 G → Q v H'
        | .ex x => F.Ex H x
        | .no => False) → R2' v u H2) :
    tE F rda efa ma σ H fun v H1 => tE F rdb efb mb σ H1 fun u H2 => R2' v u H2 := by
  obtain ⟨ε, Fs, R, hm⟩ := H0
  dsimp only at hm
  refine ⟨ε, Fs, R, ?_⟩
  cases e1 : ma ε with
  | no => rw [e1] at hm; exact hm
  | ex x => rw [e1] at hm; exact hm
  | ok p =>
    rw [e1] at hm
    intro v H1 Fs1 G1 P1
    refine ⟨p.2.2, Fs1, P1.env, ?_⟩
    simp only [Out.bind_ok'] at hm
    cases e2 : mb p.2.2 with
    | no => rw [e2] at hm; exact hm
    | ex x => rw [e2] at hm; exact F.exm hm (P1.kw R)
    | ok q =>
      rw [e2] at hm
      simp only [Out.bind_ok'] at hm
      intro u H2 Fs2 G2 P2
      have hc : (∀ j ∈ efb, j ∉ rda) ∨ imm p.1 = true ∨ p.2.1 = true := by
        rcases hh with rfl | hh
        · by_cases c : (imm p.1 || p.2.1) = true
          · rcases Bool.or_eq_true_iff.mp c with c | c
            · exact .inr (.inl c)
            · exact .inr (.inr c)
          · have e : hold true p.1 p.2.1 = .no := by
              unfold hold
              rw [if_neg (by simpa using c)]
            rw [e] at hm
            exact hm.elim
        · exact .inl hh
      have hm' : (match f p q with
        | .ok r => ∀ v H' Fs' G, PostE F H σ ε Fs rd ef H' r.2.2 Fs' v r.1 r.2.1 G → Q v H'
        | .ex x => F.Ex H x
        | .no => False) := by
        cases e : hold h p.1 p.2.1 with
        | ok _ => rw [e] at hm; exact hm
        | ex x => unfold hold at e; split at e <;> cases e
        | no => rw [e] at hm; exact hm.elim
      have S1 := P1.seq.mono hef.1
      have S2 := P2.seq.mono hef.2
      have h1 := P1.held0.step P1.env P2 hc
      refine go ε Fs p q v u H2 Fs2 G1 G2 R (S1.trans S2) ⟨h1.rp, h1.fr, fun j hj => h1.al j fun z => hj (hrd.1 j z)⟩ ⟨P2.rp, P2.fr, fun j hj => P2.al j fun z => hj (hrd.2 j z)⟩ (fun fr a m m2 => ?_) P1.org (fun a m => S1.org (P2.org a m)) hm'
      rcases P2.org a m2 with z | ⟨j, z⟩
      · exact P1.rp.live m z
      · exact (P1.fr fr).2.2 j a m z
end
end CF
/-! CF6: values held, taken apart and put together. -/
namespace CF
open PySem PySem.Spec PyProof.Rows L2

/-- a row of values, held -/
structure HeldR (F : Fx) (H : Hp) (ε : EnvT) (Fs : Nat → List Addr) (rd : List Nat) (vs : List V) (ds : List D) (fr : Bool) (G : List Addr) : Prop where
  rp : Rps F.K H vs ds G
  fr : fr = true → G.Nodup ∧ (∀ a ∈ G, F.Wr a ∧ Unf H a) ∧ ∀ j, ∀ a ∈ G, a ∉ Fs j
  al : ∀ j, j ∉ rd → Own ε j → ∀ a ∈ G, a ∉ Fs j

section
variable {F : Fx} {H H' : Hp} {ε : EnvT} {Fs : Nat → List Addr} {rd : List Nat} {v v' : V} {vs ws : List V} {d : D} {ds es : List D} {fr fr' : Bool} {G G' : List Addr}
theorem noM {P : Addr → Prop} : ∀ a ∈ ([] : List Addr), P a := fun _ m => nomatch m
theorem Held.scal (r : Rp F.K H v d []) : Held F H ε Fs rd v d fr [] := ⟨r, fun _ => ⟨List.nodup_nil, noM, fun _ => noM⟩, fun _ _ _ => noM⟩
theorem Held.imm (h : Held F H ε Fs rd v d fr G) (i : imm d = true) : Held F H ε Fs rd v d fr' G ∧ G = [] := by
  have e := h.rp.imm i
  subst e
  exact ⟨.scal h.rp, rfl⟩
theorem HeldR.nil : HeldR F H ε Fs rd [] [] fr [] := ⟨.nil, fun _ => ⟨List.nodup_nil, noM, fun _ => noM⟩, fun _ _ _ => noM⟩
theorem HeldR.imm (h : HeldR F H ε Fs rd vs ds fr G) (i : immAll ds = true) : HeldR F H ε Fs rd vs ds fr' G := by
  have e := h.rp.imm i
  subst e
  exact ⟨h.rp, fun _ => ⟨List.nodup_nil, noM, fun _ => noM⟩, fun _ _ _ => noM⟩
theorem HeldR.orImm (h : HeldR F H ε Fs rd vs ds fr G) : HeldR F H ε Fs rd vs ds (fr || immAll ds) G := by
  cases e : immAll ds with
  | true => exact h.imm e
  | false => rw [Bool.or_false]; exact h
theorem HeldR.weak (h : HeldR F H ε Fs rd vs ds fr G) (w : fr' = true → fr = true) : HeldR F H ε Fs rd vs ds fr' G := ⟨h.rp, fun e => h.fr (w e), h.al⟩
theorem Held.weak (h : Held F H ε Fs rd v d fr G) (w : fr' = true → fr = true) : Held F H ε Fs rd v d fr' G := ⟨h.rp, fun e => h.fr (w e), h.al⟩
/-- from a row to a part of it, arranged anew -/
theorem HeldR.part (h : HeldR F H ε Fs rd vs ds fr G) (r : Rps F.K H ws es G') (sub : ∀ a ∈ G', a ∈ G) (nd : G.Nodup → G'.Nodup) : HeldR F H ε Fs rd ws es fr G' :=
  ⟨r, fun e => ⟨nd (h.fr e).1, fun a m => (h.fr e).2.1 a (sub a m), fun j a m => (h.fr e).2.2 j a (sub a m)⟩, fun j hj o a m => h.al j hj o a (sub a m)⟩
theorem HeldR.app (h : HeldR F H ε Fs rd vs ds fr G) (h' : HeldR F H ε Fs rd ws es fr' G') (dj : fr = true → fr' = true → ∀ a ∈ G, a ∉ G') : HeldR F H ε Fs rd (vs ++ ws) (ds ++ es) (fr && fr') (G ++ G') := by
  refine ⟨h.rp.append h'.rp, fun e => ?_, fun j hj o a m => ?_⟩
  · obtain ⟨e1, e2⟩ := Bool.and_eq_true_iff.mp e
    obtain ⟨a1, a2, a3⟩ := h.fr e1
    obtain ⟨b1, b2, b3⟩ := h'.fr e2
    refine ⟨List.nodup_append.mpr ⟨a1, b1, fun x m y m' e => ?_⟩, fun a m => ?_, fun j a m => ?_⟩
    · subst e; exact dj e1 e2 x m m'
    · rcases List.mem_append.mp m with m | m
      · exact a2 a m
      · exact b2 a m
    · rcases List.mem_append.mp m with m | m
      · exact a3 j a m
      · exact b3 j a m
  · rcases List.mem_append.mp m with m | m
    · exact h.al j hj o a m
    · exact h'.al j hj o a m
theorem Held.one (h : Held F H ε Fs rd v d fr G) : HeldR F H ε Fs rd [v] [d] fr G := ⟨.one h.rp, h.fr, h.al⟩
/-- a list's items -/
theorem Held.lst (h : Held F H ε Fs rd v (.list ds) fr G) : ∃ a xs G', v = .ref a ∧ H a = some (.lst xs) ∧ G = a :: G' ∧ HeldR F H ε Fs rd xs ds (fr || immAll ds) G' := by
  obtain ⟨r, f, al⟩ := h
  cases r with
  | lst hr q =>
    refine ⟨_, _, _, rfl, hr, rfl, HeldR.orImm ⟨q, fun e => ?_, fun j hj o a m => al j hj o a (List.mem_cons_of_mem _ m)⟩⟩
    obtain ⟨a1, a2, a3⟩ := f e
    exact ⟨(List.nodup_cons.mp a1).2, fun a m => a2 a (List.mem_cons_of_mem _ m), fun j a m => a3 j a (List.mem_cons_of_mem _ m)⟩
theorem Held.tup (h : Held F H ε Fs rd v (.tuple ds) fr G) : ∃ a xs, v = .ref a ∧ H a = some (.tup xs) ∧ HeldR F H ε Fs rd xs ds (fr || immAll ds) G := by
  obtain ⟨r, f, al⟩ := h
  cases r with
  | tup hr q => exact ⟨_, _, rfl, hr, HeldR.orImm ⟨q, f, al⟩⟩
/-- the i-th of a row -/
theorem HeldR.at (h : HeldR F H ε Fs rd vs ds fr G) {i : Nat} (e : ds[i]? = some d) : ∃ x G', vs[i]? = some x ∧ Held F H ε Fs rd x d fr G' ∧ ∀ a ∈ G', a ∈ G := by
  have key : ∀ {vs : List V} {ds : List D} {G : List Addr}, Rps F.K H vs ds G → ∀ {i : Nat} {d : D}, ds[i]? = some d → ∃ x G', vs[i]? = some x ∧ Rp F.K H x d G' ∧ List.Sublist G' G := by
    intro vs ds G q
    induction ds generalizing vs G with
    | nil => intro i d e; simp at e
    | cons d0 ds ih =>
      intro i d e
      cases q with
      | cons r q =>
        cases i with
        | zero => simp at e; subst e; exact ⟨_, _, rfl, r, List.sublist_append_left ..⟩
        | succ i =>
          obtain ⟨x, G', e1, r', s⟩ := ih q (i := i) (d := d) (by simpa using e)
          exact ⟨x, G', by simpa using e1, r', s.trans (List.sublist_append_right ..)⟩
  obtain ⟨x, G', e1, r, s⟩ := key h.rp e
  refine ⟨x, G', e1, ⟨r, fun z => ?_, fun j hj o a m => h.al j hj o a (s.subset m)⟩, fun a m => s.subset m⟩
  obtain ⟨a1, a2, a3⟩ := h.fr z
  exact ⟨s.nodup a1, fun a m => a2 a (s.subset m), fun j a m => a3 j a (s.subset m)⟩
/-- the heap grows -/
theorem Held.grow (h : Held F H ε Fs rd v d fr G) (k : Fr (fun _ => False) H H') : Held F H' ε Fs rd v d fr G :=
  ⟨h.rp.keep k.kp fun _ _ z => z, fun e => ⟨(h.fr e).1, fun a m => ⟨((h.fr e).2.1 a m).1, ((h.fr e).2.1 a m).2.keep k.kp (fun z => z) (h.rp.live m)⟩, (h.fr e).2.2⟩, h.al⟩
theorem HeldR.grow (h : HeldR F H ε Fs rd vs ds fr G) (k : Fr (fun _ => False) H H') : HeldR F H' ε Fs rd vs ds fr G :=
  ⟨h.rp.keep k.kp fun _ _ z => z, fun e => ⟨(h.fr e).1, fun a m => ⟨((h.fr e).2.1 a m).1, ((h.fr e).2.1 a m).2.keep k.kp (fun z => z) (h.rp.live m)⟩, (h.fr e).2.2⟩, h.al⟩
/-- a new list of a row -/
theorem HeldR.newL (h : HeldR F H ε Fs rd vs ds fr G) (nw : ∀ a, H a = none → F.Wr a ∧ F.Og a) (lv : ∀ j, ∀ a ∈ Fs j, H a ≠ none) {p : Addr} (n : H p = none) :
    Held F (upd H p (.lst vs)) ε Fs rd (.ref p) (.list ds) fr (p :: G) := by
  have g := h.grow (Fr.new (W := fun _ => False) (o := .lst vs) n)
  refine ⟨.lst upd_same g.rp, fun e => ?_, fun j hj o a m => ?_⟩
  · obtain ⟨a1, a2, a3⟩ := g.fr e
    refine ⟨List.nodup_cons.mpr ⟨fun m => h.rp.live m n, a1⟩, fun a m => ?_, fun j a m => ?_⟩
    · rcases List.mem_cons.mp m with rfl | m
      · exact ⟨(nw _ n).1, fun o u z => by rw [upd_same] at z; cases z⟩
      · exact a2 a m
    · rcases List.mem_cons.mp m with rfl | m
      · exact fun z => lv j _ z n
      · exact a3 j a m
  · rcases List.mem_cons.mp m with rfl | m
    · exact fun z => lv j _ z n
    · exact g.al j hj o a m
theorem HeldR.newT (h : HeldR F H ε Fs rd vs ds fr G) {p : Addr} (n : H p = none) : Held F (upd H p (.tup vs)) ε Fs rd (.ref p) (.tuple ds) fr G := by
  have g := h.grow (Fr.new (W := fun _ => False) (o := .tup vs) n)
  exact ⟨.tup upd_same g.rp, g.fr, g.al⟩
theorem HeldR.oldT (h : HeldR F H ε Fs rd vs ds fr G) {p : Addr} (n : H p = some (.tup vs)) : Held F H ε Fs rd (.ref p) (.tuple ds) fr G := ⟨.tup n h.rp, h.fr, h.al⟩
/-- all values held, as one row -/
theorem HeldL.row {vds : List (D × Bool)} (h : HeldL F H ε Fs rd vs vds G) : HeldR F H ε Fs rd vs (vds.map (·.1)) (allFr vds) G := by
  induction h with
  | nil => exact .nil
  | cons h _ dj ih =>
    rename_i v vs d fr ds G1 G2 _
    have q : HeldR F H ε Fs rd [v] [d] (fr || CF.imm d) G1 := by
      have := h.one.orImm
      simpa [immAll] using this
    refine q.app ih fun e _ a m => ?_
    rcases Bool.or_eq_true_iff.mp e with e | e
    · exact dj e a m
    · rw [h.rp.imm e] at m; exact nomatch m
theorem HeldL.length {vds : List (D × Bool)} (h : HeldL F H ε Fs rd vs vds G) : vs.length = vds.length := by
  induction h with
  | nil => rfl
  | cons _ _ _ ih => simp [ih]
end

section
variable {X : Fx} {F : Fx} {H H1 H2 : Hp} {σ : L2.St} {ε ε1 : EnvT} {Fs Fs1 : Nat → List Addr} {rd ef : List Nat} {v : V} {vs : List V} {d : D} {ds : List D} {fr : Bool} {G : List Addr}
/-- a new thing behind it all -/
theorem Seq.newL (S : Seq F H σ ε Fs ef H1 ε1 Fs1) (h : HeldR F H1 ε1 Fs1 rd vs ds fr G) (o : ∀ a ∈ G, H a = none ∨ ∃ j, a ∈ Fs j) {p : Addr} (n : H1 p = none) :
    PostE F H σ ε Fs rd ef (upd H1 p (.lst vs)) ε1 Fs1 (.ref p) (.list ds) fr (p :: G) := by
  refine Seq.post (S.trans (Seq.ext S.env (Fr.new n))) (h.newL S.env.nw (fun j a m => S.env.live m) n) fun a m => ?_
  rcases List.mem_cons.mp m with rfl | m
  · exact .inl (S.kp.live _ n)
  · exact o a m
theorem Seq.newT (S : Seq F H σ ε Fs ef H1 ε1 Fs1) (h : HeldR F H1 ε1 Fs1 rd vs ds fr G) (o : ∀ a ∈ G, H a = none ∨ ∃ j, a ∈ Fs j) {p : Addr} (n : H1 p = none) :
    PostE F H σ ε Fs rd ef (upd H1 p (.tup vs)) ε1 Fs1 (.ref p) (.tuple ds) fr G :=
  Seq.post (S.trans (Seq.ext S.env (Fr.new n))) (h.newT n) o
theorem Seq.oldT (S : Seq F H σ ε Fs ef H1 ε1 Fs1) (h : HeldR F H1 ε1 Fs1 rd vs ds fr G) (o : ∀ a ∈ G, H a = none ∨ ∃ j, a ∈ Fs j) {p : Addr} (n : H1 p = some (.tup vs)) :
    PostE F H σ ε Fs rd ef H1 ε1 Fs1 (.ref p) (.tuple ds) fr G :=
  Seq.post S (h.oldT n) o
end
end CF
/-! CF7: operators, comparisons, subscripts, slices. -/
namespace CF
open PySem PySem.Spec PyProof.Rows L2

/-- what is left to be shown of a run's outcome -/
def WE (F : Fx) (H : Hp) (σ : L2.St) (ε : EnvT) (Fs : Nat → List Addr) (rd ef : List Nat) (Q : VK) : Out (D × Bool × EnvT) → Prop
  | .ok r => ∀ v H' Fs' G, PostE F H σ ε Fs rd ef H' r.2.2 Fs' v r.1 r.2.1 G → Q v H'
  | .ex x => F.Ex H x
  | .no => False
def opOf : BOp → Operator
  | .add => .Add | .sub => .Sub | .mul => .Mult | .mod => .Mod | .fdiv => .FloorDiv | .pow => .Pow
/-- two values held behind a state -/
structure Two (F : Fx) (H : Hp) (σ : L2.St) (ε : EnvT) (Fs : Nat → List Addr) (rd ef : List Nat) (H2 : Hp) (ε2 : EnvT) (Fs2 : Nat → List Addr) (v u : V) (a b : D) (fa fb : Bool) (G1 G2 : List Addr) : Prop where
  env : EnvR F H σ ε Fs
  seq : Seq F H σ ε Fs ef H2 ε2 Fs2
  h1 : Held F H2 ε2 Fs2 rd v a fa G1
  h2 : Held F H2 ε2 Fs2 rd u b fb G2
  dj : fa = true → ∀ x ∈ G1, x ∉ G2
  o1 : ∀ x ∈ G1, H x = none ∨ ∃ j, x ∈ Fs j
  o2 : ∀ x ∈ G2, H x = none ∨ ∃ j, x ∈ Fs j

section
variable {F : Fx} {H H2 : Hp} {σ : L2.St} {ε ε2 : EnvT} {Fs Fs2 : Nat → List Addr} {rd ef : List Nat} {Q : VK} {v u : V} {a b : D} {fa fb : Bool} {G1 G2 : List Addr}
/-- a value that can't be changed -/
theorem Two.scal (T : Two F H σ ε Fs rd ef H2 ε2 Fs2 v u a b fa fb G1 G2) {w : V} {d : D} {fr : Bool} (q : WE F H σ ε Fs rd ef Q (.ok (d, fr, ε2))) (r : Rp F.K H2 w d []) : Q w H2 :=
  q w H2 Fs2 [] (T.seq.post0 r)
theorem Held.int {i : Int} (h : Held F H ε Fs rd v (.int i) fa G1) : v = .int i := by
  have := h.rp
  cases this; rfl
theorem Held.str {x : Str} (h : Held F H ε Fs rd v (.str x) fa G1) : v = .str x := by
  have := h.rp
  cases this; rfl
theorem Held.bl {x : Bool} (h : Held F H ε Fs rd v (.bool x) fa G1) : v = .bl x := by
  have := h.rp
  cases this; rfl
theorem Held.non (h : Held F H ε Fs rd v .none fa G1) : v = .non := by
  have := h.rp
  cases this; rfl
theorem iteOk {α : Type} {c : Bool} {a : α} {P : Out α → Prop} (h : P (if c = true then .ok a else .no)) (hn : ¬ P .no) : c = true ∧ P (.ok a) := by
  by_cases e : c = true
  · rw [if_pos e] at h; exact ⟨e, h⟩
  · rw [if_neg e] at h; exact absurd h hn
theorem iteOkP {α : Type} {c : Prop} [Decidable c] {a : α} {P : Out α → Prop} (h : P (if c then .ok a else .no)) (hn : ¬ P .no) : c ∧ P (.ok a) := by
  by_cases e : c
  · rw [if_pos e] at h; exact ⟨e, h⟩
  · rw [if_neg e] at h; exact absurd h hn
theorem small_le {n : Nat} (h : small n = true) : n ≤ sizeLine := of_decide_eq_true h

theorem bin_ok {X : Cx} (op : BOp) : ∃ r : R2, OpR X (binaryOp (opOf op)) r ∧ ∀ {F : Fx} {H H2 : Hp} {σ : L2.St} {ε ε2 : EnvT} {Fs Fs2 : Nat → List Addr} {rd ef : List Nat} {Q : VK} {v u : V} {a b : D} {fa fb : Bool} {G1 G2 : List Addr},
    X.K = F.K → Two F H σ ε Fs rd ef H2 ε2 Fs2 v u a b fa fb G1 G2 → WE F H σ ε Fs rd ef Q ((binD op a fa b fb).bind fun r => .ok (r.1, r.2, ε2)) → r v u H2 Q := by
  cases op with
  | sub =>
    refine ⟨_, op_sub, fun {F H H2 σ ε ε2 Fs Fs2 rd ef Q v u a b fa fb G1 G2} hK T q => ?_⟩
    cases a <;> cases b <;> first | exact q.elim | skip
    obtain rfl := T.h1.int; obtain rfl := T.h2.int
    exact ⟨_, _, rfl, rfl, T.scal q (.int _)⟩
  | mod =>
    refine ⟨_, op_mod, fun {F H H2 σ ε ε2 Fs Fs2 rd ef Q v u a b fa fb G1 G2} hK T q => ?_⟩
    cases a <;> cases b <;> first | exact q.elim | skip
    obtain rfl := T.h1.int; obtain rfl := T.h2.int
    simp only [binD] at q
    split at q
    · rename_i c
      exact ⟨_, _, rfl, rfl, c, T.scal q (.int _)⟩
    · exact q.elim
  | mul =>
    refine ⟨_, op_mul, fun {F H H2 σ ε ε2 Fs Fs2 rd ef Q v u a b fa fb G1 G2} hK T q => ?_⟩
    cases a <;> cases b <;> first | exact q.elim | skip
    obtain rfl := T.h1.int; obtain rfl := T.h2.int
    simp only [binD] at q
    split at q
    · rename_i c
      refine ⟨_, _, rfl, rfl, ?_, T.scal q (.int _)⟩
      rcases Bool.or_eq_true_iff.mp c with c | c
      · exact .inl (of_decide_eq_true c)
      · exact .inr (of_decide_eq_true c)
    · exact q.elim
  | fdiv =>
    refine ⟨_, op_fdivW, fun {F H H2 σ ε ε2 Fs Fs2 rd ef Q v u a b fa fb G1 G2} hK T q => ?_⟩
    cases a <;> cases b <;> first | exact q.elim | skip
    obtain rfl := T.h1.int; obtain rfl := T.h2.int
    simp only [binD] at q
    split at q
    · rename_i c
      exact ⟨_, _, rfl, rfl, c, T.scal q (.int _)⟩
    · exact q.elim
  | pow =>
    refine ⟨_, op_pow, fun {F H H2 σ ε ε2 Fs Fs2 rd ef Q v u a b fa fb G1 G2} hK T q => ?_⟩
    cases a <;> cases b <;> first | exact q.elim | skip
    obtain rfl := T.h1.int; obtain rfl := T.h2.int
    simp only [binD] at q
    split at q
    · rename_i c
      exact ⟨_, _, rfl, rfl, c, T.scal q (.int _)⟩
    · exact q.elim
  | add =>
    refine ⟨_, (op_add.or op_add_str).or (op_cat.or op_catA), fun {F H H2 σ ε ε2 Fs Fs2 rd ef Q v u a b fa fb G1 G2} hK T q => ?_⟩
    cases a <;> cases b <;> first | exact q.elim | skip
    · obtain rfl := T.h1.int; obtain rfl := T.h2.int
      exact .inl (.inl ⟨_, _, rfl, rfl, T.scal q (.int _)⟩)
    · obtain rfl := T.h1.str; obtain rfl := T.h2.str
      simp only [binD] at q
      split at q
      · rename_i c
        exact .inl (.inr ⟨_, _, rfl, rfl, small_le c, T.scal q (.str _)⟩)
      · exact q.elim
    · simp only [binD] at q
      split at q
      · rename_i xs ys c
        obtain ⟨p1, vs, G1', rfl, h1, rfl, r1⟩ := T.h1.lst
        obtain ⟨p2, ws, G2', rfl, h2, rfl, r2⟩ := T.h2.lst
        refine .inr (.inl ⟨p1, p2, vs, ws, rfl, rfl, h1, h2, ?_, fun p n => ?_⟩)
        · rw [r1.rp.length, r2.rp.length]; exact small_le c
        · have r := r1.app r2 fun e _ x m m2 => by
            rcases Bool.or_eq_true_iff.mp e with e | e
            · exact T.dj e x (List.mem_cons_of_mem _ m) (List.mem_cons_of_mem _ m2)
            · rw [r1.rp.imm e] at m; exact nomatch m
          exact q _ _ _ _ (T.seq.newL r (fun x m => (List.mem_append.mp m).elim (fun m => T.o1 x (List.mem_cons_of_mem _ m)) fun m => T.o2 x (List.mem_cons_of_mem _ m)) n)
      · exact q.elim
    · simp only [binD] at q
      split at q
      · rename_i xs ys c
        obtain ⟨p1, vs, rfl, h1, r1⟩ := T.h1.tup
        obtain ⟨p2, ws, rfl, h2, r2⟩ := T.h2.tup
        have r := r1.app r2 fun e _ x m m2 => by
            rcases Bool.or_eq_true_iff.mp e with e | e
            · exact T.dj e x m m2
            · rw [r1.rp.imm e] at m; exact nomatch m
        have o : ∀ x ∈ G1 ++ G2, H x = none ∨ ∃ j, x ∈ Fs j := fun x m => (List.mem_append.mp m).elim (T.o1 x) (T.o2 x)
        refine .inr (.inr ⟨p1, p2, vs, ws, rfl, rfl, .inl (.inl h1), .inl (.inl h2), ?_, fun e => ?_, fun _ e => ?_, fun _ _ p n => ?_⟩)
        · rw [r1.rp.length, r2.rp.length]; exact small_le c
        · subst e
          exact q _ _ _ _ (T.seq.oldT r o h2)
        · subst e
          rw [List.append_nil] at r
          exact q _ _ _ _ (T.seq.oldT r o h1)
        · exact q _ _ _ _ (T.seq.newT r o n)
      · exact q.elim
end
end CF
namespace CF
open PySem PySem.Spec PyProof.Rows L2
/-- d[k] -/
def rIxD : R2 := fun x y H Q => ∃ a v, x = .ref a ∧ DGet H a y (some v) ∧ Q v H
theorem ix_dict {X : Cx} (hu : X.A.units + 1 < cLine) : IxR X rIxD := by
  intro value slice pins s σ H x y v u Q I rx ry h hs
  obtain ⟨a, w, rfl, g, q⟩ := h
  cases rx
  have hT := dict_typeIs I g
  unfold subscriptTail
  refine wpAny_bind ?_
  rw [getitemInPython_of_ne hT.not_modules]
  refine wpAny_bind (wpAny_specialOf hT PySem.F.slot_dict_getitem.lookup ?_)
  have fin : wpAny (model X.prog X.w) X.A (subscripted slice false (.ref a) u) (fun r s₃ => wpAny (model X.prog X.w) X.A (letTemporaryGo value (.ref a) r >>= fun _ => pure r) (EP X pins σ Q) X.xe s₃) X.xe s := by
    rw [hs]
    exact wpAny_operating (wpAny_mono (d_getItem hu I g ry (Q := fun r s' => EP X pins σ Q r s') fun w' s3 I3 rw' => ⟨w, H, I3, rw', q⟩) (fun r s₃ h₃ => wpAny_bind (wpAny_letTemporaryGo (wpAny_pure h₃))) fun _ _ x => x)
  first
    | exact wpAny_pure (wpAny_bind fin)
    | exact wpAny_bind (wpAny_pure (wpAny_bind fin))
def rInDct (ng : Bool) : R2 := fun y x H Q => ∃ a o, x = .ref a ∧ DGet H a y o ∧ Q (.bl (if ng = true then !o.isSome else o.isSome)) H
theorem op_inDct {X : Cx} (hu : X.A.units + 1 < cLine) : OpR X (compareOp .In) (rInDct false) := by
  intro pins s σ H x y v u Q I rx ry h
  obtain ⟨a, o, rfl, g, q⟩ := h
  cases ry
  exact d_in hu I g rx fun s3 I3 => ⟨.bl o.isSome, H, I3, rfl, q⟩
theorem op_ninDct {X : Cx} (hu : X.A.units + 1 < cLine) : OpR X (compareOp .NotIn) (rInDct true) := by
  intro pins s σ H x y v u Q I rx ry h
  obtain ⟨a, o, rfl, g, q⟩ := h
  cases ry
  exact d_notIn hu I g rx fun s3 I3 => ⟨.bl (!o.isSome), H, I3, rfl, q⟩
end CF
/-! CF8: dicts: looking up, storing. -/
namespace CF
open PySem PySem.Spec PyProof.Rows L2

mutual
theorem deq_refl : ∀ a : D, deq a a = true
  | .none => rfl
  | .bool b => by simp [deq]
  | .int i => by simp [deq]
  | .str s => by simp [deq]
  | .list xs => by simp only [deq]; exact deqAll_refl xs
  | .tuple xs => by simp only [deq]; exact deqAll_refl xs
  | .dict xs => by simp only [deq]; exact deqKv_refl xs
theorem deqAll_refl : ∀ a : List D, deqAll a a = true
  | [] => rfl
  | x :: xs => by simp only [deqAll, deq_refl x, deqAll_refl xs, Bool.and_self]
theorem deqKv_refl : ∀ a : List (D × D), deqKv a a = true
  | [] => rfl
  | (k, x) :: xs => by simp only [deqKv, deq_refl k, deq_refl x, deqKv_refl xs, Bool.and_self]
end
mutual
theorem deq_eq : ∀ {a b : D}, deq a b = true → a = b
  | .none, b, h => by cases b <;> first | rfl | simp [deq] at h
  | .bool x, b, h => by cases b <;> simp [deq] at h; rw [h]
  | .int x, b, h => by cases b <;> simp [deq] at h; rw [h]
  | .str x, b, h => by cases b <;> simp [deq] at h; rw [h]
  | .list xs, b, h => by
    cases b with
    | list ys => simp only [deq] at h; rw [deqAll_eq h]
    | _ => simp [deq] at h
  | .tuple xs, b, h => by
    cases b with
    | tuple ys => simp only [deq] at h; rw [deqAll_eq h]
    | _ => simp [deq] at h
  | .dict xs, b, h => by
    cases b with
    | dict ys => simp only [deq] at h; rw [deqKv_eq h]
    | _ => simp [deq] at h
theorem deqAll_eq : ∀ {a b : List D}, deqAll a b = true → a = b
  | [], b, h => by cases b <;> first | rfl | simp [deqAll] at h
  | x :: xs, b, h => by
    cases b with
    | nil => simp [deqAll] at h
    | cons y ys =>
      simp only [deqAll, Bool.and_eq_true] at h
      rw [deq_eq h.1, deqAll_eq h.2]
theorem deqKv_eq : ∀ {a b : List (D × D)}, deqKv a b = true → a = b
  | [], b, h => by cases b <;> first | rfl | simp [deqKv] at h
  | (k, x) :: xs, b, h => by
    cases b with
    | nil => simp [deqKv] at h
    | cons p ys =>
      obtain ⟨l, y⟩ := p
      simp only [deqKv, Bool.and_eq_true] at h
      rw [deq_eq h.1.1, deq_eq h.1.2, deqKv_eq h.2]
end
theorem deq_iff {a b : D} : deq a b = true ↔ a = b := ⟨deq_eq, fun e => e ▸ deq_refl a⟩
theorem deq_dec {a b : D} {p : Prop} [Decidable p] (h : a = b ↔ p) : deq a b = decide p := by
  by_cases e : p
  · rw [decide_eq_true e, deq_iff.mpr (h.mpr e)]
  · rw [decide_eq_false e]
    cases q : deq a b with
    | false => rfl
    | true => exact absurd (h.mp (deq_eq q)) e
theorem keyD_inj {a b : Key} : keyD a = keyD b ↔ a = b := by
  constructor
  · intro e
    cases a <;> cases b <;> simp [keyD] at e <;> rw [e]
  · intro e; rw [e]
theorem keysD_inj : ∀ {a b : List Key}, a.map keyD = b.map keyD ↔ a = b
  | [], [] => by simp
  | [], _ :: _ => by simp
  | _ :: _, [] => by simp
  | x :: a, y :: b => by simp [keyD_inj, keysD_inj (a := a) (b := b)]
theorem keyOf_some {d : D} {k : Key} (h : keyOf d = some k) : d = keyD k := by
  cases d <;> simp [keyOf] at h <;> subst h <;> rfl
theorem mapM_keys : ∀ {xs : List D} {k : List Key}, xs.mapM keyOf = some k → xs = k.map keyD
  | [], k, h => by simp at h; subst h; rfl
  | x :: xs, k, h => by
    simp only [List.mapM_cons, Option.bind_eq_bind, Option.bind_eq_some_iff, Option.pure_def, Option.some.injEq] at h
    obtain ⟨a, e1, b, e2, e3⟩ := h
    subst e3
    rw [keyOf_some e1, mapM_keys e2]; rfl
theorem keysOf_some {d : D} {k : List Key} (h : keysOf d = some k) : d = .tuple (k.map keyD) := by
  cases d <;> simp [keysOf] at h
  rw [mapM_keys h]
theorem rp_key {K : PySem.W.Frag} {H : Hp} {v : V} {k : Key} {G : List Addr} (r : Rp K H v (keyD k) G) : v = kV k ∧ G = [] := by
  cases k <;> cases r <;> exact ⟨rfl, rfl⟩
theorem rps_keys {K : PySem.W.Frag} {H : Hp} : ∀ {k : List Key} {vs : List V} {G : List Addr}, Rps K H vs (k.map keyD) G → vs = k.map kV
  | [], _, _, .nil => rfl
  | k :: ks, _, _, .cons r q => by rw [(rp_key r).1, rps_keys q]; rfl
theorem rp_keys {K : PySem.W.Frag} {H : Hp} {v : V} {k : List Key} {G : List Addr} (r : Rp K H v (.tuple (k.map keyD)) G) : ∃ b, v = .ref b ∧ H b = some (.tup (k.map kV)) := by
  cases r with
  | tup h q => exact ⟨_, rfl, by rw [← rps_keys q]; exact h⟩

section
variable {K : PySem.W.Frag} {H : Hp} {κ : Type} [DecidableEq κ]
theorem find_kv {f : κ → D} (inj : ∀ a b, f a = f b ↔ a = b) : ∀ {kv : List (κ × V)} {kvs : List (D × D)} {G : List Addr}, kvs.map (·.1) = kv.map (fun p => f p.1) → Rps K H (kv.map (·.2)) (kvs.map (·.2)) G → ∀ (k : κ),
    (dget kvs (f k) = none ∧ valV kv k = none) ∨ ∃ d w G', dget kvs (f k) = some d ∧ valV kv k = some w ∧ Rp K H w d G' ∧ List.Sublist G' G
  | [], [], _, _, _, k => .inl ⟨rfl, rfl⟩
  | [], _ :: _, _, e, _, _ => by simp at e
  | _ :: _, [], _, e, _, _ => by simp at e
  | (l, x) :: kv, (a, b) :: kvs, _, e, .cons (F := F1) (G := G1) r q, k => by
    simp only [List.map_cons, List.cons.injEq] at e
    obtain ⟨rfl, e⟩ := e
    have dq : deq (f l) (f k) = decide (l = k) := deq_dec (inj l k)
    by_cases h : l = k
    · refine .inr ⟨b, x, F1, ?_, ?_, r, List.sublist_append_left ..⟩
      · have dq' : deq (f l) (f k) = true := by rw [dq]; exact decide_eq_true h
        simp [CF.dget, List.find?_cons, dq']
      · simp [valV, List.find?_cons, h]
    · rcases find_kv inj e q k with ⟨h1, h2⟩ | ⟨d, w, G', h1, h2, r', s⟩
      · refine .inl ⟨?_, ?_⟩
        · simpa [CF.dget, List.find?_cons, dq, h] using h1
        · simpa [valV, List.find?_cons, h] using h2
      · refine .inr ⟨d, w, G', ?_, ?_, r', s.trans (List.sublist_append_right ..)⟩
        · simpa [CF.dget, List.find?_cons, dq, h] using h1
        · simpa [valV, List.find?_cons, h] using h2
end

/-- a[y], also where an empty dict would be of the other kind -/
def DGetX (H : Hp) (a : Addr) (y : V) (o : Option V) : Prop :=
  DGet H a y o ∨ (o = none ∧ ∃ (k : List Key) (b : Addr), y = .ref b ∧ H b = some (.tup (k.map kV)) ∧ H a = some (.dK [])) ∨ (o = none ∧ ∃ k : Key, y = kV k ∧ H a = some (.dT []))
section
variable {F : Fx} {H : Hp} {ε : EnvT} {Fs : Nat → List Addr} {rd : List Nat} {v u : V} {k : D} {kvs : List (D × D)} {fr f2 : Bool} {G G2 : List Addr}
theorem Held.subT (h : Held F H ε Fs rd v d fr G) {w : V} {e : D} {G' : List Addr} (r : Rp F.K H w e G') (s : List.Sublist G' G) : Held F H ε Fs rd w e fr G' :=
  ⟨r, fun z => ⟨s.nodup (h.fr z).1, fun a m => (h.fr z).2.1 a (s.subset m), fun j a m => (h.fr z).2.2 j a (s.subset m)⟩, fun j hj o a m => h.al j hj o a (s.subset m)⟩
theorem keyFits_cases (h : keyFits kvs k = true) : (∃ q : Key, k = keyD q ∧ ∀ p ∈ kvs, (keyOf p.1).isSome = true) ∨ ∃ q : List Key, k = .tuple (q.map keyD) ∧ ∀ p ∈ kvs, (keyOf p.1).isSome = false := by
  simp only [keyFits, Bool.and_eq_true, List.all_eq_true, beq_iff_eq] at h
  obtain ⟨h1, h2⟩ := h
  cases e : keyOf k with
  | some q => exact .inl ⟨q, keyOf_some e, fun p m => by rw [h2 p m, e]; rfl⟩
  | none =>
    simp only [isKey, e, Option.isSome_none, Bool.false_or] at h1
    obtain ⟨q, e'⟩ := Option.isSome_iff_exists.mp h1
    exact .inr ⟨q, keysOf_some e', fun p m => by rw [h2 p m, e]; rfl⟩
/-- looking a key up -/
theorem Held.dget (h : Held F H ε Fs rd v (.dict kvs) fr G) (hu : Held F H ε Fs rd u k f2 G2) (ok : keyFits kvs k = true) : ∃ a, v = .ref a ∧
    ((dget kvs k = none ∧ DGetX H a u none) ∨ ∃ d w G', dget kvs k = some d ∧ DGet H a u (some w) ∧ Held F H ε Fs rd w d fr G' ∧ ∀ x ∈ G', x ∈ G) := by
  have hr := h.rp
  rcases keyFits_cases ok with ⟨q, rfl, hk⟩ | ⟨q, rfl, hk⟩
  · obtain ⟨rfl, rfl⟩ := rp_key hu.rp
    cases hr with
    | dct hd e r =>
      rename_i a kv G0
      refine ⟨_, rfl, ?_⟩
      rcases find_kv (f := keyD) (fun _ _ => keyD_inj) e r q with ⟨h1, h2⟩ | ⟨d, w, G', h1, h2, r', s⟩
      · exact .inl ⟨h1, .inl (.inl ⟨_, q, hd.rd, rfl, h2.symm⟩)⟩
      · have s' : List.Sublist G' (a :: G0) := s.trans (List.sublist_cons_self ..)
        exact .inr ⟨d, w, G', h1, .inl ⟨_, q, hd.rd, rfl, h2.symm⟩, h.subT r' s', fun x m => s'.subset m⟩
    | dcT hd e r =>
      rename_i a kv G0
      refine ⟨_, rfl, .inl ?_⟩
      cases kvs with
      | nil =>
        simp only [List.map_nil, List.nil_eq, List.map_eq_nil_iff] at e
        subst e
        exact ⟨rfl, .inr (.inr ⟨rfl, q, rfl, hd.nil⟩)⟩
      | cons p kvs =>
        have z := hk p List.mem_cons_self
        cases kv with
        | nil => simp at e
        | cons p' kv =>
          simp only [List.map_cons, List.cons.injEq] at e
          rw [e.1] at z
          simp [keyOf] at z
  · obtain ⟨b, rfl, hb⟩ := rp_keys hu.rp
    cases hr with
    | dct hd e r =>
      rename_i a kv G0
      refine ⟨_, rfl, .inl ?_⟩
      cases kvs with
      | nil =>
        simp only [List.map_nil, List.nil_eq, List.map_eq_nil_iff] at e
        subst e
        exact ⟨rfl, .inr (.inl ⟨rfl, q, b, rfl, hb, hd.nil⟩)⟩
      | cons p kvs =>
        have z := hk p List.mem_cons_self
        cases kv with
        | nil => simp at e
        | cons p' kv =>
          simp only [List.map_cons, List.cons.injEq] at e
          rw [e.1] at z
          cases h : p'.1 <;> simp [h, keyD, keyOf] at z
    | dcT hd e r =>
      rename_i a kv G0
      refine ⟨_, rfl, ?_⟩
      rcases find_kv (f := fun k : List Key => .tuple (k.map keyD)) (fun x y => by rw [PyData.tuple.injEq]; exact keysD_inj) e r q with ⟨h1, h2⟩ | ⟨d, w, G', h1, h2, r', s⟩
      · exact .inl ⟨h1, .inl (.inr ⟨_, q, b, hd.rd, rfl, hb, h2.symm⟩)⟩
      · have s' : List.Sublist G' (a :: G0) := s.trans (List.sublist_cons_self ..)
        exact .inr ⟨d, w, G', h1, .inr ⟨_, q, b, hd.rd, rfl, hb, h2.symm⟩, h.subT r' s', fun x m => s'.subset m⟩
end
end CF
/-! CF9: comparisons, subscripts, slices by values. -/
namespace CF
open PySem PySem.Spec PyProof.Rows L2

def copOf : COp → CmpOp
  | .eq => .Eq | .ne => .NotEq | .lt => .Lt | .le => .LtE | .gt => .Gt | .ge => .GtE | .isin => .In | .notin => .NotIn

section
variable {X : Cx}
/-- == of what is shaped -/
def rEqX (K : PySem.W.Frag) (ng : Bool) : R2 := fun x y H Q => ∃ d e G1 G2, Rp K H x d G1 ∧ Rp K H y e G2 ∧ shapedD d = true ∧ shapedD e = true ∧ Q (.bl (if ng = true then !PyData.eqv d e else PyData.eqv d e)) H
theorem op_eqX (hu : X.A.units + 64 < cLine) : OpR X (compareOp .Eq) (rEqX X.K false) := by
  intro pins s σ H x y v u Q I rx ry h
  obtain ⟨d, e, G1, G2, r1, r2, s1, s2, q⟩ := h
  obtain ⟨as, ra⟩ := r1.reads I rx
  obtain ⟨bs, rb⟩ := r2.reads I ry
  exact PyProof.Rows.eq_dataH ra rb s1 s2 hu ⟨.bl _, H, I, rfl, q⟩
theorem op_neX (hu : X.A.units + 64 < cLine) : OpR X (compareOp .NotEq) (rEqX X.K true) := by
  intro pins s σ H x y v u Q I rx ry h
  obtain ⟨d, e, G1, G2, r1, r2, s1, s2, q⟩ := h
  obtain ⟨as, ra⟩ := r1.reads I rx
  obtain ⟨bs, rb⟩ := r2.reads I ry
  exact PyProof.Rows.ne_dataH ra rb s1 s2 hu ⟨.bl _, H, I, rfl, q⟩
/-- x in a row -/
def rInX (K : PySem.W.Frag) (ng : Bool) : R2 := fun x y H Q => ∃ d es G1 G2, Rp K H x d G1 ∧ (Rp K H y (.list es) G2 ∨ Rp K H y (.tuple es) G2) ∧ PyData.canLayAll0 es = true ∧ d.canLay0 = true ∧ d.depth ≤ 64 ∧
  Q (.bl (if ng = true then !es.any fun z => PyData.eqv z d else es.any fun z => PyData.eqv z d)) H
theorem op_inX (hu : X.A.units + 65 < cLine) : OpR X (compareOp .In) (rInX X.K false) := by
  intro pins s σ H x y v u Q I rx ry h
  obtain ⟨d, es, G1, G2, r1, r2, s1, s2, s3, q⟩ := h
  obtain ⟨as, ra⟩ := r1.reads I rx
  have room : X.A.units + 1 + min (PyData.depthAll es) d.depth < cLine := by
    have := Nat.min_le_right (PyData.depthAll es) d.depth
    omega
  rcases r2 with r2 | r2
  · obtain ⟨bs, rb⟩ := r2.reads I ry
    exact SeqAt.in_list_reads rb ra s1 s2 room ⟨.bl _, H, I, rfl, q⟩
  · obtain ⟨bs, rb⟩ := r2.reads I ry
    exact SeqAt.in_tuple_reads rb ra s1 s2 room ⟨.bl _, H, I, rfl, q⟩
theorem op_ninX (hu : X.A.units + 65 < cLine) : OpR X (compareOp .NotIn) (rInX X.K true) := by
  intro pins s σ H x y v u Q I rx ry h
  obtain ⟨d, es, G1, G2, r1, r2, s1, s2, s3, q⟩ := h
  obtain ⟨as, ra⟩ := r1.reads I rx
  have room : X.A.units + 1 + min (PyData.depthAll es) d.depth < cLine := by
    have := Nat.min_le_right (PyData.depthAll es) d.depth
    omega
  rcases r2 with r2 | r2
  · obtain ⟨bs, rb⟩ := r2.reads I ry
    exact SeqAt.notIn_list_reads rb ra s1 s2 room ⟨.bl _, H, I, rfl, q⟩
  · obtain ⟨bs, rb⟩ := r2.reads I ry
    exact SeqAt.notIn_tuple_reads rb ra s1 s2 room ⟨.bl _, H, I, rfl, q⟩
/-- an empty dict of one kind is one of the other -/
theorem relT {pins : List (Addr × Obj)} {σ : L2.St} {H : Hp} {s : Shared} {a : Addr} (I : Inv X pins σ H s) (h : H a = some (.dK [])) : Inv X pins σ (upd H a (.dT [])) s := by
  obtain ⟨_, z, vs, rel, o, es, ep, ho, hx, hd, hk, hp, _⟩ := I.hok a _ h
  cases rel
  have e : es.toList = [] := by
    cases q : es.toList with
    | nil => rfl
    | cons x r => rw [q] at hp; cases hp
  exact I.write (t' := s.toks) (by rw [h]; trivial) (.inl rfl) (fun _ _ _ e => e) ⟨o, ho⟩ ⟨Nat.zero_le _, z, [], .nil, o, es, ep, ho, hx, hd, e, List.nodup_nil⟩
theorem relK {pins : List (Addr × Obj)} {σ : L2.St} {H : Hp} {s : Shared} {a : Addr} (I : Inv X pins σ H s) (h : H a = some (.dT [])) : Inv X pins σ (upd H a (.dK [])) s := by
  obtain ⟨_, z, xs, rel, o, es, ep, ho, hx, hd, he, _⟩ := I.hok a _ h
  cases rel
  have e : es.toList = [] := he
  exact I.write (t' := s.toks) (by rw [h]; trivial) (.inl rfl) (fun _ _ _ e => e) ⟨o, ho⟩ ⟨Nat.zero_le _, z, [], .nil, o, es, ep, ho, hx, hd, (fun e' h' => (by
    have : e' ∈ es.toList := by simpa using h'
    rw [e] at this; exact nomatch this)), (by rw [e]; exact .nil), List.nodup_nil⟩
theorem upd_id {H : Hp} {a : Addr} {o : HO} (h : H a = some o) : upd H a o = H := by
  funext b
  by_cases e : b = a
  · subst e; rw [upd_same, h]
  · rw [upd_ne e]
def rInD' (ng : Bool) : R2 := fun y x H Q => ∃ a o, x = .ref a ∧ DGetX H a y o ∧ Q (.bl (if ng = true then !o.isSome else o.isSome)) H
theorem op_inD' (hu : X.A.units + 1 < cLine) : OpR X (compareOp .In) (rInD' false) := by
  intro pins s σ H x y v u Q I rx ry h
  obtain ⟨a, o, rfl, g, q⟩ := h
  cases ry
  rcases g with g | ⟨rfl, k, b, rfl, hb, ha⟩ | ⟨rfl, k, rfl, ha⟩
  · exact d_in hu I g rx fun s3 I3 => ⟨.bl o.isSome, H, I3, rfl, q⟩
  · have hne : b ≠ a := fun e => by subst e; rw [hb] at ha; cases ha
    refine d_in (o := none) hu (relT I ha) (.inr ⟨[], k, b, .inl upd_same, rfl, by rw [upd_ne hne]; exact hb, rfl⟩) rx fun s3 I3 => ⟨.bl false, H, ?_, rfl, q⟩
    have I4 := relK I3 upd_same
    rwa [upd_upd, upd_id ha] at I4
  · refine d_in (o := none) hu (relK I ha) (.inl ⟨[], k, .inl upd_same, rfl, rfl⟩) rx fun s3 I3 => ⟨.bl false, H, ?_, rfl, q⟩
    have I4 := relT I3 upd_same
    rwa [upd_upd, upd_id ha] at I4
theorem op_ninD' (hu : X.A.units + 1 < cLine) : OpR X (compareOp .NotIn) (rInD' true) := by
  intro pins s σ H x y v u Q I rx ry h
  obtain ⟨a, o, rfl, g, q⟩ := h
  cases ry
  rcases g with g | ⟨rfl, k, b, rfl, hb, ha⟩ | ⟨rfl, k, rfl, ha⟩
  · exact d_notIn hu I g rx fun s3 I3 => ⟨.bl (!o.isSome), H, I3, rfl, q⟩
  · have hne : b ≠ a := fun e => by subst e; rw [hb] at ha; cases ha
    refine d_notIn (o := none) hu (relT I ha) (.inr ⟨[], k, b, .inl upd_same, rfl, by rw [upd_ne hne]; exact hb, rfl⟩) rx fun s3 I3 => ⟨.bl true, H, ?_, rfl, q⟩
    have I4 := relK I3 upd_same
    rwa [upd_upd, upd_id ha] at I4
  · refine d_notIn (o := none) hu (relK I ha) (.inl ⟨[], k, .inl upd_same, rfl, rfl⟩) rx fun s3 I3 => ⟨.bl true, H, ?_, rfl, q⟩
    have I4 := relT I3 upd_same
    rwa [upd_upd, upd_id ha] at I4
end

theorem scal_rp {K : PySem.W.Frag} {H : Hp} {v u : V} {a b : D} {G1 G2 : List Addr} (r1 : Rp K H v a G1) (r2 : Rp K H u b G2) (h : scalD a b = true) : scal v u = true ∧ decide (v = u) = deq a b := by
  cases a <;> cases b <;> simp [scalD] at h <;> cases r1 <;> cases r2 <;> refine ⟨rfl, ?_⟩ <;> simp [deq, dec_int, dec_bl, dec_str] <;> exact (Bool.beq_eq_decide_eq ..).symm
theorem flat_rp {K : PySem.W.Frag} {H : Hp} {v : V} {a : D} {G1 : List Addr} (r1 : Rp K H v a G1) (h : flatD a = true) : flatV v = true := by
  cases a <;> simp [flatD] at h <;> cases r1 <;> rfl
theorem flats_rp {K : PySem.W.Frag} {H : Hp} : ∀ {vs : List V} {ds : List D} {G : List Addr}, Rps K H vs ds G → ds.all flatD = true → vs.all flatV = true
  | _, _, _, .nil, _ => rfl
  | _, _, _, .cons r q, h => by
    simp only [List.all_cons, Bool.and_eq_true] at h ⊢
    exact ⟨flat_rp r h.1, flats_rp q h.2⟩
theorem eqV_rp {K : PySem.W.Frag} {H : Hp} {v u : V} {a b : D} {G1 G2 : List Addr} (r1 : Rp K H v a G1) (r2 : Rp K H u b G2) (h1 : flatD a = true) (h2 : flatD b = true) : eqV v u = PyData.eqv a b := by
  cases a <;> simp [flatD] at h1 <;> cases b <;> simp [flatD] at h2 <;> cases r1 <;> cases r2 <;> simp [eqV, PyData.eqv]
theorem anyV_rp {K : PySem.W.Frag} {H : Hp} {u : V} {b : D} {G2 : List Addr} (r2 : Rp K H u b G2) (h2 : flatD b = true) : ∀ {vs : List V} {ds : List D} {G : List Addr}, Rps K H vs ds G → ds.all flatD = true → inV u vs = ds.any fun z => PyData.eqv z b
  | _, _, _, .nil, _ => rfl
  | _, _, _, .cons r q, h => by
    simp only [List.all_cons, Bool.and_eq_true] at h
    have := anyV_rp r2 h2 q h.2
    simp only [inV, List.any_cons, eqV_rp r r2 h.1 h2] at this ⊢
    rw [this]

/-- what a comparison asks -/
theorem cmp_ok {X : Cx} (hu : X.A.units + 65 < cLine) (op : COp) : ∃ r : R2, OpR X (compareOp (copOf op)) r ∧ ∀ {F : Fx} {H H2 : Hp} {σ : L2.St} {ε ε2 : EnvT} {Fs Fs2 : Nat → List Addr} {rd ef : List Nat} {Q : VK} {v u : V} {a b : D} {fa fb : Bool} {G1 G2 : List Addr},
    X.K = F.K → Two F H σ ε Fs rd ef H2 ε2 Fs2 v u a b fa fb G1 G2 → WE F H σ ε Fs rd ef Q ((cmpD op a b).bind fun r => .ok (.bool r, true, ε2)) → r v u H2 Q := by
  have hu1 : X.A.units + 1 < cLine := by omega
  have hu2 : X.A.units + 64 < cLine := by omega
  cases op with
  | eq =>
    refine ⟨_, op_eq.or (op_eqX hu2), fun {F H H2 σ ε ε2 Fs Fs2 rd ef Q v u a b fa fb G1 G2} hK T q => ?_⟩
    simp only [cmpD, eqD] at q
    by_cases c : scalD a b = true
    · rw [if_pos c] at q
      obtain ⟨c1, c2⟩ := scal_rp T.h1.rp T.h2.rp c
      exact .inl ⟨c1, by rw [c2]; exact T.scal q (.bl _)⟩
    · rw [if_neg c] at q
      by_cases c : (shapedD a && shapedD b) = true
      · rw [if_pos c] at q
        obtain ⟨c1, c2⟩ := Bool.and_eq_true_iff.mp c
        exact .inr ⟨a, b, _, _, hK ▸ T.h1.rp, hK ▸ T.h2.rp, c1, c2, T.scal q (.bl _)⟩
      · rw [if_neg c] at q
        exact q.elim
  | ne =>
    refine ⟨_, op_ne.or (op_neX hu2), fun {F H H2 σ ε ε2 Fs Fs2 rd ef Q v u a b fa fb G1 G2} hK T q => ?_⟩
    simp only [cmpD, eqD] at q
    by_cases c : scalD a b = true
    · rw [if_pos c] at q
      obtain ⟨c1, c2⟩ := scal_rp T.h1.rp T.h2.rp c
      exact .inl ⟨c1, by rw [c2]; exact T.scal q (.bl _)⟩
    · rw [if_neg c] at q
      by_cases c : (shapedD a && shapedD b) = true
      · rw [if_pos c] at q
        obtain ⟨c1, c2⟩ := Bool.and_eq_true_iff.mp c
        exact .inr ⟨a, b, _, _, hK ▸ T.h1.rp, hK ▸ T.h2.rp, c1, c2, T.scal q (.bl _)⟩
      · rw [if_neg c] at q
        exact q.elim
  | lt =>
    refine ⟨_, op_lt.or op_lt_str, fun {F H H2 σ ε ε2 Fs Fs2 rd ef Q v u a b fa fb G1 G2} hK T q => ?_⟩
    cases a <;> cases b <;> first | exact q.elim | skip
    · obtain rfl := T.h1.int; obtain rfl := T.h2.int
      exact .inl ⟨_, _, rfl, rfl, T.scal q (.bl _)⟩
    · obtain rfl := T.h1.str; obtain rfl := T.h2.str
      exact .inr ⟨_, _, rfl, rfl, T.scal q (.bl _)⟩
  | le =>
    refine ⟨_, op_le.or op_le_str, fun {F H H2 σ ε ε2 Fs Fs2 rd ef Q v u a b fa fb G1 G2} hK T q => ?_⟩
    cases a <;> cases b <;> first | exact q.elim | skip
    · obtain rfl := T.h1.int; obtain rfl := T.h2.int
      exact .inl ⟨_, _, rfl, rfl, T.scal q (.bl _)⟩
    · obtain rfl := T.h1.str; obtain rfl := T.h2.str
      exact .inr ⟨_, _, rfl, rfl, T.scal q (.bl _)⟩
  | gt =>
    refine ⟨_, op_gt.or op_gt_str, fun {F H H2 σ ε ε2 Fs Fs2 rd ef Q v u a b fa fb G1 G2} hK T q => ?_⟩
    cases a <;> cases b <;> first | exact q.elim | skip
    · obtain rfl := T.h1.int; obtain rfl := T.h2.int
      exact .inl ⟨_, _, rfl, rfl, T.scal q (.bl _)⟩
    · obtain rfl := T.h1.str; obtain rfl := T.h2.str
      exact .inr ⟨_, _, rfl, rfl, T.scal q (.bl _)⟩
  | ge =>
    refine ⟨_, op_ge.or op_ge_str, fun {F H H2 σ ε ε2 Fs Fs2 rd ef Q v u a b fa fb G1 G2} hK T q => ?_⟩
    cases a <;> cases b <;> first | exact q.elim | skip
    · obtain rfl := T.h1.int; obtain rfl := T.h2.int
      exact .inl ⟨_, _, rfl, rfl, T.scal q (.bl _)⟩
    · obtain rfl := T.h1.str; obtain rfl := T.h2.str
      exact .inr ⟨_, _, rfl, rfl, T.scal q (.bl _)⟩
  | isin =>
    refine ⟨_, (op_inD' hu1).or (op_in_seq.or (op_inX hu)), fun {F H H2 σ ε ε2 Fs Fs2 rd ef Q v u a b fa fb G1 G2} hK T q => ?_⟩
    cases b <;> first | (cases a <;> exact q.elim) | skip
    · rename_i xs
      have q : WE F H σ ε Fs rd ef Q ((if inOk a xs = true then Out.ok (xs.any fun y => PyData.eqv y a) else .no).bind fun r => .ok (.bool r, true, ε2)) := by cases a <;> exact q
      by_cases c : inOk a xs = true
      · rw [if_pos c] at q
        rcases Bool.or_eq_true_iff.mp c with c | c
        · obtain ⟨c1, c2⟩ := Bool.and_eq_true_iff.mp c
          obtain ⟨p, vs, G', rfl, hp, rfl, r⟩ := T.h2.lst
          exact .inr (.inl ⟨p, vs, rfl, .inl (.inl (.inl hp)), flat_rp T.h1.rp c1, flats_rp r.rp c2, by rw [anyV_rp T.h1.rp c1 r.rp c2]; exact T.scal q (.bl _)⟩)
        · simp only [Bool.and_eq_true, decide_eq_true_eq] at c
          exact .inr (.inr ⟨a, xs, _, _, hK ▸ T.h1.rp, .inl (hK ▸ T.h2.rp), c.1.1, c.1.2, c.2, T.scal q (.bl _)⟩)
      · rw [if_neg c] at q; exact q.elim
    · rename_i xs
      have q : WE F H σ ε Fs rd ef Q ((if inOk a xs = true then Out.ok (xs.any fun y => PyData.eqv y a) else .no).bind fun r => .ok (.bool r, true, ε2)) := by cases a <;> exact q
      by_cases c : inOk a xs = true
      · rw [if_pos c] at q
        rcases Bool.or_eq_true_iff.mp c with c | c
        · obtain ⟨c1, c2⟩ := Bool.and_eq_true_iff.mp c
          obtain ⟨p, vs, rfl, hp, r⟩ := T.h2.tup
          exact .inr (.inl ⟨p, vs, rfl, .inr (.inl (.inl hp)), flat_rp T.h1.rp c1, flats_rp r.rp c2, by rw [anyV_rp T.h1.rp c1 r.rp c2]; exact T.scal q (.bl _)⟩)
        · simp only [Bool.and_eq_true, decide_eq_true_eq] at c
          exact .inr (.inr ⟨a, xs, _, _, hK ▸ T.h1.rp, .inr (hK ▸ T.h2.rp), c.1.1, c.1.2, c.2, T.scal q (.bl _)⟩)
      · rw [if_neg c] at q; exact q.elim
    · rename_i kvs
      have q : WE F H σ ε Fs rd ef Q ((if keyFits kvs a = true then Out.ok (dget kvs a).isSome else .no).bind fun r => .ok (.bool r, true, ε2)) := by cases a <;> exact q
      by_cases c : keyFits kvs a = true
      · rw [if_pos c] at q
        obtain ⟨p, rfl, h⟩ := T.h2.dget T.h1 c
        rcases h with ⟨e, g⟩ | ⟨d, w, G', e, g, _, _⟩
        · rw [e] at q
          exact .inl ⟨p, _, rfl, g, T.scal q (.bl _)⟩
        · rw [e] at q
          exact .inl ⟨p, _, rfl, .inl g, T.scal q (.bl _)⟩
      · rw [if_neg c] at q; exact q.elim
  | notin =>
    refine ⟨_, (op_ninD' hu1).or (op_notIn_seq.or (op_ninX hu)), fun {F H H2 σ ε ε2 Fs Fs2 rd ef Q v u a b fa fb G1 G2} hK T q => ?_⟩
    cases b <;> first | (cases a <;> exact q.elim) | skip
    · rename_i xs
      have q : WE F H σ ε Fs rd ef Q ((if inOk a xs = true then Out.ok (!xs.any fun y => PyData.eqv y a) else .no).bind fun r => .ok (.bool r, true, ε2)) := by cases a <;> exact q
      by_cases c : inOk a xs = true
      · rw [if_pos c] at q
        rcases Bool.or_eq_true_iff.mp c with c | c
        · obtain ⟨c1, c2⟩ := Bool.and_eq_true_iff.mp c
          obtain ⟨p, vs, G', rfl, hp, rfl, r⟩ := T.h2.lst
          exact .inr (.inl ⟨p, vs, rfl, .inl (.inl (.inl hp)), flat_rp T.h1.rp c1, flats_rp r.rp c2, by rw [anyV_rp T.h1.rp c1 r.rp c2]; exact T.scal q (.bl _)⟩)
        · simp only [Bool.and_eq_true, decide_eq_true_eq] at c
          exact .inr (.inr ⟨a, xs, _, _, hK ▸ T.h1.rp, .inl (hK ▸ T.h2.rp), c.1.1, c.1.2, c.2, T.scal q (.bl _)⟩)
      · rw [if_neg c] at q; exact q.elim
    · rename_i xs
      have q : WE F H σ ε Fs rd ef Q ((if inOk a xs = true then Out.ok (!xs.any fun y => PyData.eqv y a) else .no).bind fun r => .ok (.bool r, true, ε2)) := by cases a <;> exact q
      by_cases c : inOk a xs = true
      · rw [if_pos c] at q
        rcases Bool.or_eq_true_iff.mp c with c | c
        · obtain ⟨c1, c2⟩ := Bool.and_eq_true_iff.mp c
          obtain ⟨p, vs, rfl, hp, r⟩ := T.h2.tup
          exact .inr (.inl ⟨p, vs, rfl, .inr (.inl (.inl hp)), flat_rp T.h1.rp c1, flats_rp r.rp c2, by rw [anyV_rp T.h1.rp c1 r.rp c2]; exact T.scal q (.bl _)⟩)
        · simp only [Bool.and_eq_true, decide_eq_true_eq] at c
          exact .inr (.inr ⟨a, xs, _, _, hK ▸ T.h1.rp, .inr (hK ▸ T.h2.rp), c.1.1, c.1.2, c.2, T.scal q (.bl _)⟩)
      · rw [if_neg c] at q; exact q.elim
    · rename_i kvs
      have q : WE F H σ ε Fs rd ef Q ((if keyFits kvs a = true then Out.ok (!(dget kvs a).isSome) else .no).bind fun r => .ok (.bool r, true, ε2)) := by cases a <;> exact q
      by_cases c : keyFits kvs a = true
      · rw [if_pos c] at q
        obtain ⟨p, rfl, h⟩ := T.h2.dget T.h1 c
        rcases h with ⟨e, g⟩ | ⟨d, w, G', e, g, _, _⟩
        · rw [e] at q
          exact .inl ⟨p, _, rfl, g, T.scal q (.bl _)⟩
        · rw [e] at q
          exact .inl ⟨p, _, rfl, .inl g, T.scal q (.bl _)⟩
      · rw [if_neg c] at q; exact q.elim
end CF
/-! CF10: subscripts, slices; built-ins by values. -/
namespace CF
open PySem PySem.Spec PyProof.Rows L2

section
variable {F : Fx} {H H2 : Hp} {σ : L2.St} {ε ε2 : EnvT} {Fs Fs2 : Nat → List Addr} {rd ef : List Nat} {Q : VK} {v u : V} {a b : D} {fa fb : Bool} {G1 G2 : List Addr}
/-- a part of a held value comes out -/
theorem outPart {w : V} {d : D} {fr : Bool} {G : List Addr} (S : Seq F H σ ε Fs ef H2 ε2 Fs2) (h : Held F H2 ε2 Fs2 rd w d fr G) (s : ∀ x ∈ G, x ∈ G1) (o : ∀ x ∈ G1, H x = none ∨ ∃ j, x ∈ Fs j)
    (q : WE F H σ ε Fs rd ef Q (.ok (d, fr, ε2))) : Q w H2 := q w H2 Fs2 G (S.post h fun x m => o x (s x m))
theorem atI_two {vs : List V} {ds : List D} (e : vs.length = ds.length) {i : Int} {d : D} (h : atI ds i = some d) : ∃ j : Nat, ds[j]? = some d ∧ ∀ x, vs[j]? = some x → atI vs i = some x := by
  unfold atI at h ⊢
  rw [e]
  cases q : ixN ds.length i with
  | none => rw [q] at h; cases h
  | some j => rw [q] at h; exact ⟨j, h, fun x hx => hx⟩
theorem HeldR.atI {vs : List V} {ds : List D} {d : D} {G : List Addr} (r : HeldR F H2 ε2 Fs2 rd vs ds fa G) {i : Int} (h : L2.atI ds i = some d) : ∃ x G', L2.atI vs i = some x ∧ Held F H2 ε2 Fs2 rd x d fa G' ∧ ∀ y ∈ G', y ∈ G := by
  obtain ⟨j, e1, e2⟩ := atI_two r.rp.length h
  obtain ⟨x, G', e3, hx, s⟩ := r.at e1
  exact ⟨x, G', e2 x e3, hx, s⟩
end

theorem ix_ok {X : Cx} (hu : X.A.units + 65 < cLine) : ∃ r : R2, IxR X r ∧ ∀ {F : Fx} {H H2 : Hp} {σ : L2.St} {ε ε2 : EnvT} {Fs Fs2 : Nat → List Addr} {rd ef : List Nat} {Q : VK} {v u : V} {a b : D} {fa fb : Bool} {G1 G2 : List Addr},
    X.K = F.K → Two F H σ ε Fs rd ef H2 ε2 Fs2 v u a b fa fb G1 G2 → WE F H σ ε Fs rd ef Q ((ixD a fa b).bind fun r => .ok (r.1, r.2, ε2)) → r v u H2 Q := by
  refine ⟨_, ix_seq.or (ix_dict (by omega)), fun {F H H2 σ ε ε2 Fs Fs2 rd ef Q v u a b fa fb G1 G2} hK T q => ?_⟩
  cases a <;> first | (cases b <;> exact q.elim) | skip
  · -- a text
    rename_i s
    cases b <;> first | exact q.elim | skip
    rename_i i
    obtain rfl := T.h1.str; obtain rfl := T.h2.int
    simp only [ixD] at q
    by_cases c : small s.length = true
    · rw [if_pos c] at q
      cases e : atI s.cps.toList i with
      | none => rw [e] at q; exact q.elim
      | some x =>
        rw [e] at q
        exact .inl (.inr (.inr ⟨s, i, x, rfl, rfl, small_le c, e, T.scal q (.str _)⟩))
    · rw [if_neg c] at q; exact q.elim
  · rename_i xs
    cases b <;> first | exact q.elim | skip
    rename_i i
    obtain rfl := T.h2.int
    simp only [ixD] at q
    cases e : atI xs i with
    | none => rw [e] at q; exact q.elim
    | some d =>
      rw [e] at q
      obtain ⟨p, vs, G', rfl, hp, rfl, r⟩ := T.h1.lst
      obtain ⟨x, G'', ex, hx, s⟩ := r.atI e
      exact .inl (.inl ⟨p, vs, i, x, rfl, rfl, .inl (.inl hp), ex, outPart T.seq (hx.weak fun z => Bool.or_eq_true_iff.mpr (.inl z)) (fun y m => List.mem_cons_of_mem _ (s y m)) T.o1 q⟩)
  · rename_i xs
    cases b <;> first | exact q.elim | skip
    rename_i i
    obtain rfl := T.h2.int
    simp only [ixD] at q
    cases e : atI xs i with
    | none => rw [e] at q; exact q.elim
    | some d =>
      rw [e] at q
      obtain ⟨p, vs, rfl, hp, r⟩ := T.h1.tup
      obtain ⟨x, G'', ex, hx, s⟩ := r.atI e
      exact .inl (.inr (.inl ⟨p, vs, i, x, rfl, rfl, .inl (.inl hp), ex, outPart T.seq (hx.weak fun z => Bool.or_eq_true_iff.mpr (.inl z)) s T.o1 q⟩))
  · rename_i kvs
    simp only [ixD] at q
    by_cases c : keyFits kvs b = true
    · rw [if_pos c] at q
      obtain ⟨p, rfl, h⟩ := T.h1.dget T.h2 c
      rcases h with ⟨e, g⟩ | ⟨d, w, G', e, g, hd, s⟩
      · rw [e] at q; exact q.elim
      · rw [e] at q
        exact .inr ⟨p, w, rfl, g, outPart T.seq hd s T.o1 q⟩
    · rw [if_neg c] at q; exact q.elim

/-! ### slices -/
theorem cutV_cut (xs : List V) (lo hi : Option Int) : cutV xs lo hi = cut xs lo hi := rfl
theorem rps_take {K : PySem.W.Frag} {H : Hp} : ∀ {vs : List V} {ds : List D} {G : List Addr}, Rps K H vs ds G → ∀ n, ∃ G', Rps K H (vs.take n) (ds.take n) G' ∧ List.Sublist G' G
  | _, _, _, .nil, n => ⟨[], by simpa using Rps.nil, List.Sublist.refl _⟩
  | _, _, _, .cons r q, 0 => ⟨[], .nil, List.nil_sublist _⟩
  | _, _, _, .cons (F := F) r q, n + 1 => by
    obtain ⟨G', q', s⟩ := rps_take q n
    exact ⟨F ++ G', .cons r q', List.Sublist.append (List.Sublist.refl _) s⟩
theorem rps_drop {K : PySem.W.Frag} {H : Hp} : ∀ {vs : List V} {ds : List D} {G : List Addr}, Rps K H vs ds G → ∀ n, ∃ G', Rps K H (vs.drop n) (ds.drop n) G' ∧ List.Sublist G' G
  | _, _, _, .nil, n => ⟨[], by simpa using Rps.nil, List.Sublist.refl _⟩
  | _, _, _, .cons (F := F) (G := G) r q, 0 => ⟨F ++ G, .cons r q, List.Sublist.refl _⟩
  | _, _, _, .cons r q, n + 1 => by
    obtain ⟨G', q', s⟩ := rps_drop q n
    exact ⟨G', q', s.trans (List.sublist_append_right ..)⟩
theorem rps_cut {K : PySem.W.Frag} {H : Hp} {vs : List V} {ds : List D} {G : List Addr} (r : Rps K H vs ds G) (lo hi : Option Int) : ∃ G', Rps K H (cut vs lo hi) (cut ds lo hi) G' ∧ List.Sublist G' G := by
  unfold cut
  rw [r.length]
  obtain ⟨G1, q1, s1⟩ := rps_drop r (HT.sIx ds.length 0 lo)
  obtain ⟨G2, q2, s2⟩ := rps_take q1 (HT.sIx ds.length ds.length hi - HT.sIx ds.length 0 lo)
  exact ⟨G2, q2, s2.trans s1⟩
theorem HeldR.cut {F : Fx} {H : Hp} {ε : EnvT} {Fs : Nat → List Addr} {rd : List Nat} {vs : List V} {ds : List D} {fr : Bool} {G : List Addr} (r : HeldR F H ε Fs rd vs ds fr G) (lo hi : Option Int) :
    ∃ G', HeldR F H ε Fs rd (CF.cut vs lo hi) (CF.cut ds lo hi) fr G' ∧ ∀ a ∈ G', a ∈ G := by
  obtain ⟨G', q, s⟩ := rps_cut r.rp lo hi
  exact ⟨G', r.part q (fun a m => s.subset m) fun n => s.nodup n, fun a m => s.subset m⟩

theorem sl_ok {X : Cx} : ∃ r : V → Option Int → Option Int → Hp → VK → Prop, SlR X r ∧ ∀ {F : Fx} {H H2 : Hp} {σ : L2.St} {ε ε2 : EnvT} {Fs Fs2 : Nat → List Addr} {rd ef : List Nat} {Q : VK} {v : V} {a : D} {fa : Bool} {G1 : List Addr} {lo hi : Option Int},
    X.K = F.K → EnvR F H σ ε Fs → Seq F H σ ε Fs ef H2 ε2 Fs2 → Held F H2 ε2 Fs2 rd v a fa G1 → (∀ x ∈ G1, H x = none ∨ ∃ j, x ∈ Fs j) → WE F H σ ε Fs rd ef Q ((slD a fa lo hi).bind fun r => .ok (r.1, r.2, ε2)) → r v lo hi H2 Q := by
  refine ⟨_, sl_list.or (sl_tupA.or sl_str), fun {F H H2 σ ε ε2 Fs Fs2 rd ef Q v a fa G1 lo hi} hK R S h o q => ?_⟩
  cases a <;> first | exact q.elim | skip
  · rename_i s
    obtain rfl := h.str
    simp only [slD] at q
    by_cases c : small s.length = true
    · rw [if_pos c] at q
      exact .inr (.inr ⟨s, rfl, small_le c, q _ _ _ _ (S.post0 (.str _))⟩)
    · rw [if_neg c] at q; exact q.elim
  · obtain ⟨p, vs, G', rfl, hp, rfl, r⟩ := h.lst
    obtain ⟨G'', r', s⟩ := r.cut lo hi
    exact .inl ⟨p, vs, rfl, .inl (.inl hp), fun l n => q _ _ _ _ (S.newL r' (fun x m => o x (List.mem_cons_of_mem _ (s x m))) n)⟩
  · rename_i xs
    obtain ⟨p, vs, rfl, hp, r⟩ := h.tup
    obtain ⟨G'', r', s⟩ := r.cut lo hi
    have rw' : HeldR F H2 ε2 Fs2 rd (cut vs lo hi) (cut xs lo hi) fa G'' := r'.weak fun z => Bool.or_eq_true_iff.mpr (.inl z)
    refine .inr (.inl ⟨p, vs, rfl, .inl (.inl hp), fun w => ?_, fun w l n => ?_⟩)
    · have e : cut vs lo hi = vs := by
        unfold cut
        rw [w.1, w.2]
        simp
      rw [e] at rw'
      exact q _ _ _ _ (S.oldT rw' (fun x m => o x (s x m)) hp)
    · exact q _ _ _ _ (S.newT rw' (fun x m => o x (s x m)) n)
end CF
/-! CF11: built-ins by values. -/
namespace CF
open PySem PySem.Spec PyProof.Rows L2

/-! ### sorted -/
theorem rps_trip {K : PySem.W.Frag} {H : Hp} : ∀ {xs : List V} {ds : List D} {G : List Addr}, Rps K H xs ds G → ∃ bs : List (V × D × List Addr), bs.map (·.1) = xs ∧ bs.map (·.2.1) = ds ∧ (bs.map (·.2.2)).flatten = G ∧ ∀ b ∈ bs, Rp K H b.1 b.2.1 b.2.2
  | _, _, _, .nil => ⟨[], rfl, rfl, rfl, fun _ m => nomatch m⟩
  | _, _, _, .cons (v := v) (d := d) (F := F) r q => by
    obtain ⟨bs, e1, e2, e3, h⟩ := rps_trip q
    refine ⟨(v, d, F) :: bs, by rw [List.map_cons, e1], by rw [List.map_cons, e2], by rw [List.map_cons, List.flatten_cons, e3], fun b m => ?_⟩
    rcases List.mem_cons.mp m with rfl | m
    · exact r
    · exact h b m
theorem trip_rps {K : PySem.W.Frag} {H : Hp} : ∀ {bs : List (V × D × List Addr)}, (∀ b ∈ bs, Rp K H b.1 b.2.1 b.2.2) → Rps K H (bs.map (·.1)) (bs.map (·.2.1)) (bs.map (·.2.2)).flatten
  | [], _ => .nil
  | b :: bs, h => .cons (h b List.mem_cons_self) (trip_rps fun x m => h x (List.mem_cons_of_mem _ m))
theorem trip_vals : ∀ {bs : List (V × D × List Addr)} {us : List Value}, Vals (bs.map (·.1)) us → W.EachIs (fun u b => RelV b.1 u) us bs
  | [], _, .nil => .nil
  | _ :: _, _, .cons r q => .cons r (trip_vals q)
theorem vals_trip : ∀ {bs : List (V × D × List Addr)} {us : List Value}, W.EachIs (fun u b => RelV b.1 u) us bs → Vals (bs.map (·.1)) us
  | _, _, .nil => .nil
  | _, _, .cons r q => .cons r (vals_trip q)
theorem trip_reads {X : Cx} {pins : List (Addr × Obj)} {σ : L2.St} {H : Hp} {s : Shared} (I : Inv X pins σ H s) : ∀ {bs : List (V × D × List Addr)} {us : List Value}, (∀ b ∈ bs, Rp X.K H b.1 b.2.1 b.2.2) → W.EachIs (fun u b => RelV b.1 u) us bs → W.EachIs (fun v b => ∃ as, Reads s.heap v b.2.1 as) us bs
  | _, _, _, .nil => .nil
  | _ :: _, _, h, .cons r q => .cons ((h _ List.mem_cons_self).reads I r) (trip_reads I (fun b m => h b (List.mem_cons_of_mem _ m)) q)
theorem trip_sort (rev : Bool) (bs : List (V × D × List Addr)) : (bs.mergeSort (W.dataLe rev (·.2.1))).map (·.2.1) = (bs.map (·.2.1)).mergeSort (W.dataLe rev id) :=
  List.map_mergeSort fun _ _ _ _ => rfl
def rSortX (K : PySem.W.Frag) (rev : Bool) : List V → Hp → VK → Prop := fun vs H Q => ∃ (a : Addr) (xs : List V) (ds : List D) (G : List Addr), vs = [.ref a] ∧ H a = some (.lst xs) ∧ Rps K H xs ds G ∧ W.AllAlike ds ∧ W.Sortable ds ∧ (∀ d ∈ ds, d.depth ≤ 64) ∧
  ∀ (ys : List V) (G' : List Addr) (p : Addr), Rps K H ys (ds.mergeSort (W.dataLe rev id)) G' → G'.Perm G → H p = none → Q (.ref p) (upd H p (.lst ys))
theorem sort_fin {X : Cx} {pins : List (Addr × Obj)} {σ : L2.St} {H : Hp} {s : Shared} {Q : VK} {rev : Bool} {bs : List (V × D × List Addr)} {its out : List Value} (I : Inv X pins σ H s) (hb : ∀ b ∈ bs, Rp X.K H b.1 b.2.1 b.2.2) (hz : bs.length ≤ sizeLine)
    (eo : W.EachIs (fun u b => RelV b.1 u) out (bs.mergeSort (W.dataLe rev (·.2.1))))
    (q : ∀ (ys : List V) (G' : List Addr) (p : Addr), Rps X.K H ys ((bs.map (·.2.1)).mergeSort (W.dataLe rev id)) G' → G'.Perm (bs.map (·.2.2)).flatten → H p = none → Q (.ref p) (upd H p (.lst ys))) :
    EP X pins σ Q (.ref (s.heap.objs.size + 1)) { s with heap := sortedAll s.heap its out.toArray } := by
  have pm : (bs.mergeSort (W.dataLe rev (·.2.1))).Perm bs := List.mergeSort_perm _ _
  obtain ⟨ep, he'⟩ := PyProof.Rows.sortedAll_at s.heap its out.toArray
  refine ⟨.ref _, upd H (s.heap.objs.size + 1) (.lst ((bs.mergeSort (W.dataLe rev (·.2.1))).map (·.1))), I.laid (t' := s.toks) (fun _ _ => PyProof.Rows.sortedAll_old) (Nat.le_succ _) ⟨?_, out.toArray.toList, ep, by simpa using vals_trip eo, he'⟩, rfl, q _ ((bs.mergeSort (W.dataLe rev (·.2.1))).map (·.2.2)).flatten _ ?_ ?_ (I.hok.fresh (Nat.le_succ _))⟩
  · rw [List.length_map, pm.length_eq]; exact hz
  · rw [← trip_sort]
    exact trip_rps fun b m => hb b (pm.mem_iff.mp m)
  · exact (pm.map _).flatten
theorem cr_sortX {X : Cx} (hu : X.A.units + 100 < cLine) : CallR X (.builtin "sorted") (rSortX X.K false) := by
  intro pins s σ H vs us Q I r h
  obtain ⟨a, xs, ds, G, rfl, hs, rp, hal, hk, hd, q⟩ := h
  obtain ⟨its, rv, hl, hz⟩ := I.list (.inl (.inl hs))
  rw [Vals.ref1 r]
  obtain ⟨bs, rfl, rfl, rfl, hb⟩ := rps_trip rp
  have e := trip_vals rv
  rw [List.length_map] at hz
  exact W.sorted_data (bs := bs) (enc := (·.2.1)) (R := fun u b => RelV b.1 u) hl.isList e (trip_reads I hb e) hal hk hz (fun b m => by
    have := hd b.2.1 (List.mem_map_of_mem m)
    omega) fun out _ eo => sort_fin I hb hz eo q
theorem crk_sortX {X : Cx} (hu : X.A.units + 100 < cLine) : CallRK X (.builtin "sorted") ["reverse"] (fun vs zs H Q => zs = [.bl true] ∧ rSortX X.K true vs H Q) := by
  intro pins s σ H vs zs us ws Q I r rz h
  obtain ⟨rfl, a, xs, ds, G, rfl, hs, rp, hal, hk, hd, q⟩ := h
  obtain ⟨its, rv, hl, hz⟩ := I.list (.inl (.inl hs))
  rw [Vals.ref1 r]
  obtain ⟨w, rfl, rw'⟩ := vals1 rz
  cases rw'
  obtain ⟨bs, rfl, rfl, rfl, hb⟩ := rps_trip rp
  have e := trip_vals rv
  rw [List.length_map] at hz
  exact W.sorted_rev_data (b := true) (bs := bs) (enc := (·.2.1)) (R := fun u b => RelV b.1 u) hl.isList e (trip_reads I hb e) hal hk hz (fun b m => by
    have := hd b.2.1 (List.mem_map_of_mem m)
    omega) fun out _ eo => sort_fin I hb hz eo q
/-! ### repr -/
def rReprX (K : PySem.W.Frag) : List V → Hp → VK → Prop := fun vs H Q => ∃ v d G, vs = [v] ∧ Rp K H v d G ∧ d.showable = true ∧ d.shown.length ≤ sizeLine ∧ d.depth ≤ 64 ∧ Q (.str d.shown) H
end CF
namespace CF
open PySem PySem.Spec PyProof.Rows L2
theorem call_repr_of {prog : Program} {w : World} {A : Around} {E : Value → Shared → Prop} {s : Shared} {T id : String} {a : Addr} {x : Str} {Q : Value → Shared → Prop} (hu : A.units + 1 < cLine) (hT : s.TypeIs (.ref a) T) (slot : SlotG T "__repr__" id)
    (h : ∀ (A' : Around) (E' : Value → Shared → Prop) (Q' : Value → Shared → Prop), A'.guards = A.guards → A'.units ≤ A.units + 1 →
      (∀ h' u tk, (∀ b o, s.heap.get? b = some o → h'.get? b = some o) → Q' (.str x u) { s with heap := h', toks := tk }) → wpAny (model prog w) A' (call (.builtin id) [.ref a]) Q' E' s)
    (hQ : ∀ h' u tk, (∀ b o, s.heap.get? b = some o → h'.get? b = some o) → Q (.str x u) { s with heap := h', toks := tk }) :
    wpAny (model prog w) A (call (.builtin "repr") [.ref a]) Q E s := by
  refine Calls.call_function_entry F.kind_repr F.plain_repr F.entry_repr (F.args_repr1 _) ?_
  unfold Builtin.«repr»
  refine wpAny_bind (m := oneArg "repr" _) (wpAny_pure ?_)
  refine wpAny_bind (wpAny_cRoomFor (by omega) ?_)
  refine wpAny_bind (wpAny_specialOf (name := Str.ofString "__repr__") hT slot.lookup ?_)
  refine wpAny_bind (m := callSpecialIfBound? (.ref a) (Str.ofString "__repr__")) (wpAny_callSpecialIfBound?_slotG (name := Str.ofString "__repr__") hT slot (h _ _ _ rfl (by simp) fun h' u tk k => ?_))
  refine wpAny_bind (wpAny_isInstance (T := "str") (b := true) rfl isSubtype_str_str ?_)
  exact wpAny_pure ⟨_, rfl, hQ h' u tk k⟩

theorem call_reprX {X : Cx} (hg : X.A.guards = some []) (hu : X.A.units + 100 < cLine) : CallR X (.builtin "repr") (rReprX X.K) := by
  intro pins s σ H vs us Q I r h
  obtain ⟨v, d, G, rfl, rp, hs, hz, hd, q⟩ := h
  obtain ⟨u, rfl, ru⟩ := vals1 r
  have fin : ∀ (h' : Heap) (t : Tok) (tk : Nat), (∀ b o, s.heap.get? b = some o → h'.get? b = some o) → EP X pins σ Q (.str d.shown t) { s with heap := h', toks := tk } := fun h' t tk k => ⟨.str d.shown, H, I.kept k, ⟨t, rfl⟩, q⟩
  have hx := rp
  cases rp with
  | non =>
    cases ru
    exact PySem.P.repr_of_none (fin s.heap _ _ fun _ _ e => e)
  | bl b =>
    cases ru
    exact PySem.P.repr_of_bool (fin s.heap _ _ fun _ _ e => e)
  | int i =>
    obtain ⟨t, rfl⟩ := ru
    exact PySem.P.repr_of_int (by simpa [PyData.showable] using hs) (fin s.heap _ _ fun _ _ e => e)
  | str x =>
    obtain ⟨t, rfl⟩ := ru
    exact PySem.P.repr_of_str (fin s.heap _ _ fun _ _ e => e) hz
  | lst h q0 =>
    rename_i a xs ds G0
    cases ru
    obtain ⟨o, its, n, ho, hc, hdt, rv⟩ := lst_obj I h
    have hz' : (listText (PyData.shownAll ds)).length ≤ sizeLine := by simpa only [PyData.shown] using hz
    obtain ⟨bs, hb, hk⟩ := q0.reprs (prog := X.prog) (w := X.w) I rv (by simpa [PyData.showable] using hs) fun t ht => Nat.le_trans (listText_mem_le ht) hz'
    obtain ⟨as, ra⟩ := q0.reads I rv
    have rr : Reads s.heap (.ref a) (.list ds) _ := .list ho hc hdt ra
    have hna : a ∉ bs := not_mem_of_deeper rr (by simp only [PyData.depth]; omega) hb
    simp only [PyData.depth] at hd
    simp only [PyData.shown] at fin
    obtain ⟨l⟩ := its
    cases l with
    | nil =>
      have ra' : ReadsAll s.heap [] ds _ := ra
      cases ra'
      simp only [PyData.shownAll, listText_nil] at fin
      exact call_repr_of (by omega) ⟨o, ho, hc⟩ F.slot_list_repr.toG (fun A' E' Q' g1 g2 hq => call_list_repr_empty ⟨o, ho, hc⟩ ho hdt (hq s.heap _ _ fun _ _ e => e)) fin
    | cons x l =>
      exact call_repr_of (by omega) ⟨o, ho, hc⟩ F.slot_list_repr.toG (fun A' E' Q' g1 g2 hq => call_list_reprK ho hc hdt hna (by simpa using hk.length_eq) (fun i y e => hk.item i y (by simpa using e)) (g1.trans hg) (fun b _ => Clear.nil b) (by omega) (fun _ _ e => e) hq hz') fin
  | tup h q0 =>
    rename_i a xs ds
    cases ru
    obtain ⟨o, its, n, ho, hc, hdt, rv⟩ := tup_obj I h
    have hz' : (tupleText (PyData.shownAll ds)).length ≤ sizeLine := by simpa only [PyData.shown] using hz
    obtain ⟨bs, hb, hk⟩ := q0.reprs (prog := X.prog) (w := X.w) I rv (by simpa [PyData.showable] using hs) fun t ht => Nat.le_trans (tupleText_mem_le ht) hz'
    obtain ⟨as, ra⟩ := q0.reads I rv
    have rr : Reads s.heap (.ref a) (.tuple ds) _ := .tuple ho hc hdt ra
    have hna : a ∉ bs := not_mem_of_deeper rr (by simp only [PyData.depth]; omega) hb
    simp only [PyData.depth] at hd
    simp only [PyData.shown] at fin
    exact call_repr_of (by omega) ⟨o, ho, hc⟩ F.slot_tuple_repr (fun A' E' Q' g1 g2 hq => call_tuple_reprK ho hc hdt hna hk (g1.trans hg) (fun b _ => Clear.nil b) (by omega) (fun _ _ e => e) hq hz') fin
  | dct h e q0 =>
    rename_i a kvs ds G0
    cases ru
    obtain ⟨hsys, o, es, ep, ho, hc, hdt, rk, rv⟩ := dk_obj I h.rd
    obtain ⟨hs1, hs2⟩ := PyData.showableKv_split ds (by simpa [PyData.showable] using hs)
    have hz' : (dictText (PyData.shownKv ds)).length ≤ sizeLine := by simpa only [PyData.shown] using hz
    rw [← e] at rk
    obtain ⟨b1, hb1, k1⟩ := ReprAllK.of_readsAll (prog := X.prog) (w := X.w) rk hs1 (fun _ hm => nomatch hm) (fun t ht => let ⟨p, hp, hl⟩ := PyData.shownKv_key_le ds t ht; Nat.le_trans hl (Nat.le_trans (dictText_mem_le hp) hz'))
    obtain ⟨b2, hb2, k2⟩ := q0.reprs (prog := X.prog) (w := X.w) I rv hs2 (fun t ht => let ⟨p, hp, hl⟩ := PyData.shownKv_val_le ds t ht; Nat.le_trans hl (Nat.le_trans (dictText_mem_le hp) hz'))
    obtain ⟨as, ra⟩ := q0.reads I rv
    have rr : Reads s.heap (.ref a) (.dict ds) _ := .dict ho hc hdt rk ra
    have hb : ReadAtMost s.heap (PyData.depthKv ds) (b1 ++ b2) := (hb1.mono (PyData.depthAll_keys_le ds)).append (hb2.mono (PyData.depthAll_vals_le ds))
    have hna : a ∉ b1 ++ b2 := not_mem_of_deeper rr (by simp only [PyData.depth]; omega) hb
    simp only [PyData.depth] at hd
    simp only [PyData.shown] at fin
    have hE := ReprEntriesK.of_two es.toList _ _ (k1.more_le (fun b hb => List.mem_append_left _ hb) (PyData.depthAll_keys_le ds)) (k2.more_le (fun b hb => List.mem_append_right b1 hb) (PyData.depthAll_vals_le ds))
    rw [← PyData.shownKv_eq] at hE
    exact call_repr_of (by omega) ⟨o, ho, hc⟩ F.slot_dict_repr (fun A' E' Q' g1 g2 hq => call_dict_reprK ho hc hdt hsys hna hE (g1.trans hg) (fun b _ => Clear.nil b) (by omega) (fun _ _ e => e) hq hz') fin
  | dcT h e q0 =>
    rename_i a kvs ds G0
    cases ru
    obtain ⟨hsys, o, es, ep, ho, hc, hdt, rk, rv⟩ := dt_obj I h.rd
    obtain ⟨hs1, hs2⟩ := PyData.showableKv_split ds (by simpa [PyData.showable] using hs)
    have hz' : (dictText (PyData.shownKv ds)).length ≤ sizeLine := by simpa only [PyData.shown] using hz
    rw [← e] at rk
    obtain ⟨b1, hb1, k1⟩ := ReprAllK.of_readsAll (prog := X.prog) (w := X.w) rk hs1 (fun _ hm => nomatch hm) (fun t ht => let ⟨p, hp, hl⟩ := PyData.shownKv_key_le ds t ht; Nat.le_trans hl (Nat.le_trans (dictText_mem_le hp) hz'))
    obtain ⟨b2, hb2, k2⟩ := q0.reprs (prog := X.prog) (w := X.w) I rv hs2 (fun t ht => let ⟨p, hp, hl⟩ := PyData.shownKv_val_le ds t ht; Nat.le_trans hl (Nat.le_trans (dictText_mem_le hp) hz'))
    obtain ⟨as, ra⟩ := q0.reads I rv
    have rr : Reads s.heap (.ref a) (.dict ds) _ := .dict ho hc hdt rk ra
    have hb : ReadAtMost s.heap (PyData.depthKv ds) (b1 ++ b2) := (hb1.mono (PyData.depthAll_keys_le ds)).append (hb2.mono (PyData.depthAll_vals_le ds))
    have hna : a ∉ b1 ++ b2 := not_mem_of_deeper rr (by simp only [PyData.depth]; omega) hb
    simp only [PyData.depth] at hd
    simp only [PyData.shown] at fin
    have hE := ReprEntriesK.of_two es.toList _ _ (k1.more_le (fun b hb => List.mem_append_left _ hb) (PyData.depthAll_keys_le ds)) (k2.more_le (fun b hb => List.mem_append_right b1 hb) (PyData.depthAll_vals_le ds))
    rw [← PyData.shownKv_eq] at hE
    exact call_repr_of (by omega) ⟨o, ho, hc⟩ F.slot_dict_repr (fun A' E' Q' g1 g2 hq => call_dict_reprK ho hc hdt hsys hna hE (g1.trans hg) (fun b _ => Clear.nil b) (by omega) (fun _ _ e => e) hq hz') fin
end CF
/-! CF12: expressions. -/
namespace CF
open PySem PySem.Spec PyProof.Rows L2

/-- what is used of the place -/
structure Gd (X : Cx) (F : Fx) : Prop where
  K : X.K = F.K
  calm : X.calm = true
  nd : X.N.Nodup
  un : X.A.units + 128 < cLine
  gd : X.A.guards = some []

/-- an outcome that leads where it is to -/
def W0 {β : Type} (F : Fx) (H : Hp) (k : β → Prop) : Out β → Prop
  | .ok b => k b
  | .ex x => F.Ex H x
  | .no => False
theorem W0.bind {α β : Type} {F : Fx} {H : Hp} {k : β → Prop} {f : α → Out β} {o : Out α} : W0 F H k (o.bind f) → W0 F H (fun a => W0 F H k (f a)) o := by
  cases o <;> exact id
theorem W0.imp {β : Type} {F : Fx} {H : Hp} {k k' : β → Prop} {o : Out β} (h : W0 F H k o) (i : ∀ b, o = .ok b → k b → k' b) : W0 F H k' o := by
  cases o with
  | ok b => exact i b rfl h
  | ex x => exact h
  | no => exact h
theorem W0.later {β : Type} {F : Fx} {H H' : Hp} {k : β → Prop} {o : Out β} (h : W0 F H k o) (fr : Fr F.Wr H H') : W0 F H' k o := by
  cases o with
  | ok b => exact h
  | ex x => exact F.exm h fr
  | no => exact h
/-- what is to be shown of an expression's, a test's, a list's outcome -/
abbrev kE (F : Fx) (H : Hp) (σ : L2.St) (ε : EnvT) (Fs : Nat → List Addr) (rd ef : List Nat) (Q : VK) : D × Bool × EnvT → Prop := fun r => ∀ v H' Fs' G, PostE F H σ ε Fs rd ef H' r.2.2 Fs' v r.1 r.2.1 G → Q v H'
abbrev kT (F : Fx) (H : Hp) (σ : L2.St) (ε : EnvT) (Fs : Nat → List Addr) (ef : List Nat) (Q : Bool → Hp → Prop) : Bool × EnvT → Prop := fun r => ∀ H' Fs', Seq F H σ ε Fs ef H' r.2 Fs' → Q r.1 H'
abbrev kL (F : Fx) (H : Hp) (σ : L2.St) (ε : EnvT) (Fs : Nat → List Addr) (rd ef : List Nat) (Q : List V → Hp → Prop) : List (D × Bool) × EnvT → Prop := fun r => ∀ vs H' Fs' G, Seq F H σ ε Fs ef H' r.2 Fs' → HeldL F H' r.2 Fs' rd vs r.1 G → (∀ a ∈ G, H a = none ∨ ∃ j, a ∈ Fs j) → Q vs H'

section
variable {X : Cx} {F : Fx} {σ : L2.St} {H H1 : Hp} {ε ε1 : EnvT} {Fs Fs1 : Nat → List Addr} {rd ef rda rdb efa efb : List Nat} {Q : VK}
theorem tE.w {m : M} (h : tE F rd ef m σ H Q) : ∃ ε Fs, EnvR F H σ ε Fs ∧ W0 F H (kE F H σ ε Fs rd ef Q) (m ε) := by
  obtain ⟨ε, Fs, R, h⟩ := h
  refine ⟨ε, Fs, R, ?_⟩
  cases e : m ε <;> rw [e] at h <;> exact h
theorem tE.of {m : M} (R : EnvR F H σ ε Fs) (h : W0 F H (kE F H σ ε Fs rd ef Q) (m ε)) : tE F rd ef m σ H Q := by
  refine ⟨ε, Fs, R, ?_⟩
  cases e : m ε <;> rw [e] at h <;> exact h
theorem tT.w {m : MT} {Q : Bool → Hp → Prop} (h : tT F ef m σ H Q) : ∃ ε Fs, EnvR F H σ ε Fs ∧ W0 F H (kT F H σ ε Fs ef Q) (m ε) := by
  obtain ⟨ε, Fs, R, h⟩ := h
  refine ⟨ε, Fs, R, ?_⟩
  cases e : m ε <;> rw [e] at h <;> exact h
theorem tT.of {m : MT} {Q : Bool → Hp → Prop} (R : EnvR F H σ ε Fs) (h : W0 F H (kT F H σ ε Fs ef Q) (m ε)) : tT F ef m σ H Q := by
  refine ⟨ε, Fs, R, ?_⟩
  cases e : m ε <;> rw [e] at h <;> exact h
theorem tL.w {m : ML} {Q : List V → Hp → Prop} (h : tL F rd ef m σ H Q) : ∃ ε Fs, EnvR F H σ ε Fs ∧ W0 F H (kL F H σ ε Fs rd ef Q) (m ε) := by
  obtain ⟨ε, Fs, R, h⟩ := h
  refine ⟨ε, Fs, R, ?_⟩
  cases e : m ε <;> rw [e] at h <;> exact h
theorem tL.of {m : ML} {Q : List V → Hp → Prop} (R : EnvR F H σ ε Fs) (h : W0 F H (kL F H σ ε Fs rd ef Q) (m ε)) : tL F rd ef m σ H Q := by
  refine ⟨ε, Fs, R, ?_⟩
  cases e : m ε <;> rw [e] at h <;> exact h
/-- from m's outcome to that of what goes on behind it -/
theorem tE.go {β : Type} {m : M} {f : D × Bool × EnvT → Out β} {k : β → Prop} (R : EnvR F H σ ε Fs) (h : W0 F H k ((m ε).bind f))
    (g : ∀ r v H' Fs' G, m ε = .ok r → PostE F H σ ε Fs rd ef H' r.2.2 Fs' v r.1 r.2.1 G → W0 F H k (f r) → Q v H') : tE F rd ef m σ H Q :=
  tE.of R ((W0.bind h).imp fun r e hf v H' Fs' G P => g r v H' Fs' G e P hf)
theorem tT.go {β : Type} {m : MT} {f : Bool × EnvT → Out β} {k : β → Prop} {Q : Bool → Hp → Prop} (R : EnvR F H σ ε Fs) (h : W0 F H k ((m ε).bind f))
    (g : ∀ r H' Fs', m ε = .ok r → Seq F H σ ε Fs ef H' r.2 Fs' → W0 F H k (f r) → Q r.1 H') : tT F ef m σ H Q :=
  tT.of R ((W0.bind h).imp fun r e hf H' Fs' P => g r H' Fs' e P hf)
theorem tL.go {β : Type} {m : ML} {f : List (D × Bool) × EnvT → Out β} {k : β → Prop} {Q : List V → Hp → Prop} (R : EnvR F H σ ε Fs) (h : W0 F H k ((m ε).bind f))
    (g : ∀ r vs H' Fs' G, m ε = .ok r → Seq F H σ ε Fs ef H' r.2 Fs' → HeldL F H' r.2 Fs' rd vs r.1 G → (∀ a ∈ G, H a = none ∨ ∃ j, a ∈ Fs j) → W0 F H k (f r) → Q vs H') : tL F rd ef m σ H Q :=
  tL.of R ((W0.bind h).imp fun r e hf vs H' Fs' G S P o => g r vs H' Fs' G e S P o hf)
theorem PostE.bool {v : V} {c fr : Bool} {H' : Hp} {ε' : EnvT} {Fs' : Nat → List Addr} {G : List Addr} (P : PostE F H σ ε Fs rd ef H' ε' Fs' v (.bool c) fr G) : v = .bl c := P.held0.bl
/-- a value in which nothing can be changed -/
theorem kE.scal {d : D} {fr : Bool} {v : V} {H' : Hp} {ε' : EnvT} {Fs' : Nat → List Addr} (h : kE F H σ ε Fs rd ef Q (d, fr, ε')) (S : Seq F H σ ε Fs ef H' ε' Fs') (r : Rp F.K H' v d []) : Q v H' := h v H' Fs' [] (S.post0 r)

/-! ### names, constants -/
theorem Own.lt {i : Nat} (o : Own ε i) : i < ε.length := by
  obtain ⟨x, e⟩ := o
  by_cases h : i < ε.length
  · exact h
  · rw [List.getElem?_eq_none (by omega)] at e; cases e
theorem own_set {i j : Nat} {s : SlV} (o : Own (ε.set i s) j) (h : j ≠ i) : Own ε j := by
  obtain ⟨x, e⟩ := o
  rw [List.getElem?_set_ne (Ne.symm h)] at e
  exact ⟨x, e⟩
theorem own_un {i : Nat} : ¬ Own (ε.set i .un) i := fun ⟨x, e⟩ => by
  by_cases h : i < ε.length
  · rw [List.getElem?_set_self h] at e; cases e
  · rw [List.getElem?_eq_none (by simp; omega)] at e; cases e
theorem EnvR.drop (R : EnvR F H σ ε Fs) (i : Nat) : EnvR F H σ (ε.set i .un) (fun j => if j = i then [] else Fs j) := by
  have nu : ∀ {x : Val} {o : Bool}, (ε.set i .un)[i]? ≠ some (.v x o) := fun {x o} e => by
    by_cases h : i < ε.length
    · rw [List.getElem?_set_self h] at e; cases e
    · rw [List.getElem?_eq_none (by simp; omega)] at e; cases e
  refine ⟨fun j x o e => ?_, fun j ns o e => ?_, fun j a m => ?_, fun j o => ?_, R.nw, fun j h => ?_, R.io, R.len.trans List.length_set.symm⟩
  · by_cases h : j = i
    · subst h; exact absurd e nu
    · rw [if_neg h]; rw [List.getElem?_set_ne (Ne.symm h)] at e; exact R.d j x o e
  · by_cases h : j = i
    · subst h; exact absurd e nu
    · rw [List.getElem?_set_ne (Ne.symm h)] at e; exact R.s j ns o e
  · by_cases h : j = i
    · rw [if_pos h] at m; exact nomatch m
    · rw [if_neg h] at m; exact R.og j a m
  · have h : j ≠ i := fun z => by subst z; exact own_un o
    obtain ⟨f1, f2, f3⟩ := R.own j (own_set o h)
    rw [if_neg h]
    refine ⟨f1, f2, fun j' hj a m => ?_⟩
    by_cases h' : j' = i
    · rw [if_pos h']; exact List.not_mem_nil
    · rw [if_neg h']; exact f3 j' hj a m
  · by_cases hi : j = i
    · rw [if_pos hi]
    · rw [if_neg hi]; exact R.un j fun x o e => h x o (by rw [List.getElem?_set_ne (Ne.symm hi)]; exact e)
theorem xe_nm {i : Nat} {x : Str} {pos : Pos} (mv : Bool) (hN : X.N[i]? = some x) (hv : Vis X.env.scope x) (hd : (x == ("__debug__" : Str)) = false := by decide) (hcd : (x == ("__classdict__" : Str)) = false := by decide) :
    PE X (.Name x pos) (tE F [i] [] (mNm i mv)) := by
  refine (pe_var hN hv hd hcd).imp fun σ H Q h => ?_
  obtain ⟨ε, Fs, R, h⟩ := h.w
  unfold mNm getD at h
  cases e : ε[i]? with
  | none => simp only [e] at h; exact h.elim
  | some s => cases s with
    | un => simp only [e] at h; exact h.elim
    | v y o => cases y with
      | s ns => simp only [e] at h; exact h.elim
      | d d =>
        simp only [e, Out.bind_ok'] at h
        obtain ⟨v, ev, r⟩ := R.d i d o e
        refine ⟨v, ev, ?_⟩
        skip
        by_cases c : (mv && o) = true
        · rw [if_pos c] at h
          obtain ⟨-, rfl⟩ := Bool.and_eq_true_iff.mp c
          obtain ⟨f1, f2, f3⟩ := R.own i ⟨_, e⟩
          refine h v H (fun j => if j = i then [] else Fs j) (Fs i) ⟨R.drop i, .refl, fun j oj => ?_, fun j a m => ?_, fun j nj => if_neg fun z : j = i => nj (z ▸ ⟨_, e⟩), r, fun a m => .inr ⟨i, m⟩, fun _ => ⟨f1, f2, fun j a m => ?_⟩, fun j hj oj a m => ?_⟩
          · by_cases z : j = i
            · subst z; exact absurd oj own_un
            · exact own_set oj z
          · by_cases z : j = i
            · rw [if_pos z] at m; exact nomatch m
            · rw [if_neg z] at m; exact .inr (.inl m)
          · by_cases z : j = i
            · rw [if_pos z]; exact List.not_mem_nil
            · rw [if_neg z]; exact f3 j z a m
          · have z : j ≠ i := fun z => hj (by rw [z]; exact List.mem_cons_self)
            rw [if_neg z]
            exact f3 j z a m
        · rw [if_neg c] at h
          refine h v H Fs (Fs i) ⟨R, .refl, fun j o => o, fun j a m => .inr (.inl m), fun _ _ => rfl, r, fun a m => .inr ⟨i, m⟩, nofun, fun j hj oj a m m' => ?_⟩
          exact (R.own j oj).2.2 i (fun z => hj (by rw [← z]; exact List.mem_cons_self)) a m' m
theorem xe_c {e : Expr} {v : V} {d : D} (h : PE X e (tC v)) (r : ∀ H, Rp F.K H v d []) : PE X e (tE F [] [] (mC d)) := by
  refine h.imp fun σ H Q h => ?_
  obtain ⟨ε, Fs, R, h⟩ := h.w
  exact kE.scal h (.refl R) (r H)
theorem xe_int {i : Int} {j pos} : PE X (.Constant (.int i) j pos) (tE F [] [] (mC (.int i))) := xe_c pe_int fun _ => .int _
theorem xe_str {i : Str} {j pos} : PE X (.Constant (.str i) j pos) (tE F [] [] (mC (.str i))) := xe_c pe_str fun _ => .str _
theorem xe_bl {i : Bool} {j pos} : PE X (.Constant (.bool i) j pos) (tE F [] [] (mC (.bool i))) := xe_c pe_bl fun _ => .bl _
theorem xe_non {j pos} : PE X (.Constant .none j pos) (tE F [] [] (mC .none)) := xe_c pe_non fun _ => .non
/-- a module's number -/
theorem xe_gint {x : Str} {i : Int} {t : Tok} {pos : Pos} (hg : Gl X x) (hm : X.mg x = some (.int i t)) (hd : (x == ("__debug__" : Str)) = false := by decide) : PE X (.Name x pos) (tE F [] [] (mC (.int i))) := xe_c (pe_glob (v := .int i) hg hm ⟨t, rfl⟩ hd) fun _ => .int _

/-! ### two expressions in a row -/
theorem m2_w {ma mb : M} {h : Bool} {f : D → Bool → D → Bool → Out (D × Bool)} (hh : h = true ∨ ∀ j ∈ efb, j ∉ rda) {R2' : V → V → Hp → Prop}
    (H0 : tE F (rda ++ rdb) (efa ++ efb) (m2 ma mb h f) σ H Q)
    (go : ∀ {ε ε2 : EnvT} {Fs Fs2 : Nat → List Addr} {a b : D} {fa fb : Bool} {v u : V} {H2 : Hp} {G1 G2 : List Addr}, Two F H σ ε Fs (rda ++ rdb) (efa ++ efb) H2 ε2 Fs2 v u a b fa fb G1 G2 →
      WE F H σ ε Fs (rda ++ rdb) (efa ++ efb) Q ((f a fa b fb).bind fun r => .ok (r.1, r.2, ε2)) → R2' v u H2) :
    tE F rda efa ma σ H fun v H1 => tE F rdb efb mb σ H1 fun u H2 => R2' v u H2 := by
  refine tE_two (f := fun p q => (f p.1 p.2.1 q.1 q.2.1).bind fun r => .ok (r.1, r.2, q.2.2)) ⟨fun j m => List.mem_append_left _ m, fun j m => List.mem_append_right _ m⟩ ⟨fun j m => List.mem_append_left _ m, fun j m => List.mem_append_right _ m⟩ hh H0
    fun ε Fs p q v u H2 Fs2 G1 G2 R S h1 h2 dj o1 o2 q' => go ⟨R, S, h1, h2, dj, o1, o2⟩ ?_
  generalize ((f p.1 p.2.1 q.1 q.2.1).bind fun r => Out.ok (r.1, r.2, q.2.2)) = z at q' ⊢
  cases z <;> exact q'
theorem xe_bin {a b : Expr} {pos : Pos} {ma mb : M} (g : Gd X F) (op : BOp) (h : Bool) (ha : PE X a (tE F rda efa ma)) (hb : PE X b (tE F rdb efb mb)) (hh : h = true ∨ ∀ j ∈ efb, j ∉ rda) :
    PE X (.BinOp a (opOf op) b pos) (tE F (rda ++ rdb) (efa ++ efb) (mBin op ma mb h)) := by
  obtain ⟨r, ho, go⟩ := bin_ok (X := X) op
  exact (pe_op ho ha hb).imp fun σ H Q q => m2_w hh q fun T w => go g.K T w
theorem xe_ix {a b : Expr} {pos : Pos} {ma mb : M} (g : Gd X F) (h : Bool) (ha : PE X a (tE F rda efa ma)) (hb : PE X b (tE F rdb efb mb)) (hh : h = true ∨ ∀ j ∈ efb, j ∉ rda) (hs : PlainIx b := by exact fun _ _ => rfl) :
    PE X (.Subscript a b pos) (tE F (rda ++ rdb) (efa ++ efb) (mIx ma mb h)) := by
  obtain ⟨r, ho, go⟩ := ix_ok (X := X) (by have := g.un; omega)
  exact (pe_ix ho ha hb hs).imp fun σ H Q q => m2_w hh q fun T w => go g.K T w
theorem xe_cmp {a b : Expr} {pos : Pos} {ma mb : M} (g : Gd X F) (op : COp) (h : Bool) (ha : PE X a (tE F rda efa ma)) (hb : PE X b (tE F rdb efb mb)) (hh : h = true ∨ ∀ j ∈ efb, j ∉ rda) (hm : behindInMarks (copOf op) b = false) :
    PE X (.Compare a [copOf op] [b] pos) (tE F (rda ++ rdb) (efa ++ efb) (mCmp op ma mb h)) := by
  obtain ⟨r, ho, go⟩ := cmp_ok (X := X) (by have := g.un; omega) op
  exact (pe_cmpR ho ha hb hm).imp fun σ H Q q => m2_w hh q fun T w => go g.K T (by
    generalize cmpD op _ _ = z at w ⊢
    cases z <;> exact w)
end
end CF
/-! CF13: tests, and, or, conditional expressions, displays, slices. -/
namespace CF
open PySem PySem.Spec PyProof.Rows L2

/-- a test: its value, and as a condition -/
structure XB (X : Cx) (F : Fx) (rd ef : List Nat) (e : Expr) (t : MT) : Prop where
  pe : PE X e (tE F rd ef (mB t))
  pt : PT X e (tT F ef t)
structure XW (X : Cx) (F : Fx) (rd ef : List Nat) (e : Expr) (t : MT) : Prop where
  pe : PE X e (tE F rd ef (mB t))
  pw : PW X e (tT F ef t)
theorem XW.b {X : Cx} {F : Fx} {rd ef : List Nat} {e : Expr} {t : MT} (h : XW X F rd ef e t) : XB X F rd ef e t := ⟨h.pe, h.pw.pt⟩

section
variable {X : Cx} {F : Fx} {σ : L2.St} {H H1 : Hp} {ε ε1 : EnvT} {Fs Fs1 : Nat → List Addr} {rd ef rda rdb rdc efa efb efc : List Nat} {Q : VK} {a b c : Expr} {rest : List Expr} {pos : Pos} {ma mb mc : M} {ta tb tc : MT}
theorem Tb.val {p : D × Bool × EnvT} {k : Bool × EnvT → Prop} (h : W0 F H k (match p.1 with | .bool c => .ok (c, p.2.2) | _ => .no)) : ∃ c, p.1 = .bool c ∧ k (c, p.2.2) := by
  obtain ⟨d, f, e⟩ := p
  cases d <;> first | exact h.elim | exact ⟨_, rfl, h⟩
theorem xe_tb (ha : PE X a (tE F rda efa ma)) : PE X a (tE F rda efa (mB (mTb ma))) := by
  refine ha.imp fun σ H Q h => ?_
  obtain ⟨ε, Fs, R, h⟩ := h.w
  refine tE.go R (W0.bind h |> fun z => show W0 F H _ ((ma ε).bind _) from (by exact z : W0 F H _ (mTb ma ε))) fun r v H' Fs' G e P q => ?_
  obtain ⟨c, e1, q⟩ := Tb.val q
  have P' := P
  rw [e1] at P'
  rw [P'.bool]
  exact q _ H' Fs' [] (P.seq.post0 (.bl c))
theorem xt_tb (ha : PE X a (tE F rda efa ma)) (he : ∀ whole, isTrue a X.env whole = (do let v ← whole; standAt a.pos; holding [v] (PySem.truthy v)) := by intro _; rfl) : PT X a (tT F efa (mTb ma)) := by
  refine (pt_val ha he).imp fun σ H Q h => ?_
  obtain ⟨ε, Fs, R, h⟩ := h.w
  refine tE.go R h fun r v H' Fs' G e P q => ?_
  obtain ⟨c, e1, q⟩ := Tb.val q
  rw [e1] at P
  exact ⟨c, P.bool, q H' Fs' P.seq⟩
theorem xb_val (ha : PE X a (tE F rda efa ma)) (he : ∀ whole, isTrue a X.env whole = (do let v ← whole; standAt a.pos; holding [v] (PySem.truthy v)) := by intro _; rfl) : XB X F rda efa a (mTb ma) := ⟨xe_tb ha, xt_tb ha he⟩
/-- the truth of any value, as a condition -/
theorem xt_tru (g : Gd X F) (ha : PE X a (tE F rda efa ma)) (he : ∀ whole, isTrue a X.env whole = (do let v ← whole; standAt a.pos; holding [v] (PySem.truthy v)) := by intro _; rfl) : PT X a (tT F efa (mT ma)) := by
  refine (pt_truth ha he).imp fun σ H Q h => ?_
  obtain ⟨ε, Fs, R, h⟩ := h.w
  refine tE.go R h fun r v H' Fs' G e P q => ?_
  obtain ⟨d, f, ε'⟩ := r
  dsimp only at q P
  by_cases c : truthOk d = true
  · rw [if_pos c] at q
    refine ⟨truD d, ?_, q H' Fs' P.seq⟩
    have rp := P.rp
    cases rp with
    | non => rfl
    | bl b => rfl
    | int i => rfl
    | str s => exact ⟨of_decide_eq_true c, rfl⟩
    | lst h q' =>
      refine .inl ⟨_, .inl (.inl h), ?_⟩
      have := q'.length
      show (!_) = !_
      congr 1
      rw [Bool.eq_iff_iff, List.isEmpty_iff_length_eq_zero, List.isEmpty_iff_length_eq_zero, this]
    | tup h q' =>
      refine .inr (.inl ⟨_, .inl (.inl h), ?_⟩)
      have := q'.length
      show (!_) = !_
      congr 1
      rw [Bool.eq_iff_iff, List.isEmpty_iff_length_eq_zero, List.isEmpty_iff_length_eq_zero, this]
    | dct _ _ _ => exact nomatch c
    | dcT _ _ _ => exact nomatch c
  · rw [if_neg c] at q; exact q.elim
theorem xb_cmp (g : Gd X F) (op : COp) (h : Bool) (ha : PE X a (tE F rda efa ma)) (hb : PE X b (tE F rdb efb mb)) (hh : h = true ∨ ∀ j ∈ efb, j ∉ rda) (hm : behindInMarks (copOf op) b = false) :
    XB X F (rda ++ rdb) (efa ++ efb) (.Compare a [copOf op] [b] pos) (mTb (mCmp op ma mb h)) := by
  obtain ⟨r, ho, go⟩ := cmp_ok (X := X) (by have := g.un; omega) op
  refine ⟨xe_tb (xe_cmp g op h ha hb hh hm), (pt_cmpR ho ha hb hm).imp fun σ H Q q => ?_⟩
  have q' : tE F (rda ++ rdb) (efa ++ efb) (mCmp op ma mb h) σ H (fun x H' => ∃ k, x = .bl k ∧ Q k H') := by
    obtain ⟨ε, Fs, R, q⟩ := q.w
    refine tE.of R ((W0.bind q).imp fun r _ q => ?_)
    intro v H' Fs' G P
    obtain ⟨c, e1, q⟩ := Tb.val q
    rw [e1] at P
    exact ⟨c, P.bool, q H' Fs' P.seq⟩
  exact m2_w hh q' fun T w => go g.K T (by
    generalize cmpD op _ _ = z at w ⊢
    cases z <;> exact w)
theorem isNone_iff {K : PySem.W.Frag} {v : V} {d : D} {G : List Addr} (r : Rp K H v d G) : decide (v = .non) = isNone d := by
  cases r <;> simp [isNone]
theorem xb_is {j pos'} (ha : PE X a (tE F rda efa ma)) : XB X F rda efa (.Compare a [.Is] [.Constant .none j pos'] pos) (mIs ma false) := by
  have key : ∀ {σ : L2.St} {H : Hp} {Q' : Bool → Hp → Prop} {ε : EnvT} {Fs : Nat → List Addr}, EnvR F H σ ε Fs → W0 F H (kT F H σ ε Fs efa Q') (mIs ma false ε) → tIsN (tE F rda efa ma) σ H (fun x H' => ∃ c, x = .bl c ∧ Q' c H') := by
    intro σ H Q' ε Fs R h
    refine tE.go R h fun r v H' Fs' G e P q => ⟨_, rfl, ?_⟩
    rw [isNone_iff P.rp]
    have := q H' Fs' P.seq
    simpa using this
  refine ⟨(pe_cmp (pc_isN ha)).imp fun σ H Q h => ?_, (pt_cmp (pc_isN ha)).imp fun σ H Q h => ?_⟩
  · obtain ⟨ε, Fs, R, h⟩ := h.w
    have h' : W0 F H (kT F H σ ε Fs efa fun c H' => Q (.bl c) H') (mIs ma false ε) := (W0.bind h).imp fun r _ q H' Fs' S => q (.bl r.1) H' Fs' [] (S.post0 (.bl _))
    have := key R h'
    obtain ⟨ε, Fs, R, h⟩ := this.w
    refine tE.of R (h.imp fun r _ q v H' Fs' G P => ?_)
    obtain ⟨c, e, q⟩ := q v H' Fs' G P
    rw [e]; exact q
  · obtain ⟨ε, Fs, R, h⟩ := h.w
    exact key R h
theorem xb_isnot {j pos'} (ha : PE X a (tE F rda efa ma)) : XB X F rda efa (.Compare a [.IsNot] [.Constant .none j pos'] pos) (mIs ma true) := by
  have key : ∀ {σ : L2.St} {H : Hp} {Q' : Bool → Hp → Prop} {ε : EnvT} {Fs : Nat → List Addr}, EnvR F H σ ε Fs → W0 F H (kT F H σ ε Fs efa Q') (mIs ma true ε) → tNotN (tE F rda efa ma) σ H (fun x H' => ∃ c, x = .bl c ∧ Q' c H') := by
    intro σ H Q' ε Fs R h
    refine tE.go R h fun r v H' Fs' G e P q => ⟨_, rfl, ?_⟩
    rw [isNone_iff P.rp]
    have := q H' Fs' P.seq
    simpa using this
  refine ⟨(pe_cmp (pc_notN ha)).imp fun σ H Q h => ?_, (pt_cmp (pc_notN ha)).imp fun σ H Q h => ?_⟩
  · obtain ⟨ε, Fs, R, h⟩ := h.w
    have h' : W0 F H (kT F H σ ε Fs efa fun c H' => Q (.bl c) H') (mIs ma true ε) := (W0.bind h).imp fun r _ q H' Fs' S => q (.bl r.1) H' Fs' [] (S.post0 (.bl _))
    have := key R h'
    obtain ⟨ε, Fs, R, h⟩ := this.w
    refine tE.of R (h.imp fun r _ q v H' Fs' G P => ?_)
    obtain ⟨c, e, q⟩ := q v H' Fs' G P
    rw [e]; exact q
  · obtain ⟨ε, Fs, R, h⟩ := h.w
    exact key R h

/-! ### and, or, not, if-else -/
theorem Seq.two {ef1 ef2 : List Nat} {H2 : Hp} {ε2 : EnvT} {Fs2 : Nat → List Addr} (S : Seq F H σ ε Fs ef1 H1 ε1 Fs1) (T : Seq F H1 σ ε1 Fs1 ef2 H2 ε2 Fs2) : Seq F H σ ε Fs (ef1 ++ ef2) H2 ε2 Fs2 :=
  (S.mono fun j m => List.mem_append_left _ m).trans (T.mono fun j m => List.mem_append_right _ m)
theorem Seq.left {ef1 ef2 : List Nat} (S : Seq F H σ ε Fs ef1 H1 ε1 Fs1) : Seq F H σ ε Fs (ef1 ++ ef2) H1 ε1 Fs1 := S.mono fun j m => List.mem_append_left _ m
/-- an expression's end behind a state's part -/
theorem Seq.thenE {ef1 rd2 ef2 : List Nat} {H2 : Hp} {ε2 : EnvT} {Fs2 : Nat → List Addr} {v : V} {d : D} {fr : Bool} {G : List Addr} (S : Seq F H σ ε Fs ef1 H1 ε1 Fs1) (P : PostE F H1 σ ε1 Fs1 rd2 ef2 H2 ε2 Fs2 v d fr G) : PostE F H σ ε Fs (rd ++ rd2) (ef1 ++ ef2) H2 ε2 Fs2 v d fr G :=
  (S.two P.seq).post ⟨P.rp, P.fr, fun j hj => P.al j fun z => hj (List.mem_append_right _ z)⟩ fun a m => S.org (P.org a m)
theorem Seq.wr (S : Seq F H σ ε Fs ef H1 ε1 Fs1) (R : EnvR F H σ ε Fs) : Fr F.Wr H H1 := S.kw R
theorem xt_and (ha : PT X a (tT F efa ta)) (hb : PW X (.BoolOp .And (b :: rest) pos) (tT F efb tb)) : PW X (.BoolOp .And (a :: b :: rest) pos) (tT F (efa ++ efb) (mAnd ta tb)) := by
  refine (pw_and ha hb).imp fun σ H Q h => ?_
  obtain ⟨ε, Fs, R, h⟩ := h.w
  refine tT.go R h fun r H' Fs' e S q => ?_
  cases c : r.1 with
  | false => rw [if_neg (by simp)]; rw [c] at q; exact q H' Fs' S.left
  | true =>
    rw [if_pos rfl]; rw [c] at q
    exact tT.of S.env ((q.later (S.wr R)).imp fun r' _ q' H2 Fs2 T => q' H2 Fs2 (S.two T))
theorem xt_or (ha : PT X a (tT F efa ta)) (hb : PW X (.BoolOp .Or (b :: rest) pos) (tT F efb tb)) : PW X (.BoolOp .Or (a :: b :: rest) pos) (tT F (efa ++ efb) (mOr ta tb)) := by
  refine (pw_or ha hb).imp fun σ H Q h => ?_
  obtain ⟨ε, Fs, R, h⟩ := h.w
  refine tT.go R h fun r H' Fs' e S q => ?_
  cases c : r.1 with
  | true => rw [if_pos rfl]; rw [c] at q; exact q H' Fs' S.left
  | false =>
    rw [if_neg (by simp)]; rw [c] at q
    exact tT.of S.env ((q.later (S.wr R)).imp fun r' _ q' H2 Fs2 T => q' H2 Fs2 (S.two T))
theorem xe_and (ha : PE X a (tE F rda efa (mB ta))) (hb : PE X (.BoolOp .And (b :: rest) pos) (tE F rdb efb (mB tb))) : PE X (.BoolOp .And (a :: b :: rest) pos) (tE F (rda ++ rdb) (efa ++ efb) (mB (mAnd ta tb))) := by
  refine (pe_and ha hb).imp fun σ H Q h => ?_
  obtain ⟨ε, Fs, R, h⟩ := h.w
  have h2 := W0.bind (W0.bind h)
  refine tE.of R ?_
  unfold mB
  cases e : ta ε with
  | no => rw [e] at h2; exact h2.elim
  | ex x => rw [e] at h2; exact h2
  | ok r =>
    rw [e] at h2
    intro v H' Fs' G P
    have ev := P.bool
    subst ev
    refine ⟨_, rfl, ?_⟩
    have h3 : W0 F H (kE F H σ ε Fs (rda ++ rdb) (efa ++ efb) Q) ((if r.1 = true then tb r.2 else .ok (false, r.2)).bind fun p => (Out.ok (PyData.bool p.1, true, p.2) : Out (D × Bool × EnvT))) := (by
      unfold mB mAnd at h
      rw [e] at h
      exact h)
    cases c : r.1 with
    | false =>
      rw [if_neg (by simp)]; rw [c] at h3
      exact h3 _ H' Fs' [] (P.seq.left.post0 (.bl _))
    | true =>
      rw [if_pos rfl]; rw [c] at h3
      exact tE.of P.env ((h3.later (P.kw R)).imp fun r' _ q' v2 H2 Fs2 G2 T => q' v2 H2 Fs2 G2 (P.seq.thenE T))
theorem xe_or (ha : PE X a (tE F rda efa (mB ta))) (hb : PE X (.BoolOp .Or (b :: rest) pos) (tE F rdb efb (mB tb))) : PE X (.BoolOp .Or (a :: b :: rest) pos) (tE F (rda ++ rdb) (efa ++ efb) (mB (mOr ta tb))) := by
  refine (pe_or ha hb).imp fun σ H Q h => ?_
  obtain ⟨ε, Fs, R, h⟩ := h.w
  refine tE.of R ?_
  unfold mB
  cases e : ta ε with
  | no => unfold mB mOr at h; rw [e] at h; exact h.elim
  | ex x => unfold mB mOr at h; rw [e] at h; exact h
  | ok r =>
    have h3 : W0 F H (kE F H σ ε Fs (rda ++ rdb) (efa ++ efb) Q) ((if r.1 = true then .ok (true, r.2) else tb r.2).bind fun p => (Out.ok (PyData.bool p.1, true, p.2) : Out (D × Bool × EnvT))) := (by
      unfold mB mOr at h
      rw [e] at h
      exact h)
    intro v H' Fs' G P
    have ev := P.bool
    subst ev
    refine ⟨_, rfl, ?_⟩
    cases c : r.1 with
    | true =>
      rw [if_pos rfl]; rw [c] at h3
      exact h3 _ H' Fs' [] (P.seq.left.post0 (.bl _))
    | false =>
      rw [if_neg (by simp)]; rw [c] at h3
      exact tE.of P.env ((h3.later (P.kw R)).imp fun r' _ q' v2 H2 Fs2 G2 T => q' v2 H2 Fs2 G2 (P.seq.thenE T))
theorem xw_and1 (ha : XB X F rda efa a ta) : XW X F rda efa (.BoolOp .And [a] pos) ta := ⟨pe_one ha.pe, pw_and1 ha.pt⟩
theorem xw_or1 (ha : XB X F rda efa a ta) : XW X F rda efa (.BoolOp .Or [a] pos) ta := ⟨pe_one ha.pe, pw_or1 ha.pt⟩
theorem xw_and (ha : XB X F rda efa a ta) (hb : XW X F rdb efb (.BoolOp .And (b :: rest) pos) tb) : XW X F (rda ++ rdb) (efa ++ efb) (.BoolOp .And (a :: b :: rest) pos) (mAnd ta tb) := ⟨xe_and ha.pe hb.pe, xt_and ha.pt hb.pw⟩
theorem xw_or (ha : XB X F rda efa a ta) (hb : XW X F rdb efb (.BoolOp .Or (b :: rest) pos) tb) : XW X F (rda ++ rdb) (efa ++ efb) (.BoolOp .Or (a :: b :: rest) pos) (mOr ta tb) := ⟨xe_or ha.pe hb.pe, xt_or ha.pt hb.pw⟩
theorem xt_not (ha : PT X a (tT F efa ta)) : PT X (.UnaryOp .Not a pos) (tT F efa (mNot ta)) := by
  refine (pt_not ha).imp fun σ H Q h => ?_
  obtain ⟨ε, Fs, R, h⟩ := h.w
  exact tT.go R h fun r H' Fs' e S q => q H' Fs' S
theorem xb_not (ha : XB X F rda efa a ta) : XB X F rda efa (.UnaryOp .Not a pos) (mNot ta) := by
  refine ⟨(pe_not ha.pe).imp fun σ H Q h => ?_, xt_not ha.pt⟩
  obtain ⟨ε, Fs, R, h⟩ := h.w
  refine tE.of R ?_
  unfold mB
  cases e : ta ε with
  | no => unfold mB mNot at h; rw [e] at h; exact h.elim
  | ex x => unfold mB mNot at h; rw [e] at h; exact h
  | ok r =>
    unfold mB mNot at h
    rw [e] at h
    intro v H' Fs' G P
    have ev := P.bool
    subst ev
    exact ⟨_, rfl, h _ H' Fs' [] (P.seq.post0 (.bl _))⟩
theorem xe_ite (ht : PT X c (tT F efc tc)) (ha : PE X a (tE F rda efa ma)) (hb : PE X b (tE F rdb efb mb)) : PE X (.IfExp c a b pos) (tE F (rda ++ rdb) (efc ++ (efa ++ efb)) (mIte tc ma mb)) := by
  refine (pe_ifExp ht ha hb).imp fun σ H Q h => ?_
  obtain ⟨ε, Fs, R, h⟩ := h.w
  refine tT.go R h fun r H' Fs' e S q => ?_
  cases cc : r.1 with
  | true =>
    rw [if_pos rfl]; rw [cc, if_pos rfl] at q
    refine tE.of S.env ((q.later (S.wr R)).imp fun r' _ q' v2 H2 Fs2 G2 T => q' v2 H2 Fs2 G2 ((S.thenE (rd := []) T).mono (fun j m => List.mem_append_left _ m) fun j m => ?_))
    rcases List.mem_append.mp m with m | m
    · exact List.mem_append_left _ m
    · exact List.mem_append_right _ (List.mem_append_left _ m)
  | false =>
    rw [if_neg (by simp)]; rw [cc, if_neg (by simp)] at q
    refine tE.of S.env ((q.later (S.wr R)).imp fun r' _ q' v2 H2 Fs2 G2 T => q' v2 H2 Fs2 G2 ((S.thenE (rd := []) T).mono (fun j m => List.mem_append_right _ m) fun j m => ?_))
    rcases List.mem_append.mp m with m | m
    · exact List.mem_append_left _ m
    · exact List.mem_append_right _ (List.mem_append_right _ m)
theorem xe_neg (ha : PE X a (tE F rda efa ma)) : PE X (.UnaryOp .USub a pos) (tE F rda efa (mNeg ma)) := by
  refine (pe_un un_neg ha).imp fun σ H Q h => ?_
  obtain ⟨ε, Fs, R, h⟩ := h.w
  refine tE.go R h fun r v H' Fs' G e P q => ?_
  obtain ⟨d, f, ε'⟩ := r
  cases d <;> first | exact q.elim | skip
  have ev := P.held0.int
  subst ev
  exact ⟨_, rfl, q _ H' Fs' [] (P.seq.post0 (.int _))⟩

/-! ### displays -/
theorem xl_nil : PA X [] (tL F [] [] lNil) := by
  refine pa_nil.imp fun σ H Q h => ?_
  obtain ⟨ε, Fs, R, h⟩ := h.w
  exact h [] H Fs [] (.refl R) .nil fun _ m => nomatch m
theorem xl_cons {e : Expr} {es : List Expr} {m : M} {l : ML} (h : Bool) (ha : PE X e (tE F rda efa m)) (hb : PA X es (tL F rdb efb l)) (hh : h = true ∨ ∀ j ∈ efb, j ∉ rda)
    (hs : starEach (e :: es) X.env = (false, eval e X.env) :: starEach es X.env := by rfl) : PA X (e :: es) (tL F (rda ++ rdb) (efa ++ efb) (lCons m h l)) := by
  refine (pa_cons ha hb hs).imp fun σ H Q q => ?_
  obtain ⟨ε, Fs, R, q⟩ := q.w
  refine tE.go R q fun r v H' Fs' G e1 P q => ?_
  refine tL.go P.env (q.later (P.kw R)) fun r2 vs H2 Fs2 G2 e2 S L o q => ?_
  have hc : W0 F H' _ (hold h r.1 r.2.1) := W0.bind q
  have hold : (∀ j ∈ efb, j ∉ rda) ∨ imm r.1 = true ∨ r.2.1 = true := by
    rcases hh with rfl | hh
    · unfold CF.hold at hc
      by_cases c : (!true || imm r.1 || r.2.1) = true
      · right
        rcases Bool.or_eq_true_iff.mp c with c | c
        · exact .inl (by simpa using c)
        · exact .inr c
      · rw [if_neg c] at hc; exact hc.elim
    · exact .inl hh
  have q2 : kL F H σ ε Fs (rda ++ rdb) (efa ++ efb) Q ((r.1, r.2.1) :: r2.1, r2.2) := by
    cases e3 : CF.hold h r.1 r.2.1 with
    | ok _ => rw [e3] at q; exact q
    | ex x => unfold CF.hold at e3; split at e3 <;> cases e3
    | no => rw [e3] at hc; exact hc.elim
  have h1 := P.held0.next P.env S.kp S.oo S.fe hold
  have h2 : ∀ {vs ds G}, HeldL F H2 r2.2 Fs2 rdb vs ds G → HeldL F H2 r2.2 Fs2 (rda ++ rdb) vs ds G := fun L => by
    induction L with
    | nil => exact .nil
    | cons a b c ih => exact .cons ⟨a.rp, a.fr, fun j hj => a.al j fun z => hj (List.mem_append_right _ z)⟩ ih c
  refine q2 (v :: vs) H2 Fs2 (G ++ G2) (P.seq.two S) (.cons ⟨h1.rp, h1.fr, fun j hj => h1.al j fun z => hj (List.mem_append_left _ z)⟩ (h2 L) fun f a m m2 => ?_) fun a m => ?_
  · rcases o a m2 with z | ⟨j, z⟩
    · exact P.rp.live m z
    · exact (P.fr f).2.2 j a m z
  · rcases List.mem_append.mp m with m | m
    · exact P.org a m
    · exact P.seq.org (o a m)
theorem xe_tup {es : List Expr} {x1} {l : ML} (h : PA X es (tL F rd ef l)) : PE X (.Tuple es x1 pos) (tE F rd ef (mTup l)) := by
  refine (pe_tup h).imp fun σ H Q q => ?_
  obtain ⟨ε, Fs, R, q⟩ := q.w
  refine tL.go R q fun r vs H' Fs' G e S L o q => ?_
  by_cases c : small r.1.length = true
  · rw [if_pos c] at q
    exact ⟨by rw [L.length]; exact small_le c, fun p n => q _ _ Fs' G (S.newT L.row o n)⟩
  · rw [if_neg c] at q; exact q.elim
theorem xe_lst {es : List Expr} {l : ML} (h : PA X es (tL F rd ef l)) : PE X (.List es pos) (tE F rd ef (mLst l)) := by
  refine (pe_lst h).imp fun σ H Q q => ?_
  obtain ⟨ε, Fs, R, q⟩ := q.w
  refine tL.go R q fun r vs H' Fs' G e S L o q => ?_
  by_cases c : small r.1.length = true
  · rw [if_pos c] at q
    exact ⟨by rw [L.length]; exact small_le c, fun p n => q _ _ Fs' _ (S.newL L.row o n)⟩
  · rw [if_neg c] at q; exact q.elim
end
end CF
/-! CF14: slices, built-ins. -/
namespace CF
open PySem PySem.Spec PyProof.Rows L2

section
variable {X : Cx} {F : Fx} {σ : L2.St} {H H1 H2 : Hp} {ε ε1 ε2 : EnvT} {Fs Fs1 Fs2 : Nat → List Addr} {rd ef rda rdl rdh efa efl efh : List Nat} {Q : VK} {a b c : Expr} {pos p2 : Pos} {ma mb mc : M}
/-! ### slices -/
abbrev TO' := L2.St → Hp → (Option Int → Hp → Prop) → Prop
def tO (F : Fx) (ef : List Nat) (m : MO) : TO' := fun σ H Q => ∃ ε Fs, EnvR F H σ ε Fs ∧ W0 F H (fun r => ∀ H' Fs', Seq F H σ ε Fs ef H' r.2 Fs' → Q r.1 H') (m ε)
theorem _root_.L2.PO.imp {e : Option Expr} {t t' : TO'} (h : PO X e t) (i : ∀ σ H Q, t' σ H Q → t σ H Q) : PO X e t' := ⟨fun pins s σ H Q I q => h.run pins s σ H Q I (i _ _ _ q)⟩
theorem xo_no : PO X none (tO F [] oNo) := po_none.imp fun σ H Q ⟨ε, Fs, R, h⟩ => h H Fs (.refl R)
theorem xo_yes (ha : PE X a (tE F rda efa ma)) : PO X (some a) (tO F efa (oYes ma)) := by
  refine (po_some ha).imp fun σ H Q ⟨ε, Fs, R, h⟩ => ?_
  refine tE.go R h fun r v H' Fs' G e P q => ?_
  obtain ⟨d, f, ε'⟩ := r
  cases d <;> first | exact q.elim | skip
  exact ⟨_, P.held0.int, q H' Fs' P.seq⟩
theorem xe_sl {lo hi : Option Expr} {ml mh : MO} (g : Gd X F) (hb : Bool) (ha : PE X a (tE F rda efa ma)) (hl : PO X lo (tO F efl ml)) (hh : PO X hi (tO F efh mh)) (d1 : hb = true ∨ ∀ j ∈ efl ++ efh, j ∉ rda) :
    PE X (.Subscript a (.Slice lo hi none p2) pos) (tE F rda (efa ++ (efl ++ efh)) (mSl ma ml mh hb)) := by
  obtain ⟨r, hr, go⟩ := sl_ok (X := X)
  refine (pe_slice hr ha hl hh).imp fun σ H Q q => ?_
  obtain ⟨ε, Fs, R, q⟩ := q.w
  refine tE.go R q fun r v H1 Fs1 G e P q => ?_
  refine ⟨_, Fs1, P.env, ((W0.bind q).later (P.kw R)).imp fun l e2 q H2 Fs2 S2 => ?_⟩
  refine ⟨_, Fs2, S2.env, ((W0.bind q).later ((P.kw R).trans (S2.wr P.env))).imp fun u e3 q H3 Fs3 S3 => ?_⟩
  have S23 := S2.two S3
  have hc : ((∀ j ∈ efl ++ efh, j ∉ rda) ∨ imm r.1 = true ∨ r.2.1 = true) ∧ W0 F H (kE F H σ ε Fs rda (efa ++ (efl ++ efh)) Q) ((slD r.1 r.2.1 l.1 u.1).bind fun r => .ok (r.1, r.2, u.2)) := by
    cases e3 : hold hb r.1 r.2.1 with
    | ok _ =>
      rw [e3] at q
      refine ⟨d1.elim (fun c => .inr ?_) .inl, q⟩
      subst c
      unfold hold at e3
      split at e3
      · rename_i z
        rcases Bool.or_eq_true_iff.mp z with z | z
        · exact .inl (by simpa using z)
        · exact .inr z
      · cases e3
    | ex x => unfold hold at e3; split at e3 <;> cases e3
    | no => rw [e3] at q; exact q.elim
  obtain ⟨hc, q⟩ := hc
  have h := P.held0.next P.env S23.kp S23.oo S23.fe hc
  refine go g.K R (P.seq.two S23) h P.org ?_
  generalize slD r.1 r.2.1 l.1 u.1 = z at q ⊢
  cases z with
  | ok z => exact q
  | ex x => exact q
  | no => exact q
theorem xe_rev {k : Nat} {p1 p2' p3 : Pos} (g : Gd X F) (ha : PE X a (tE F rda efa ma)) : PE X (.Subscript a (.Slice none none (some (.UnaryOp .USub (.Constant (.int 1) k p1) p2')) p3) pos) (tE F rda efa (mRev ma)) := by
  refine (pe_revL ha).imp fun σ H Q h => ?_
  obtain ⟨ε, Fs, R, h⟩ := h.w
  refine tE.go R h fun r v H' Fs' G e P q => ?_
  obtain ⟨d, f, ε'⟩ := r
  cases d <;> first | exact q.elim | skip
  obtain ⟨p, vs, G', rfl, hp, rfl, rr⟩ := P.held0.lst
  obtain ⟨bs, rfl, rfl, rfl, hb⟩ := rps_trip rr.rp
  have r2 : HeldR F H' ε' Fs' rda (bs.map (·.1)).reverse (bs.map (·.2.1)).reverse (f || immAll (bs.map (·.2.1))) (bs.reverse.map (·.2.2)).flatten := by
    rw [← List.map_reverse, ← List.map_reverse]
    have pm : ((bs.reverse.map (·.2.2)).flatten).Perm ((bs.map (·.2.2)).flatten) := ((List.reverse_perm bs).map _).flatten
    exact rr.part (trip_rps fun b m => hb b (List.mem_reverse.mp m)) (fun a m => pm.mem_iff.mp m) fun n => pm.nodup_iff.mpr n
  refine ⟨p, _, rfl, .inl (.inl hp), fun l n => q _ _ Fs' _ (P.seq.newL r2 (fun x m => P.org x (List.mem_cons_of_mem _ ?_)) n)⟩
  have pm : ((bs.reverse.map (·.2.2)).flatten).Perm ((bs.map (·.2.2)).flatten) := ((List.reverse_perm bs).map _).flatten
  exact pm.mem_iff.mp m

/-! ### built-ins -/
def bfn : BI → Value
  | .len => .builtin "len" | .list => .type "list" | .tuple => .type "tuple" | .int => .type "int" | .abs => .builtin "abs" | .repr => .builtin "repr" | .min => .builtin "min" | .max => .builtin "max"
  | .sum => .builtin "sum" | .all => .builtin "all" | .any => .builtin "any" | .sorted => .builtin "sorted" | .sortedR => .builtin "sorted"
/-- values held behind a state -/
structure Many (F : Fx) (H : Hp) (σ : L2.St) (ε : EnvT) (Fs : Nat → List Addr) (rd ef : List Nat) (H2 : Hp) (ε2 : EnvT) (Fs2 : Nat → List Addr) (vs : List V) (ds : List (D × Bool)) (G : List Addr) : Prop where
  env : EnvR F H σ ε Fs
  seq : Seq F H σ ε Fs ef H2 ε2 Fs2
  h : HeldL F H2 ε2 Fs2 rd vs ds G
  o : ∀ x ∈ G, H x = none ∨ ∃ j, x ∈ Fs j
theorem Many.scal {vs : List V} {ds : List (D × Bool)} {G : List Addr} (T : Many F H σ ε Fs rd ef H2 ε2 Fs2 vs ds G) {w : V} {d : D} {fr : Bool} (q : W0 F H (kE F H σ ε Fs rd ef Q) (.ok (d, fr, ε2))) (r : Rp F.K H2 w d []) : Q w H2 := q w H2 Fs2 [] (T.seq.post0 r)
theorem HeldL.one {vs : List V} {d : D} {f : Bool} {G : List Addr} (h : HeldL F H ε Fs rd vs [(d, f)] G) : ∃ v, vs = [v] ∧ Held F H ε Fs rd v d f G := by
  cases h with
  | cons h t dj =>
    cases t
    exact ⟨_, rfl, by rw [List.append_nil]; exact h⟩
theorem HeldL.two {vs : List V} {d e : D} {f g : Bool} {G : List Addr} (h : HeldL F H ε Fs rd vs [(d, f), (e, g)] G) : ∃ v u G1 G2, vs = [v, u] ∧ Held F H ε Fs rd v d f G1 ∧ Held F H ε Fs rd u e g G2 := by
  cases h with
  | cons h t dj =>
    obtain ⟨u, rfl, h2⟩ := t.one
    exact ⟨_, _, _, _, rfl, h, h2⟩
theorem allInt_rps {K : PySem.W.Frag} : ∀ {ds : List D} {ns : List Int} {vs : List V} {G : List Addr}, allInt ds = some ns → Rps K H vs ds G → vs = ns.map V.int
  | [], _, _, _, e, .nil => by cases e; rfl
  | d :: ds, ns, _, _, e, .cons r q => by
    cases d <;> first | (simp [allInt] at e; done) | skip
    rename_i i
    simp only [allInt, Option.map_eq_some_iff] at e
    obtain ⟨ms, e, rfl⟩ := e
    cases r
    rw [allInt_rps e q]
    rfl
theorem allBool_rps {K : PySem.W.Frag} : ∀ {ds : List D} {ns : List Bool} {vs : List V} {G : List Addr}, allBool ds = some ns → Rps K H vs ds G → vs = ns.map V.bl
  | [], _, _, _, e, .nil => by cases e; rfl
  | d :: ds, ns, _, _, e, .cons r q => by
    cases d <;> first | (simp [allBool] at e; done) | skip
    rename_i i
    simp only [allBool, Option.map_eq_some_iff] at e
    obtain ⟨ms, e, rfl⟩ := e
    cases r
    rw [allBool_rps e q]
    rfl
end
/-- a row of ds rearranged by sorting -/
theorem HeldR.sorted {F : Fx} {H : Hp} {ε : EnvT} {Fs : Nat → List Addr} {rd : List Nat} {vs ys : List V} {ds es : List D} {fr : Bool} {G G' : List Addr} (h : HeldR F H ε Fs rd vs ds fr G) (r : Rps F.K H ys es G') (p : G'.Perm G) : HeldR F H ε Fs rd ys es fr G' :=
  h.part r (fun a m => p.mem_iff.mp m) fun n => p.nodup_iff.mpr n
theorem blt_ok {X : Cx} (hcalm : X.calm = true) (hu : X.A.units + 100 < cLine) (hg : X.A.guards = some []) (b : BI) (hb : b ≠ .sortedR) : ∃ r : List V → Hp → VK → Prop, CallR X (bfn b) r ∧ ∀ {F : Fx} {H H2 : Hp} {σ : L2.St} {ε ε2 : EnvT} {Fs Fs2 : Nat → List Addr} {rd ef : List Nat} {Q : VK} {vs : List V} {ds : List (D × Bool)} {G : List Addr},
    X.K = F.K → Many F H σ ε Fs rd ef H2 ε2 Fs2 vs ds G → W0 F H (kE F H σ ε Fs rd ef Q) ((bltD b ds).bind fun r => .ok (r.1, r.2, ε2)) → r vs H2 Q := by
  cases b with
  | sortedR => exact absurd rfl hb
  | len =>
    refine ⟨_, (call_len_seq.or call_len_str).or ((show CallR X (.builtin "len") (fun xs H Q => ∃ a kvs, xs = [V.ref a] ∧ Rd H a (.dK kvs) ∧ Q (.int kvs.length) H) from ?_).or call_len_dT), fun {F H H2 σ ε ε2 Fs Fs2 rd ef Q vs ds G} hK T q => ?_⟩
    · intro pins s σ H xs us Q I r h
      obtain ⟨a, kvs, rfl, hd, q⟩ := h
      rw [Vals.ref1 r]
      exact d_len I hd fun t s' I' => ⟨.int (kvs.length : Nat), H, I', ⟨t, rfl⟩, q⟩
    · match ds, T, q with
      | [], _, q => exact q.elim
      | (d, f) :: e :: r, _, q => cases d <;> exact q.elim
      | [(d, f)], T, q =>
        obtain ⟨v, rfl, h⟩ := T.h.one
        cases d <;> first | exact q.elim | skip
        · rename_i s
          obtain rfl := h.str
          simp only [bltD] at q
          by_cases c : small s.length = true
          · rw [if_pos c] at q
            exact .inl (.inr ⟨s, rfl, small_le c, T.scal q (.int _)⟩)
          · rw [if_neg c] at q; exact q.elim
        · obtain ⟨p, xs, G', rfl, hp, rfl, r⟩ := h.lst
          exact .inl (.inl ⟨p, xs, rfl, .inl (.inl (.inl hp)), by rw [r.rp.length]; exact T.scal q (.int _)⟩)
        · obtain ⟨p, xs, rfl, hp, r⟩ := h.tup
          exact .inl (.inl ⟨p, xs, rfl, .inr (.inl (.inl hp)), by rw [r.rp.length]; exact T.scal q (.int _)⟩)
        · rename_i kvs
          simp only [bltD] at q
          by_cases c : kvs.all (fun p => (keyOf p.1).isSome) = true
          · rw [if_pos c] at q
            have rp := h.rp
            cases rp with
            | @dct a xs _ F' hd e q' =>
              refine .inr (.inl ⟨a, xs, rfl, hd.rd, ?_⟩)
              have : xs.length = kvs.length := by simpa using (congrArg List.length e).symm
              rw [this]
              exact T.scal q (.int _)
            | @dcT a xs _ F' hd e q' =>
              have en : xs = [] := by
                cases xs with
                | nil => rfl
                | cons x xs =>
                  cases kvs with
                  | nil => cases e
                  | cons y ys =>
                    simp only [List.map_cons, List.cons.injEq] at e
                    simp only [List.all_cons, e.1, Bool.and_eq_true] at c
                    exact nomatch c.1
              subst en
              have : kvs = [] := by cases kvs with
                | nil => rfl
                | cons y ys => cases e
              subst this
              exact .inr (.inr ⟨a, [], rfl, hd.nil, T.scal q (.int _)⟩)
          · rw [if_neg c] at q; exact q.elim
  | list =>
    refine ⟨_, call_list_of, fun {F H H2 σ ε ε2 Fs Fs2 rd ef Q vs ds G} hK T q => ?_⟩
    match ds, T, q with
    | [], _, q => exact q.elim
    | (d, f) :: e :: r, _, q => cases d <;> exact q.elim
    | [(d, f)], T, q =>
      obtain ⟨v, rfl, h⟩ := T.h.one
      cases d <;> first | exact q.elim | skip
      · obtain ⟨p, xs, G', rfl, hp, rfl, r⟩ := h.lst
        exact ⟨p, xs, rfl, .inl (.inl (.inl hp)), fun l n => q _ _ Fs2 _ (T.seq.newL r (fun x m => T.o x (List.mem_cons_of_mem _ m)) n)⟩
      · obtain ⟨p, xs, rfl, hp, r⟩ := h.tup
        exact ⟨p, xs, rfl, .inr (.inl (.inl hp)), fun l n => q _ _ Fs2 _ (T.seq.newL r (fun x m => T.o x m) n)⟩
  | tuple =>
    refine ⟨_, call_tuple_of, fun {F H H2 σ ε ε2 Fs Fs2 rd ef Q vs ds G} hK T q => ?_⟩
    match ds, T, q with
    | [], _, q => exact q.elim
    | (d, f) :: e :: r, _, q => cases d <;> exact q.elim
    | [(d, f)], T, q =>
      obtain ⟨v, rfl, h⟩ := T.h.one
      cases d <;> first | exact q.elim | skip
      · obtain ⟨p, xs, G', rfl, hp, rfl, r⟩ := h.lst
        exact ⟨p, xs, rfl, .inl ⟨.inl (.inl hp), fun l n => q _ _ Fs2 _ (T.seq.newT r (fun x m => T.o x (List.mem_cons_of_mem _ m)) n)⟩⟩
      · obtain ⟨p, xs, rfl, hp, r⟩ := h.tup
        exact ⟨p, xs, rfl, .inr ⟨.inl (.inl hp), q _ _ Fs2 _ (T.seq.oldT r (fun x m => T.o x m) hp)⟩⟩
  | int =>
    refine ⟨_, call_int1, fun {F H H2 σ ε ε2 Fs Fs2 rd ef Q vs ds G} hK T q => ?_⟩
    match ds, T, q with
    | [], _, q => exact q.elim
    | (d, f) :: e :: r, _, q => cases d <;> exact q.elim
    | [(d, f)], T, q =>
      obtain ⟨v, rfl, h⟩ := T.h.one
      cases d <;> first | exact q.elim | skip
      obtain rfl := h.int
      exact .inl ⟨_, rfl, T.scal q (.int _)⟩
  | abs =>
    refine ⟨_, call_abs, fun {F H H2 σ ε ε2 Fs Fs2 rd ef Q vs ds G} hK T q => ?_⟩
    match ds, T, q with
    | [], _, q => exact q.elim
    | (d, f) :: e :: r, _, q => cases d <;> exact q.elim
    | [(d, f)], T, q =>
      obtain ⟨v, rfl, h⟩ := T.h.one
      cases d <;> first | exact q.elim | skip
      rename_i i
      obtain rfl := h.int
      refine ⟨_, rfl, ?_⟩
      have : (if i < 0 then -i else i) = (i.natAbs : Int) := by split <;> omega
      rw [this]
      exact T.scal q (.int _)
  | repr =>
    refine ⟨_, call_reprX hg hu, fun {F H H2 σ ε ε2 Fs Fs2 rd ef Q vs ds G} hK T q => ?_⟩
    match ds, T, q with
    | [], _, q => exact q.elim
    | (d, f) :: e :: r, _, q => cases d <;> exact q.elim
    | [(d, f)], T, q =>
      obtain ⟨v, rfl, h⟩ := T.h.one
      simp only [bltD] at q
      by_cases c : (d.showable && small d.shown.length && decide (d.depth ≤ 64)) = true
      · rw [if_pos c] at q
        simp only [Bool.and_eq_true, decide_eq_true_eq] at c
        exact ⟨v, d, G, rfl, by rw [hK]; exact h.rp, c.1.1, small_le c.1.2, c.2, T.scal q (.str _)⟩
      · rw [if_neg c] at q; exact q.elim
  | min =>
    refine ⟨_, call_min2 hcalm, fun {F H H2 σ ε ε2 Fs Fs2 rd ef Q vs ds G} hK T q => ?_⟩
    match ds, T, q with
    | [], _, q => exact q.elim
    | [(d, f)], _, q => cases d <;> exact q.elim
    | (d, f) :: (e, g) :: z :: r, _, q => cases d <;> cases e <;> exact q.elim
    | [(d, f), (e, g)], T, q =>
      obtain ⟨v, u, G1, G2, rfl, h1, h2⟩ := T.h.two
      cases d <;> cases e <;> first | exact q.elim | skip
      obtain rfl := h1.int
      obtain rfl := h2.int
      exact ⟨_, _, rfl, T.scal q (.int _)⟩
  | max =>
    refine ⟨_, call_max2 hcalm, fun {F H H2 σ ε ε2 Fs Fs2 rd ef Q vs ds G} hK T q => ?_⟩
    match ds, T, q with
    | [], _, q => exact q.elim
    | [(d, f)], _, q => cases d <;> exact q.elim
    | (d, f) :: (e, g) :: z :: r, _, q => cases d <;> cases e <;> exact q.elim
    | [(d, f), (e, g)], T, q =>
      obtain ⟨v, u, G1, G2, rfl, h1, h2⟩ := T.h.two
      cases d <;> cases e <;> first | exact q.elim | skip
      obtain rfl := h1.int
      obtain rfl := h2.int
      exact ⟨_, _, rfl, T.scal q (.int _)⟩
  | sum =>
    refine ⟨_, cr_sum hcalm, fun {F H H2 σ ε ε2 Fs Fs2 rd ef Q vs ds G} hK T q => ?_⟩
    match ds, T, q with
    | [], _, q => exact q.elim
    | (d, f) :: e :: r, _, q => cases d <;> exact q.elim
    | [(d, f)], T, q =>
      obtain ⟨v, rfl, h⟩ := T.h.one
      cases d <;> first | exact q.elim | skip
      rename_i ds
      obtain ⟨p, xs, G', rfl, hp, rfl, r⟩ := h.lst
      simp only [bltD] at q
      cases e : allInt ds with
      | none => rw [e] at q; exact q.elim
      | some ns =>
        rw [e] at q
        rw [allInt_rps e r.rp] at hp
        exact ⟨p, ns, rfl, .inl (.inl hp), T.scal q (.int _)⟩
  | all =>
    refine ⟨_, cr_all hcalm, fun {F H H2 σ ε ε2 Fs Fs2 rd ef Q vs ds G} hK T q => ?_⟩
    match ds, T, q with
    | [], _, q => exact q.elim
    | (d, f) :: e :: r, _, q => cases d <;> exact q.elim
    | [(d, f)], T, q =>
      obtain ⟨v, rfl, h⟩ := T.h.one
      cases d <;> first | exact q.elim | skip
      rename_i ds
      obtain ⟨p, xs, G', rfl, hp, rfl, r⟩ := h.lst
      simp only [bltD] at q
      cases e : allBool ds with
      | none => rw [e] at q; exact q.elim
      | some ns =>
        rw [e] at q
        rw [allBool_rps e r.rp] at hp
        exact ⟨p, ns, rfl, .inl (.inl hp), T.scal q (.bl _)⟩
  | any =>
    refine ⟨_, cr_any hcalm, fun {F H H2 σ ε ε2 Fs Fs2 rd ef Q vs ds G} hK T q => ?_⟩
    match ds, T, q with
    | [], _, q => exact q.elim
    | (d, f) :: e :: r, _, q => cases d <;> exact q.elim
    | [(d, f)], T, q =>
      obtain ⟨v, rfl, h⟩ := T.h.one
      cases d <;> first | exact q.elim | skip
      rename_i ds
      obtain ⟨p, xs, G', rfl, hp, rfl, r⟩ := h.lst
      simp only [bltD] at q
      cases e : allBool ds with
      | none => rw [e] at q; exact q.elim
      | some ns =>
        rw [e] at q
        rw [allBool_rps e r.rp] at hp
        exact ⟨p, ns, rfl, .inl (.inl hp), T.scal q (.bl _)⟩
  | sorted =>
    refine ⟨_, cr_sortX hu, fun {F H H2 σ ε ε2 Fs Fs2 rd ef Q vs ds G} hK T q => ?_⟩
    match ds, T, q with
    | [], _, q => exact q.elim
    | (d, f) :: e :: r, _, q => cases d <;> exact q.elim
    | [(d, f)], T, q =>
      obtain ⟨v, rfl, h⟩ := T.h.one
      cases d <;> first | exact q.elim | skip
      rename_i ds
      obtain ⟨p, xs, G', rfl, hp, rfl, r⟩ := h.lst
      simp only [bltD] at q
      split at q
      · rename_i c
        refine ⟨p, xs, ds, G', rfl, hp, by rw [hK]; exact r.rp, c.1, c.2.1, c.2.2, fun ys Gy l ry pm n => q _ _ Fs2 _ (T.seq.newL (r.sorted (by rw [← hK]; exact ry) pm) (fun x m => T.o x (List.mem_cons_of_mem _ (pm.mem_iff.mp m))) n)⟩
      · exact q.elim
section
variable {X : Cx} {F : Fx} {rd ef : List Nat} {e : Expr} {es : List Expr} {x : Str} {p pos : Pos} {l : ML}
theorem many_w {b : BI} {r : List V → Hp → VK → Prop} {σ : L2.St} {H : Hp} {Q : VK}
    (go : ∀ {H H2 : Hp} {σ : L2.St} {ε ε2 : EnvT} {Fs Fs2 : Nat → List Addr} {Q : VK} {vs : List V} {ds : List (D × Bool)} {G : List Addr}, Many F H σ ε Fs rd ef H2 ε2 Fs2 vs ds G → W0 F H (kE F H σ ε Fs rd ef Q) ((bltD b ds).bind fun r => .ok (r.1, r.2, ε2)) → r vs H2 Q)
    (h : tE F rd ef (mBlt b l) σ H Q) : tL F rd ef l σ H fun vs H1 => r vs H1 Q := by
  obtain ⟨ε, Fs, R, h⟩ := h.w
  exact tL.go R h fun r vs H' Fs' G e S L o q => go ⟨R, S, L, o⟩ q
theorem xe_bltB (g : Gd X F) (b : BI) (hb : b ≠ .sortedR) {id : String} (hf : bfn b = .builtin id) (hg : Gl X x) (hm : X.mg x = none) (hv : bootBuiltins x = some (.builtin id)) (ha : PA X (e :: es) (tL F rd ef l)) (hn : x ≠ "__name__" := by decide) (hdb : (x == ("__debug__" : Str)) = false := by decide)
    (he : starEach (e :: es) X.env = (false, eval e X.env) :: starEach es X.env := by rfl) (hpl : (backTo pos (starEach es X.env)).any (·.1) = false := by rfl) :
    PE X (.Call (.Name x p) (e :: es) [] pos) (tE F rd ef (mBlt b l)) := by
  obtain ⟨r, hc, go⟩ := blt_ok (X := X) g.calm (by have := g.un; omega) g.gd b hb
  rw [hf] at hc
  exact (pe_callB hc hg hm hv ha hn hdb he hpl).imp fun σ H Q h => many_w (fun T q => go g.K T q) h
theorem xe_bltT (g : Gd X F) (b : BI) (hb : b ≠ .sortedR) {id : String} (hf : bfn b = .type id) (hg : Gl X x) (hm : X.mg x = none) (hv : bootBuiltins x = some (.type id)) (ha : PA X (e :: es) (tL F rd ef l)) (hn : x ≠ "__name__" := by decide) (hdb : (x == ("__debug__" : Str)) = false := by decide)
    (he : starEach (e :: es) X.env = (false, eval e X.env) :: starEach es X.env := by rfl) (hpl : (backTo pos (starEach es X.env)).any (·.1) = false := by rfl) :
    PE X (.Call (.Name x p) (e :: es) [] pos) (tE F rd ef (mBlt b l)) := by
  obtain ⟨r, hc, go⟩ := blt_ok (X := X) g.calm (by have := g.un; omega) g.gd b hb
  rw [hf] at hc
  exact (pe_callTy hc hg hm hv ha hn hdb he hpl).imp fun σ H Q h => many_w (fun T q => go g.K T q) h
/-- sorted(e, reverse=True) -/
theorem xe_sortedR (g : Gd X F) {j : Nat} {pk pc : Pos} {a : Expr} {m : M} (hg : Gl X "sorted") (hm : X.mg "sorted" = none) (hv : bootBuiltins "sorted" = some (.builtin "sorted")) (ha : PE X a (tE F rd ef m))
    (he : backTo pos (starEach [a] X.env) = (false, eval a X.env) :: backTo pos (starEach [] X.env) := by rfl) (hs : starEach [a] X.env = (false, eval a X.env) :: starEach [] X.env := by rfl) (hpl : (backTo pos (starEach [a] X.env)).any (·.1) = false := by rfl) :
    PE X (.Call (.Name "sorted" p) [a] [⟨some "reverse", .Constant (.bool true) j pc, pk⟩] pos) (tE F rd ef (mBlt .sortedR (lCons m false lNil))) := by
  refine (pe_callBK (ks := ["reverse"]) (crk_sortX (by have := g.un; omega)) hg hm hv (pa_cons ha pa_nil hs) (pk_cons pe_bl pk_nil) (by decide) (by decide) he hpl).imp fun σ H Q h => ?_
  obtain ⟨ε, Fs, R, h⟩ := h.w
  refine tE.go R (W0.bind h) fun r v H' Fs' G e P q => ?_
  obtain ⟨d, f, ε'⟩ := r
  refine ⟨rfl, ?_⟩
  cases d <;> first | exact q.elim | skip
  rename_i ds
  obtain ⟨p, xs, G', rfl, hp, rfl, r⟩ := P.held0.lst
  have q : W0 F H (kE F H σ ε Fs rd ef Q) ((bltD .sortedR [(.list ds, f)]).bind fun r => .ok (r.1, r.2, ε')) := q
  simp only [bltD] at q
  split at q
  · rename_i c
    refine ⟨p, xs, ds, G', rfl, hp, by rw [g.K]; exact r.rp, c.1, c.2.1, c.2.2, fun ys Gy l ry pm n => q _ _ Fs' _ (P.seq.newL (r.sorted (by rw [← g.K]; exact ry) pm) (fun x m => P.org x (List.mem_cons_of_mem _ (pm.mem_iff.mp m))) n)⟩
  · exact q.elim
end
end CF
/-! CFS: sorted(set(e)) of a list of ints. -/
namespace CF
open PySem PySem.Spec PyProof.Rows L2

/-- an empty set as it is laid -/
abbrev set0 (w : World) : Obj := { cls := .type "set", dict := none, data := .set #[] 0 (.fresh 0 0 (!w.params.followText "set-order")) }
section
variable {P : Program} {w : World} {A : Around} {E : Value → Shared → Prop} {s : Shared}
theorem set_of_list {l : Addr} {xs : Array Value} (ns : List Int) {Q : Value → Shared → Prop} (hh : A.handled = none) (hl : s.heap.IsList l xs) (hi : IntsAre xs.toList ns) (hb : ns.length + 1 < scanBound)
    (fin : ∀ (g : Heap) (tk c : Nat), SetR w g s.heap.objs.size (fun j => decide (j ∈ ns)) c ∧ c ≤ ns.length ∧ (∀ b o, s.heap.get? b = some o → g.get? b = some o) → Q (.ref s.heap.objs.size) { s with heap := g, toks := tk }) :
    wpAny (model P w) A (call (.type "set") [.ref l]) Q E s := by
  have sz : xs.size = ns.length := (Array.length_toList (xs := xs)).symm.trans (IntsAre.length hi)
  have ⟨cc, tl, hmro⟩ := F.called_set.mro
  have hmade := F.called_set.made; have hsub := F.called_set.sub
  refine wpAny_call (codeAny_of_tree ?_); show wpAny _ _ (callAny (.type "set") _) _ _ _
  refine wpAny_pure ⟨Code.quiet_builtin _ (by decide +kernel), codeAny_builtin F.entry_type_call ?_⟩; rw [Around.under_plain (weight_type_call_type "set" [.ref l] []) rfl]
  have t1 := F.called_set.notType; have t2 := F.called_set.canCreate; have t3 := F.typeCall_set_1 (.ref l)
  (repeat any_goals (first | assumption | wp_step))
  refine codeAny_mono (code_set_led1 (.ref l) (E := E) (Q₁ := fun ob s' => ob = .ref s.heap.objs.size ∧ s' = { s with heap := s.heap.push (set0 w) }) ⟨rfl, rfl⟩) fun r s' hr => ?_
  cases r with
  | error e => exact hr
  | ok fl => cases fl with
    | ret ob =>
      obtain ⟨rfl, rfl⟩ := hr
      have g0 : (s.heap.push (set0 w)).get? s.heap.objs.size = some (set0 w) := Heap.get?_push_size _ rfl
      have ty : Shared.TypeIs { s with heap := s.heap.push (set0 w) } (.ref s.heap.objs.size) "set" := ⟨_, g0, rfl⟩
      have i1 := F.called_set.init.lookup; have i2 := F.called_set.init.bind (.ref s.heap.objs.size)
      (repeat any_goals (first | assumption | wp_step))
      refine codeAny_mono (codeAny_call_builtin (R := wants (fun r s2 => r = .none ∧ ∃ g tk c, s2 = { s with heap := g, toks := tk } ∧ SetR w g s.heap.objs.size (fun j => decide (j ∈ ns)) c ∧ c ≤ ns.length ∧ ∀ b o, s.heap.get? b = some o → g.get? b = some o) E)
        F.called_set.init.plain F.entry_set_init (check_set_init_1 ty ?_)) fun r2 s2 hr2 => ?_
      · obtain ⟨⟨oc, od, odt, os⟩, hol, hcl, nl, hdl⟩ := hl
        simp only at hcl hdl; subst hcl; subst hdl
        have hol' : (s.heap.push (set0 w)).get? l = some { cls := .type "list", dict := od, data := .seq xs nl, slots := os } := Heap.get?_push_of_some _ hol
        have b1 := F.sub_list_set; have b2 := F.sub_list_frozenset
        have b3 : (Value.type "list" == Value.type "dict") = false := by decide
        have L1 : (s.heap.push (set0 w)).IsList l xs := ⟨_, hol', rfl, nl, rfl⟩
        unfold Builtin.«set.__init__» noKeywords Builtin.Frozenset.updateFrom
        generalize eI : pyIter = PI at *
        wp_walk
        subst eI
        refine wpAny_pyIter_list L1 ?_; refine wpAny_bind (wpAny_runValue ?_)
        have lt : l < s.heap.objs.size := Heap.lt_size hol
        have h3 : A.in1.in1.in1.handled = none := by simp [hh]
        have ne : l ≠ (s.heap.push (set0 w)).objs.size := by
          rw [Heap.size_push]; exact Nat.ne_of_lt (Nat.lt_succ_of_lt lt)
        have nf : s.heap.objs.size ∉ [(s.heap.push (set0 w)).objs.size, l] := by
          rw [Heap.size_push]; simp only [List.mem_cons, List.not_mem_nil, or_false, not_or]
          exact ⟨Nat.ne_of_lt (Nat.lt_succ_self _), Nat.ne_of_gt lt⟩
        have hv : ∀ (i : Nat) (v : Value), xs[i]? = some v → ∃ k t, ns[i]? = some k ∧ v = .int k t := fun i v e => by
          have q : i < ns.length := sz ▸ (Array.getElem?_eq_some_iff.mp e).1
          obtain ⟨t, e⟩ := IntsAre.int_at hi i v (by rw [Array.getElem?_toList]; exact e)
          exact ⟨ns[i], t, List.getElem?_eq_getElem q, by rw [e, List.getD_eq_getElem?_getD, List.getElem?_eq_getElem q] <;> rfl⟩
        refine set_update_ints ((Walks.list h3 _ l ne xs).toS) s.heap.objs.size nf ns sz hb hv (xs.size - 0) 0 _ (by omega) (Nat.zero_le _) ⟨⟨_, Heap.get?_push_size _ rfl, rfl, rfl⟩, (L1.push _)⟩ ?hS0 ?hR
        case hS0 => exact ⟨0, Nat.le_refl 0, setR_new_at (Heap.get?_push_of_some _ g0)⟩
        case hR =>
          intro s' c' hm hc' hS'
          obtain ⟨g, gs, dr, tk, oss⟩ := s'
          obtain rfl : gs = s.gens := hm.gens
          obtain rfl : dr = s.drawn := hm.drawn
          obtain rfl : oss = s.os := hm.os
          show wpAny _ _ _ _ _ _
          refine wpAny_pure ?_; show wpAny _ _ (ret Value.none) _ _ _
          rw [sz] at hc'
          refine wpAny_pure ⟨rfl, g, tk, c', rfl, hS', hc', fun b o e => ?_⟩
          have lb : b < s.heap.objs.size := Heap.lt_size e
          refine hm.heap b o ?_ (Heap.get?_push_of_some _ (Heap.get?_push_of_some _ e))
          simp only [List.mem_cons, List.not_mem_nil, or_false, not_or]
          exact ⟨Nat.ne_of_lt lb, by rw [Heap.size_push]; exact Nat.ne_of_lt (Nat.lt_succ_of_lt lb)⟩
      · cases r2 with
        | error e => exact hr2
        | ok f2 => cases f2 with
          | ret v =>
            obtain ⟨rfl, g, tk, c, rfl, q1, q2, q3⟩ := hr2
            (repeat any_goals (first | assumption | wp_step))
            exact fin _ _ _ ⟨q1, q2, q3⟩
          | next => exact hr2.elim
          | brk => exact hr2.elim
          | cont => exact hr2.elim
    | next => exact hr.elim
    | brk => exact hr.elim
    | cont => exact hr.elim
end
end CF
/-! CFS2: sorted(set(e)) of a list of ints: the strictly ascending list of what is in it. -/
namespace CF
open PySem PySem.Spec PyProof.Rows L2

/-- put into a strictly ascending list -/
def insU (x : Int) : List Int → List Int
  | [] => [x]
  | y :: r => if x < y then x :: y :: r else if x = y then y :: r else y :: insU x r
/-- the strictly ascending list of what is in a list -/
def sortU (ns : List Int) : List Int := ns.foldr insU []
theorem mem_insU {x k : Int} : ∀ {l : List Int}, k ∈ insU x l ↔ k = x ∨ k ∈ l
  | [] => by simp [insU]
  | y :: r => by
    unfold insU
    split
    · simp
    · split
      · rename_i h; subst h; simp
      · simp [mem_insU (l := r)]; constructor <;> (rintro (h | h | h) <;> simp [h])
theorem mem_sortU {k : Int} : ∀ {l : List Int}, k ∈ sortU l ↔ k ∈ l
  | [] => by simp [sortU]
  | y :: r => by
    show k ∈ insU y (sortU r) ↔ _
    rw [mem_insU, mem_sortU (l := r), List.mem_cons]
theorem insU_lt {x : Int} : ∀ {l : List Int}, l.Pairwise (· < ·) → (insU x l).Pairwise (· < ·)
  | [], _ => List.pairwise_singleton ..
  | y :: r, h => by
    obtain ⟨h1, h2⟩ := List.pairwise_cons.mp h
    unfold insU
    split
    · rename_i c
      refine List.pairwise_cons.mpr ⟨fun z m => ?_, h⟩
      rcases List.mem_cons.mp m with rfl | m
      · exact c
      · have := h1 z m; omega
    · split
      · exact h
      · refine List.pairwise_cons.mpr ⟨fun z m => ?_, insU_lt h2⟩
        rcases mem_insU.mp m with rfl | m
        · omega
        · exact h1 z m
theorem sortU_lt : ∀ (l : List Int), (sortU l).Pairwise (· < ·)
  | [] => .nil
  | _ :: r => insU_lt (sortU_lt r)
/-- two strictly ascending lists of the same members are one -/
theorem lt_unique : ∀ {l m : List Int}, l.Pairwise (· < ·) → m.Pairwise (· < ·) → (∀ k, k ∈ l ↔ k ∈ m) → l = m
  | [], [], _, _, _ => rfl
  | [], y :: r, _, _, h => absurd ((h y).mpr List.mem_cons_self) List.not_mem_nil
  | x :: l, [], _, _, h => absurd ((h x).mp List.mem_cons_self) List.not_mem_nil
  | x :: l, y :: m, hl, hm, h => by
    obtain ⟨a1, a2⟩ := List.pairwise_cons.mp hl
    obtain ⟨b1, b2⟩ := List.pairwise_cons.mp hm
    have e : x = y := by
      rcases List.mem_cons.mp ((h x).mp List.mem_cons_self) with e | e
      · exact e
      · rcases List.mem_cons.mp ((h y).mpr List.mem_cons_self) with e' | e'
        · exact e'.symm
        · have := a1 y e'; have := b1 x e; omega
    subst e
    rw [lt_unique a2 b2 fun k => ⟨fun q => ?_, fun q => ?_⟩]
    · rcases List.mem_cons.mp ((h k).mp (List.mem_cons_of_mem _ q)) with e | e
      · have := a1 k q; omega
      · exact e
    · rcases List.mem_cons.mp ((h k).mpr (List.mem_cons_of_mem _ q)) with e | e
      · have := b1 k q; omega
      · exact e
/-- members of one are members of the other, none twice: no longer -/
theorem nodup_le : ∀ {l m : List Int}, l.Nodup → (∀ k ∈ l, k ∈ m) → l.length ≤ m.length
  | [], _, _, _ => Nat.zero_le _
  | x :: l, m, hl, h => by
    obtain ⟨h1, h2⟩ := List.nodup_cons.mp hl
    have hx := h x List.mem_cons_self
    have := nodup_le (m := m.erase x) h2 fun k q => (List.mem_erase_of_ne (fun e : k = x => h1 (e ▸ q))).mpr (h k (List.mem_cons_of_mem _ q))
    rw [List.length_erase_of_mem hx] at this
    have : 0 < m.length := List.length_pos_of_mem hx
    simp only [List.length_cons]
    omega

def sortSetD : D → Out (D × Bool)
  | .list ds => match allInt ds with
    | some ns => if ns.length ≤ 4000 ∧ (sortU ns).length < 64 then .ok (.list ((sortU ns).map .int), true) else .no
    | none => .no
  | _ => .no
def mSortSet (a : M) : M := m1 a fun d _ => sortSetD d
section
variable {X : Cx} {F : Fx} {rd ef : List Nat} {a : Expr} {p p2 q2 pos : Pos} {ta : TE} {m : M}
def tSortSet (K : PySem.W.Frag) (ta : TE) : TE := fun σ H Q => ta σ H fun x H1 => ∃ (l : Addr) (ns : List Int), x = .ref l ∧ SqL K H1 l (ns.map V.int) ∧ ns.length ≤ 4000 ∧ (sortU ns).length < 64 ∧ ∀ p, H1 p = none → Q (.ref p) (upd H1 p (.lst ((sortU ns).map V.int)))
theorem pe_sortSet (hc : X.calm = true) (hg : Gl X "sorted") (hm : X.mg "sorted" = none) (hg2 : Gl X "set") (hm2 : X.mg "set" = none) (ha : PE X a ta) (na : starEach [a] X.env = (false, eval a X.env) :: starEach [] X.env := by rfl) :
    PE X (.Call (.Name "sorted" p) [.Call (.Name "set" p2) [a] [] q2] [] pos) (tSortSet X.K ta) := by
  refine ⟨fun pins s σ H Q I h => Call_ (ld_blt I hg hm boot_sorted ?_)⟩
  refine PyProof.Rows.callWith_builtin1 (PyProof.Rows.args_cons ?_ rfl) rfl rfl
  refine Call_ (ld_blt I hg2 hm2 boot_set ?_)
  refine PyProof.Rows.callWith_type1 (PyProof.Rows.args_cons (thn (ha.run pins s σ H _ I h) fun v s1 ⟨x, H1, I1, r1, q1⟩ => PyProof.Rows.args_nil ?_) na) na rfl
  obtain ⟨l, ns, rfl, hq, n1, n2, q1⟩ := q1
  cases r1
  obtain ⟨its, r, pl, hz⟩ := I1.list hq
  refine set_of_list ns (I1.ok.hd hc) pl.isList (by simpa using intsAre_of r) (by unfold scanBound; omega) fun g tk c ⟨R, hc', hk⟩ => PyProof.Rows.args_nil ?_
  have I2 : Inv X pins σ H1 { s1 with heap := g, toks := tk } := I1.kept hk
  have c64 : c < 64 := by
    obtain ⟨o, es, ep, t, ho, hex, hd, gg, nd, hm, hb, hf, hn, hr, hl⟩ := id R
    have : (es.toList.map L2.keyOf).length ≤ (sortU ns).length := nodup_le nd fun k q => mem_sortU.mpr (by simpa using (hm k).mpr q)
    rw [List.length_map, Array.length_toList, hn] at this
    omega
  refine sorted_set R (I1.ok.hd hc) c64 fun s' p out cc ms k g' o hp hg hi hs hm hl => ?_
  have em : ms = sortU ns := lt_unique hs (sortU_lt ns) fun k => by rw [hm, mem_sortU, decide_eq_true_eq]
  subst em
  have hn : H1 p = none := I2.hok.fresh hp
  have hp0 : s1.heap.objs.size ≤ p := Nat.le_trans (Nat.le_of_lt R.lt) hp
  have J : Inv X pins σ (upd H1 p (.lst ((sortU ns).map V.int))) { s1 with heap := s'.heap, gens := s'.gens, drawn := s'.drawn, toks := s'.toks } :=
    I1.call (ch := []) (Un.laid (fun b u e => k b u (hk b u e)) hp0 hn) (I2.hok.laid k hp ⟨by rw [List.length_map, sizeLine_eq]; omega, out.toList, cc, vals_of_ints hi, hg⟩) (by rw [g']; exact I2.bare) nofun
  have e : s' = { s1 with heap := s'.heap, gens := s'.gens, drawn := s'.drawn, toks := s'.toks } := by
    cases s'; cases s1; cases o; rfl
  rw [e]
  exact ⟨.ref p, _, J, rfl, q1 p hn⟩
theorem rps_ints {K : PySem.W.Frag} {H : Hp} : ∀ (ns : List Int), Rps K H (ns.map V.int) (ns.map .int) []
  | [] => .nil
  | i :: r => by
    have := Rps.cons (K := K) (H := H) (.int i) (rps_ints r)
    simpa using this
theorem xe_sortSet (g : Gd X F) (hg : Gl X "sorted") (hm : X.mg "sorted" = none) (hg2 : Gl X "set") (hm2 : X.mg "set" = none) (ha : PE X a (tE F rd ef m)) (na : starEach [a] X.env = (false, eval a X.env) :: starEach [] X.env := by rfl) :
    PE X (.Call (.Name "sorted" p) [.Call (.Name "set" p2) [a] [] q2] [] pos) (tE F rd ef (mSortSet m)) := by
  refine (pe_sortSet g.calm hg hm hg2 hm2 ha na).imp fun σ H Q h => ?_
  obtain ⟨ε, Fs, R, h⟩ := h.w
  refine tE.go R h fun r v H' Fs' G e P q => ?_
  obtain ⟨d, f, ε'⟩ := r
  cases d <;> first | exact q.elim | skip
  rename_i ds
  obtain ⟨pp, xs, G', rfl, hp, rfl, rr⟩ := P.held0.lst
  simp only [sortSetD] at q
  cases e2 : allInt ds with
  | none => rw [e2] at q; exact q.elim
  | some ns =>
    rw [e2] at q
    by_cases c : ns.length ≤ 4000 ∧ (sortU ns).length < 64
    · simp only [if_pos c, Out.bind_ok'] at q
      rw [allInt_rps e2 rr.rp] at hp
      exact ⟨pp, ns, rfl, .inl (.inl hp), c.1, c.2, fun l n => q _ _ Fs' _ (P.seq.newL (rd := rd) (fr := true) ⟨rps_ints _, fun _ => ⟨List.nodup_nil, noM, fun _ => noM⟩, fun _ _ _ => noM⟩ noM n)⟩
    · simp only [if_neg c] at q; exact q.elim
end
end CF
/-! CFZ: zip of any two of lists and tuples, by what is asked of the two that are walked. -/
namespace CF
open PySem PySem.Spec PyProof.Rows L2

/-- a kind of thing that is walked by place -/
structure Wk where
  ty : String
  it : Heap → Addr → Addr → Nat → Prop
  sq : Heap → Addr → Array Value → Prop
  itAt : ∀ {h g : Heap} {i l k}, it h i l k → (∀ o, h.get? i = some o → g.get? i = some o) → it g i l k
  sqAt : ∀ {h g : Heap} {l xs}, sq h l xs → (∀ o, h.get? l = some o → g.get? l = some o) → sq g l xs
  itOb : ∀ {h : Heap} {i l k}, it h i l k → ∃ o, h.get? i = some o ∧ ∀ v, o.data ≠ .cell v
  sqLt : ∀ {h : Heap} {l xs}, sq h l xs → l < h.objs.size
  first : ∀ {h : Heap} {i l}, h.get? i = some { cls := .type ty, data := .fields #[.ref l, .int 0 0] } → it h i l 0
  item : ∀ {P : Program} {w : World} {A : Around} {E : Value → Shared → Prop} {s : Shared} {i l : Addr} {k : Nat} {xs : Array Value} {x : Value} {Q : Value → Shared → Prop}, it s.heap i l k → sq s.heap l xs → xs[k]? = some x →
    (∀ g, it g i l (k + 1) → Heap.SameBut i s.heap g → Q x { s with heap := g }) → wpAny (model P w) A (Builtin.SmallTypes.nextOf (.ref i)) Q E s
  done : ∀ {P : Program} {w : World} {A : Around} {E : Value → Shared → Prop} {s : Shared} {i l : Addr} {k : Nat} {xs : Array Value} {Q : Value → Shared → Prop}, A.handled = none → it s.heap i l k → sq s.heap l xs → xs[k]? = none →
    (∀ g e, Heap.ExtBut i s.heap g → (∃ o, g.get? e = some o ∧ o.cls = .type "StopIteration") → E (.ref e) { s with heap := g }) → wpAny (model P w) A (Builtin.SmallTypes.nextOf (.ref i)) Q E s
  start : ∀ {P : Program} {w : World} {A : Around} {E : Value → Shared → Prop} {s : Shared} {l : Addr} {xs : Array Value} {Q : Value → Shared → Prop}, sq s.heap l xs →
    Q (.ref s.heap.objs.size) { s with heap := s.heap.push { cls := .type ty, data := .fields #[.ref l, .int 0 0] } } → wpAny (model P w) A (pyIter (.ref l)) Q E s
def wkL : Wk where
  ty := "list_iterator"
  it := fun h i l k => h.IsListIter i l k
  sq := fun h l xs => h.IsList l xs
  itAt := fun x e => x.at e
  sqAt := fun ⟨o, e, r⟩ q => ⟨o, q o e, r⟩
  itOb := fun ⟨o, e, _, d⟩ => ⟨o, e, fun v z => by rw [d] at z; cases z⟩
  sqLt := fun ⟨_, e, _⟩ => Heap.lt_size e
  first := fun e => ⟨_, e, rfl, rfl⟩
  item := fun a b c q => wpAny_nextOf_list_item a b c q
  done := fun h a b c q => wpAny_nextOf_list_end h a b c q
  start := fun a q => wpAny_pyIter_list a q
def wkT : Wk where
  ty := "tuple_iterator"
  it := fun h i l k => h.IsTupleIter i l k
  sq := fun h l xs => h.IsTuple l xs
  itAt := fun x e => x.at e
  sqAt := fun ⟨o, e, r⟩ q => ⟨o, q o e, r⟩
  itOb := fun ⟨o, e, _, d⟩ => ⟨o, e, fun v z => by rw [d] at z; cases z⟩
  sqLt := fun ⟨_, e, _⟩ => Heap.lt_size e
  first := fun e => ⟨_, e, rfl, rfl⟩
  item := fun a b c q => RZ.nextOf_tuple_item a b c q
  done := fun h a b c q => RZ.nextOf_tuple_end h a b c q
  start := fun a q => wpAny_pyIter_tuple a q

section
variable {P : Program} {w : World} {A : Around} {E : Value → Shared → Prop} {s : Shared} {K1 K2 : Wk} {zz ti tu ia ib la lb : Addr} {m n : Nat} {xs ys : Array Value} {x y a b : Value}
/-- what stays of the heap through a turn -/
def Still (zz tu ia ib : Addr) (h g : Heap) : Prop := ∀ c o, c ≠ zz → c ≠ tu → c ≠ ia → c ≠ ib → h.get? c = some o → g.get? c = some o
theorem zipK_item {Q : Value → Shared → Prop} (D : ZipApart zz ti tu ia ib la lb) (hz : IsZip s.heap zz ti tu .none) (hI : IsPair s.heap ti (.ref ia) (.ref ib)) (hU : IsPair s.heap tu a b)
    (h1 : K1.it s.heap ia la m) (h2 : K2.it s.heap ib lb n) (q1 : K1.sq s.heap la xs) (q2 : K2.sq s.heap lb ys) (ex : xs[m]? = some x) (ey : ys[n]? = some y)
    (fin : ∀ g, IsZip g zz ti tu (rawInt s.heap.objs.size) ∧ IsPair g tu x y ∧ K1.it g ia la (m + 1) ∧ K2.it g ib lb (n + 1) ∧ IsPair g s.heap.objs.size x y ∧ g.objs.size = s.heap.objs.size + 1 ∧ Still zz tu ia ib s.heap g → Q (.ref s.heap.objs.size) { s with heap := g }) :
    wpAny (model P w) A (Builtin.«zip.__next__» ⟨[.ref zz], []⟩) (fun r s' => ∃ v, r = .done (.ret v) ∧ Q v s') E s := by
  show wpAny _ _ (field (.ref zz) 2 >>= _) _ _ _
  refine wpAny_bind (wpAny_field hz rfl (x := .bool false) rfl ?_)
  show wpAny _ _ (field (.ref zz) 3 >>= _) _ _ _
  refine wpAny_bind (wpAny_field hz rfl (x := .ref ti) rfl ?_)
  refine wpAny_bind (wpAny_seqItems hI rfl ?_)
  show wpAny _ _ (Builtin.SmallTypes.ownedTupleIsFree (.ref zz) >>= _) _ _ _
  refine wpAny_bind ?_
  unfold Builtin.SmallTypes.ownedTupleIsFree
  refine wpAny_bind (wpAny_field hz rfl (x := .none) rfl (wpAny_pure ?_))
  simp only [if_true]
  refine wpAny_bind (wpAny_rule ?_)
  refine wpAny_bind (wpAny_field hz rfl (x := .ref tu) rfl ?_)
  refine wpAny_bind (wpAny_setField_rec hz (by simp) fun g1 z1 e1 => ?_)
  replace z1 : IsZip g1 zz ti tu .ellipsis := z1
  refine wpAny_bind ?_
  simp only [List.zipIdx_cons, List.zipIdx_nil, List.forIn_cons, List.forIn_nil]
  -- the first one's item
  refine wpAny_bind (wpAny_bind (wpAny_onRaise ?_))
  show wpAny _ _ (Builtin.SmallTypes.nextOf (.ref ia) >>= _) _ _ _
  refine wpAny_bind (K1.item (K1.itAt h1 fun o => e1.extBut _ o D.i1z) (K1.sqAt q1 fun o => e1.extBut _ o D.l1z) ex fun g2 i2 e2 => wpAny_pure ?_)
  have u2 : IsPair g2 tu a b := e2.extBut _ _ D.TOi1 (e1.extBut _ _ D.TOz hU)
  refine wpAny_bind (wpAny_seqItems u2 rfl ?_)
  refine wpAny_bind (wpAny_updateSeq_pair u2 fun g3 u3 e3 => ?_)
  replace u3 : IsPair g3 tu x b := u3
  refine wpAny_bind (wpAny_letGo (wpAny_pure ?_))
  -- the second one's
  refine wpAny_bind (wpAny_bind (wpAny_onRaise ?_))
  show wpAny _ _ (Builtin.SmallTypes.nextOf (.ref ib) >>= _) _ _ _
  have kb : ∀ c o, c ≠ zz → c ≠ tu → c ≠ ia → s.heap.get? c = some o → g3.get? c = some o := fun c o n1 n2 n3 e => e3.extBut _ _ n2 (e2.extBut _ _ n3 (e1.extBut _ _ n1 e))
  refine wpAny_bind (K2.item (K2.itAt h2 fun o => kb _ o D.i2z D.TOi2.symm D.i12.symm) (K2.sqAt q2 fun o => kb _ o D.l2z D.l2TO D.l2i1) ey fun g4 i4 e4 => wpAny_pure ?_)
  have u4 : IsPair g4 tu x b := e4.extBut _ _ D.TOi2 u3
  refine wpAny_bind (wpAny_seqItems u4 rfl ?_)
  refine wpAny_bind (wpAny_updateSeq_pair u4 fun g5 u5 e5 => ?_)
  replace u5 : IsPair g5 tu x y := u5
  refine wpAny_bind (wpAny_letGo (wpAny_pure (wpAny_pure ?_)))
  refine wpAny_bind (wpAny_seqItems u5 rfl ?_)
  refine wpAny_bind (wpAny_newTuple ?_)
  have sz : g5.objs.size = s.heap.objs.size := by rw [e5.1, e4.1, e3.1, e2.1, e1.1]
  have z5 : IsZip g5 zz ti tu .ellipsis := e5.extBut _ _ D.TOz.symm (e4.extBut _ _ D.i2z.symm (e3.extBut _ _ D.TOz.symm (e2.extBut _ _ D.i1z.symm z1)))
  have k5 : Still zz tu ia ib s.heap g5 := fun c o n1 n2 n3 n4 e => e5.extBut _ _ n2 (e4.extBut _ _ n4 (kb c o n1 n2 n3 e))
  have j1 : K1.it g5 ia la (m + 1) := K1.itAt i2 fun o e => e5.extBut _ _ D.TOi1.symm (e4.extBut _ _ D.i12 (e3.extBut _ _ D.TOi1.symm e))
  have j2 : K2.it g5 ib lb (n + 1) := K2.itAt i4 fun o e => e5.extBut _ _ D.TOi2.symm e
  have zl : zz < g5.objs.size := Heap.lt_size z5
  show wpAny _ _ (Builtin.SmallTypes.ownedTupleHandOut (.ref zz) (.ref g5.objs.size) >>= _) _ _ _
  refine wpAny_bind ?_
  unfold Builtin.SmallTypes.ownedTupleHandOut
  have z6 : IsZip (g5.push { cls := .type "tuple", data := .seq #[x, y] }) zz ti tu .ellipsis := Heap.get?_push_of_some _ z5
  refine wpAny_bind (wpAny_setField_rec z6 (by simp) fun g7 z7 e7 => ?_)
  replace z7 : IsZip g7 zz ti tu (rawInt g5.objs.size) := z7
  refine wpAny_setField_rec z7 (by simp) fun g8 z8 e8 => ?_
  replace z8 : IsZip g8 zz ti tu (rawInt g5.objs.size) := z8
  have up : ∀ c o, c ≠ zz → g5.get? c = some o → g8.get? c = some o := fun c o n1 e => e8.extBut _ _ n1 (e7.extBut _ _ n1 (Heap.get?_push_of_some _ e))
  have t8 : IsPair g8 g5.objs.size x y := e8.extBut _ _ (Nat.ne_of_gt zl) (e7.extBut _ _ (Nat.ne_of_gt zl) (Heap.get?_push_size _ rfl))
  have s8 : g8.objs.size = g5.objs.size + 1 := by rw [e8.1, e7.1, Heap.size_push]
  rw [sz] at z8 t8 s8
  refine wpAny_pure ⟨_, rfl, ?_⟩
  show Q (.ref g5.objs.size) _
  rw [sz]
  exact fin g8 ⟨z8, up _ _ D.TOz u5, K1.itAt j1 fun o => up _ o D.i1z, K2.itAt j2 fun o => up _ o D.i2z, t8, s8, fun c o n1 n2 n3 n4 e => up c o n1 (k5 c o n1 n2 n3 n4 e)⟩

theorem zipK_end {Q : Fin → Shared → Prop} (hh : A.handled = none) (D : ZipApart zz ti tu ia ib la lb) (hz : IsZip s.heap zz ti tu .none) (hI : IsPair s.heap ti (.ref ia) (.ref ib)) (hU : IsPair s.heap tu a b)
    (h1 : K1.it s.heap ia la m) (h2 : K2.it s.heap ib lb n) (q1 : K1.sq s.heap la xs) (q2 : K2.sq s.heap lb ys) (ee : xs[m]? = none ∨ ys[n]? = none)
    (fin : ∀ g e, Still zz tu ia ib s.heap g → (∃ o, g.get? e = some o ∧ o.cls = .type "StopIteration") → E (.ref e) { s with heap := g }) :
    wpAny (model P w) A (Builtin.«zip.__next__» ⟨[.ref zz], []⟩) Q E s := by
  show wpAny _ _ (field (.ref zz) 2 >>= _) _ _ _
  refine wpAny_bind (wpAny_field hz rfl (x := .bool false) rfl ?_)
  show wpAny _ _ (field (.ref zz) 3 >>= _) _ _ _
  refine wpAny_bind (wpAny_field hz rfl (x := .ref ti) rfl ?_)
  refine wpAny_bind (wpAny_seqItems hI rfl ?_)
  show wpAny _ _ (Builtin.SmallTypes.ownedTupleIsFree (.ref zz) >>= _) _ _ _
  refine wpAny_bind ?_
  unfold Builtin.SmallTypes.ownedTupleIsFree
  refine wpAny_bind (wpAny_field hz rfl (x := .none) rfl (wpAny_pure ?_))
  simp only [if_true]
  refine wpAny_bind (wpAny_rule ?_)
  refine wpAny_bind (wpAny_field hz rfl (x := .ref tu) rfl ?_)
  refine wpAny_bind (wpAny_setField_rec hz (by simp) fun g1 z1 e1 => ?_)
  replace z1 : IsZip g1 zz ti tu .ellipsis := z1
  refine wpAny_bind ?_
  simp only [List.zipIdx_cons, List.zipIdx_nil, List.forIn_cons, List.forIn_nil]
  refine wpAny_bind (wpAny_bind (wpAny_onRaise ?_))
  show wpAny _ _ (Builtin.SmallTypes.nextOf (.ref ia) >>= _) _ _ _
  have r1 := K1.itAt h1 fun o => e1.extBut _ o D.i1z
  have t1 := K1.sqAt q1 fun o => e1.extBut _ o D.l1z
  cases ex : xs[m]? with
  | none =>
    refine wpAny_bind (K1.done hh r1 t1 ex fun g2 e e2 he => ?_)
    obtain ⟨oe, ho, hc⟩ := he
    have z2 : IsZip g2 zz ti tu .ellipsis := e2 _ _ D.i1z.symm z1
    have ne : e ≠ zz := fun q => by subst q; rw [z2] at ho; cases ho; simp at hc
    exact wpAny_setField_rec z2 (by simp) fun g3 _ e3 => fin g3 e (fun c o n1 _ n3 _ q => e3.extBut _ _ n1 (e2 _ _ n3 (e1.extBut _ _ n1 q))) ⟨oe, e3.extBut _ _ ne ho, hc⟩
  | some x =>
    have ey : ys[n]? = none := by
      rcases ee with q | q
      · rw [ex] at q; cases q
      · exact q
    refine wpAny_bind (K1.item r1 t1 ex fun g2 i2 e2 => wpAny_pure ?_)
    have u2 : IsPair g2 tu a b := e2.extBut _ _ D.TOi1 (e1.extBut _ _ D.TOz hU)
    refine wpAny_bind (wpAny_seqItems u2 rfl ?_)
    refine wpAny_bind (wpAny_updateSeq_pair u2 fun g3 u3 e3 => ?_)
    refine wpAny_bind (wpAny_letGo (wpAny_pure ?_))
    refine wpAny_bind (wpAny_bind (wpAny_onRaise ?_))
    show wpAny _ _ (Builtin.SmallTypes.nextOf (.ref ib) >>= _) _ _ _
    have kb : ∀ c o, c ≠ zz → c ≠ tu → c ≠ ia → s.heap.get? c = some o → g3.get? c = some o := fun c o n1 n2 n3 e => e3.extBut _ _ n2 (e2.extBut _ _ n3 (e1.extBut _ _ n1 e))
    refine wpAny_bind (K2.done hh (K2.itAt h2 fun o => kb _ o D.i2z D.TOi2.symm D.i12.symm) (K2.sqAt q2 fun o => kb _ o D.l2z D.l2TO D.l2i1) ey fun g4 e e4 he => ?_)
    obtain ⟨oe, ho, hc⟩ := he
    have z4 : IsZip g4 zz ti tu .ellipsis := e4 _ _ D.i2z.symm (e3.extBut _ _ D.TOz.symm (e2.extBut _ _ D.i1z.symm z1))
    have ne : e ≠ zz := fun q => by subst q; rw [z4] at ho; cases ho; simp at hc
    exact wpAny_setField_rec z4 (by simp) fun g5 _ e5 => fin g5 e (fun c o n1 n2 n3 n4 q => e5.extBut _ _ n1 (e4 _ _ n4 (kb c o n1 n2 n3 q))) ⟨oe, e5.extBut _ _ ne ho, hc⟩

theorem nextK_item {Q : Option Value → Shared → Prop} (D : ZipApart zz ti tu ia ib la lb) (hz : IsZip s.heap zz ti tu .none) (hI : IsPair s.heap ti (.ref ia) (.ref ib)) (hU : IsPair s.heap tu a b)
    (h1 : K1.it s.heap ia la m) (h2 : K2.it s.heap ib lb n) (q1 : K1.sq s.heap la xs) (q2 : K2.sq s.heap lb ys) (ex : xs[m]? = some x) (ey : ys[n]? = some y)
    (fin : ∀ g, IsZip g zz ti tu (rawInt s.heap.objs.size) ∧ IsPair g tu x y ∧ K1.it g ia la (m + 1) ∧ K2.it g ib lb (n + 1) ∧ IsPair g s.heap.objs.size x y ∧ g.objs.size = s.heap.objs.size + 1 ∧ Still zz tu ia ib s.heap g → Q (some (.ref s.heap.objs.size)) { s with heap := g }) :
    wpAny (model P w) A (pyNext (.ref zz)) Q E s := by
  have ty : s.TypeIs (.ref zz) "zip" := ⟨_, hz, rfl⟩
  unfold pyNext
  refine wpAny_bind (wpAny_attempt (wpAny_callSpecial?_slot (name := Str.ofString "__next__") ty F.slot_zip_next ?_))
  exact wpAny_call_entry F.slot_zip_next ty F.entry_zip_next (zipK_item D hz hI hU h1 h2 q1 q2 ex ey fun g q => wpAny_pure (fin g q)) (F.args_zip_next_1 _)
theorem nextK_end {Q : Option Value → Shared → Prop} (hh : A.handled = none) (D : ZipApart zz ti tu ia ib la lb) (hz : IsZip s.heap zz ti tu .none) (hI : IsPair s.heap ti (.ref ia) (.ref ib)) (hU : IsPair s.heap tu a b)
    (h1 : K1.it s.heap ia la m) (h2 : K2.it s.heap ib lb n) (q1 : K1.sq s.heap la xs) (q2 : K2.sq s.heap lb ys) (ee : xs[m]? = none ∨ ys[n]? = none)
    (fin : ∀ g, Still zz tu ia ib s.heap g → Q none { s with heap := g }) : wpAny (model P w) A (pyNext (.ref zz)) Q E s := by
  have ty : s.TypeIs (.ref zz) "zip" := ⟨_, hz, rfl⟩
  unfold pyNext
  refine wpAny_bind (wpAny_attempt (wpAny_callSpecial?_slot (name := Str.ofString "__next__") ty F.slot_zip_next ?_))
  refine wpAny_call_entry F.slot_zip_next ty F.entry_zip_next (zipK_end hh D hz hI hU h1 h2 q1 q2 ee fun g e hk ⟨o, ho, hc⟩ => ?_) (F.args_zip_next_1 _)
  exact wpAny_bind (wpAny_isInstance (T := "StopIteration") (b := true) ⟨o, ho, hc⟩ isSubtype_stop (wpAny_pure (fin g hk)))
end
/-- the heaps while a zip is laid -/
abbrev zk1 (K1 : Wk) (h : Heap) (la : Addr) : Heap := h.push { cls := .type K1.ty, data := .fields #[.ref la, .int 0 0] }
abbrev zk2 (K1 K2 : Wk) (h : Heap) (la lb : Addr) : Heap := (zk1 K1 h la).push { cls := .type K2.ty, data := .fields #[.ref lb, .int 0 0] }
abbrev zk3 (K1 K2 : Wk) (h : Heap) (la lb : Addr) : Heap := (zk2 K1 K2 h la lb).push { cls := .type "tuple", data := .seq #[.ref h.objs.size, .ref (zk1 K1 h la).objs.size] }
abbrev zk4 (K1 K2 : Wk) (h : Heap) (la lb : Addr) : Heap := (zk3 K1 K2 h la lb).push { cls := .type "tuple", data := .seq #[.none, .none] }
abbrev zk5 (K1 K2 : Wk) (h : Heap) (la lb : Addr) : Heap := (zk4 K1 K2 h la lb).push { cls := .type "zip", data := .fields #[.none, .bool false, .bool false, .ref (zk2 K1 K2 h la lb).objs.size, .ref (zk3 K1 K2 h la lb).objs.size] }
theorem meets_zipK (K1 K2 : Wk) (la lb : Addr) (xs ys : Array Value) : Meets (Builtin.«zip.__new__» ⟨[.type "zip", .ref la, .ref lb], []⟩) (fun _ R s => K1.sq s.heap la xs ∧ K2.sq s.heap lb ys ∧ R (.ok (.ret (.ref (zk4 K1 K2 s.heap la lb).objs.size))) { s with heap := zk5 K1 K2 s.heap la lb }) := by
  refine .of_wp fun prog w A R s h => ?_
  obtain ⟨hp, g, d, tk, os⟩ := s
  obtain ⟨q1, q2, h⟩ := h
  have hsub := sub_zip
  have L1 : K1.sq (Shared.heap ⟨hp, g, d, tk, os⟩) la xs := q1
  have L2 : K2.sq (Shared.heap ⟨hp.push { cls := .type K1.ty, data := .fields #[.ref la, .int 0 0] }, g, d, tk, os⟩) lb ys := K2.sqAt q2 fun o e => Heap.get?_push_of_some _ e
  wp_walk using K1.start L1, K2.start L2
  exact ⟨_, rfl, h⟩
section
variable {P : Program} {w : World} {A : Around} {E : Value → Shared → Prop} {s : Shared} {K1 K2 : Wk} {la lb : Addr} {xs ys : Array Value}
theorem call_zipK {Q : Value → Shared → Prop} (q1 : K1.sq s.heap la xs) (q2 : K2.sq s.heap lb ys)
    (fin : ∀ g, IsZip g (s.heap.objs.size + 4) (s.heap.objs.size + 2) (s.heap.objs.size + 3) .none ∧ IsPair g (s.heap.objs.size + 2) (.ref s.heap.objs.size) (.ref (s.heap.objs.size + 1)) ∧ IsPair g (s.heap.objs.size + 3) .none .none ∧
      K1.it g s.heap.objs.size la 0 ∧ K2.it g (s.heap.objs.size + 1) lb 0 ∧ (∀ c o, s.heap.get? c = some o → g.get? c = some o) → Q (.ref (s.heap.objs.size + 4)) { s with heap := g }) : wpAny (model P w) A (call (.type "zip") [.ref la, .ref lb]) Q E s := by
  refine callType_new F.called_zip (by decide) (F.typeCall_zip_2 _ _) (F.newCall_zip_2 _ _) (fun obj => F.args_object_init_3 obj _ _) F.entry_zip_new (meets_zipK K1 K2 la lb xs ys) ⟨q1, q2, ?_⟩
  have n1 : (zk1 K1 s.heap la).objs.size = s.heap.objs.size + 1 := Heap.size_push ..
  have n2 : (zk2 K1 K2 s.heap la lb).objs.size = s.heap.objs.size + 2 := by rw [Heap.size_push, n1]
  have n3 : (zk3 K1 K2 s.heap la lb).objs.size = s.heap.objs.size + 3 := by rw [Heap.size_push, n2]
  have n4 : (zk4 K1 K2 s.heap la lb).objs.size = s.heap.objs.size + 4 := by rw [Heap.size_push, n3]
  have e5 : (zk5 K1 K2 s.heap la lb).get? (zk4 K1 K2 s.heap la lb).objs.size = some _ := Heap.get?_push_size _ rfl
  have e4 : (zk5 K1 K2 s.heap la lb).get? (zk3 K1 K2 s.heap la lb).objs.size = some _ := Heap.get?_push_of_some _ (Heap.get?_push_size _ rfl)
  have e3 : (zk5 K1 K2 s.heap la lb).get? (zk2 K1 K2 s.heap la lb).objs.size = some _ := Heap.get?_push_of_some _ (Heap.get?_push_of_some _ (Heap.get?_push_size _ rfl))
  have e2 : (zk5 K1 K2 s.heap la lb).get? (zk1 K1 s.heap la).objs.size = some _ := Heap.get?_push_of_some _ (Heap.get?_push_of_some _ (Heap.get?_push_of_some _ (Heap.get?_push_size _ rfl)))
  have e1 : (zk5 K1 K2 s.heap la lb).get? s.heap.objs.size = some _ := Heap.get?_push_of_some _ (Heap.get?_push_of_some _ (Heap.get?_push_of_some _ (Heap.get?_push_of_some _ (Heap.get?_push_size _ rfl))))
  show _ ∧ _
  rw [n2, n3, n4] at e5
  rw [n1, n2] at e3
  rw [n3] at e4
  rw [n1] at e2
  rw [n4]
  exact ⟨⟨_, e5, rfl⟩, fin _ ⟨e5, e3, e4, K1.first e1, K2.first e2, fun c o q => Heap.get?_push_of_some _ (Heap.get?_push_of_some _ (Heap.get?_push_of_some _ (Heap.get?_push_of_some _ (Heap.get?_push_of_some _ q))))⟩⟩
end

/-- a list, a tuple -/
def Sk : Bool → PySem.W.Frag → Hp → Addr → List V → Prop
  | false => SqL
  | true => SqT
def wk : Bool → Wk
  | false => wkL
  | true => wkT
theorem Sk.get {X : Cx} {pins : List (Addr × Obj)} {σ : L2.St} {H : Hp} {s : Shared} {t : Bool} {a : Addr} {xs : List V} (I : Inv X pins σ H s) (q : Sk t X.K H a xs) : ∃ its : List Value, Vals xs its ∧ (wk t).sq s.heap a its.toArray := by
  cases t with
  | false => obtain ⟨its, r, p, _⟩ := I.list q; exact ⟨its, r, p.isList⟩
  | true => obtain ⟨its, r, p, _⟩ := I.tuple q; exact ⟨its, r, p⟩
theorem Sk.inj {X : Cx} {pins : List (Addr × Obj)} {σ : L2.St} {H : Hp} {s : Shared} {t : Bool} {a : Addr} {xs ys : List V} (I : Inv X pins σ H s) (q : Sk t X.K H a xs) (r : Sk t X.K H a ys) : xs = ys := by
  cases t with
  | false => exact I.list_inj q r
  | true => exact I.tuple_inj q r
/-- the things at a and b as they stand at each turn, the items in a new pair -/
def ItzK (t u : Bool) (K : PySem.W.Frag) (a b : Addr) : It where
  go := fun i H => ∃ xs ys x y, Sk t K H a xs ∧ Sk u K H b ys ∧ xs[i]? = some x ∧ ys[i]? = some y
  yld := fun i H v H' => ∃ T x y, v = .ref T ∧ H T = none ∧ H' = upd H T (.tup [x, y]) ∧ (∀ xs, Sk t K H a xs → xs[i]? = some x) ∧ ∀ ys, Sk u K H b ys → ys[i]? = some y
  stop := fun i H => ∃ xs ys, Sk t K H a xs ∧ Sk u K H b ys ∧ (xs.length ≤ i ∨ ys.length ≤ i)
theorem turn_zipK {P : Program} {w : World} {K : PySem.W.Frag} {es : List Expr} {kk : Nat} {tp : Pos} {t u : Bool} {la lb zz ti tu ia ib : Addr} (D : ZipApart zz ti tu ia ib la lb) :
    Turn P w K (.Tuple es kk tp) (ItzK t u K la lb) [zz, ti, tu, ia, ib] zz (fun i h => IsZip h zz ti tu .none ∧ IsPair h ti (.ref ia) (.ref ib) ∧ (∃ x y, IsPair h tu x y) ∧ (wk t).it h ia la i ∧ (wk u).it h ib lb i) where
  mem := List.mem_cons_self
  obj := fun i h ⟨hz, hI, ⟨x, y, hU⟩, h1, h2⟩ c hc => by
    simp only [List.mem_cons, List.not_mem_nil, or_false] at hc
    rcases hc with rfl | rfl | rfl | rfl | rfl
    · exact ⟨_, hz, nofun⟩
    · exact ⟨_, hI, nofun⟩
    · exact ⟨_, hU, nofun⟩
    · exact (wk t).itOb h1
    · exact (wk u).itOb h2
  keep := fun i h g ⟨hz, hI, ⟨x, y, hU⟩, h1, h2⟩ k => ⟨k zz (by simp) _ hz, k ti (by simp) _ hI, ⟨x, y, k tu (by simp) _ hU⟩, (wk t).itAt h1 fun o => k ia (by simp) o, (wk u).itAt h2 fun o => k ib (by simp) o⟩
  item := by
    intro X hP hw hK hc i pins s σ H E I hf st hg
    subst hP hw hK
    obtain ⟨hz, hI, ⟨x0, y0, hU⟩, h1, h2⟩ := st
    obtain ⟨xs, ys, x, y, qx, qy, ex, ey⟩ := hg
    obtain ⟨its, rv, p1⟩ := qx.get I
    obtain ⟨itt, rw', p2⟩ := qy.get I
    obtain ⟨v1, e1, r1⟩ := rv.get ex
    obtain ⟨v2, e2, r2⟩ := rw'.get ey
    have zl : zz < s.heap.objs.size := Heap.lt_size hz
    refine nextK_item D hz hI hU h1 h2 p1 p2 (x := v1) (y := v2) (by simpa using e1) (by simpa using e2) fun g ⟨z', U', j1, j2, hT, hsz, hk⟩ => ?_
    refine ⟨_, rfl, wpAny_letOwnedTupleGo_zip (s := { s with heap := g }) z' fun g2 z2 sb => ?_⟩
    have T2 : g2.get? s.heap.objs.size = some { cls := .type "tuple", data := .seq #[v1, v2] } := (sb.2 _ (Nat.ne_of_gt zl)).trans hT
    have nw : ObjOk X.prog X.w (upd H s.heap.objs.size (.tup [x, y])) g2 s.heap.objs.size (.tup [x, y]) := ⟨by show 2 ≤ sizeLine; decide, [v1, v2], .cons r1 (.cons r2 .nil), _, T2, rfl, _, rfl⟩
    have kp : ∀ c o, c ∉ [zz, ti, tu, ia, ib] → s.heap.get? c = some o → g2.get? c = some o := fun c o hb q => by
      simp only [List.mem_cons, List.not_mem_nil, or_false, not_or] at hb
      exact (sb.2 c hb.1).trans (hk c o hb.1 hb.2.2.1 hb.2.2.2.1 hb.2.2.2.2 q)
    have J : Inv X pins σ (upd H s.heap.objs.size (.tup [x, y])) { s with heap := g2 } := I.turnedNew (t' := s.toks) kp hf (Nat.le_refl _) nw
    have up : ∀ c, c ≠ zz → ∀ o, g.get? c = some o → g2.get? c = some o := fun c n o q => (sb.2 c n).trans q
    refine ⟨.ref s.heap.objs.size, _, J, rfl, ⟨_, x, y, rfl, I.hok.fresh (Nat.le_refl _), rfl, fun l hl => by rw [hl.inj I qx]; exact ex, fun l hl => by rw [hl.inj I qy]; exact ey⟩, ⟨z2, up _ D.TIz _ (hk _ _ D.TIz D.TITO D.TIi1 D.TIi2 hI), ⟨v1, v2, up _ D.TOz _ U'⟩, (wk t).itAt j1 (up _ D.i1z), (wk u).itAt j2 (up _ D.i2z)⟩, fun c hcm => ?_⟩
    have lt : c < s.heap.objs.size := by
      simp only [List.mem_cons, List.not_mem_nil, or_false] at hcm
      rcases hcm with q | q | q | q | q
      · rw [q]; exact zl
      · rw [q]; exact Heap.lt_size hI
      · rw [q]; exact Heap.lt_size hU
      · rw [q]; obtain ⟨_, e, _⟩ := (wk t).itOb h1; exact Heap.lt_size e
      · rw [q]; obtain ⟨_, e, _⟩ := (wk u).itOb h2; exact Heap.lt_size e
    rw [upd_ne (Nat.ne_of_lt lt)]
    exact (hf c hcm).1
  done := by
    intro X hP hw hK hc i pins s σ H E I hf st hg
    subst hP hw hK
    obtain ⟨hz, hI, ⟨x0, y0, hU⟩, h1, h2⟩ := st
    obtain ⟨xs, ys, qx, qy, ee⟩ := hg
    obtain ⟨its, rv, p1⟩ := qx.get I
    obtain ⟨itt, rw', p2⟩ := qy.get I
    have l1 := rv.length
    have l2 := rw'.length
    have he : its.toArray[i]? = none ∨ itt.toArray[i]? = none := ee.imp (fun q => by simp; omega) fun q => by simp; omega
    refine nextK_end (I.ok.hd hc) D hz hI hU h1 h2 p1 p2 he fun g hk => ⟨rfl, I.turnedL (t' := s.toks) (ch := [zz, ti, tu, ia, ib]) (fun c o hb q => ?_) hf⟩
    simp only [List.mem_cons, List.not_mem_nil, or_false, not_or] at hb
    exact hk c o hb.1 hb.2.2.1 hb.2.2.2.1 hb.2.2.2.2 q
  self := fun A i s Q E st h => wpAny_pyIter_zip st.1 h
def iZipK (K : PySem.W.Frag) (ta : TA) : TI := fun σ H R => ta σ H fun vs H1 => ∃ t u a b xs ys, vs = [.ref a, .ref b] ∧ Sk t K H1 a xs ∧ Sk u K H1 b ys ∧ R (ItzK t u K a b) H1
theorem pi_zipK {X : Cx} {e e2 : Expr} {ta : TA} {p pos tp : Pos} {es : List Expr} {kk : Nat} (hg : Gl X "zip") (hm : X.mg "zip" = none) (ha : PA X [e, e2] ta) (hs : starEach [e, e2] X.env = (false, eval e X.env) :: starEach [e2] X.env := by rfl)
    (hpl : (backTo pos (starEach [e2] X.env)).any (·.1) = false := by rfl) : PI X (.Tuple es kk tp) (.Call (.Name "zip" p) [e, e2] [] pos) (iZipK X.K ta) := by
  refine ⟨fun pins s σ H R I h => Call_ (ld_blt I hg hm PyProof.Rows.boot_zip (PyProof.Rows.callWith_type1 (thn (ha.run pos pins s σ H _ I h) fun us s1 ⟨vs, H1, I1, r1, q1⟩ => ?_) hs hpl))⟩
  obtain ⟨t, u, a, b, xs, ys, rfl, qx, qy, q⟩ := q1
  cases r1 with
  | cons r rr => cases rr with
    | cons r' rr =>
      cases rr; cases r; cases r'
      obtain ⟨its, rv, p1⟩ := qx.get I1
      obtain ⟨itt, rw', p2⟩ := qy.get I1
      refine call_zipK p1 p2 fun g ⟨hz, hI, hU, h1, h2, hk⟩ => wpAny_pyIter_zip hz ?_
      have I2 : Inv X pins σ H1 { s1 with heap := g } := I1.kept (t' := s1.toks) hk
      refine ⟨s1.heap.objs.size + 4, [s1.heap.objs.size + 4, s1.heap.objs.size + 2, s1.heap.objs.size + 3, s1.heap.objs.size, s1.heap.objs.size + 1], _, _, H1, rfl, I2, turn_zipK (PySem.W.ktu_apart s1.heap.objs.size a b ((wk t).sqLt p1) ((wk u).sqLt p2)), ⟨hz, hI, ⟨_, _, hU⟩, h1, h2⟩, fun c hc => ?_, q⟩
      have le : s1.heap.objs.size ≤ c := by
        simp only [List.mem_cons, List.not_mem_nil, or_false] at hc
        rcases hc with q | q | q | q | q <;> rw [q] <;> first | exact Nat.le_add_right _ _ | exact Nat.le_refl _
      exact I1.fpOk le (I1.hok.fresh le)
end CF
/-! CF15: what is walked. -/
namespace CF
open PySem PySem.Spec PyProof.Rows L2

/-- a walk gives the trees ds; G: what of it can be changed; Iv: what is to stay of the heap -/
structure Src (K : PySem.W.Frag) (J : It) (ds : List D) (G : List Addr) (Iv : Hp → Prop) : Prop where
  keep : ∀ {W : Addr → Prop} {H H' : Hp}, Iv H → Kp W H H' → (∀ a ∈ G, ¬ W a) → Iv H'
  go : ∀ i H, i < ds.length → Iv H → J.go i H
  stop : ∀ H, Iv H → J.stop ds.length H
  yld : ∀ i H x H', i < ds.length → Iv H → J.yld i H x H' → ∃ d Gi, ds[i]? = some d ∧ Rp K H' x d Gi ∧ (∀ a ∈ Gi, a ∈ G) ∧ Fr (fun _ => False) H H'
/-- what is walked is held -/
structure HoldC (F : Fx) (H : Hp) (ε : EnvT) (Fs : Nat → List Addr) (rd : List Nat) (f : Bool) (G : List Addr) : Prop where
  lv : ∀ a ∈ G, H a ≠ none
  fr : f = true → ∀ j, ∀ a ∈ G, a ∉ Fs j
  al : ∀ j, j ∉ rd → Own ε j → ∀ a ∈ G, a ∉ Fs j
abbrev kI (F : Fx) (H : Hp) (σ : L2.St) (ε : EnvT) (Fs : Nat → List Addr) (rd ef : List Nat) (R : It → Hp → Prop) : List D × Bool × EnvT → Prop := fun r => ∀ J H' Fs' G Iv, Seq F H σ ε Fs ef H' r.2.2 Fs' → Src F.K J r.1 G Iv → Iv H' → HoldC F H' r.2.2 Fs' rd r.2.1 G → (∀ a ∈ G, H a = none ∨ ∃ j, a ∈ Fs j) → R J H'
def tI (F : Fx) (rd ef : List Nat) (m : MI) : TI := fun σ H R => ∃ ε Fs, EnvR F H σ ε Fs ∧ W0 F H (kI F H σ ε Fs rd ef R) (m ε)
theorem _root_.L2.PI.imp {X : Cx} {tg it : Expr} {t t' : TI} (h : PI X tg it t) (i : ∀ σ H R, t' σ H R → t σ H R) : PI X tg it t' := ⟨fun pins s σ H R I q => h.run pins s σ H R I (i _ _ _ q)⟩
theorem _root_.L2.PI.or {X : Cx} {tg it : Expr} {t t' : TI} (h : PI X tg it t) (h' : PI X tg it t') : PI X tg it (fun σ H R => t σ H R ∨ t' σ H R) :=
  ⟨fun pins s σ H R I q => q.elim (h.run pins s σ H R I) (h'.run pins s σ H R I)⟩

section
variable {K : PySem.W.Frag} {H : Hp}
theorem atV {vs : List V} {ds : List D} {G : List Addr} (r : Rps K H vs ds G) {i : Nat} (h : i < ds.length) : ∃ x d Gi, vs[i]? = some x ∧ ds[i]? = some d ∧ Rp K H x d Gi ∧ ∀ a ∈ Gi, a ∈ G := by
  obtain ⟨x, Gi, e, q, s⟩ := r.get (List.getElem?_eq_getElem h)
  exact ⟨x, _, Gi, e, List.getElem?_eq_getElem h, q, s⟩
theorem src_list {p : Addr} {vs : List V} {ds : List D} {G : List Addr} (hl : vs.length = ds.length) : Src K (Itl K p) ds (p :: G) (fun H => H p = some (.lst vs) ∧ Rps K H vs ds G) where
  keep := fun ⟨h, r⟩ k n => ⟨k _ _ h fun w => absurd w (n _ List.mem_cons_self), r.keep k fun a m => n a (List.mem_cons_of_mem _ m)⟩
  go := fun i H hi ⟨h, r⟩ => ⟨vs, _, .inl (.inl h), List.getElem?_eq_getElem (by omega)⟩
  stop := fun H ⟨h, r⟩ => ⟨vs, .inl (.inl h), by omega⟩
  yld := fun i H x H' hi ⟨h, r⟩ ⟨e, y⟩ => by
    subst e
    obtain ⟨z, d, Gi, e1, e2, q, s⟩ := atV r hi
    have : z = x := Option.some.inj (e1.symm.trans (y vs (.inl (.inl h))))
    subst this
    exact ⟨d, Gi, e2, q, fun a m => List.mem_cons_of_mem _ (s a m), .refl⟩
theorem src_tup {p : Addr} {vs : List V} {ds : List D} {G : List Addr} (hl : vs.length = ds.length) : Src K (Itt K p) ds G (fun H => H p = some (.tup vs) ∧ Rps K H vs ds G) where
  keep := fun ⟨h, r⟩ k n => ⟨k _ _ h fun _ => trivial, r.keep k fun a m => n a m⟩
  go := fun i H hi ⟨h, r⟩ => ⟨vs, _, .inl (.inl h), List.getElem?_eq_getElem (by omega)⟩
  stop := fun H ⟨h, r⟩ => ⟨vs, .inl (.inl h), by omega⟩
  yld := fun i H x H' hi ⟨h, r⟩ ⟨e, y⟩ => by
    subst e
    obtain ⟨z, d, Gi, e1, e2, q, s⟩ := atV r hi
    have : z = x := Option.some.inj (e1.symm.trans (y vs (.inl (.inl h))))
    subst this
    exact ⟨d, Gi, e2, q, s, .refl⟩
theorem src_range {lo : Int} {n : Nat} : Src K (Itr lo n) ((List.range n).map fun k => .int (lo + (k : Nat))) [] (fun _ => True) where
  keep := fun _ _ _ => trivial
  go := fun i H hi _ => by simpa [Itr] using hi
  stop := fun H _ => by simp [Itr]
  yld := fun i H x H' hi _ ⟨e, y⟩ => by
    subst e; subst y
    have hi : i < n := by simpa using hi
    exact ⟨.int (lo + i), [], by simp [hi], .int _, nofun, .refl⟩
theorem src_str {z : Str} : Src K (Its z) (z.cps.toList.map fun c => .str ⟨#[c]⟩) [] (fun _ => True) where
  keep := fun _ _ _ => trivial
  go := fun i H hi _ => by simpa [Its] using hi
  stop := fun H _ => by simp [Its]
  yld := fun i H x H' hi _ ⟨e, c, ec, y⟩ => by
    subst e; subst y
    refine ⟨.str ⟨#[c]⟩, [], ?_, .str _, nofun, .refl⟩
    rw [List.getElem?_map, Array.getElem?_toList, ec]; rfl
end
section
variable {X : Cx} {F : Fx} {σ : L2.St} {H : Hp} {ε : EnvT} {Fs : Nat → List Addr} {rda rdb efa efb : List Nat} {ma mb : M} {a b tg : Expr} {p pos : Pos}
theorem PostE.holdC {v : V} {d : D} {f : Bool} {rd ef : List Nat} {G : List Addr} {H' : Hp} {ε' : EnvT} {Fs' : Nat → List Addr} (P : PostE F H σ ε Fs rd ef H' ε' Fs' v d f G) : HoldC F H' ε' Fs' rd (f || imm d) G :=
  ⟨fun a m => P.rp.live m, (fun e j a m => by
    rcases Bool.or_eq_true_iff.mp e with e | e
    · exact (P.fr e).2.2 j a m
    · rw [P.rp.imm e] at m; exact nomatch m), P.al⟩
theorem HoldC.nil {rd : List Nat} {f : Bool} : HoldC F H ε Fs rd f [] := ⟨nofun, fun _ _ => nofun, fun _ _ _ => nofun⟩
theorem xi_seq (g : Gd X F) (ha : PE X a (tE F rda efa ma)) : PI X tg a (tI F rda efa (iEx ma)) := by
  refine ((pi_list ha).or (pi_tup ha)).imp fun σ H R ⟨ε, Fs, Rv, h⟩ => ?_
  have h2 := W0.bind h
  cases e : ma ε with
  | no => rw [e] at h2; exact h2.elim
  | ex x => rw [e] at h2; exact .inl (tE.of Rv (by rw [e]; exact h2))
  | ok r =>
    rw [e] at h2
    obtain ⟨d, f, ε'⟩ := r
    cases d <;> first | exact h2.elim | skip
    · refine .inl (tE.of Rv ?_)
      rw [e]
      intro v H' Fs' G P
      have hc := P.holdC
      obtain ⟨pp, vs, G', rfl, hp, rfl, rr⟩ := P.held0.lst
      refine ⟨pp, rfl, ⟨vs, .inl (.inl hp)⟩, ?_⟩
      rw [g.K]
      exact h2 _ H' Fs' _ _ P.seq (src_list rr.rp.length) ⟨hp, rr.rp⟩ ⟨hc.lv, fun e => hc.fr (Bool.or_eq_true_iff.mpr (.inl e)), hc.al⟩ P.org
    · refine .inr (tE.of Rv ?_)
      rw [e]
      intro v H' Fs' G P
      have hc := P.holdC
      obtain ⟨pp, vs, rfl, hp, rr⟩ := P.held0.tup
      refine ⟨pp, rfl, ⟨vs, .inl (.inl hp)⟩, ?_⟩
      rw [g.K]
      exact h2 _ H' Fs' _ _ P.seq (src_tup rr.rp.length) ⟨hp, rr.rp⟩ ⟨hc.lv, fun e => hc.fr (by simpa [imm] using e), hc.al⟩ P.org
theorem xi_str (ha : PE X a (tE F rda efa ma)) : PI X tg a (tI F rda efa (iStr ma)) := by
  refine (pi_str ha).imp fun σ H R ⟨ε, Fs, Rv, h⟩ => ?_
  refine tE.go Rv h fun r v H' Fs' G e P q => ?_
  obtain ⟨d, f, ε'⟩ := r
  cases d <;> first | exact q.elim | skip
  rename_i s
  dsimp only at q
  by_cases c : small s.length = true
  · rw [if_pos c] at q
    exact ⟨s, P.held0.str, q _ H' Fs' [] _ P.seq src_str trivial .nil nofun⟩
  · rw [if_neg c] at q; exact q.elim
theorem xi_rng1 (hg : Gl X "range") (hm : X.mg "range" = none) (ha : PE X a (tE F rda efa ma)) (hs : starEach [a] X.env = (false, eval a X.env) :: starEach [] X.env := by rfl) :
    PI X tg (.Call (.Name "range" p) [a] [] pos) (tI F rda efa (iR1 ma)) := by
  refine (pi_range1 hg hm (pa_cons ha pa_nil hs) (by rw [hs]; rfl)).imp fun σ H R ⟨ε, Fs, Rv, h⟩ => ?_
  refine tE.go Rv h fun r v H' Fs' G e P q => ?_
  obtain ⟨d, f, ε'⟩ := r
  cases d <;> first | exact q.elim | skip
  rename_i j
  dsimp only at q
  by_cases c : -(2 ^ 62) ≤ j ∧ j < 2 ^ 62
  · rw [if_pos c] at q
    refine ⟨j, by rw [P.held0.int], c.1, c.2, q _ H' Fs' [] (fun _ => True) P.seq ?_ trivial .nil nofun⟩
    have := src_range (K := F.K) (lo := 0) (n := j.toNat)
    simpa using this
  · rw [if_neg c] at q; exact q.elim
theorem xi_rng2 (hg : Gl X "range") (hm : X.mg "range" = none) (ha : PE X a (tE F rda efa ma)) (hb : PE X b (tE F rdb efb mb)) (hs : starEach [a, b] X.env = (false, eval a X.env) :: starEach [b] X.env := by rfl) (hs2 : starEach [b] X.env = (false, eval b X.env) :: starEach [] X.env := by rfl) :
    PI X tg (.Call (.Name "range" p) [a, b] [] pos) (tI F (rda ++ rdb) (efa ++ efb) (iR2 ma mb)) := by
  refine (pi_range2 hg hm (pa_cons ha (pa_cons hb pa_nil hs2) hs) (by rw [hs, hs2]; rfl) (by rw [hs2]; rfl)).imp fun σ H R ⟨ε, Fs, Rv, h⟩ => ?_
  refine tE.go Rv h fun r v H' Fs' G e P q => ?_
  refine tE.of P.env (((W0.bind q).later (P.kw Rv)).imp fun r2 e2 q v2 H2 Fs2 G2 P2 => ?_)
  obtain ⟨d, f, ε'⟩ := r
  obtain ⟨d2, f2, ε2⟩ := r2
  cases d with
  | int i => cases d2 with
    | int j =>
      dsimp only at q
      by_cases c : -(2 ^ 62) ≤ i ∧ i < 2 ^ 62 ∧ -(2 ^ 62) ≤ j ∧ j < 2 ^ 62
      · rw [if_pos c] at q
        exact ⟨i, j, by rw [P.held0.int, P2.held0.int], c, q _ H2 Fs2 [] (fun _ => True) (P.seq.two P2.seq) src_range trivial .nil nofun⟩
      · rw [if_neg c] at q; exact q.elim
    | _ => exact q.elim
  | _ => cases d2 <;> exact q.elim
end
/-- a list or a tuple, as it stands -/
def SkAt (t : Bool) (p : Addr) (vs : List V) (H : Hp) : Prop := match t with
  | false => H p = some (.lst vs)
  | true => H p = some (.tup vs)
theorem SkAt.sk {t : Bool} {K : PySem.W.Frag} {p : Addr} {vs : List V} {H : Hp} (h : SkAt t p vs H) : Sk t K H p vs := by
  cases t with
  | false => exact .inl (.inl h)
  | true => exact .inl (.inl h)
theorem SkAt.keep {t : Bool} {p : Addr} {vs : List V} {H H' : Hp} {W : Addr → Prop} (h : SkAt t p vs H) (k : Kp W H H') (n : t = false → ¬ W p) : SkAt t p vs H' := by
  cases t with
  | false => exact k _ _ h fun w => absurd w (n rfl)
  | true => exact k _ _ h fun _ => trivial
section
variable {X : Cx} {F : Fx} {σ : L2.St} {H : Hp} {ε : EnvT} {Fs : Nat → List Addr} {rda rdb efa efb : List Nat} {ma mb : M} {a b tg : Expr} {p pos : Pos}
theorem Held.seqK {rd : List Nat} {v : V} {d : D} {f : Bool} {G : List Addr} {xs : List D} (h : Held F H ε Fs rd v d f G) (e : seqOf d = some xs) :
    ∃ t p vs G', v = .ref p ∧ SkAt t p vs H ∧ Rps F.K H vs xs G' ∧ (∀ a ∈ G', a ∈ G) ∧ (t = false → p ∈ G) := by
  cases d <;> first | (simp [seqOf] at e; done) | skip
  · cases e
    obtain ⟨p, vs, G', rfl, hp, rfl, r⟩ := h.lst
    exact ⟨false, p, vs, G', rfl, hp, r.rp, fun a m => List.mem_cons_of_mem _ m, fun _ => List.mem_cons_self⟩
  · cases e
    obtain ⟨p, vs, rfl, hp, r⟩ := h.tup
    exact ⟨true, p, vs, G, rfl, hp, r.rp, fun a m => m, nofun⟩
theorem src_zip {K : PySem.W.Frag} {t u : Bool} {pa pb : Addr} {va vb : List V} {xs ys : List D} {G1 G2 Ga Gb : List Addr} (la : va.length = xs.length) (lb : vb.length = ys.length) (sa : ∀ a ∈ Ga, a ∈ G1) (sb : ∀ a ∈ Gb, a ∈ G2) (ta : t = false → pa ∈ G1) (tb : u = false → pb ∈ G2) :
    Src K (ItzK t u K pa pb) ((xs.zip ys).map fun z => .tuple [z.1, z.2]) (G1 ++ G2) (fun H => (SkAt t pa va H ∧ Rps K H va xs Ga) ∧ SkAt u pb vb H ∧ Rps K H vb ys Gb) where
  keep := fun ⟨⟨h1, r1⟩, h2, r2⟩ k n => ⟨⟨h1.keep k fun e => n _ (List.mem_append_left _ (ta e)), r1.keep k fun a m => n a (List.mem_append_left _ (sa a m))⟩, h2.keep k fun e => n _ (List.mem_append_right _ (tb e)), r2.keep k fun a m => n a (List.mem_append_right _ (sb a m))⟩
  go := fun i H hi ⟨⟨h1, r1⟩, h2, r2⟩ => by
    simp only [List.length_map, List.length_zip] at hi
    exact ⟨va, vb, _, _, h1.sk, h2.sk, List.getElem?_eq_getElem (by omega), List.getElem?_eq_getElem (by omega)⟩
  stop := fun H ⟨⟨h1, r1⟩, h2, r2⟩ => ⟨va, vb, h1.sk, h2.sk, by simp only [List.length_map, List.length_zip]; omega⟩
  yld := fun i H x H' hi ⟨⟨h1, r1⟩, h2, r2⟩ ⟨T, y, z, e, n, e', f1, f2⟩ => by
    subst e; subst e'
    simp only [List.length_map, List.length_zip] at hi
    obtain ⟨y', d1, g1, a1, b1, q1, s1⟩ := atV r1 (i := i) (by omega)
    obtain ⟨z', d2, g2, a2, b2, q2, s2⟩ := atV r2 (i := i) (by omega)
    obtain rfl : y' = y := Option.some.inj (a1.symm.trans (f1 _ h1.sk))
    obtain rfl : z' = z := Option.some.inj (a2.symm.trans (f2 _ h2.sk))
    have fr : Fr (fun _ => False) H (upd H T (.tup [y', z'])) := Fr.new n
    refine ⟨.tuple [d1, d2], g1 ++ g2, ?_, .tup upd_same ?_, fun a m => ?_, fr⟩
    · rw [List.getElem?_map, (List.getElem?_zip_eq_some (z := (d1, d2))).mpr ⟨b1, b2⟩]; rfl
    · have := Rps.cons (q1.keep fr.kp fun _ _ z => z) (Rps.one (q2.keep fr.kp fun _ _ z => z))
      exact this
    · rcases List.mem_append.mp m with m | m
      · exact List.mem_append_left _ (sa a (s1 a m))
      · exact List.mem_append_right _ (sb a (s2 a m))
theorem xi_zip {es : List Expr} {kk : Nat} {tp : Pos} (g : Gd X F) (h : Bool) (hg : Gl X "zip") (hm : X.mg "zip" = none) (ha : PE X a (tE F rda efa ma)) (hb : PE X b (tE F rdb efb mb)) (hh : h = true ∨ ∀ j ∈ efb, j ∉ rda)
    (hs : starEach [a, b] X.env = (false, eval a X.env) :: starEach [b] X.env := by rfl) (hs2 : starEach [b] X.env = (false, eval b X.env) :: starEach [] X.env := by rfl) :
    PI X (.Tuple es kk tp) (.Call (.Name "zip" p) [a, b] [] pos) (tI F (rda ++ rdb) (efa ++ efb) (iZip ma mb h)) := by
  refine (pi_zipK hg hm (pa_cons ha (pa_cons hb pa_nil hs2) hs) hs (by rw [hs2]; rfl)).imp fun σ H R ⟨ε, Fs, Rv, q⟩ => ?_
  refine tE.go Rv q fun r v H' Fs' G e P q => ?_
  refine tE.of P.env (((W0.bind q).later (P.kw Rv)).imp fun r2 e2 q v2 H2 Fs2 G2 P2 => ?_)
  have hc : W0 F H _ (hold h r.1 r.2.1) := W0.bind q
  have hold : (∀ j ∈ efb, j ∉ rda) ∨ imm r.1 = true ∨ r.2.1 = true := by
    rcases hh with rfl | hh
    · unfold CF.hold at hc
      by_cases c : (!true || imm r.1 || r.2.1) = true
      · right
        rcases Bool.or_eq_true_iff.mp c with c | c
        · exact .inl (by simpa using c)
        · exact .inr c
      · rw [if_neg c] at hc; exact hc.elim
    · exact .inl hh
  have h1 := P.held0.next P.env P2.kp P2.oo P2.fe hold
  have h2 := P2.held0
  have q : W0 F H (kI F H σ ε Fs (rda ++ rdb) (efa ++ efb) R) (match seqOf r.1, seqOf r2.1 with
    | some xs, some ys => .ok ((xs.zip ys).map fun z => .tuple [z.1, z.2], (r.2.1 || imm r.1) && (r2.2.1 || imm r2.1), r2.2.2)
    | _, _ => .no) := by
    cases e3 : CF.hold h r.1 r.2.1 with
    | ok _ => rw [e3] at q; exact q
    | ex x => unfold CF.hold at e3; split at e3 <;> cases e3
    | no => rw [e3] at hc; exact hc.elim
  cases e3 : seqOf r.1 with
  | none => rw [e3] at q; exact q.elim
  | some xs => cases e4 : seqOf r2.1 with
    | none => rw [e3, e4] at q; exact q.elim
    | some ys =>
      rw [e3, e4] at q
      obtain ⟨t, pa, va, Ga, rfl, s1, q1, i1, t1⟩ := h1.seqK e3
      obtain ⟨u, pb, vb, Gb, rfl, s2, q2, i2, t2⟩ := h2.seqK e4
      refine ⟨t, u, pa, pb, va, vb, rfl, s1.sk, s2.sk, ?_⟩
      rw [g.K]
      refine q _ H2 Fs2 (G ++ G2) _ (P.seq.two P2.seq) (src_zip q1.length q2.length i1 i2 t1 t2) ⟨⟨s1, q1⟩, s2, q2⟩ ⟨fun a m => ?_, fun e j a m => ?_, fun j hj o a m => ?_⟩ fun a m => ?_
      · rcases List.mem_append.mp m with m | m
        · exact h1.rp.live m
        · exact P2.rp.live m
      · obtain ⟨ea, eb⟩ := Bool.and_eq_true_iff.mp e
        rcases List.mem_append.mp m with m | m
        · rcases Bool.or_eq_true_iff.mp ea with ea | ea
          · exact (h1.fr ea).2.2 j a m
          · rw [h1.rp.imm ea] at m; exact nomatch m
        · exact P2.holdC.fr eb j a m
      · rcases List.mem_append.mp m with m | m
        · exact h1.al j (fun z => hj (List.mem_append_left _ z)) o a m
        · exact P2.al j (fun z => hj (List.mem_append_right _ z)) o a m
      · rcases List.mem_append.mp m with m | m
        · exact P.org a m
        · exact P.seq.org (P2.org a m)
end
end CF
/-! CF16: a target takes a value; the block of a comprehension. -/
namespace CF
open PySem PySem.Spec PyProof.Rows L2

/-- what a target is to take -/
structure HB (F : Fx) (H : Hp) (ε : EnvT) (Fs : Nat → List Addr) (f : Bool) (G : List Addr) : Prop where
  og : ∀ a ∈ G, F.Og a
  al : ∀ j, Own ε j → ∀ a ∈ G, a ∉ Fs j
  fr : f = true → G.Nodup ∧ (∀ a ∈ G, F.Wr a ∧ Unf H a) ∧ ∀ j, ∀ a ∈ G, a ∉ Fs j
/-- the slots behind it -/
structure BindR (F : Fx) (H : Hp) (σ : L2.St) (ε : EnvT) (Fs : Nat → List Addr) (is : List Nat) (f : Bool) (G : List Addr) (σ' : L2.St) (ε' : EnvT) (Fs' : Nat → List Addr) : Prop where
  env : EnvR F H σ' ε' Fs'
  len : σ'.length = σ.length ∧ ε'.length = ε.length
  out : ∀ j, j ∉ is → σ'[j]? = σ[j]? ∧ ε'[j]? = ε[j]? ∧ Fs' j = Fs j
  fs : ∀ j, ∀ a ∈ Fs' j, a ∈ Fs j ∨ a ∈ G
  ow : ∀ j, Own ε' j → ∀ a ∈ Fs' j, (Own ε j ∧ a ∈ Fs j) ∨ (f = true ∧ a ∈ G)
abbrev kB (F : Fx) (H : Hp) (σ : L2.St) (ε : EnvT) (Fs : Nat → List Addr) (is : List Nat) (f : Bool) (G : List Addr) (Q : L2.St → Hp → Prop) : EnvT → Prop := fun ε' => ∀ σ' Fs', BindR F H σ ε Fs is f G σ' ε' Fs' → Q σ' H
/-- the meaning of a target -/
def GS (F : Fx) (g : TG) (t : Tg) (is : List Nat) : Prop := ∀ {H : Hp} {σ : L2.St} {ε : EnvT} {Fs : Nat → List Addr} {v : V} {d : D} {f : Bool} {G : List Addr} {Q : L2.St → Hp → Prop}, EnvR F H σ ε Fs → Rp F.K H v d G → HB F H ε Fs f G → W0 F H (kB F H σ ε Fs is f G Q) (bindTg ε t d f) → g v σ H Q
def GSs (F : Fx) (g : TGs) (ts : List Tg) (is : List Nat) : Prop := ∀ {H : Hp} {σ : L2.St} {ε : EnvT} {Fs : Nat → List Addr} {vs : List V} {ds : List D} {f : Bool} {G : List Addr} {Q : L2.St → Hp → Prop}, EnvR F H σ ε Fs → Rps F.K H vs ds G → HB F H ε Fs f G → W0 F H (kB F H σ ε Fs is f G Q) (bindTgs ε ts ds f) → g vs σ H Q
section
variable {F : Fx} {H : Hp} {σ : L2.St} {ε : EnvT} {Fs : Nat → List Addr} {v : V} {d : D} {f : Bool} {G : List Addr}
theorem set_at {α : Type} {l : List α} {i j : Nat} {x y : α} (h : (l.set i x)[j]? = some y) : (j = i ∧ y = x) ∨ (j ≠ i ∧ l[j]? = some y) := by
  by_cases c : j = i
  · subst c
    by_cases hl : j < l.length
    · rw [List.getElem?_set_self hl] at h; exact .inl ⟨rfl, (Option.some.inj h).symm⟩
    · rw [List.getElem?_eq_none (by simp; omega)] at h; cases h
  · rw [List.getElem?_set_ne (Ne.symm c)] at h; exact .inr ⟨c, h⟩
/-- a slot takes a value -/
theorem EnvR.bind (R : EnvR F H σ ε Fs) (r : Rp F.K H v d G) (hb : HB F H ε Fs f G) {i : Nat} (hi : i < ε.length) (ni : i ∉ F.io) :
    BindR F H σ ε Fs [i] f G (σ.set i (some v)) (bindOne ε i d f) (fun j => if j = i then G else Fs j) := by
  have im : imm d = true → G = [] := r.imm
  have hs : i < σ.length := by rw [R.len]; exact hi
  have ow' : ∀ {j}, Own (bindOne ε i d f) j → (j = i ∧ (f = true ∨ G = [])) ∨ (j ≠ i ∧ Own ε j) := fun {j} ⟨x, e⟩ => by
    rcases set_at e with ⟨e1, e2⟩ | ⟨e1, e2⟩
    · refine .inl ⟨e1, ?_⟩
      have : (f || imm d) = true := by injection e2 with _ e3; exact e3.symm
      rcases Bool.or_eq_true_iff.mp this with h | h
      · exact .inl h
      · exact .inr (im h)
    · exact .inr ⟨e1, x, e2⟩
  refine ⟨⟨fun j x o e => ?_, fun j ns o e => ?_, fun j a m => ?_, fun j o => ?_, R.nw, fun j h => ?_, fun j hj => ?_, ?_⟩, ⟨List.length_set .., List.length_set ..⟩, fun j hj => ?_, fun j a m => ?_, fun j o a m => ?_⟩
  · rcases set_at e with ⟨e1, e2⟩ | ⟨e1, e2⟩
    · subst e1
      cases e2
      exact ⟨v, List.getElem?_set_self hs, by rw [if_pos rfl]; exact r⟩
    · obtain ⟨u, e3, q⟩ := R.d j x o e2
      exact ⟨u, by rw [List.getElem?_set_ne (Ne.symm e1)]; exact e3, by rw [if_neg e1]; exact q⟩
  · rcases set_at e with ⟨e1, e2⟩ | ⟨e1, e2⟩
    · cases e2
    · obtain ⟨a, e3, q⟩ := R.s j ns o e2
      exact ⟨a, by rw [List.getElem?_set_ne (Ne.symm e1)]; exact e3, q⟩
  · by_cases c : j = i
    · rw [if_pos c] at m; exact hb.og a m
    · rw [if_neg c] at m; exact R.og j a m
  · rcases ow' o with ⟨rfl, h⟩ | ⟨c, oj⟩
    · rw [if_pos rfl]
      rcases h with h | h
      · obtain ⟨f1, f2, f3⟩ := hb.fr h
        exact ⟨f1, f2, fun j' n a m => by rw [if_neg n]; exact f3 j' a m⟩
      · rw [h]; exact ⟨List.nodup_nil, nofun, fun _ _ => nofun⟩
    · rw [if_neg c]
      obtain ⟨f1, f2, f3⟩ := R.own j oj
      refine ⟨f1, f2, fun j' n a m => ?_⟩
      by_cases c' : j' = i
      · rw [if_pos c']; exact fun z => hb.al j oj a z m
      · rw [if_neg c']; exact f3 j' n a m
  · by_cases c : j = i
    · rw [if_pos c]
      subst c
      have hε : (bindOne ε j d f)[j]? = some (.v (.d d) (f || imm d)) := List.getElem?_set_self (by omega)
      exact absurd hε (h d _)
    · rw [if_neg c]; exact R.un j fun x o e => h x o (by unfold bindOne; rw [List.getElem?_set_ne (Ne.symm c)]; exact e)
  · have c : j ≠ i := fun z => ni (z ▸ hj)
    rw [List.getElem?_set_ne (Ne.symm c)]; exact R.io j hj
  · unfold bindOne; rw [List.length_set, List.length_set]; exact R.len
  · have c : j ≠ i := fun z => hj (by rw [z]; exact List.mem_cons_self)
    exact ⟨List.getElem?_set_ne (Ne.symm c), List.getElem?_set_ne (Ne.symm c), if_neg c⟩
  · by_cases c : j = i
    · rw [if_pos c] at m; exact .inr m
    · rw [if_neg c] at m; exact .inl m
  · rcases ow' o with ⟨rfl, h⟩ | ⟨c, oj⟩
    · rw [if_pos rfl] at m
      rcases h with h | h
      · exact .inr ⟨h, m⟩
      · rw [h] at m; exact nomatch m
    · rw [if_neg c] at m; exact .inl ⟨oj, m⟩
theorem gs_nm {i : Nat} (ni : i ∉ F.io) : GS F (gName i) (.nm i) [i] := fun {H σ ε Fs v d f G Q} R r hb h => by
  simp only [bindTg] at h
  by_cases c : i < ε.length
  · rw [if_pos c] at h; exact h _ _ (R.bind r hb c ni)
  · rw [if_neg c] at h; exact h.elim
theorem gs_nil : GSs F gNil [] [] := fun {H σ ε Fs vs ds f G Q} R r hb h => by
  cases r with
  | nil => exact ⟨rfl, h _ Fs ⟨R, ⟨rfl, rfl⟩, fun _ _ => ⟨rfl, rfl, rfl⟩, fun _ _ m => .inl m, fun _ o _ m => .inl ⟨o, m⟩⟩⟩
  | cons _ _ => exact h.elim
theorem HB.part {G1 G2 : List Addr} (hb : HB F H ε Fs f (G1 ++ G2)) : HB F H ε Fs f G1 ∧ (f = true → ∀ a ∈ G1, a ∉ G2) :=
  ⟨⟨fun a m => hb.og a (List.mem_append_left _ m), fun j o a m => hb.al j o a (List.mem_append_left _ m), fun e => ⟨(List.nodup_append.mp (hb.fr e).1).1, fun a m => (hb.fr e).2.1 a (List.mem_append_left _ m), fun j a m => (hb.fr e).2.2 j a (List.mem_append_left _ m)⟩⟩,
    fun e a m m' => (List.nodup_append.mp (hb.fr e).1).2.2 a m a m' rfl⟩
theorem gs_cons {g : TG} {gs : TGs} {t : Tg} {ts : List Tg} {is js : List Nat} (h1 : GS F g t is) (h2 : GSs F gs ts js) : GSs F (gCons g gs) (t :: ts) (is ++ js) := fun {H σ ε Fs vs ds f G Q} R r hb h => by
  cases r with
  | nil => exact h.elim
  | @cons v vs d ds G1 G2 r rs =>
    refine ⟨v, vs, rfl, ?_⟩
    obtain ⟨hb1, dj⟩ := hb.part
    refine h1 R r hb1 ((W0.bind h).imp fun ε1 _ h σ1 Fs1 B => ?_)
    have hb2 : HB F H ε1 Fs1 f G2 := by
      refine ⟨fun a m => hb.og a (List.mem_append_right _ m), fun j o a m z => ?_, fun e => ⟨(List.nodup_append.mp (hb.fr e).1).2.1, fun a m => (hb.fr e).2.1 a (List.mem_append_right _ m), fun j a m z => ?_⟩⟩
      · rcases B.ow j o a z with ⟨o', z⟩ | ⟨e, z⟩
        · exact hb.al j o' a (List.mem_append_right _ m) z
        · exact dj e a z m
      · rcases B.fs j a z with z | z
        · exact (hb.fr e).2.2 j a (List.mem_append_right _ m) z
        · exact dj e a z m
    refine h2 B.env rs hb2 (h.imp fun ε2 _ h σ2 Fs2 C => h σ2 Fs2 ⟨C.env, ⟨C.len.1.trans B.len.1, C.len.2.trans B.len.2⟩, fun j hj => ?_, fun j a m => ?_, fun j o a m => ?_⟩)
    · obtain ⟨b1, b2, b3⟩ := B.out j fun z => hj (List.mem_append_left _ z)
      obtain ⟨c1, c2, c3⟩ := C.out j fun z => hj (List.mem_append_right _ z)
      exact ⟨c1.trans b1, c2.trans b2, c3.trans b3⟩
    · rcases C.fs j a m with m | m
      · exact (B.fs j a m).imp id fun m => List.mem_append_left _ m
      · exact .inr (List.mem_append_right _ m)
    · rcases C.ow j o a m with ⟨o, m⟩ | ⟨e, m⟩
      · exact (B.ow j o a m).imp id fun ⟨e, m⟩ => ⟨e, List.mem_append_left _ m⟩
      · exact .inr ⟨e, List.mem_append_right _ m⟩
mutual
theorem bindTg_nox : ∀ (t : Tg) {ε : EnvT} {d : D} {f : Bool} {x : Xc}, bindTg ε t d f ≠ .ex x
  | .nm i, ε, d, f, x => by
    simp only [bindTg]
    split <;> nofun
  | .tup ts, ε, .tuple ds, f, x => by
    simp only [bindTg]
    exact bindTgs_nox ts
  | .tup ts, ε, .none, f, x => nofun
  | .tup ts, ε, .bool _, f, x => nofun
  | .tup ts, ε, .int _, f, x => nofun
  | .tup ts, ε, .str _, f, x => nofun
  | .tup ts, ε, .list _, f, x => nofun
  | .tup ts, ε, .dict _, f, x => nofun
theorem bindTgs_nox : ∀ (ts : List Tg) {ε : EnvT} {ds : List D} {f : Bool} {x : Xc}, bindTgs ε ts ds f ≠ .ex x
  | [], ε, [], f, x => nofun
  | [], ε, _ :: _, f, x => nofun
  | t :: ts, ε, [], f, x => nofun
  | t :: ts, ε, d :: ds, f, x => by
    simp only [bindTgs]
    cases e : bindTg ε t d f with
    | ok ε1 => exact bindTgs_nox ts
    | ex y => exact absurd e (bindTg_nox t)
    | no => nofun
end
theorem gs_tup {gs : TGs} {ts : List Tg} {is : List Nat} {n : Nat} {K : PySem.W.Frag} (hK : K = F.K) (h1 : GSs F gs ts is) (hn : ts.length = n) : GS F (gTup K n gs) (.tup ts) is := fun {H σ ε Fs v d f G Q} R r hb h => by
  cases d <;> first | exact h.elim | skip
  rename_i ds
  have key : ∀ {ts : List Tg} {ds : List D} {ε ε' : EnvT}, bindTgs ε ts ds f = .ok ε' → ds.length = ts.length := by
    intro ts
    induction ts with
    | nil => intro ds ε ε' e; cases ds with
      | nil => rfl
      | cons _ _ => cases e
    | cons t ts ih => intro ds ε ε' e; cases ds with
      | nil => cases e
      | cons d ds =>
        simp only [bindTgs] at e
        cases e1 : bindTg ε t d f with
        | ok ε1 => rw [e1] at e; rw [List.length_cons, List.length_cons, ih e]
        | ex x => rw [e1] at e; cases e
        | no => rw [e1] at e; cases e
  cases r with
  | @tup a vs ds _ ha q =>
    refine ⟨a, vs, rfl, .inl (.inl ha), ?_, h1 R q hb h⟩
    cases e : bindTgs ε ts ds f with
    | ok ε' => rw [q.length, key e, hn]
    | no => simp only [bindTg, e] at h; exact h.elim
    | ex x => exact absurd e (bindTgs_nox ts)
end
end CF
/-! CF17: comprehensions. -/
namespace CF
open PySem PySem.Spec PyProof.Rows L2

section
variable {F : Fx} {H H1 H2 : Hp} {σ σ2 : L2.St} {ε ε1 ε2 : EnvT} {Fs Fs1 Fs2 : Nat → List Addr} {rd ef vs : List Nat} {L : Addr}
/-! ### slots wiped, slots as they were -/
theorem wipeE_len : ∀ {vs : List Nat}, (wipeE ε vs).length = ε.length
  | [] => rfl
  | _ :: vs => by unfold wipeE; rw [List.length_set]; exact wipeE_len
theorem wipeE_out {j : Nat} : ∀ {vs : List Nat}, j ∉ vs → (wipeE ε vs)[j]? = ε[j]?
  | [], _ => rfl
  | v :: vs, h => by
    unfold wipeE
    rw [List.getElem?_set_ne fun e => h (by rw [e]; exact List.mem_cons_self)]
    exact wipeE_out fun m => h (List.mem_cons_of_mem _ m)
theorem wipeE_in {j : Nat} {x : Val} {o : Bool} : ∀ {vs : List Nat}, j ∈ vs → (wipeE ε vs)[j]? ≠ some (.v x o)
  | v :: vs, m, e => by
    unfold wipeE at e
    rcases set_at e with ⟨_, e2⟩ | ⟨e1, e2⟩
    · cases e2
    · rcases List.mem_cons.mp m with z | z
      · exact e1 z
      · exact wipeE_in z e2
theorem wipe_len : ∀ {vs : List Nat}, (wipe σ vs).length = σ.length := fun {vs} => wipe_length σ vs
theorem own_wipe {j : Nat} (o : Own (wipeE ε vs) j) : j ∉ vs ∧ Own ε j := by
  obtain ⟨x, e⟩ := o
  have n : j ∉ vs := fun m => wipeE_in m e
  exact ⟨n, x, by rw [← wipeE_out n]; exact e⟩
theorem EnvR.wipe (R : EnvR F H σ ε Fs) (io : ∀ i ∈ F.io, i ∉ vs) : EnvR F H (wipe σ vs) (wipeE ε vs) (fun j => if j ∈ vs then [] else Fs j) := by
  refine ⟨fun j x o e => ?_, fun j ns o e => ?_, fun j a m => ?_, fun j o => ?_, R.nw, fun j h => ?_, fun j hj => ?_, by rw [wipe_len, wipeE_len]; exact R.len⟩
  · have n : j ∉ vs := fun m => wipeE_in m e
    rw [wipeE_out n] at e
    obtain ⟨v, e1, r⟩ := R.d j x o e
    exact ⟨v, by rw [wipe_out n]; exact e1, by rw [if_neg n]; exact r⟩
  · have n : j ∉ vs := fun m => wipeE_in m e
    rw [wipeE_out n] at e
    obtain ⟨a, e1, r⟩ := R.s j ns o e
    exact ⟨a, by rw [wipe_out n]; exact e1, r⟩
  · by_cases n : j ∈ vs
    · rw [if_pos n] at m; exact nomatch m
    · rw [if_neg n] at m; exact R.og j a m
  · obtain ⟨n, o⟩ := own_wipe o
    rw [if_neg n]
    obtain ⟨f1, f2, f3⟩ := R.own j o
    refine ⟨f1, f2, fun j' n' a m => ?_⟩
    by_cases c : j' ∈ vs
    · rw [if_pos c]; exact List.not_mem_nil
    · rw [if_neg c]; exact f3 j' n' a m
  · by_cases n : j ∈ vs
    · rw [if_pos n]
    · rw [if_neg n]; exact R.un j fun x o e => h x o (by rw [wipeE_out n]; exact e)
  · rw [wipe_out (io j hj)]; exact R.io j hj
theorem restE_len {ε0 : EnvT} : ∀ {vs : List Nat}, (restE ε ε0 vs).length = ε.length
  | [] => rfl
  | _ :: vs => by unfold restE; rw [List.length_set]; exact restE_len
theorem restE_out {ε0 : EnvT} {j : Nat} : ∀ {vs : List Nat}, j ∉ vs → (restE ε ε0 vs)[j]? = ε[j]?
  | [], _ => rfl
  | v :: vs, h => by
    unfold restE
    rw [List.getElem?_set_ne fun e => h (by rw [e]; exact List.mem_cons_self)]
    exact restE_out fun m => h (List.mem_cons_of_mem _ m)
theorem restE_in {ε0 : EnvT} {j : Nat} {x : Val} {o : Bool} : ∀ {vs : List Nat}, j ∈ vs → (restE ε ε0 vs)[j]? = some (.v x o) → ε0[j]? = some (.v x o)
  | v :: vs, m, e => by
    unfold restE at e
    rcases set_at e with ⟨e1, e2⟩ | ⟨e1, e2⟩
    · subst e1
      rw [List.getD_eq_getElem?_getD] at e2
      cases q : ε0[j]? with
      | none => rw [q] at e2; cases e2
      | some z => rw [q] at e2; exact congrArg some e2.symm
    · rcases List.mem_cons.mp m with z | z
      · exact absurd z e1
      · exact restE_in z e2
theorem free_nil (R : EnvR F H σ ε Fs) {j : Nat} (h : freeSlot ε j = true) : Fs j = [] := by
  unfold freeSlot at h
  cases e : ε[j]? with
  | none => exact R.un j fun x o z => by rw [e] at z; cases z
  | some s => cases s with
    | un => exact R.un j fun x o z => by rw [e] at z; cases z
    | v x o => cases x with
      | d d =>
        rw [e] at h
        obtain ⟨v, _, r⟩ := R.d j d o e
        exact r.imm h
      | s ns => rw [e] at h; exact nomatch h

/-- what a loop leaves, the list at L written -/
structure SeqD (F : Fx) (H : Hp) (σ : L2.St) (ε : EnvT) (Fs : Nat → List Addr) (ef : List Nat) (L : Addr) (H' : Hp) (ε' : EnvT) (Fs' : Nat → List Addr) : Prop where
  env : EnvR F H' σ ε' Fs'
  kp : Fr (fun a => a = L ∨ ∃ j ∈ ef, Own ε j ∧ a ∈ Fs j) H H'
  oo : ∀ j, Own ε' j → Own ε j
  fe : ∀ j, ∀ a ∈ Fs' j, H a = none ∨ a ∈ Fs j ∨ (j ∈ ef ∧ ∃ j' ∈ ef, Own ε j' ∧ a ∈ Fs j')
  ne : ∀ j, ¬ Own ε j → Fs' j = Fs j
theorem SeqD.refl (R : EnvR F H σ ε Fs) : SeqD F H σ ε Fs ef L H ε Fs := ⟨R, .refl, fun _ o => o, fun _ _ m => .inr (.inl m), fun _ _ => rfl⟩
theorem Seq.toD (S : Seq F H σ ε Fs ef H1 ε1 Fs1) : SeqD F H σ ε Fs ef L H1 ε1 Fs1 := ⟨S.env, S.kp.mono fun _ z => .inr z, S.oo, S.fe, S.ne⟩
theorem SeqD.mono {ef1 : List Nat} (P : SeqD F H σ ε Fs ef1 L H1 ε1 Fs1) (h2 : ∀ j ∈ ef1, j ∈ ef) : SeqD F H σ ε Fs ef L H1 ε1 Fs1 :=
  ⟨P.env, P.kp.mono fun _ z => z.imp id fun ⟨j, m, q⟩ => ⟨j, h2 j m, q⟩, P.oo, fun j a m => (P.fe j a m).imp id fun z => z.imp id fun ⟨w, j', m', q⟩ => ⟨h2 j w, j', h2 j' m', q⟩, P.ne⟩
theorem SeqD.trans (P : SeqD F H σ ε Fs ef L H1 ε1 Fs1) (Q : SeqD F H1 σ ε1 Fs1 ef L H2 ε2 Fs2) : SeqD F H σ ε Fs ef L H2 ε2 Fs2 := by
  have back : ∀ a, (∃ j ∈ ef, Own ε1 j ∧ a ∈ Fs1 j) → (∃ j ∈ ef, Own ε j ∧ a ∈ Fs j) ∨ H a = none := fun a ⟨j, hj, o, m⟩ => by
    rcases P.fe j a m with z | z | ⟨_, j', hj', o', z⟩
    · exact .inr z
    · exact .inl ⟨j, hj, P.oo j o, z⟩
    · exact .inl ⟨j', hj', o', z⟩
  refine ⟨Q.env, ⟨fun a o e w => ?_, fun a e => P.kp.live a (Q.kp.live a e)⟩, fun j o => P.oo j (Q.oo j o), fun j a m => ?_, fun j n => (Q.ne j fun o => n (P.oo j o)).trans (P.ne j n)⟩
  · refine Q.kp.kp a o (P.kp.kp a o e w) fun z => ?_
    rcases z with z | z
    · exact w (.inl z)
    · rcases back a z with z | z
      · exact w (.inr z)
      · rw [e] at z; cases z
  · rcases Q.fe j a m with z | z | ⟨hj, j', hj', o, z⟩
    · exact .inl (P.kp.live a z)
    · exact P.fe j a z
    · rcases back a ⟨j', hj', o, z⟩ with ⟨j'', hj'', o'', z⟩ | z
      · exact .inr (.inr ⟨hj, j'', hj'', o'', z⟩)
      · exact .inl z
/-- L was not there -/
theorem SeqD.seq (S : SeqD F H σ ε Fs ef L H1 ε1 Fs1) (n : H L = none) : Seq F H σ ε Fs ef H1 ε1 Fs1 :=
  ⟨S.env, ⟨fun a o e w => S.kp.kp a o e fun z => by
    rcases z with z | z
    · rw [z, n] at e; cases e
    · exact w z, S.kp.live⟩, S.oo, S.fe, S.ne⟩
theorem kpD {q q' : HO} (e : H L = some q) (nt : ¬ isT q) : Fr (fun a => a = L) H (upd H L q') := ⟨fun a o h w => by
  by_cases c : a = L
  · subst c; rw [e] at h; cases h; exact (nt (w rfl)).elim
  · rw [upd_ne c]; exact h, fun a h => by
  by_cases c : a = L
  · subst c; rw [upd_same] at h; cases h
  · rw [upd_ne c] at h; exact h⟩
theorem EnvR.updD {q q' : HO} (R : EnvR F H σ ε Fs) (e : H L = some q) (nt : ¬ isT q) (n : ∀ j, L ∉ Fs j) (w : F.Wr L) : EnvR F (upd H L q') σ ε Fs := by
  have k := kpD (q' := q') e nt
  have nD : ∀ j, ∀ a ∈ Fs j, ¬ a = L := fun j a m z => n j (z ▸ m)
  refine ⟨fun i x o e => ?_, fun i ns o e => ?_, R.og, fun i o => ?_, fun a h => R.nw a (k.live a h), R.un, R.io, R.len⟩
  · obtain ⟨v, e1, r⟩ := R.d i x o e
    exact ⟨v, e1, r.keep k.kp (nD i)⟩
  · obtain ⟨a, e1, r, q, z⟩ := R.s i ns o e
    rcases q with ⟨q1, q2⟩ | q
    · have na : ¬ a = L := fun c => q2 (c ▸ w)
      exact ⟨a, e1, .inl (k.kp.rd q1 na), .inl ⟨k.kp.rd q1 na, q2⟩, z⟩
    · exact ⟨a, e1, q _, .inr q, z⟩
  · obtain ⟨f1, f2, f3⟩ := R.own i o
    exact ⟨f1, fun a m => ⟨(f2 a m).1, (f2 a m).2.keep k.kp (nD i a m) (R.live m)⟩, f3⟩
end
/-! ### the values that have come -/
section
variable {F : Fx} {H H1 H2 : Hp} {σ σ2 : L2.St} {ε ε1 ε2 : EnvT} {Fs Fs1 Fs2 : Nat → List Addr} {rd ef vs : List Nat} {L : Addr} {acc : List V} {ads : List (D × Bool)} {Ga Ge : List Addr}
theorem HeldL.map {H' : Hp} {ε' : EnvT} {Fs' : Nat → List Addr} {rd' : List Nat} (h : HeldL F H ε Fs rd acc ads Ga) (i : ∀ {v d f G}, (d, f) ∈ ads → (∀ a ∈ G, a ∈ Ga) → Held F H ε Fs rd v d f G → Held F H' ε' Fs' rd' v d f G) : HeldL F H' ε' Fs' rd' acc ads Ga := by
  induction h with
  | nil => exact .nil
  | cons a b c ih => exact .cons (i List.mem_cons_self (fun x m => List.mem_append_left _ m) a) (ih fun m s q => i (List.mem_cons_of_mem _ m) (fun x m => List.mem_append_right _ (s x m)) q) c
theorem HeldL.snoc {v : V} {d : D} {f : Bool} {G : List Addr} (h : HeldL F H ε Fs rd acc ads Ga) (q : Held F H ε Fs rd v d f G) (dj : ∀ {v d G'}, (∀ a ∈ G', a ∈ Ga) → Held F H ε Fs rd v d true G' → ∀ a ∈ G', a ∉ G) : HeldL F H ε Fs rd (acc ++ [v]) (ads ++ [(d, f)]) (Ga ++ G) := by
  induction h with
  | nil => 
    have := HeldL.cons q .nil (fun _ _ _ => List.not_mem_nil)
    simpa using this
  | @cons v1 vs1 d1 f1 ds1 G1 G2 a b c ih =>
    have := HeldL.cons a (ih fun s q => dj (fun x m => List.mem_append_right _ (s x m)) q) (fun e x m z => by
      rcases List.mem_append.mp z with z | z
      · exact c e x m z
      · subst e; exact dj (fun x m => List.mem_append_left _ m) a x m z)
    simpa [List.append_assoc] using this
theorem HeldL.mapSnoc {H' : Hp} {ε' : EnvT} {Fs' : Nat → List Addr} {rd' : List Nat} {v : V} {d : D} {f : Bool} {G : List Addr} (h : HeldL F H ε Fs rd acc ads Ga) (i : ∀ {v d f G}, (d, f) ∈ ads → (∀ a ∈ G, a ∈ Ga) → Held F H ε Fs rd v d f G → Held F H' ε' Fs' rd' v d f G)
    (q : Held F H' ε' Fs' rd' v d f G) (dj : ∀ {v d G'}, (∀ a ∈ G', a ∈ Ga) → Held F H ε Fs rd v d true G' → ∀ a ∈ G', a ∉ G) : HeldL F H' ε' Fs' rd' (acc ++ [v]) (ads ++ [(d, f)]) (Ga ++ G) := by
  induction h with
  | nil =>
    have := HeldL.cons q .nil (fun _ _ _ => List.not_mem_nil)
    simpa using this
  | @cons v1 vs1 d1 f1 ds1 G1 G2 a b c ih =>
    have := HeldL.cons (i List.mem_cons_self (fun x m => List.mem_append_left _ m) a) (ih (fun m s q => i (List.mem_cons_of_mem _ m) (fun x m => List.mem_append_right _ (s x m)) q) fun s q => dj (fun x m => List.mem_append_right _ (s x m)) q) (fun e x m z => by
      rcases List.mem_append.mp z with z | z
      · exact c e x m z
      · subst e; exact dj (fun x m => List.mem_append_left _ m) a x m z)
    simpa [List.append_assoc] using this
theorem HeldL.live (h : HeldL F H ε Fs rd acc ads Ga) : ∀ a ∈ Ga, H a ≠ none := by
  induction h with
  | nil => exact nofun
  | cons a b c ih => exact fun x m => (List.mem_append.mp m).elim (fun m => a.rp.live m) (ih x)
/-- the slots, and Ge behind them -/
def ghost (n : Nat) (Ge : List Addr) (Fs : Nat → List Addr) : Nat → List Addr := fun j => if j = n then Ge else Fs j
end
/-- what is in the making: how it stands in the heap, what may come, how many -/
structure Kd where
  rep : Addr → List V → HO → Prop
  P : D → Bool
  bd : Nat
  nt : ∀ {L : Addr} {acc : List V} {o : HO}, rep L acc o → ¬ isT o
def kdL : Kd := ⟨fun _ acc o => o = .lst acc, fun _ => true, sizeLine, fun e z => by subst e; exact z⟩
/-- the thing at L, in the making; Ge: what of the walked may be in slots -/
structure Acc (kd : Kd) (F : Fx) (H : Hp) (ε : EnvT) (Fs : Nat → List Addr) (rd ef : List Nat) (Ge : List Addr) (L : Addr) (acc : List V) (ads : List (D × Bool)) (Ga : List Addr) : Prop where
  at' : ∃ o, H L = some o ∧ kd.rep L acc o
  out : ∀ j, L ∉ Fs j
  hl : HeldL F H ε (ghost ε.length Ge Fs) rd acc ads Ga
  nd : L ∉ Ga ∧ L ∉ Ge ∧ F.Wr L
  im : (∀ j ∈ ef, j ∉ rd) ∨ ∀ p ∈ ads, imm p.1 = true ∨ p.2 = true
  gl : ∀ a ∈ Ge, H a ≠ none
  go : ∀ j, Own ε j → ∀ a ∈ Ge, a ∉ Fs j
section
variable {kd : Kd} {F : Fx} {H H1 H2 : Hp} {σ σ2 : L2.St} {ε ε1 ε2 : EnvT} {Fs Fs1 Fs2 : Nat → List Addr} {rd ef vs : List Nat} {L : Addr} {acc : List V} {ads : List (D × Bool)} {Ga Ge : List Addr}
theorem own_lt' {j : Nat} (o : Own ε j) : j ≠ ε.length := Nat.ne_of_lt o.lt
theorem live_of {W : Addr → Prop} (k : Fr W H H1) {a : Addr} (n : H a ≠ none) : H1 a ≠ none := fun e => n (k.live a e)
theorem Acc.some (A : Acc kd F H ε Fs rd ef Ge L acc ads Ga) (n : H L = none) : False := by
  obtain ⟨o, e, _⟩ := A.at'
  rw [n] at e; cases e
theorem Acc.held (A : Acc kd F H ε Fs rd ef Ge L acc ads Ga) (S : Seq F H σ ε Fs ef H1 ε1 Fs1) (hl : ε1.length = ε.length) : ∀ {v d f G}, (d, f) ∈ ads → (∀ a ∈ G, a ∈ Ga) → Held F H ε (ghost ε.length Ge Fs) rd v d f G → Held F H1 ε1 (ghost ε1.length Ge Fs1) rd v d f G := fun {v d f G} m s h => by
  rw [hl]
  refine h.next' (ef2 := ef) (S.kp.mono fun a ⟨j, m, o, w⟩ => ⟨j, m, o, ?_⟩) S.oo (fun j a m => ?_) ?_
  · unfold ghost; rw [if_neg (own_lt' o)]; exact w
  · unfold ghost at m ⊢
    by_cases c : j = ε.length
    · rw [if_pos c] at m ⊢; exact .inr (.inl m)
    · rw [if_neg c] at m ⊢
      rcases S.fe j a m with z | z | ⟨z1, j', z2, z3, z4⟩
      · exact .inl z
      · exact .inr (.inl z)
      · exact .inr (.inr ⟨z1, j', z2, z3, by rw [if_neg (own_lt' z3)]; exact z4⟩)
  · rcases A.im with q | q
    · exact .inl q
    · exact .inr (q _ m)
/-- an effect of the body -/
theorem Acc.seq (A : Acc kd F H ε Fs rd ef Ge L acc ads Ga) (S : Seq F H σ ε Fs ef H1 ε1 Fs1) (hl : ε1.length = ε.length) : Acc kd F H1 ε1 Fs1 rd ef Ge L acc ads Ga := by
  have nW : ¬ ∃ j ∈ ef, Own ε j ∧ L ∈ Fs j := fun ⟨j, _, _, m⟩ => A.out j m
  have out : ∀ j, L ∉ Fs1 j := fun j m => by
    rcases S.fe j L m with z | z | ⟨_, j', _, _, z⟩
    · exact A.some z
    · exact A.out j z
    · exact A.out j' z
  obtain ⟨o, eo, ro⟩ := A.at'
  refine ⟨⟨o, S.kp.kp _ _ eo fun w => absurd w nW, ro⟩, out, A.hl.map (A.held S hl), A.nd, A.im, fun a m => live_of S.kp (A.gl a m), fun j o a m z => ?_⟩
  rcases S.fe j a z with z | z | ⟨_, j', _, o', z⟩
  · exact A.gl a m z
  · exact A.go j (S.oo j o) a m z
  · exact A.go j' o' a m z
/-- the list at L gets longer -/
theorem Acc.push (A : Acc kd F H ε Fs rd ef Ge L acc ads Ga) {v : V} {d : D} {f : Bool} {G : List Addr} (hl : HeldL F H ε (ghost ε.length Ge Fs) rd (acc ++ [v]) (ads ++ [(d, f)]) (Ga ++ G))
    (nL : L ∉ G) (hi : (∀ j ∈ ef, j ∉ rd) ∨ imm d = true ∨ f = true) {o' : HO} (ho : kd.rep L (acc ++ [v]) o') : Acc kd F (upd H L o') ε Fs rd ef Ge L (acc ++ [v]) (ads ++ [(d, f)]) (Ga ++ G) := by
  obtain ⟨o, eo, ro⟩ := A.at'
  have k := kpD (q' := o') eo (kd.nt ro)
  have nd : L ∉ Ga ++ G := fun m => (List.mem_append.mp m).elim A.nd.1 nL
  refine ⟨⟨_, upd_same, ho⟩, A.out, hl.map fun {v d f G'} m s q => ?_, ⟨nd, A.nd.2⟩, ?_, fun a m => live_of k (A.gl a m), A.go⟩
  · have nW : ∀ a ∈ G', ¬ a = L := fun a m z => nd (z ▸ s a m)
    exact ⟨q.rp.keep k.kp nW, fun e => ⟨(q.fr e).1, fun a m => ⟨((q.fr e).2.1 a m).1, ((q.fr e).2.1 a m).2.keep k.kp (nW a m) (q.rp.live m)⟩, (q.fr e).2.2⟩, q.al⟩
  · rcases A.im with q | q
    · exact .inl q
    · rcases hi with z | z
      · exact .inl z
      · exact .inr fun p m => (List.mem_append.mp m).elim (q p) fun m => by rw [List.mem_singleton.mp m]; exact z
/-- other slots over the same heap -/
theorem Acc.env (A : Acc kd F H ε Fs rd ef Ge L acc ads Ga) {Ge1 : List Addr} (hl : ε1.length = ε.length) (hf : ∀ j, ∀ a ∈ Fs1 j, a ∈ Fs j ∨ a ∈ Ge) (ho : ∀ j, Own ε1 j → ∀ a ∈ Fs1 j, Own ε j ∧ a ∈ Fs j) (hg : ∀ a ∈ Ge1, a ∈ Ge) : Acc kd F H ε1 Fs1 rd ef Ge1 L acc ads Ga := by
  refine ⟨A.at', fun j m => (hf j L m).elim (A.out j) A.nd.2.1, A.hl.map fun {v d f G} m s q => ⟨q.rp, fun e => ⟨(q.fr e).1, (q.fr e).2.1, fun j a m z => ?_⟩, fun j hj o a m z => ?_⟩, ⟨A.nd.1, fun z => A.nd.2.1 (hg _ z), A.nd.2.2⟩, A.im, fun a m => A.gl a (hg a m), fun j o a m z => ?_⟩
  · have g1 : a ∉ Ge := fun z => by
      have := (q.fr e).2.2 ε.length a m
      unfold ghost at this; rw [if_pos rfl] at this; exact this z
    unfold ghost at z
    by_cases c : j = ε1.length
    · rw [if_pos c] at z; exact g1 (hg a z)
    · rw [if_neg c] at z
      rcases hf j a z with z | z
      · have := (q.fr e).2.2 j a m
        unfold ghost at this; rw [if_neg (by rw [← hl]; exact c)] at this; exact this z
      · exact g1 z
  · unfold ghost at z
    rw [if_neg (own_lt' o)] at z
    obtain ⟨o', z⟩ := ho j o a z
    have := q.al j hj o' a m
    unfold ghost at this; rw [if_neg (own_lt' o')] at this; exact this z
  · obtain ⟨o', z⟩ := ho j o a z
    exact A.go j o' a (hg a m) z
/-- the heap grows -/
theorem Acc.grow (A : Acc kd F H ε Fs rd ef Ge L acc ads Ga) (k : Fr (fun _ => False) H H1) : Acc kd F H1 ε Fs rd ef Ge L acc ads Ga :=
  ⟨let ⟨o, e, r⟩ := A.at'; ⟨o, k.kp _ _ e nofun, r⟩, A.out, A.hl.map fun {v d f G} m s q => q.grow k, A.nd, A.im, fun a m => live_of k (A.gl a m), A.go⟩
/-- more that is walked -/
theorem Acc.more (A : Acc kd F H ε Fs rd ef Ge L acc ads Ga) {Gx : List Addr} (gx : ∀ {v d G'}, (∀ a ∈ G', a ∈ Ga) → Held F H ε (ghost ε.length Ge Fs) rd v d true G' → ∀ a ∈ G', a ∉ Gx) (nL : L ∉ Gx) (gl : ∀ a ∈ Gx, H a ≠ none) (go : ∀ j, Own ε j → ∀ a ∈ Gx, a ∉ Fs j) : Acc kd F H ε Fs rd ef (Gx ++ Ge) L acc ads Ga := by
  refine ⟨A.at', A.out, A.hl.map fun {v d f G} m0 s q => ⟨q.rp, fun e => ⟨(q.fr e).1, (q.fr e).2.1, fun j a m z => ?_⟩, fun j hj o a m z => ?_⟩, ⟨A.nd.1, fun z => (List.mem_append.mp z).elim nL A.nd.2.1, A.nd.2.2⟩, A.im, fun a m => (List.mem_append.mp m).elim (gl a) (A.gl a), fun j o a m => (List.mem_append.mp m).elim (go j o a) (A.go j o a)⟩
  · have q' := (q.fr e).2.2 j a m
    unfold ghost at z q'
    by_cases c : j = ε.length
    · rw [if_pos c] at z q'
      rcases List.mem_append.mp z with z | z
      · subst e; exact gx s q a m z
      · exact q' z
    · rw [if_neg c] at z q'; exact q' z
  · have q' := q.al j hj o a m
    unfold ghost at z q'
    rw [if_neg (own_lt' o)] at z q'; exact q' z
end
end CF
/-! CF18: the loops of comprehensions. -/
namespace CF
open PySem PySem.Spec PyProof.Rows L2

abbrev BodyT := L2.St → Hp → Addr → (Hp → Prop) → Prop
/-- what has come: from the slots, from what had come, or new -/
def OrgA (H : Hp) (Fs : Nat → List Addr) (Ga Ga' : List Addr) : Prop := ∀ a ∈ Ga', a ∈ Ga ∨ H a = none ∨ ∃ j, a ∈ Fs j
/-- a turn's body puts behind the list at L what a says -/
def BodyOk (kd : Kd) (F : Fx) (rd ef : List Nat) (tb : BodyT) (a : ML) : Prop := ∀ {H : Hp} {σ : L2.St} {ε : EnvT} {Fs : Nat → List Addr} {Ge : List Addr} {L : Addr} {acc : List V} {ads : List (D × Bool)} {Ga : List Addr} {r : List (D × Bool) × EnvT} {Nx : Hp → Prop},
  EnvR F H σ ε Fs → Acc kd F H ε Fs rd ef Ge L acc ads Ga → a ε = .ok r → ads.length + r.1.length ≤ kd.bd → (∀ p ∈ r.1, kd.P p.1 = true) →
  (∀ H' Fs' acc' Ga', SeqD F H σ ε Fs ef L H' r.2 Fs' → Acc kd F H' r.2 Fs' rd ef Ge L acc' (ads ++ r.1) Ga' → OrgA H Fs Ga Ga' → Nx H') → tb σ H L Nx
def bEnd (te : TE) : BodyT := fun σ H L Nx => te σ H fun y H4 => ∃ acc, H4 L = some (.lst acc) ∧ acc.length < sizeLine ∧ Nx (upd H4 L (.lst (acc ++ [y])))
def bIf (tt : TT) (tb : BodyT) : BodyT := fun σ H L Nx => tt σ H fun b H3 => if b = true then tb σ H3 L Nx else Nx H3
section
variable {kd : Kd} {F : Fx} {rd ef rdb efb : List Nat} {m : M} {t : MT} {a : ML} {tb : BodyT}
theorem SeqD.len {H H1 : Hp} {σ : L2.St} {ε ε1 : EnvT} {Fs Fs1 : Nat → List Addr} {L : Addr} (R : EnvR F H σ ε Fs) (S : SeqD F H σ ε Fs ef L H1 ε1 Fs1) : ε1.length = ε.length := S.env.len.symm.trans R.len
theorem Seq.len {H H1 : Hp} {σ : L2.St} {ε ε1 : EnvT} {Fs Fs1 : Nat → List Addr} (R : EnvR F H σ ε Fs) (S : Seq F H σ ε Fs ef H1 ε1 Fs1) : ε1.length = ε.length := S.env.len.symm.trans R.len
theorem OrgA.trans {H H1 : Hp} {Fs Fs1 : Nat → List Addr} {G0 G1 G2 : List Addr} (p : OrgA H Fs G0 G1) (q : OrgA H1 Fs1 G1 G2) (lv : ∀ a, H1 a = none → H a = none) (fe : ∀ j, ∀ a ∈ Fs1 j, H a = none ∨ ∃ j, a ∈ Fs j) : OrgA H Fs G0 G2 := fun a m => by
  rcases q a m with z | z | ⟨j, z⟩
  · exact p a z
  · exact .inr (.inl (lv a z))
  · exact .inr (fe j a z)
theorem SeqD.org {H H1 : Hp} {σ : L2.St} {ε ε1 : EnvT} {Fs Fs1 : Nat → List Addr} {L : Addr} (S : SeqD F H σ ε Fs ef L H1 ε1 Fs1) : ∀ j, ∀ a ∈ Fs1 j, H a = none ∨ ∃ j, a ∈ Fs j := fun j a m => by
  rcases S.fe j a m with z | z | ⟨_, j', _, _, z⟩
  · exact .inl z
  · exact .inr ⟨j, z⟩
  · exact .inr ⟨j', z⟩
theorem hold_ok {h : Bool} {d : D} {f : Bool} (e : hold h d f = .ok ()) (c : h = true) : imm d = true ∨ f = true := by
  subst c
  unfold hold at e
  split at e
  · rename_i q
    rcases Bool.or_eq_true_iff.mp q with q | q
    · exact .inl (by simpa using q)
    · exact .inr q
  · cases e
theorem body_end {h : Bool} (hm : ∀ j ∈ rdb, j ∈ rd) (he : ∀ j ∈ efb, j ∈ ef) (hh : h = true ∨ ∀ j ∈ ef, j ∉ rd) : BodyOk kdL F rd ef (bEnd (tE F rdb efb m)) (cEnd m h) := fun {H σ ε Fs Ge L acc ads Ga r Nx} R A e sz pk fin => by
  unfold cEnd at e
  cases e1 : m ε with
  | no => rw [e1] at e; cases e
  | ex x => rw [e1] at e; cases e
  | ok p =>
    rw [e1] at e
    simp only [Out.bind_ok'] at e
    cases e2 : hold h p.1 p.2.1 with
    | no => rw [e2] at e; cases e
    | ex x => rw [e2] at e; cases e
    | ok u =>
      rw [e2] at e
      cases e
      refine tE.of R ?_
      rw [e1]
      intro v H' Fs' G P
      have S := P.seq.mono he
      have A' := A.seq S (S.len R)
      have al : acc.length = ads.length := A.hl.length
      obtain ⟨o, eo, ro⟩ := A'.at'
      obtain rfl : o = .lst acc := ro
      have sz : ads.length + 1 ≤ sizeLine := sz
      refine ⟨acc, eo, by omega, ?_⟩
      have nG : ∀ a ∈ G, H a = none ∨ ∃ j, a ∈ Fs j := P.org
      have nL : L ∉ G := fun z => by
        rcases nG L z with z | ⟨j, z⟩
        · exact A.some z
        · exact A.out j z
      have hv : Held F H' p.2.2 (ghost p.2.2.length Ge Fs') rd v p.1 p.2.1 G := by
        refine ⟨P.rp, fun f => ⟨(P.fr f).1, (P.fr f).2.1, fun j a m z => ?_⟩, fun j hj o a m z => ?_⟩
        · unfold ghost at z
          by_cases c : j = p.2.2.length
          · rw [if_pos c] at z
            rcases nG a m with q | ⟨j', q⟩
            · exact A.gl a z q
            · by_cases o : Own ε j'
              · exact A.go j' o a z q
              · rw [← P.ne j' o] at q
                exact (P.fr f).2.2 j' a m q
          · rw [if_neg c] at z; exact (P.fr f).2.2 j a m z
        · unfold ghost at z
          rw [if_neg (own_lt' o)] at z
          exact P.al j (fun w => hj (hm j w)) o a m z
      have A2 := A'.push (A.hl.mapSnoc (A.held S (S.len R)) hv (fun {v0 d0 G0} s q a m z => by
        -- what had come and is its own is in no slot, and is not new
        have l0 : H a ≠ none := A.hl.live a (s a m)
        rcases nG a z with w | ⟨j, w⟩
        · exact l0 w
        · have f0 := (q.fr rfl).2.2 j a m
          unfold ghost at f0
          by_cases c : j = ε.length
          · have : Fs j = [] := R.un j fun x o w => by
              rw [c, List.getElem?_eq_none (Nat.le_refl _)] at w; cases w
            rw [this] at w; exact nomatch w
          · rw [if_neg c] at f0; exact f0 w)) nL (hh.elim (fun c => .inr (hold_ok e2 c)) .inl) (o' := .lst (acc ++ [v])) rfl
      refine fin _ Fs' (acc ++ [v]) (Ga ++ G) ((S.toD).trans ⟨P.env.updD eo (fun z => z) A'.out A'.nd.2.2, (kpD eo fun z => z).mono fun a z => .inl z, fun _ o => o, fun _ _ m => .inr (.inl m), fun _ _ => rfl⟩) A2 fun a m => ?_
      rcases List.mem_append.mp m with m | m
      · exact .inl m
      · exact .inr (nG a m)
theorem body_if {eft : List Nat} {tt : TT} (ht : ∀ {σ H Q}, tT F eft t σ H Q → tt σ H Q) (he : ∀ j ∈ eft, j ∈ ef) (hb : BodyOk kd F rd ef tb a) : BodyOk kd F rd ef (bIf tt tb) (cIf t a) := fun {H σ ε Fs Ge L acc ads Ga r Nx} R A e sz pk fin => by
  unfold cIf at e
  refine ht (tT.of R ?_)
  cases e1 : t ε with
  | no => rw [e1] at e; cases e
  | ex x => rw [e1] at e; cases e
  | ok p =>
    rw [e1] at e
    simp only [Out.bind_ok'] at e
    intro H' Fs' S
    have S := S.mono he
    have A' := A.seq S (S.len R)
    by_cases c : p.1 = true
    · rw [if_pos c] at e ⊢
      refine hb S.env A' e sz pk fun H2 Fs2 acc2 Ga2 T B o => fin H2 Fs2 acc2 Ga2 (S.toD.trans T) B (OrgA.trans (fun a m => .inl m) o (fun a z => S.kp.live a z) (S.toD (L := L)).org)
    · rw [if_neg c] at e ⊢
      cases e
      exact fin H' Fs' acc Ga S.toD (by simpa using A') fun a m => .inl m
end
/-! ### the loop -/
theorem wipe_in {σ : L2.St} {j : Nat} : ∀ {vs : List Nat}, j ∈ vs → (wipe σ vs)[j]? = (σ[j]?).map fun _ => none
  | v :: vs, m => by
    unfold wipe
    by_cases c : v = j
    · subst c
      by_cases hl : v < σ.length
      · rw [List.getElem?_set_self (by rw [wipe_length]; exact hl), List.getElem?_eq_getElem hl]; rfl
      · rw [List.getElem?_eq_none (by rw [List.length_set, wipe_length]; omega), List.getElem?_eq_none (by omega)]; rfl
    · rw [List.getElem?_set_ne c]
      exact wipe_in ((List.mem_cons.mp m).resolve_left fun e => c e.symm)
theorem wipe_same {σ σ' : L2.St} {vs : List Nat} (hl : σ'.length = σ.length) (h : ∀ j, j ∉ vs → σ'[j]? = σ[j]?) : wipe σ' vs = wipe σ vs := by
  refine List.ext_getElem? fun j => ?_
  by_cases m : j ∈ vs
  · rw [wipe_in m, wipe_in m]
    by_cases c : j < σ.length
    · rw [List.getElem?_eq_getElem c, List.getElem?_eq_getElem (by omega)]; rfl
    · rw [List.getElem?_eq_none (by omega), List.getElem?_eq_none (by omega)]
  · rw [wipe_out m, wipe_out m]; exact h j m
section
variable {F : Fx} {rd ef vs is : List Nat} {a : ML} {tb : BodyT} {g : TG} {tg : Tg} {H : Hp} {σ : L2.St} {ε : EnvT} {Fs : Nat → List Addr}
theorem EnvR.wipe0 (R : EnvR F H σ ε Fs) (io : ∀ i ∈ F.io, i ∉ vs) (hv : ∀ j ∈ vs, Fs j = []) : EnvR F H (L2.wipe σ vs) (wipeE ε vs) Fs := by
  have := R.wipe (vs := vs) io
  have e : (fun j => if j ∈ vs then [] else Fs j) = Fs := funext fun j => by
    by_cases c : j ∈ vs
    · rw [if_pos c, hv j c]
    · rw [if_neg c]
  rw [e] at this; exact this
/-- the slots as they were ahead of the block -/
theorem SeqD.rest {L : Addr} {H1 : Hp} {ε1 : EnvT} {Fs1 : Nat → List Addr} (R : EnvR F H σ ε Fs) (io : ∀ i ∈ F.io, i ∉ vs) (hv : ∀ j ∈ vs, freeSlot ε j = true) (S : SeqD F H (wipe σ vs) (wipeE ε vs) Fs ef L H1 ε1 Fs1) (nL : ∀ j, L ∉ Fs j) : SeqD F H σ ε Fs ef L H1 (restE ε1 ε vs) Fs1 := by
  have hv0 : ∀ j ∈ vs, Fs j = [] := fun j m => free_nil R (hv j m)
  have nil1 : ∀ j ∈ vs, Fs1 j = [] := fun j m => by
    rw [S.ne j fun o => (own_wipe o).1 m]; exact hv0 j m
  have oo : ∀ j, Own (restE ε1 ε vs) j → Own ε j ∧ (j ∉ vs → Own ε1 j) := fun j ⟨x, e⟩ => by
    by_cases c : j ∈ vs
    · exact ⟨⟨x, restE_in c e⟩, fun n => absurd c n⟩
    · rw [restE_out c] at e; exact ⟨(own_wipe (S.oo j ⟨x, e⟩)).2, fun _ => ⟨x, e⟩⟩
  refine ⟨⟨fun j x o e => ?_, fun j ns o e => ?_, S.env.og, fun j o => ?_, S.env.nw, fun j h => ?_, fun j hj => ?_, ?_⟩, S.kp.mono fun a z => z.imp id fun ⟨j, m, o, z⟩ => ⟨j, m, (own_wipe o).2, z⟩, fun j o => (oo j o).1, fun j a m => ?_, fun j n => ?_⟩
  · by_cases c : j ∈ vs
    · have e := restE_in c e
      obtain ⟨v, e1, r⟩ := R.d j x o e
      refine ⟨v, e1, ?_⟩
      have : imm x = true := by
        have := hv j c
        unfold freeSlot at this; rw [e] at this; exact this
      rw [nil1 j c]
      rw [hv0 j c] at r
      exact r.keep (F := []) S.kp.kp nofun
    · rw [restE_out c] at e
      obtain ⟨v, e1, r⟩ := S.env.d j x o e
      exact ⟨v, by rw [wipe_out c] at e1; exact e1, r⟩
  · by_cases c : j ∈ vs
    · have e := restE_in c e
      have := hv j c
      unfold freeSlot at this; rw [e] at this; exact nomatch this
    · rw [restE_out c] at e
      obtain ⟨a, e1, r⟩ := S.env.s j ns o e
      exact ⟨a, by rw [wipe_out c] at e1; exact e1, r⟩
  · by_cases c : j ∈ vs
    · rw [nil1 j c]; exact ⟨List.nodup_nil, nofun, fun _ _ => nofun⟩
    · exact S.env.own j ((oo j o).2 c)
  · by_cases c : j ∈ vs
    · exact nil1 j c
    · exact S.env.un j fun x o e => h x o (by rw [restE_out c]; exact e)
  · have := S.env.io j hj
    rw [wipe_out (io j hj)] at this; exact this
  · rw [restE_len]
    have := S.env.len
    rw [wipe_length] at this; exact this
  · rcases S.fe j a m with z | z | ⟨z1, j', z2, z3, z4⟩
    · exact .inl z
    · exact .inr (.inl z)
    · exact .inr (.inr ⟨z1, j', z2, (own_wipe z3).2, z4⟩)
  · by_cases c : j ∈ vs
    · rw [nil1 j c, hv0 j c]
    · exact S.ne j fun o => n (own_wipe o).2
end
end CF
/-! CF19: list comprehensions with one and two clauses. -/
namespace CF
open PySem PySem.Spec PyProof.Rows L2

section
variable {kd : Kd} {F : Fx} {rd ef vs is : List Nat} {a : ML} {tb : BodyT} {g : TG} {tg : Tg} {J : It} {ds : List D} {G Gx Ge : List Addr} {Iv : Hp → Prop} {H : Hp} {σ : L2.St} {ε : EnvT} {Fs : Nat → List Addr} {L : Addr} {acc : List V} {ads : List (D × Bool)} {Ga : List Addr} {q : List (D × Bool) × EnvT} {Nx : Hp → Prop}
/-- the loop over what src gives, its body tb -/
theorem loop_ok (src : Src F.K J ds G Iv) (bk : BodyOk kd F rd ef tb a) (gs : GS F g tg is) (his : ∀ i ∈ is, i ∈ vs) (io : ∀ i ∈ F.io, i ∉ vs) (R : EnvR F H σ ε Fs) (hv : ∀ j ∈ vs, freeSlot ε j = true) (iv : Iv H)
    (kw : ∀ x ∈ G, ¬ (x = L ∨ ∃ j ∈ ef, Own ε j ∧ x ∈ Fs j)) (gx : ∀ {i : Nat} {d : D} {Gi : List Addr} {H : Hp} {x : V}, ds[i]? = some d → Rp F.K H x d Gi → (∀ b ∈ Gi, b ∈ G) → ∀ b ∈ Gi, b ∈ Gx) (og : ∀ b ∈ Gx, F.Og b)
    (A : Acc kd F H ε Fs rd ef (Gx ++ Ge) L acc ads Ga) (e : turns vs tg a ds (wipeE ε vs) = .ok q) (sz : ads.length + q.1.length ≤ kd.bd) (pk : ∀ p ∈ q.1, kd.P p.1 = true)
    (fin : ∀ H' Fs' acc' Ga', SeqD F H σ ε Fs ef L H' (restE q.2 ε vs) Fs' → Acc kd F H' (restE q.2 ε vs) Fs' rd ef Ge L acc' (ads ++ q.1) Ga' → OrgA H Fs (Gx ++ Ga) Ga' → Nx H') :
    ∃ W : Nat → Nat → Hp → Prop, (∃ m, W 0 m H) ∧ ∀ i m H, W i m H → (J.stop i H ∧ Nx H) ∨ (J.go i H ∧ ∃ N : Hp → Prop, (∀ H', N H' → ∃ m', m' < m ∧ W (i + 1) m' H') ∧
      ∀ x H', J.yld i H x H' → g x (wipe σ vs) H' fun σ2 H2 => wipe σ2 vs = wipe σ vs ∧ tb σ2 H2 L N) := by
  have hv0 : ∀ j ∈ vs, Fs j = [] := fun j m => free_nil R (hv j m)
  have Rw := R.wipe0 (vs := vs) io hv0
  let Pv : Nat → Hp → Prop := fun i Hc => ∃ εc Fsc acc' ads' Ga' q', SeqD F H (wipe σ vs) (wipeE ε vs) Fs ef L Hc εc Fsc ∧ Acc kd F Hc εc Fsc rd ef (Gx ++ Ge) L acc' ads' Ga' ∧ OrgA H Fs (Gx ++ Ga) Ga' ∧
    turns vs tg a (ds.drop i) εc = .ok q' ∧ ads' ++ q'.1 = ads ++ q.1 ∧ q'.2 = q.2 ∧ ∀ x ∈ q'.1, kd.P x.1 = true
  have kw' : ∀ x ∈ G, ¬ (x = L ∨ ∃ j ∈ ef, Own (wipeE ε vs) j ∧ x ∈ Fs j) := fun x m z => kw x m (z.imp id fun ⟨j, h1, h2, h3⟩ => ⟨j, h1, (own_wipe h2).2, h3⟩)
  refine ⟨fun i m Hc => m = ds.length - i ∧ i ≤ ds.length ∧ Pv i Hc, ⟨ds.length, rfl, Nat.zero_le _, wipeE ε vs, Fs, acc, ads, Ga, q, .refl Rw, ?_, fun a m => .inl (List.mem_append_right _ m), e, rfl, rfl, pk⟩, ?_⟩
  · exact A.env wipeE_len (fun j a m => .inl m) (fun j o a m => ⟨(own_wipe o).2, m⟩) fun _ m => m
  rintro i m Hc ⟨rfl, hi, εc, Fsc, acc', ads', Ga', q', S, B, o, et, e1, e2, pq⟩
  have ivc : Iv Hc := src.keep iv S.kp.kp kw'
  by_cases hlt : i < ds.length
  · refine .inr ⟨src.go i Hc hlt ivc, Pv (i + 1), fun H' p => ⟨ds.length - (i + 1), by omega, rfl, hlt, p⟩, fun x H' y => ?_⟩
    obtain ⟨d, Gi, ed, r, sG, fr⟩ := src.yld i Hc x H' hlt ivc y
    have gi : ∀ b ∈ Gi, b ∈ Gx := gx ed r sG
    have B1 := B.grow fr
    have R1 : EnvR F H' (wipe σ vs) εc Fsc := S.env.ext fr
    have hb : HB F H' εc Fsc false Gi := ⟨fun b m => og b (gi b m), fun j o b m => B.go j o b (List.mem_append_left _ (gi b m)), nofun⟩
    have dr : ds.drop i = d :: ds.drop (i + 1) := by
      rw [List.drop_eq_getElem_cons hlt]
      have : ds[i] = d := Option.some.inj ((List.getElem?_eq_getElem hlt).symm.trans ed)
      rw [this]
    rw [dr] at et
    simp only [turns] at et
    refine gs R1 r hb ?_
    cases eb : bindTg εc tg d false with
    | no => rw [eb] at et; cases et
    | ex z => rw [eb] at et; cases et
    | ok ε1 =>
      rw [eb] at et
      simp only [Out.bind_ok'] at et
      intro σ1 Fs1 C
      have es : wipe σ1 vs = wipe (wipe σ vs) vs := wipe_same C.len.1 fun j n => (C.out j fun z => n (his j z)).1
      have ww : wipe (wipe σ vs) vs = wipe σ vs := wipe_same (wipe_length _ _) fun j n => wipe_out n
      refine ⟨es.trans ww, ?_⟩
      cases ea : a ε1 with
      | no => rw [ea] at et; cases et
      | ex z => rw [ea] at et; cases et
      | ok p =>
        rw [ea] at et
        simp only [Out.bind_ok'] at et
        cases eq : turns vs tg a (ds.drop (i + 1)) (wipeE p.2 vs) with
        | no => rw [eq] at et; cases et
        | ex z => rw [eq] at et; cases et
        | ok q2 =>
          rw [eq] at et
          simp only [Out.bind_ok', Out.ok.injEq] at et
          subst et
          have B2 : Acc kd F H' ε1 Fs1 rd ef (Gx ++ Ge) L acc' ads' Ga' := B1.env C.len.2 (fun j b m => (C.fs j b m).imp id fun m => List.mem_append_left _ (gi b m)) (fun j o b m => (C.ow j o b m).elim id fun z => nomatch z.1) fun _ m => m
          have pk' : ∀ x ∈ p.1, kd.P x.1 = true := fun x m => pq x (List.mem_append_left _ m)
          have sz' : ads'.length + p.1.length ≤ kd.bd := by
            have := congrArg List.length e1
            simp only [List.length_append] at this
            omega
          refine bk C.env B2 ea sz' pk' fun H2 Fs2 acc2 Ga2 T B3 o2 => ?_
          have io' : ∀ i ∈ F.io, i ∉ vs := io
          have Rt := T.env.wipe (vs := vs) io'
          rw [es, ww] at Rt
          -- the whole turn
          have ST : SeqD F Hc (wipe σ vs) εc Fsc ef L H2 (wipeE p.2 vs) (fun j => if j ∈ vs then [] else Fs2 j) := by
            have inW : ∀ {x}, (∃ j ∈ ef, Own ε1 j ∧ x ∈ Fs1 j) → ∃ j ∈ ef, Own εc j ∧ x ∈ Fsc j := fun ⟨j, h1, h2, h3⟩ => (C.ow j h2 _ h3).elim (fun z => ⟨j, h1, z⟩) fun z => nomatch z.1
            refine ⟨Rt, (fr.mono fun _ z => z.elim).trans (T.kp.mono fun x z => z.imp id inW), fun j o => ?_, fun j x m => ?_, fun j n => ?_⟩
            · obtain ⟨n, o⟩ := own_wipe o
              obtain ⟨x, ex⟩ := T.oo j o
              exact ⟨x, by rw [← (C.out j fun z => n (his j z)).2.1]; exact ex⟩
            · by_cases c : j ∈ vs
              · rw [if_pos c] at m; exact nomatch m
              · rw [if_neg c] at m
                rcases T.fe j x m with z | z | ⟨z1, z2⟩
                · exact .inl (fr.live x z)
                · rw [(C.out j fun z => c (his j z)).2.2] at z; exact .inr (.inl z)
                · exact .inr (.inr ⟨z1, inW z2⟩)
            · by_cases c : j ∈ vs
              · rw [if_pos c, S.ne j fun o => (own_wipe o).1 c, hv0 j c]
              · rw [if_neg c]
                obtain ⟨_, c2, c3⟩ := C.out j fun z => c (his j z)
                rw [T.ne j fun ⟨x, ex⟩ => n ⟨x, by rw [← c2]; exact ex⟩, c3]
          have B4 : Acc kd F H2 (wipeE p.2 vs) (fun j => if j ∈ vs then [] else Fs2 j) rd ef (Gx ++ Ge) L acc2 (ads' ++ p.1) Ga2 := by
            refine B3.env wipeE_len (fun j b m => ?_) (fun j o b m => ?_) fun _ m => m
            · by_cases c : j ∈ vs
              · rw [if_pos c] at m; exact nomatch m
              · rw [if_neg c] at m; exact .inl m
            · obtain ⟨n, o⟩ := own_wipe o
              rw [if_neg n] at m; exact ⟨o, m⟩
          refine ⟨_, _, acc2, ads' ++ p.1, Ga2, q2, S.trans ST, B4, fun b m => ?_, eq, by rw [List.append_assoc]; exact e1, e2, fun x m => pq x (List.mem_append_right _ m)⟩
          rcases o2 b m with z | z | ⟨j, z⟩
          · exact o b z
          · exact .inr (.inl (S.kp.live b (fr.live b z)))
          · rcases C.fs j b z with z | z
            · exact .inr (S.org j b z)
            · exact .inl (List.mem_append_left _ (gi b z))
  · have ei : i = ds.length := by omega
    subst ei
    rw [List.drop_length] at et
    simp only [turns, Out.ok.injEq] at et
    subst et
    simp only [List.append_nil] at e1
    subst e1
    rw [← e2] at fin
    refine .inl ⟨src.stop Hc ivc, fin Hc Fsc acc' Ga' (S.rest R io hv A.out) (B.env restE_len (fun j b m => .inl m) (fun j o b m => ?_) fun b m => List.mem_append_right _ m) o⟩
    by_cases c : j ∈ vs
    · rw [S.ne j fun o => (own_wipe o).1 c, hv0 j c] at m; exact nomatch m
    · obtain ⟨x, ex⟩ := o
      rw [restE_out c] at ex
      exact ⟨⟨x, ex⟩, m⟩
/-- a source's footprint, what of it may come into slots -/
def geOf (f : Bool) (ds : List D) (G : List Addr) : List Addr := if (!f && immAll ds) = true then [] else G
theorem geOf_sub {f : Bool} {b : Addr} (m : b ∈ geOf f ds G) : b ∈ G := by
  unfold geOf at m
  split at m
  · exact nomatch m
  · exact m
theorem immAll_get : ∀ {ds : List D} {i : Nat} {d : D}, immAll ds = true → ds[i]? = some d → imm d = true
  | [], _, _, _, e => by simp at e
  | x :: ds, 0, d, h, e => by
    simp only [immAll, Bool.and_eq_true] at h
    simp at e; subst e; exact h.1
  | x :: ds, i + 1, d, h, e => by
    simp only [immAll, Bool.and_eq_true] at h
    exact immAll_get h.2 (by simpa using e)
/-- what is asked of a clause, at its start -/
theorem clause {h f : Bool} {rds : List Nat} (R : EnvR F H σ ε Fs) (ho : itOk h rds ds f ε = true) (hh : h = true ∨ ∀ j ∈ ef, j ∉ rds) (hc : HoldC F H ε Fs rds f G) (nL : L ∉ G) :
    (∀ x ∈ G, ¬ (x = L ∨ ∃ j ∈ ef, Own ε j ∧ x ∈ Fs j)) ∧ (∀ {i : Nat} {d : D} {Gi : List Addr} {H : Hp} {x : V}, ds[i]? = some d → Rp F.K H x d Gi → (∀ b ∈ Gi, b ∈ G) → ∀ b ∈ Gi, b ∈ geOf f ds G) ∧ (∀ j, Own ε j → ∀ x ∈ geOf f ds G, x ∉ Fs j) := by
  have ownB' : ∀ {j}, (∃ x, ε[j]? = some (.v (.d x) true)) → ownB ε j = true := fun ⟨x, e⟩ => by unfold ownB; rw [e]
  refine ⟨fun x m z => ?_, fun {i d Gi H x} e r s b m => ?_, fun j o x m z => ?_⟩
  · rcases z with z | ⟨j, h1, h2, h3⟩
    · exact nL (z ▸ m)
    · rcases Bool.or_eq_true_iff.mp ho with q | q
      · exact hc.fr q j x m h3
      · rcases hh with c | c
        · rw [c] at q; exact nomatch q
        · exact hc.al j (c j h1) h2 x m h3
  · unfold geOf
    by_cases c : (!f && immAll ds) = true
    · rw [if_pos c]
      rw [r.imm (immAll_get (Bool.and_eq_true_iff.mp c).2 e)] at m; exact nomatch m
    · rw [if_neg c]; exact s b m
  · unfold geOf at m
    by_cases c : (!f && immAll ds) = true
    · rw [if_pos c] at m; exact nomatch m
    · rw [if_neg c] at m
      rcases Bool.or_eq_true_iff.mp ho with q | q
      · exact hc.fr q j x m z
      · by_cases hf : f = true
        · exact hc.fr hf j x m z
        · have im : immAll ds = false := by
            cases e : immAll ds with
            | false => rfl
            | true => rw [e] at c; simp at hf; rw [hf] at c; exact absurd rfl c
          rw [im] at q
          simp only [Bool.false_or, Bool.and_eq_true, List.all_eq_true, Bool.not_eq_true'] at q
          by_cases hj : j ∈ rds
          · obtain ⟨y, e⟩ := o
            cases y with
            | d y =>
              have := q.2 j hj
              rw [ownB' ⟨y, e⟩] at this; exact nomatch this
            | s ns => obtain ⟨_, _, _, _, z⟩ := R.s j ns true e; exact nomatch z
          · exact hc.al j hj o x m z
theorem Acc.seqMore {H1 : Hp} {ε1 : EnvT} {Fs1 : Nat → List Addr} (R : EnvR F H σ ε Fs) (A : Acc kd F H ε Fs rd ef Ge L acc ads Ga) (S : Seq F H σ ε Fs ef H1 ε1 Fs1) (og : ∀ a ∈ Gx, H a = none ∨ ∃ j, a ∈ Fs j) (gl : ∀ a ∈ Gx, H1 a ≠ none) (go : ∀ j, Own ε1 j → ∀ a ∈ Gx, a ∉ Fs1 j) : Acc kd F H1 ε1 Fs1 rd ef (Gx ++ Ge) L acc ads Ga := by
  have hl := S.len R
  have A1 := A.seq S hl
  have nL : L ∉ Gx := fun m => (og L m).elim (fun z => (A.some z).elim) fun ⟨j, z⟩ => A.out j z
  refine ⟨A1.at', A1.out, A.hl.map fun {v d f G} m0 s q => ?_, ⟨A.nd.1, fun z => (List.mem_append.mp z).elim nL A.nd.2.1, A.nd.2.2⟩, A.im, fun a m => (List.mem_append.mp m).elim (gl a) (A1.gl a), fun j o a m => (List.mem_append.mp m).elim (go j o a) (A1.go j o a)⟩
  have q1 := A.held S hl m0 s q
  refine ⟨q1.rp, fun e => ⟨(q1.fr e).1, (q1.fr e).2.1, fun j a m z => ?_⟩, fun j hj o a m z => ?_⟩
  · have f1 := (q1.fr e).2.2 j a m
    unfold ghost at z f1
    by_cases c : j = ε1.length
    · rw [if_pos c] at z f1
      rcases List.mem_append.mp z with z | z
      · rcases og a z with w | ⟨j', w⟩
        · exact A.hl.live a (s a m) w
        · have f0 := (q.fr e).2.2 j' a m
          unfold ghost at f0
          by_cases c' : j' = ε.length
          · rw [R.un j' fun x o y => by rw [c', List.getElem?_eq_none (Nat.le_refl _)] at y; cases y] at w
            exact nomatch w
          · rw [if_neg c'] at f0; exact f0 w
      · exact f1 z
    · rw [if_neg c] at z f1; exact f1 z
  · have f1 := q1.al j hj o a m
    unfold ghost at z f1
    rw [if_neg (own_lt' o)] at z f1; exact f1 z
theorem noEx_ok {α : Type} {o : Out α} {x : α} (h : noEx o = .ok x) : o = .ok x := by cases o <;> first | exact h | cases h
def bFor (wi : TI) (g : TG) (vs : List Nat) (tb : BodyT) : BodyT := fun σ2 H3 L Nx => wi σ2 H3 fun J1 H4 => ∃ W1 : Nat → Nat → Hp → Prop, (∃ m, W1 0 m H4) ∧ ∀ j k H, W1 j k H →
  (J1.stop j H ∧ Nx H) ∨ (J1.go j H ∧ ∃ N : Hp → Prop, (∀ H', N H' → ∃ k', k' < k ∧ W1 (j + 1) k' H') ∧ ∀ x H', J1.yld j H x H' → g x (wipe σ2 vs) H' fun σ3 H5 => wipe σ3 vs = wipe σ2 vs ∧ tb σ3 H5 L N)
theorem org_of {H1 : Hp} {ε1 : EnvT} {Fs1 : Nat → List Addr} {Gb : List Addr} (S : Seq F H σ ε Fs ef H1 ε1 Fs1) (og : ∀ a ∈ G, H a = none ∨ ∃ j, a ∈ Fs j) (sub : ∀ a ∈ Gx, a ∈ G) (o : OrgA H1 Fs1 (Gx ++ Ga) Gb) : OrgA H Fs Ga Gb := fun a m => by
  rcases o a m with z | z | ⟨j, z⟩
  · rcases List.mem_append.mp z with z | z
    · exact .inr (og a (sub a z))
    · exact .inl z
  · exact .inr (.inl (S.kp.live a z))
  · exact .inr ((S.toD (L := 0)).org j a z)
theorem body_for {rdi efi : List Nat} {mi : MI} {h : Bool} (he : ∀ j ∈ efi, j ∈ ef) (hh : h = true ∨ ∀ j ∈ ef, j ∉ rdi) (gs : GS F g tg is) (his : ∀ i ∈ is, i ∈ vs) (io : ∀ i ∈ F.io, i ∉ vs) (bk : BodyOk kd F rd ef tb a) :
    BodyOk kd F rd ef (bFor (tI F rdi efi mi) g vs tb) (cFor mi vs tg h rdi a) := fun {H σ ε Fs Ge L acc ads Ga r Nx} R A e sz pk fin => by
  unfold cFor at e
  cases e1 : mi ε with
  | no => rw [e1] at e; cases e
  | ex x => rw [e1] at e; cases e
  | ok p =>
    rw [e1] at e
    simp only [Out.bind_ok'] at e
    by_cases c : (itOk h rdi p.1 p.2.1 p.2.2 && vs.all (freeSlot p.2.2)) = true
    · rw [if_pos c] at e
      obtain ⟨c1, c2⟩ := Bool.and_eq_true_iff.mp c
      cases e2 : noEx (turns vs tg a p.1 (wipeE p.2.2 vs)) with
      | no => rw [e2] at e; cases e
      | ex x => rw [e2] at e; cases e
      | ok q =>
        rw [e2] at e
        cases e
        refine ⟨ε, Fs, R, ?_⟩
        rw [e1]
        intro J H1 Fs1 G Iv S src iv hc og
        have S := S.mono he
        have nL : L ∉ G := fun m => (og L m).elim (fun z => (A.some z).elim) fun ⟨j, z⟩ => A.out j z
        obtain ⟨k1, k2, k3⟩ := clause (ef := ef) (L := L) S.env c1 hh hc nL
        have oG : ∀ b ∈ geOf p.2.1 p.1 G, F.Og b := fun b m => (og b (geOf_sub m)).elim (fun z => (R.nw b z).2) fun ⟨j, z⟩ => R.og j b z
        have A2 := A.seqMore R S (fun b m => og b (geOf_sub m)) (fun b m => hc.lv b (geOf_sub m)) k3
        refine loop_ok src bk gs his io S.env (List.all_eq_true.mp c2) iv k1 k2 oG A2 (noEx_ok e2) sz pk fun H2 Fs2 acc2 Ga2 T B o => ?_
        exact fin H2 Fs2 acc2 Ga2 (S.toD.trans T) B (org_of S og (fun b m => geOf_sub m) o)
    · rw [if_neg c] at e; cases e
end
/-! ### as expressions -/
section
variable {X : Cx} {F : Fx} {rd ef rdi efi vs is : List Nat} {tg : Tg} {mi : MI} {a : ML} {tb : BodyT} {g : TG} {σ : L2.St} {H : Hp} {Q : VK}
/-- the outer loop's reading -/
def tLcB (wi : TI) (g : TG) (tb : BodyT) (vs : List Nat) : TE := fun σ H Q => wi σ H fun J H1 => ∀ L, H1 L = none → ∃ W : Nat → Nat → Hp → Prop, (∃ m, W 0 m (upd H1 L (.lst []))) ∧ ∀ i m H, W i m H →
  (J.stop i H ∧ Q (.ref L) H) ∨ (J.go i H ∧ ∃ Nx : Hp → Prop, (∀ H', Nx H' → ∃ m', m' < m ∧ W (i + 1) m' H') ∧ ∀ x H', J.yld i H x H' → g x (wipe σ vs) H' fun σ2 H2 => wipe σ2 vs = wipe σ vs ∧ tb σ2 H2 L Nx)
theorem lcB {h : Bool} (hrd : ∀ j ∈ rdi, j ∈ rd) (he : ∀ j ∈ efi, j ∈ ef) (hh : h = true ∨ ∀ j ∈ ef, j ∉ rdi) (gs : GS F g tg is) (his : ∀ i ∈ is, i ∈ vs) (io : ∀ i ∈ F.io, i ∉ vs) (bk : BodyOk kdL F rd ef tb a)
    (q : tE F rd ef (mLc (cFor mi vs tg h rdi a)) σ H Q) : tLcB (tI F rdi efi mi) g tb vs σ H Q := by
  obtain ⟨ε, Fs, R, q⟩ := q.w
  refine ⟨ε, Fs, R, ?_⟩
  unfold mLc cFor at q
  refine (W0.bind (W0.bind q)).imp fun p e1 q J H1 Fs1 G Iv S src iv hc og L nL => ?_
  by_cases c : (itOk h rdi p.1 p.2.1 p.2.2 && vs.all (freeSlot p.2.2)) = true
  · rw [if_pos c] at q
    obtain ⟨c1, c2⟩ := Bool.and_eq_true_iff.mp c
    cases e2 : noEx (turns vs tg a p.1 (wipeE p.2.2 vs)) with
    | no => rw [e2] at q; exact q.elim
    | ex x => cases e3 : turns vs tg a p.1 (wipeE p.2.2 vs) <;> rw [e3] at e2 <;> cases e2
    | ok r =>
      rw [e2] at q
      simp only [Out.bind_ok'] at q
      by_cases cs : small r.1.length = true
      · simp only [W0, if_pos cs] at q
        have S := S.mono he
        have k0 : Fr (fun _ => False) H1 (upd H1 L (.lst [])) := Fr.new nL
        have S2 := S.trans (Seq.ext (ef := ef) S.env k0)
        have nLF : ∀ j, L ∉ Fs1 j := fun j m => S.env.live m nL
        have nLG : L ∉ G := fun m => hc.lv L m nL
        have hc2 : HoldC F (upd H1 L (.lst [])) p.2.2 Fs1 rdi p.2.1 G := ⟨fun b m => live_of k0 (hc.lv b m), hc.fr, hc.al⟩
        obtain ⟨k1, k2, k3⟩ := clause (ef := ef) (L := L) S2.env c1 hh hc2 nLG
        have oG : ∀ b ∈ geOf p.2.1 p.1 G, F.Og b := fun b m => (og b (geOf_sub m)).elim (fun z => (R.nw b z).2) fun ⟨j, z⟩ => R.og j b z
        have wL : F.Wr L := (S.env.nw L nL).1
        have A : Acc kdL F (upd H1 L (.lst [])) p.2.2 Fs1 rd ef (geOf p.2.1 p.1 G ++ []) L [] [] [] :=
          ⟨⟨_, upd_same, rfl⟩, nLF, .nil, ⟨nofun, by rw [List.append_nil]; exact fun m => nLG (geOf_sub m), wL⟩, .inr nofun, fun b m => hc2.lv b (geOf_sub (by rw [List.append_nil] at m; exact m)), fun j o b m => k3 j o b (by rw [List.append_nil] at m; exact m)⟩
        have iv2 : Iv (upd H1 L (.lst [])) := src.keep iv k0.kp fun _ _ z => z
        have lp := loop_ok src bk gs his io S2.env (List.all_eq_true.mp c2) iv2 k1 k2 oG A (noEx_ok e2) (by show ([] : List (D × Bool)).length + r.1.length ≤ sizeLine; simpa using small_le cs) (fun _ _ => rfl) (Nx := fun H' => Q (.ref L) H') fun H2 Fs2 acc2 Ga2 T B o => ?_
        · exact lp
        · have n0 : H L = none := S.kp.live L nL
          obtain ⟨ob, eB, rB⟩ := B.at'
          obtain rfl : ob = .lst acc2 := rB
          have row := B.hl.row
          simp only [List.nil_append] at row B
          have hr : HeldR F H2 (restE r.2 p.2.2 vs) Fs2 rd acc2 (r.1.map (·.1)) (allFr r.1) Ga2 := by
            refine ⟨row.rp, fun f => ⟨(row.fr f).1, (row.fr f).2.1, fun j b m z => ?_⟩, fun j hj o b m z => ?_⟩
            · have := (row.fr f).2.2 j b m
              unfold ghost at this
              by_cases c : j = (restE r.2 p.2.2 vs).length
              · have : Fs2 j = [] := T.env.un j fun x o w => by rw [c, List.getElem?_eq_none (Nat.le_refl _)] at w; cases w
                rw [this] at z; exact nomatch z
              · rw [if_neg c] at this; exact this z
            · have := row.al j hj o b m
              unfold ghost at this; rw [if_neg (own_lt' o)] at this; exact this z
          have ST : Seq F H σ ε Fs ef H2 (restE r.2 p.2.2 vs) Fs2 := (S2.toD.trans T).seq n0
          refine q (.ref L) H2 Fs2 (L :: Ga2) (ST.post ⟨.lst eB hr.rp, fun f => ?_, fun j hj o b m z => ?_⟩ fun b m => ?_)
          · obtain ⟨f1, f2, f3⟩ := hr.fr f
            refine ⟨List.nodup_cons.mpr ⟨B.nd.1, f1⟩, fun b m => ?_, fun j b m => ?_⟩
            · rcases List.mem_cons.mp m with z | m
              · rw [z]; exact ⟨wL, fun o u w => by rw [eB] at w; cases w⟩
              · exact f2 b m
            · rcases List.mem_cons.mp m with z | m
              · rw [z]; exact B.out j
              · exact f3 j b m
          · rcases List.mem_cons.mp m with w | m
            · rw [w] at z; exact B.out j z
            · exact hr.al j hj o b m z
          · rcases List.mem_cons.mp m with w | m
            · rw [w]; exact .inl n0
            · rcases o b m with z | z | ⟨j, z⟩
              · rw [List.append_nil] at z; exact og b (geOf_sub z)
              · exact .inl (S2.kp.live b z)
              · exact (S2.toD (L := L)).org j b z
      · simp only [W0, if_neg cs] at q
  · rw [if_neg c] at q; exact q.elim
end
end CF
/-! CF20: statements. -/
namespace CF
open PySem PySem.Spec PyProof.Rows L2

inductive Res where
  | nx (ε : EnvT)
  | ret (d : D) (f : Bool) (ε : EnvT)
  | brk (ε : EnvT)
  | ct (ε : EnvT)
abbrev MS := EnvT → Out Res
def mYes : MT := fun ε => .ok (true, ε)
def unown (ε : EnvT) (i : Nat) : EnvT := match ε[i]? with
  | some (.v x true) => ε.set i (.v x false)
  | _ => ε
def unowns (ε : EnvT) : List Nat → EnvT
  | [] => ε
  | i :: is => unown (unowns ε is) i
def sNx : MS := fun ε => .ok (.nx ε)
def sBrk : MS := fun ε => .ok (.brk ε)
def sCt : MS := fun ε => .ok (.ct ε)
def sSeq (a b : MS) : MS := fun ε => (a ε).bind fun r => match r with
  | .nx ε' => b ε'
  | r => .ok r
def sRet (m : M) : MS := fun ε => (m ε).bind fun p => .ok (.ret p.1 p.2.1 p.2.2)
def sRetN : MS := fun ε => .ok (.ret .none true ε)
def sIf (t : MT) (a b : MS) : MS := fun ε => (t ε).bind fun p => if p.1 = true then a p.2 else b p.2
def sExp (m : M) : MS := fun ε => (m ε).bind fun p => .ok (.nx p.2.2)
/-- rds: the slots that the value reads: where it is not its own, they are no longer their own -/
def sAsg (tg : Tg) (m : M) (rds : List Nat) : MS := fun ε => (m ε).bind fun p => (bindTg (if (p.2.1 || imm p.1) = true then p.2.2 else unowns p.2.2 rds) tg p.1 p.2.1).bind fun ε' => .ok (.nx ε')
/-- a, b = x, y of names, nothing to be changed in the values -/
def sPar (i j : Nat) (l : ML) : MS := fun ε => (l ε).bind fun p => match p.1 with
  | [(d1, _), (d2, f2)] => if (imm d1 && (imm d2 || f2)) = true then (bindTg p.2 (.nm i) d1 true).bind fun ε1 => (bindTg ε1 (.nm j) d2 true).bind fun ε2 => .ok (.nx ε2) else .no
  | _ => .no
def isScal : D → Bool
  | .int _ => true
  | .str _ => true
  | _ => false
def sAug (i : Nat) (op : BOp) (m : M) : MS := fun ε => (getD ε i).bind fun a => if isScal a.1 = true then (m ε).bind fun p => (binD op a.1 true p.1 true).bind fun r => (bindTg p.2.2 (.nm i) r.1 true).bind fun ε' => .ok (.nx ε') else .no
def ownL (ε : EnvT) (i : Nat) : Option (List D) := match ε[i]? with
  | some (.v (.d (.list ds)) true) => some ds
  | _ => none
def wrL (ε : EnvT) (i : Nat) (ds : List D) : EnvT := ε.set i (.v (.d (.list ds)) true)
def sApp (i : Nat) (m : M) : MS := fun ε => match ownL ε i with
  | none => .no
  | some _ => (m ε).bind fun p => match ownL p.2.2 i with
    | some ds => if (small (ds.length + 1) && (p.2.1 || imm p.1)) = true then .ok (.nx (wrL p.2.2 i (ds ++ [p.1]))) else .no
    | none => .no
def sExt (i : Nat) (m : M) : MS := fun ε => match ownL ε i with
  | none => .no
  | some _ => (m ε).bind fun p => match ownL p.2.2 i, p.1 with
    | some ds, .list es => if (small (ds.length + es.length) && (p.2.1 || immAll es)) = true then .ok (.nx (wrL p.2.2 i (ds ++ es))) else .no
    | _, _ => .no
def sIns (i : Nat) (mk m : M) : MS := fun ε => match ownL ε i with
  | none => .no
  | some _ => (mk ε).bind fun k => (m k.2.2).bind fun p => match ownL p.2.2 i, k.1 with
    | some ds, .int j => if (small (ds.length + 1) && (p.2.1 || imm p.1) && decide (0 ≤ j ∧ j < 2 ^ 62)) = true then .ok (.nx (wrL p.2.2 i (ds.take j.toNat ++ [p.1] ++ ds.drop j.toNat))) else .no
    | _, _ => .no
/-- x[i] = e, the value first -/
def sSetL (i : Nat) (mk m : M) : MS := fun ε => (m ε).bind fun p => match ownL p.2.2 i with
  | none => .no
  | some _ => (mk p.2.2).bind fun k => match ownL k.2.2 i, k.1 with
    | some ds, .int j => match ixN ds.length j with
      | some n => if (isScal p.1 || (isNone p.1)) = true then .ok (.nx (wrL k.2.2 i (ds.set n p.1))) else .no
      | none => .no
    | _, _ => .no
/-- x[i] op= e, ints -/
def sAugL (i : Nat) (mk : M) (op : BOp) (m : M) : MS := fun ε => match ownL ε i with
  | none => .no
  | some _ => (mk ε).bind fun k => match ownL k.2.2 i, k.1 with
    | some ds, .int j => match ds[j.toNat]? with
      | some (.int x) => if 0 ≤ j ∧ j < 2 ^ 62 then (m k.2.2).bind fun p => match ownL p.2.2 i, p.1 with
        | some ds', .int y => match binD op (.int x) true (.int y) true with
          | .ok (.int z, _) => if j < ds'.length then .ok (.nx (wrL p.2.2 i (ds'.set j.toNat (.int z)))) else .no
          | _ => .no
        | _, _ => .no
        else .no
      | _ => .no
    | _, _ => .no
def ownD (ε : EnvT) (i : Nat) : Option (List (D × D)) := match ε[i]? with
  | some (.v (.d (.dict kvs)) true) => some kvs
  | _ => none
/-- d[k] = e, nothing to be changed in e -/
def sSetD (i : Nat) (mk m : M) : MS := fun ε => (m ε).bind fun p => match ownD p.2.2 i with
  | none => .no
  | some _ => (mk p.2.2).bind fun k => match ownD k.2.2 i with
    | some kvs => if (imm p.1 && keyFits kvs k.1 && small (kvs.length + 1)) = true then .ok (.nx (k.2.2.set i (.v (.d (.dict (dput kvs k.1 p.1))) true))) else .no
    | none => .no
def forTurns (tg : Tg) (body : MS) : List D → EnvT → Out Res
  | [], ε => .ok (.nx ε)
  | d :: r, ε => (bindTg ε tg d false).bind fun ε1 => (body ε1).bind fun q => match q with
    | .nx ε2 => forTurns tg body r ε2
    | .ct ε2 => forTurns tg body r ε2
    | .brk ε2 => .ok (.nx ε2)
    | .ret d f ε2 => .ok (.ret d f ε2)
def sFor (it : MI) (tg : Tg) (rds : List Nat) (body : MS) : MS := fun ε => (it ε).bind fun p => forTurns tg body p.1 (if p.2.1 = true then p.2.2 else unowns p.2.2 rds)

/-- what a statement leaves -/
structure Stp (F : Fx) (H : Hp) (ε : EnvT) (Fs : Nat → List Addr) (H' : Hp) (σ' : L2.St) (ε' : EnvT) (Fs' : Nat → List Addr) : Prop where
  env : EnvR F H' σ' ε' Fs'
  kp : Fr (fun a => ∃ j, Own ε j ∧ a ∈ Fs j) H H'
  ow : ∀ j, Own ε' j → ∀ a ∈ Fs' j, H a = none ∨ ∃ j', Own ε j' ∧ a ∈ Fs j'
  al : ∀ j, ∀ a ∈ Fs' j, H a = none ∨ ∃ j', a ∈ Fs j'
/-- a value given back -/
structure Rv (F : Fx) (H : Hp) (Fs : Nat → List Addr) (H' : Hp) (Fs' : Nat → List Addr) (v : V) (d : D) (f : Bool) (G : List Addr) : Prop where
  rp : Rp F.K H' v d G
  fr : f = true → G.Nodup ∧ (∀ a ∈ G, F.Wr a ∧ Unf H' a) ∧ ∀ j, ∀ a ∈ G, a ∉ Fs' j
  org : ∀ a ∈ G, H a = none ∨ ∃ j, a ∈ Fs j
abbrev kS (F : Fx) (H : Hp) (ε : EnvT) (Fs : Nat → List Addr) (D : Ends) : Res → Prop
  | .nx ε' => ∀ σ' H' Fs', Stp F H ε Fs H' σ' ε' Fs' → D.nx σ' H'
  | .brk ε' => ∀ σ' H' Fs', Stp F H ε Fs H' σ' ε' Fs' → D.bk σ' H'
  | .ct ε' => ∀ σ' H' Fs', Stp F H ε Fs H' σ' ε' Fs' → D.ct σ' H'
  | .ret d f ε' => ∀ v σ' H' Fs' G, Stp F H ε Fs H' σ' ε' Fs' → Rv F H Fs H' Fs' v d f G → D.rt v H'
def tS (F : Fx) (m : MS) : TS := fun D σ H => ∃ ε Fs, EnvR F H σ ε Fs ∧ W0 F H (kS F H ε Fs D) (m ε)
theorem _root_.L2.PS.imp {X : Cx} {e : Stmt} {t t' : TS} (h : PS X e t) (i : ∀ D σ H, t' D σ H → t D σ H) : PS X e t' := ⟨fun pins s σ H D I q => h.run pins s σ H D I (i _ _ _ q)⟩
theorem _root_.L2.PSs.imp {X : Cx} {e : List Stmt} {t t' : TS} (h : PSs X e t) (i : ∀ D σ H, t' D σ H → t D σ H) : PSs X e t' := ⟨fun pins s σ H D I q => h.run pins s σ H D I (i _ _ _ q)⟩
section
variable {F : Fx} {H H1 H2 : Hp} {σ σ1 σ2 : L2.St} {ε ε1 ε2 : EnvT} {Fs Fs1 Fs2 : Nat → List Addr} {rd ef : List Nat}
theorem Stp.refl (R : EnvR F H σ ε Fs) : Stp F H ε Fs H σ ε Fs := ⟨R, .refl, fun j o a m => .inr ⟨j, o, m⟩, fun j a m => .inr ⟨j, m⟩⟩
theorem Stp.trans (P : Stp F H ε Fs H1 σ1 ε1 Fs1) (Q : Stp F H1 ε1 Fs1 H2 σ2 ε2 Fs2) : Stp F H ε Fs H2 σ2 ε2 Fs2 := by
  refine ⟨Q.env, ⟨fun a o e w => Q.kp.kp a o (P.kp.kp a o e w) fun ⟨j, o', m⟩ => ?_, fun a e => P.kp.live a (Q.kp.live a e)⟩, fun j o a m => ?_, fun j a m => ?_⟩
  · rcases P.ow j o' a m with z | z
    · rw [e] at z; cases z
    · exact w z
  · rcases Q.ow j o a m with z | ⟨j', o', z⟩
    · exact .inl (P.kp.live a z)
    · exact P.ow j' o' a z
  · rcases Q.al j a m with z | ⟨j', z⟩
    · exact .inl (P.kp.live a z)
    · exact P.al j' a z
theorem Seq.stp (S : Seq F H σ ε Fs ef H1 ε1 Fs1) : Stp F H ε Fs H1 σ ε1 Fs1 := by
  refine ⟨S.env, S.kp.mono fun a ⟨j, _, o, m⟩ => ⟨j, o, m⟩, fun j o a m => ?_, fun j a m => ?_⟩
  · rcases S.fe j a m with z | z | ⟨_, j', _, o', z⟩
    · exact .inl z
    · exact .inr ⟨j, S.oo j o, z⟩
    · exact .inr ⟨j', o', z⟩
  · rcases S.fe j a m with z | z | ⟨_, j', _, o', z⟩
    · exact .inl z
    · exact .inr ⟨j, z⟩
    · exact .inr ⟨j', z⟩
theorem Stp.kw (R : EnvR F H σ ε Fs) (S : Stp F H ε Fs H1 σ1 ε1 Fs1) : Fr F.Wr H H1 := S.kp.mono fun _ ⟨_, o, m⟩ => R.ow o m
theorem kS.after {D : Ends} {r : Res} (S : Stp F H ε Fs H1 σ1 ε1 Fs1) (h : kS F H ε Fs D r) : kS F H1 ε1 Fs1 D r := by
  cases r with
  | nx ε' => exact fun σ' H' Fs' T => h σ' H' Fs' (S.trans T)
  | brk ε' => exact fun σ' H' Fs' T => h σ' H' Fs' (S.trans T)
  | ct ε' => exact fun σ' H' Fs' T => h σ' H' Fs' (S.trans T)
  | ret d f ε' => exact fun v σ' H' Fs' G T V => h v σ' H' Fs' G (S.trans T) ⟨V.rp, V.fr, fun a m => (V.org a m).elim (fun z => .inl (S.kp.live a z)) fun ⟨j, z⟩ => S.al j a z⟩
theorem kS.ends {D D' : Ends} {r : Res} (h : kS F H ε Fs D r) (n : ∀ ε', r = .nx ε' → ∀ σ' H' Fs', Stp F H ε Fs H' σ' ε' Fs' → D.nx σ' H' → D'.nx σ' H') (b : ∀ ε', r = .brk ε' → ∀ σ' H' Fs', Stp F H ε Fs H' σ' ε' Fs' → D.bk σ' H' → D'.bk σ' H')
    (c : ∀ ε', r = .ct ε' → ∀ σ' H' Fs', Stp F H ε Fs H' σ' ε' Fs' → D.ct σ' H' → D'.ct σ' H') (t : ∀ v H', D.rt v H' → D'.rt v H') : kS F H ε Fs D' r := by
  cases r with
  | nx ε' => exact fun σ' H' Fs' T => n ε' rfl σ' H' Fs' T (h σ' H' Fs' T)
  | brk ε' => exact fun σ' H' Fs' T => b ε' rfl σ' H' Fs' T (h σ' H' Fs' T)
  | ct ε' => exact fun σ' H' Fs' T => c ε' rfl σ' H' Fs' T (h σ' H' Fs' T)
  | ret d f ε' => exact fun v σ' H' Fs' G T V => t v H' (h v σ' H' Fs' G T V)
theorem own_unown {i j : Nat} (o : Own (unown ε i) j) : Own ε j ∧ j ≠ i := by
  unfold unown at o
  obtain ⟨x, e⟩ := o
  cases q : ε[i]? with
  | none => simp only [q] at e; exact ⟨⟨x, e⟩, fun z => by rw [z, q] at e; cases e⟩
  | some s => cases s with
    | un => simp only [q] at e; exact ⟨⟨x, e⟩, fun z => by rw [z, q] at e; cases e⟩
    | v y f => cases f with
      | false => simp only [q] at e; exact ⟨⟨x, e⟩, fun z => by rw [z, q] at e; cases e⟩
      | true =>
        simp only [q] at e
        rcases set_at e with ⟨_, e2⟩ | ⟨e1, e2⟩
        · cases e2
        · exact ⟨⟨x, e2⟩, e1⟩
theorem at_unown {i j : Nat} {x : Val} {o : Bool} (e : (unown ε i)[j]? = some (.v x o)) : ∃ o', ε[j]? = some (.v x o') := by
  unfold unown at e
  cases q : ε[i]? with
  | none => simp only [q] at e; exact ⟨_, e⟩
  | some s => cases s with
    | un => simp only [q] at e; exact ⟨_, e⟩
    | v y f => cases f with
      | false => simp only [q] at e; exact ⟨_, e⟩
      | true =>
        simp only [q] at e
        rcases set_at e with ⟨e1, e2⟩ | ⟨e1, e2⟩
        · cases e2; exact ⟨true, by rw [e1]; exact q⟩
        · exact ⟨_, e2⟩
theorem len_unown {i : Nat} : (unown ε i).length = ε.length := by
  unfold unown
  split
  · exact List.length_set
  · rfl
theorem un_unown {i j : Nat} (h : ∀ x o, (unown ε i)[j]? ≠ some (.v (.d x) o)) : ∀ x o, ε[j]? ≠ some (.v (.d x) o) := fun x o e => by
  unfold unown at h
  cases q : ε[i]? with
  | none => simp only [q] at h; exact h x o e
  | some s => cases s with
    | un => simp only [q] at h; exact h x o e
    | v y f => cases f with
      | false => simp only [q] at h; exact h x o e
      | true =>
        simp only [q] at h
        by_cases c : j = i
        · subst c
          rw [q] at e; cases e
          refine h x false ?_
          rw [List.getElem?_set_self]
          by_cases hl : j < ε.length
          · exact hl
          · rw [List.getElem?_eq_none (by omega)] at q; cases q
        · exact h x o (by rw [List.getElem?_set_ne (Ne.symm c)]; exact e)
theorem EnvR.unown (R : EnvR F H σ ε Fs) (i : Nat) : EnvR F H σ (unown ε i) Fs := by
  refine ⟨fun j x o e => ?_, fun j ns o e => ?_, R.og, fun j o => R.own j (own_unown o).1, R.nw, fun j h => R.un j (un_unown h), R.io, by rw [len_unown]; exact R.len⟩
  · obtain ⟨o', e⟩ := at_unown e; exact R.d j x o' e
  · obtain ⟨o', e'⟩ := at_unown e
    obtain ⟨a, h1, h2, h3, h4⟩ := R.s j ns o' e'
    refine ⟨a, h1, h2, h3, ?_⟩
    cases o with
    | false => rfl
    | true =>
      obtain ⟨⟨y, ey⟩, _⟩ := own_unown (ε := ε) ⟨_, e⟩
      rw [e'] at ey
      cases ey
      exact h4
theorem EnvR.unowns (R : EnvR F H σ ε Fs) : ∀ is, EnvR F H σ (unowns ε is) Fs
  | [] => R
  | i :: is => (EnvR.unowns R is).unown i
theorem own_unowns {j : Nat} : ∀ {is : List Nat}, Own (unowns ε is) j → Own ε j ∧ j ∉ is
  | [], o => ⟨o, List.not_mem_nil⟩
  | i :: is, o => by
    obtain ⟨o1, n1⟩ := own_unown o
    obtain ⟨o2, n2⟩ := own_unowns o1
    exact ⟨o2, fun m => (List.mem_cons.mp m).elim n1 n2⟩
theorem Stp.unowns (R : EnvR F H σ ε Fs) (is : List Nat) : Stp F H ε Fs H σ (CF.unowns ε is) Fs := ⟨R.unowns is, .refl, fun j o a m => .inr ⟨j, (own_unowns o).1, m⟩, fun j a m => .inr ⟨j, m⟩⟩
/-- a slot takes a value -/
theorem BindR.stp {is : List Nat} {f : Bool} {G : List Addr} (B : BindR F H σ ε Fs is f G σ1 ε1 Fs1) {H0 : Hp} {ε0 : EnvT} {Fs0 : Nat → List Addr} (S : Stp F H0 ε0 Fs0 H σ ε Fs) (og : ∀ a ∈ G, H0 a = none ∨ ∃ j, a ∈ Fs0 j) (ow : f = true → ∀ a ∈ G, H0 a = none ∨ ∃ j, Own ε0 j ∧ a ∈ Fs0 j) : Stp F H0 ε0 Fs0 H σ1 ε1 Fs1 := by
  refine ⟨B.env, S.kp, fun j o a m => ?_, fun j a m => ?_⟩
  · rcases B.ow j o a m with ⟨o', z⟩ | ⟨e, z⟩
    · exact S.ow j o' a z
    · exact ow e a z
  · rcases B.fs j a m with z | z
    · exact S.al j a z
    · exact og a z
end
end CF
/-! CF21: statements run as is said. -/
namespace CF
open PySem PySem.Spec PyProof.Rows L2

theorem binD_nox {op : BOp} {a b : D} {fa fb : Bool} {x : Xc} : binD op a fa b fb ≠ .ex x := by
  intro h
  unfold binD at h
  split at h <;> first | (cases h; done) | (split at h <;> cases h)
section
variable {X : Cx} {F : Fx} {H H1 H2 : Hp} {σ σ1 σ2 : L2.St} {ε ε1 ε2 : EnvT} {Fs Fs1 Fs2 : Nat → List Addr} {rd ef rda rdb efa efb rdi efi is : List Nat} {a b e : Expr} {pos : Pos} {ma mb m : M} {t : MT} {sa sb : MS} {st : Stmt} {sts as bs : List Stmt} {D : Ends}
theorem tS.w {m : MS} (h : tS F m D σ H) : ∃ ε Fs, EnvR F H σ ε Fs ∧ W0 F H (kS F H ε Fs D) (m ε) := h
theorem PostE.frOwn {v : V} {d : CF.D} {G : List Addr} (P : PostE F H σ ε Fs rd ef H1 ε1 Fs1 v d true G) : ∀ x ∈ G, H x = none ∨ ∃ j, Own ε j ∧ x ∈ Fs j := fun x m => by
  rcases P.org x m with z | ⟨j, z⟩
  · exact .inl z
  · by_cases o : Own ε j
    · exact .inr ⟨j, o, z⟩
    · rw [← P.ne j o] at z
      exact absurd z ((P.fr rfl).2.2 j x m)
/-! ### rows of statements -/
theorem xs_nil : PSs X [] (tS F sNx) := pss_nil.imp fun D σ H ⟨ε, Fs, R, h⟩ => h σ H Fs (.refl R)
theorem xs_cons (h1 : PS X st (tS F sa)) (h2 : PSs X sts (tS F sb)) : PSs X (st :: sts) (tS F (sSeq sa sb)) := by
  refine (pss_cons h1 h2).imp fun D σ H ⟨ε, Fs, R, h⟩ => ?_
  refine ⟨ε, Fs, R, (W0.bind h).imp fun r e q => ?_⟩
  cases r with
  | nx ε' => exact fun σ' H' Fs' S => ⟨ε', Fs', S.env, (q.later (S.kw R)).imp fun r' _ k => k.after S⟩
  | brk ε' => exact q
  | ct ε' => exact q
  | ret d f ε' => exact q
theorem xs_one (h1 : PS X st (tS F sa)) : PSs X [st] (tS F sa) := pss_one h1
theorem xs_pass : PS X (.Pass pos) (tS F sNx) := ps_pass.imp fun D σ H ⟨ε, Fs, R, h⟩ => h σ H Fs (.refl R)
theorem xs_break : PS X (.Break pos) (tS F sBrk) := ps_break.imp fun D σ H ⟨ε, Fs, R, h⟩ => h σ H Fs (.refl R)
theorem xs_continue : PS X (.Continue pos) (tS F sCt) := ps_continue.imp fun D σ H ⟨ε, Fs, R, h⟩ => h σ H Fs (.refl R)
theorem xs_ret (he : PE X e (tE F rd ef m)) : PS X (.Return (some e) pos) (tS F (sRet m)) := by
  refine (ps_ret he).imp fun D σ H ⟨ε, Fs, R, h⟩ => ?_
  exact tE.go R h fun r v H' Fs' G e P q => q v σ H' Fs' G P.seq.stp ⟨P.rp, P.fr, P.org⟩
theorem xs_retN : PS X (.Return none pos) (tS F sRetN) := by
  refine ps_retN.imp fun D σ H ⟨ε, Fs, R, h⟩ => ?_
  exact h .non σ H Fs [] (.refl R) ⟨.non, fun _ => ⟨List.nodup_nil, nofun, fun _ => nofun⟩, nofun⟩
theorem xs_exp (he : PE X e (tE F rd ef m)) (hs : swapsWith e none pos.line X.env = pure false := by rfl) : PS X (.Expr e pos) (tS F (sExp m)) := by
  refine (ps_expr he hs).imp fun D σ H ⟨ε, Fs, R, h⟩ => ?_
  exact tE.go R h fun r v H' Fs' G e P q => q σ H' Fs' P.seq.stp
theorem xs_if {c : Expr} (hc : PT X c (tT F ef t)) (ha : PSs X as (tS F sa)) (hb : PSs X bs (tS F sb)) : PS X (.If c as bs pos) (tS F (sIf t sa sb)) := by
  refine (ps_if hc ha hb).imp fun D σ H ⟨ε, Fs, R, h⟩ => ?_
  refine tT.go R h fun r H' Fs' e S q => ?_
  have k := S.stp
  by_cases c : r.1 = true
  · rw [if_pos c] at q ⊢; exact ⟨_, Fs', S.env, (q.later (k.kw R)).imp fun r' _ z => z.after k⟩
  · rw [if_neg c] at q ⊢; exact ⟨_, Fs', S.env, (q.later (k.kw R)).imp fun r' _ z => z.after k⟩
/-- a target takes what an expression has given -/
theorem take_w {tg : Tg} {g : TG} {p : CF.D × Bool × EnvT} {v : V} {G : List Addr} {rds : List Nat} (gs : GS F g tg is) (hr : ∀ j ∈ rd, j ∈ rds) (R : EnvR F H σ ε Fs) (P : PostE F H σ ε Fs rd ef H1 p.2.2 Fs1 v p.1 p.2.1 G)
    (h : W0 F H (kS F H ε Fs D) ((bindTg (if (p.2.1 || imm p.1) = true then p.2.2 else unowns p.2.2 rds) tg p.1 p.2.1).bind fun ε' => .ok (.nx ε'))) : g v σ H1 D.nx := by
  have og : ∀ x ∈ G, F.Og x := fun x m => (P.org x m).elim (fun z => (R.nw x z).2) fun ⟨j, z⟩ => R.og j x z
  have S := P.seq.stp
  by_cases c : (p.2.1 || imm p.1) = true
  · rw [if_pos c] at h
    have G0 : p.2.1 = false → G = [] := fun e => by
      rw [e, Bool.false_or] at c; exact P.rp.imm c
    have hb : HB F H1 p.2.2 Fs1 p.2.1 G := ⟨og, fun j o x m => by
      cases e : p.2.1 with
      | false => rw [G0 e] at m; exact nomatch m
      | true => exact (P.fr e).2.2 j x m, P.fr⟩
    refine gs P.env P.rp hb (((W0.bind h).later (S.kw R)).imp fun ε' _ q σ' Fs' B => q σ' H1 Fs' (B.stp S P.org fun e x m => ?_))
    have P' := P
    rw [e] at P'
    exact P'.frOwn x m
  · rw [if_neg c] at h
    have e : p.2.1 = false := by
      cases e : p.2.1 with
      | false => rfl
      | true => rw [e] at c; exact absurd rfl c
    have S2 := S.trans (Stp.unowns P.env rds)
    have hb : HB F H1 (unowns p.2.2 rds) Fs1 p.2.1 G := ⟨og, fun j o x m => by
      obtain ⟨o1, n1⟩ := own_unowns o
      exact P.al j (fun z => n1 (hr j z)) o1 x m, fun z => by rw [e] at z; cases z⟩
    exact gs (P.env.unowns rds) P.rp hb (((W0.bind h).later (S.kw R)).imp fun ε' _ q σ' Fs' B => q σ' H1 Fs' (B.stp S2 P.org fun z => by rw [e] at z; cases z))
theorem xs_asg {tg : Expr} {tt : Tg} {g : TG} (gs : GS F g tt is) (he : PE X e (tE F rd ef m)) (hg : PG X tg g) (hs : swapsWithSole [tg] e pos.line X.env = pure false := by rfl) (hw : swappedStores [tg] e X.env = pure none := by rfl)
    (h1 : (assignEach [tg] X.env).map (·.2) = [assign tg X.env] := by rfl) : PS X (.Assign [tg] e pos) (tS F (sAsg tt m rd)) := by
  refine (ps_asg he hg hs hw h1).imp fun D σ H ⟨ε, Fs, R, h⟩ => ?_
  exact tE.go R h fun r v H' Fs' G e P q => take_w gs (fun j m => m) R P q
theorem xs_set {i : Nat} {x : Str} {pos' : Pos} (ni : i ∉ F.io) (hN : X.N.Nodup) (hi : X.N[i]? = some x) (hx : Loc X.env.scope x) (he : PE X e (tE F rd ef m)) (hs : swapsWith e (some (.Name x pos')) pos.line X.env = pure false := by rfl)
    (hf : X.fn x = true ∨ X.env.scope.names.lookup x = some .local := by first | exact .inl rfl | exact .inr rfl | assumption) : PS X (.Assign [.Name x pos'] e pos) (tS F (sAsg (.nm i) m rd)) := by
  refine (ps_set hN hi hx he hs hf).imp fun D σ H ⟨ε, Fs, R, h⟩ => ?_
  exact tE.go R h fun r v H' Fs' G e P q => take_w (gs_nm ni) (fun j m => m) R P q
/-- where a statement's reading is that of a value taken by a name -/
theorem asg_w {tt : Tg} {g : TG} {te : TE} (gs : GS F g tt is) (i : ∀ {σ H Q}, tE F rd ef m σ H Q → te σ H Q) (h : tS F (sAsg tt m rd) D σ H) : tAsg te g D σ H := by
  obtain ⟨ε, Fs, R, h⟩ := h
  exact i (tE.go R h fun r v H' Fs' G e P q => take_w gs (fun j m => m) R P q)
/-- an int or a text on which an operator works -/
theorem xs_aug {i : Nat} {x : Str} {pos' : Pos} {op : BOp} {ti : TIp} (ni : i ∉ F.io) (hN : X.N.Nodup) (hi : X.N[i]? = some x) (hx : Loc X.env.scope x) (he : PE X e (tE F rd ef m)) (ho : PIp X (opOf op) ti)
    (hop : ∀ {a b : CF.D} {r : CF.D × Bool} {v u : V} {G : List Addr} {H : Hp} {Q : VK}, isScal a = true → binD op a true b true = .ok r → Rp F.K H v a [] → Rp F.K H u b G → (∀ w, Rp F.K H w r.1 [] → Q w H) → ti v u H Q)
    (hf : X.fn x = true ∨ X.env.scope.names.lookup x = some .local := by first | exact .inl rfl | exact .inr rfl | assumption) : PS X (.AugAssign (.Name x pos') (opOf op) e pos) (tS F (sAug i op m)) := by
  refine (ps_aug hN hi hx he ho hf).imp fun D σ H ⟨ε, Fs, R, h⟩ => ?_
  unfold sAug at h
  have h := W0.bind h
  cases eg : getD ε i with
  | no => rw [eg] at h; exact h.elim
  | ex z => unfold getD at eg; split at eg <;> cases eg
  | ok p =>
    rw [eg] at h
    have e0 : ∃ o, ε[i]? = some (.v (.d p.1) o) := by
      unfold getD at eg
      split at eg
      · rename_i x o e; cases eg; exact ⟨o, e⟩
      · cases eg
    obtain ⟨o, e0⟩ := e0
    obtain ⟨v, ev, r⟩ := R.d i p.1 o e0
    by_cases c : isScal p.1 = true
    · simp only [W0, if_pos c] at h
      have r0 : Rp F.K H v p.1 [] := by
        have : imm p.1 = true := by
          cases q : p.1 <;> rw [q] at c <;> first | rfl | exact nomatch c
        have e := r.imm this
        rw [e] at r; exact r
      refine ⟨v, ev, tE.go R h fun r2 u H' Fs' G e2 P q => ?_⟩
      cases eb : binD op p.1 true r2.1 true with
      | no => rw [eb] at q; exact q.elim
      | ex z => exact absurd eb binD_nox
      | ok w =>
        rw [eb] at q
        simp only [Out.bind_ok'] at q
        refine hop c eb (r0.keep (F := []) P.kp.kp nofun) P.rp fun z rz => ?_
        have S := P.seq.stp
        have hb : HB F H' r2.2.2 Fs' true [] := ⟨nofun, fun _ _ => nofun, fun _ => ⟨List.nodup_nil, nofun, fun _ => nofun⟩⟩
        have gs := gs_nm (F := F) ni (Q := D.nx) P.env rz hb
        exact gs ((W0.bind (q.later (S.kw R))).imp fun ε' _ k σ' Fs2 B => k σ' H' Fs2 (B.stp S nofun fun _ => nofun))
    · simp only [W0, if_neg c] at h
end
end CF
/-! CF22: one's own lists written. -/
namespace CF
open PySem PySem.Spec PyProof.Rows L2

section
variable {X : Cx} {F : Fx} {H H1 H2 : Hp} {σ σ1 σ2 : L2.St} {ε ε1 ε2 : EnvT} {Fs Fs1 Fs2 : Nat → List Addr} {rd ef rda rdb efa efb rdi efi is : List Nat} {a b e k : Expr} {pos : Pos} {ma mb mk m : M} {D : Ends} {i : Nat} {ds : List CF.D}
theorem ownL_at {ds : List CF.D} (h : ownL ε i = some ds) : ε[i]? = some (.v (.d (.list ds)) true) := by
  unfold ownL at h
  split at h
  · rename_i z e; cases h; exact e
  · cases h
/-- an own list: its address, its items -/
theorem EnvR.lst (R : EnvR F H σ ε Fs) (h : ownL ε i = some ds) : ∃ a xs G, σ[i]? = some (some (.ref a)) ∧ H a = some (.lst xs) ∧ Rps F.K H xs ds G ∧ Fs i = a :: G ∧ i < ε.length ∧ Own ε i := by
  have e := ownL_at h
  obtain ⟨v, ev, r⟩ := R.d i _ _ e
  have hl : i < ε.length := by
    by_cases c : i < ε.length
    · exact c
    · rw [List.getElem?_eq_none (by omega)] at e; cases e
  generalize hF : Fs i = Fi at r
  cases r with
  | lst ha q => exact ⟨_, _, _, ev, ha, q, rfl, hl, _, e⟩
/-- the slots behind a write -/
theorem Stp.wr (S : Stp F H ε Fs H1 σ ε1 Fs1) {p : Addr} {xs xs' : List V} {ds ds' : List CF.D} {G G' : List Addr} (h : ownL ε1 i = some ds) (hs : σ[i]? = some (some (.ref p))) (hp : H1 p = some (.lst xs)) (hF : Fs1 i = p :: G) (r : Rps F.K H1 xs' ds' G') (nd : G'.Nodup)
    (ok : ∀ x ∈ G', F.Wr x ∧ Unf H1 x) (np : p ∉ G') (dj : ∀ j, j ≠ i → ∀ x ∈ G', x ∉ Fs1 j) (og : ∀ x ∈ G', x ∈ Fs1 i ∨ H x = none ∨ ∃ j, Own ε j ∧ x ∈ Fs j) (oG : ∀ x ∈ G', F.Og x) :
    Stp F H ε Fs (upd H1 p (.lst xs')) σ (wrL ε1 i ds') (fun j => if j = i then p :: G' else Fs1 j) := by
  have k := kpD (q' := .lst xs') hp fun z => z
  have R := S.env
  have oi : Own ε1 i := ⟨_, ownL_at h⟩
  have pi : p ∈ Fs1 i := by rw [hF]; exact List.mem_cons_self
  obtain ⟨f1, f2, f3⟩ := R.own i oi
  have pj : ∀ j, j ≠ i → p ∉ Fs1 j := fun j n => f3 j n p pi
  have li : i < ε1.length := oi.lt
  have ow' : ∀ {j}, Own (wrL ε1 i ds') j → j = i ∨ (j ≠ i ∧ Own ε1 j) := fun {j} ⟨x, e⟩ => by
    rcases set_at e with ⟨e1, e2⟩ | ⟨e1, e2⟩
    · exact .inl e1
    · exact .inr ⟨e1, x, e2⟩
  have rk : Rp F.K (upd H1 p (.lst xs')) (.ref p) (.list ds') (p :: G') := .lst upd_same (r.keep k.kp fun x m z => np (z ▸ m))
  refine ⟨⟨fun j x o e => ?_, fun j ns o e => ?_, fun j x m => ?_, fun j o => ?_, fun x z => R.nw x (k.live x z), fun j hj => ?_, R.io, ?_⟩, ⟨fun x o e w => k.kp x o (S.kp.kp x o e w) fun z => ?_, fun x z => S.kp.live x (k.live x z)⟩, fun j o x m => ?_, fun j x m => ?_⟩
  · rcases set_at e with ⟨e1, e2⟩ | ⟨e1, e2⟩
    · subst e1; cases e2
      exact ⟨_, hs, by rw [if_pos rfl]; exact rk⟩
    · obtain ⟨v, e3, q⟩ := R.d j x o e2
      exact ⟨v, e3, by rw [if_neg e1]; exact q.keep k.kp fun y m z => pj j e1 (z ▸ m)⟩
  · rcases set_at e with ⟨e1, e2⟩ | ⟨e1, e2⟩
    · cases e2
    · obtain ⟨y, e3, q, w, z⟩ := R.s j ns o e2
      rcases w with ⟨w1, w2⟩ | w
      · have ny : ¬ y = p := fun c => w2 (c ▸ (f2 p pi).1)
        exact ⟨y, e3, .inl (k.kp.rd w1 ny), .inl ⟨k.kp.rd w1 ny, w2⟩, z⟩
      · exact ⟨y, e3, w _, .inr w, z⟩
  · by_cases c : j = i
    · rw [if_pos c] at m
      rcases List.mem_cons.mp m with z | z
      · rw [z]; exact R.og i p pi
      · exact oG x z
    · rw [if_neg c] at m; exact R.og j x m
  · rcases ow' o with c | ⟨c, oj⟩
    · subst c
      rw [if_pos rfl]
      refine ⟨List.nodup_cons.mpr ⟨np, nd⟩, fun x m => ?_, fun j' n x m => ?_⟩
      · rcases List.mem_cons.mp m with z | z
        · rw [z]; exact ⟨(f2 p pi).1, fun o u w => by rw [upd_same] at w; cases w⟩
        · exact ⟨(ok x z).1, (ok x z).2.keep k.kp (fun w => np (w ▸ z)) (r.live z)⟩
      · rw [if_neg n]
        rcases List.mem_cons.mp m with z | z
        · rw [z]; exact pj j' n
        · exact dj j' n x z
    · rw [if_neg c]
      obtain ⟨g1, g2, g3⟩ := R.own j oj
      refine ⟨g1, fun x m => ⟨(g2 x m).1, (g2 x m).2.keep k.kp (fun w => pj j c (w ▸ m)) (R.live m)⟩, fun j' n x m => ?_⟩
      by_cases c' : j' = i
      · rw [if_pos c']
        intro z
        rcases List.mem_cons.mp z with z | z
        · exact pj j c (z ▸ m)
        · exact dj j c x z m
      · rw [if_neg c']; exact g3 j' n x m
  · by_cases c : j = i
    · subst c
      exact absurd (show (wrL ε1 j ds')[j]? = some (.v (.d (.list ds')) true) from List.getElem?_set_self li) (hj _ _)
    · rw [if_neg c]; exact R.un j fun x o e => hj x o (by unfold wrL; rw [List.getElem?_set_ne (Ne.symm c)]; exact e)
  · unfold wrL; rw [List.length_set]; exact R.len
  · subst z
    rcases S.ow i oi x pi with z | z
    · rw [e] at z; cases z
    · exact w z
  · rcases ow' o with c | ⟨c, oj⟩
    · subst c
      rw [if_pos rfl] at m
      rcases List.mem_cons.mp m with z | z
      · rw [z]; exact S.ow j oi p pi
      · rcases og x z with w | w
        · exact S.ow j oi x w
        · exact w
    · rw [if_neg c] at m; exact S.ow j oj x m
  · by_cases c : j = i
    · rw [if_pos c] at m
      rcases List.mem_cons.mp m with z | z
      · rw [z]; exact S.al i p pi
      · rcases og x z with w | w | ⟨j', _, w⟩
        · exact S.al i x w
        · exact .inl w
        · exact .inr ⟨j', w⟩
    · rw [if_neg c] at m; exact S.al j x m
/-- a value that is to come into one's own list -/
theorem PostE.into {v : V} {d : CF.D} {f : Bool} {G : List Addr} (R : EnvR F H σ ε Fs) (P : PostE F H σ ε Fs rd ef H1 ε1 Fs1 v d f G) (c : (f || imm d) = true) :
    G.Nodup ∧ (∀ x ∈ G, F.Wr x ∧ Unf H1 x) ∧ (∀ j, ∀ x ∈ G, x ∉ Fs1 j) ∧ (∀ x ∈ G, H x = none ∨ ∃ j, Own ε j ∧ x ∈ Fs j) ∧ ∀ x ∈ G, F.Og x := by
  have og : ∀ x ∈ G, F.Og x := fun x m => (P.org x m).elim (fun z => (R.nw x z).2) fun ⟨j, z⟩ => R.og j x z
  cases f with
  | true =>
    obtain ⟨f1, f2, f3⟩ := P.fr rfl
    exact ⟨f1, f2, f3, P.frOwn, og⟩
  | false =>
    rw [Bool.false_or] at c
    rw [P.rp.imm c]
    exact ⟨List.nodup_nil, nofun, fun _ => nofun, nofun, nofun⟩
theorem Rps.snoc {K : PySem.W.Frag} {H : Hp} {xs : List V} {ds : List CF.D} {G G' : List Addr} {v : V} {d : CF.D} (r : Rps K H xs ds G) (q : Rp K H v d G') : Rps K H (xs ++ [v]) (ds ++ [d]) (G ++ G') := r.append (Rps.one q)
theorem own_tail (R : EnvR F H σ ε Fs) {p : Addr} {G : List Addr} (o : Own ε i) (hF : Fs i = p :: G) : G.Nodup ∧ (∀ x ∈ G, F.Wr x ∧ Unf H x) ∧ p ∉ G ∧ (∀ j, j ≠ i → ∀ x ∈ G, x ∉ Fs j) ∧ (∀ x ∈ G, x ∈ Fs i) ∧ (∀ x ∈ G, F.Og x) := by
  obtain ⟨f1, f2, f3⟩ := R.own i o
  have og := R.og i
  rw [hF] at f1 f2 f3 og ⊢
  obtain ⟨n1, n2⟩ := List.nodup_cons.mp f1
  exact ⟨n2, fun x m => f2 x (List.mem_cons_of_mem _ m), n1, fun j n x m => f3 j n x (List.mem_cons_of_mem _ m), fun x m => List.mem_cons_of_mem _ m, fun x m => og x (List.mem_cons_of_mem _ m)⟩
/-- x.append(e) -/
theorem xs_app {x : Str} {p1 p2 p3 : Pos} (g : Gd X F) (hN : X.N[i]? = some x) (hv : Vis X.env.scope x) (he : PE X e (tE F rd ef m)) (hd : (x == ("__debug__" : Str)) = false := by decide) (hcd : (x == ("__classdict__" : Str)) = false := by decide)
    (hbase : attributeBase (.Name x p1) "append" X.env (eval (.Name x p1) X.env) = eval (.Name x p1) X.env := by rfl)
    (hfew : ((backTo p3 (starEach [e] X.env)).all (fun x => !x.1) && (backToKw p3 (keywordEach [] X.env)).all (fun x => x.1.isSome) && decide ([e].length + ([] : List Keyword).length + (if ([] : List Keyword).isEmpty then 0 else 1) < 30)) = true := by rfl)
    (hline : (p2.endLine == p3.line) = true := by rfl) (hs : starEach [e] X.env = (false, eval e X.env) :: starEach [] X.env := by rfl) (hplain : (backTo p3 (starEach [] X.env)).any (·.1) = false := by rfl)
    (hsw : swapsWith (.Call (.Attribute (.Name x p1) "append" p2) [e] [] p3) none pos.line X.env = pure false := by rfl) :
    PS X (.Expr (.Call (.Attribute (.Name x p1) "append" p2) [e] [] p3) pos) (tS F (sApp i m)) := by
  refine (ps_expr (pe_bm PySem.F.plainAttrs_list PySem.F.slot_list_append PySem.F.type_list_append mt_append (pe_var hN hv hd hcd) (pa_cons he pa_nil hs) hbase hfew hline hs hplain) hsw).imp fun D σ H ⟨ε, Fs, R, h⟩ => ?_
  unfold sApp at h
  cases e0 : ownL ε i with
  | none => rw [e0] at h; exact h.elim
  | some ds0 =>
    simp only [e0] at h
    obtain ⟨p, xs0, G0, s0, hp0, _, _, _, _⟩ := R.lst e0
    refine ⟨_, s0, .inl ⟨rfl, _, .inl (.inl hp0)⟩, tE.go R h fun r v H' Fs' G e1 P q => ?_⟩
    cases e2 : ownL r.2.2 i with
    | none => rw [e2] at q; exact q.elim
    | some ds =>
      simp only [e2] at q
      by_cases c : (small (ds.length + 1) && (r.2.1 || imm r.1)) = true
      · rw [if_pos c] at q
        obtain ⟨c1, c2⟩ := Bool.and_eq_true_iff.mp c
        obtain ⟨p', xs, G', s1, hp, rr, hF, _, o⟩ := P.env.lst e2
        obtain rfl : p' = p := by rw [s0] at s1; injection s1 with s1; injection s1 with s1; injection s1 with s1; exact s1.symm
        have lx := rr.length
        have sz := small_le c1
        refine ⟨p', xs, v, rfl, rfl, hp, by omega, ?_⟩
        obtain ⟨n1, n2, n3, n4, n5⟩ := P.into R c2
        obtain ⟨t1, t2, t3, t4, t5, t6⟩ := own_tail P.env o hF
        have pi : p' ∈ Fs' i := by rw [hF]; exact List.mem_cons_self
        refine q σ _ _ (P.seq.stp.wr e2 s1 hp hF (rr.snoc P.rp) ?_ ?_ ?_ ?_ ?_ ?_)
        · exact List.nodup_append.mpr ⟨t1, n1, fun x m y m' z => n3 i y m' (t5 y (z ▸ m))⟩
        · exact fun x mm => (List.mem_append.mp mm).elim (t2 x) (n2 x)
        · exact fun mm => (List.mem_append.mp mm).elim t3 fun z => n3 i _ z pi
        · exact fun j n x mm => (List.mem_append.mp mm).elim (t4 j n x) (n3 j x)
        · exact fun x mm => (List.mem_append.mp mm).elim (fun z => .inl (t5 x z)) fun z => .inr (n4 x z)
        · exact fun x mm => (List.mem_append.mp mm).elim (t6 x) (n5 x)
      · rw [if_neg c] at q; exact q.elim
/-- x.extend(e) of a list -/
theorem xs_ext {x : Str} {p1 p2 p3 : Pos} (g : Gd X F) (hN : X.N[i]? = some x) (hv : Vis X.env.scope x) (he : PE X e (tE F rd ef m)) (hd : (x == ("__debug__" : Str)) = false := by decide) (hcd : (x == ("__classdict__" : Str)) = false := by decide)
    (hbase : attributeBase (.Name x p1) "extend" X.env (eval (.Name x p1) X.env) = eval (.Name x p1) X.env := by rfl)
    (hfew : ((backTo p3 (starEach [e] X.env)).all (fun x => !x.1) && (backToKw p3 (keywordEach [] X.env)).all (fun x => x.1.isSome) && decide ([e].length + ([] : List Keyword).length + (if ([] : List Keyword).isEmpty then 0 else 1) < 30)) = true := by rfl)
    (hline : (p2.endLine == p3.line) = true := by rfl) (hs : starEach [e] X.env = (false, eval e X.env) :: starEach [] X.env := by rfl) (hplain : (backTo p3 (starEach [] X.env)).any (·.1) = false := by rfl)
    (hsw : swapsWith (.Call (.Attribute (.Name x p1) "extend" p2) [e] [] p3) none pos.line X.env = pure false := by rfl) :
    PS X (.Expr (.Call (.Attribute (.Name x p1) "extend" p2) [e] [] p3) pos) (tS F (sExt i m)) := by
  refine (ps_expr (pe_bm PySem.F.plainAttrs_list PySem.F.slot_list_extend PySem.F.type_list_extend mt_extend (pe_var hN hv hd hcd) (pa_cons he pa_nil hs) hbase hfew hline hs hplain) hsw).imp fun D σ H ⟨ε, Fs, R, h⟩ => ?_
  unfold sExt at h
  cases e0 : ownL ε i with
  | none => rw [e0] at h; exact h.elim
  | some ds0 =>
    simp only [e0] at h
    obtain ⟨p, xs0, G0, s0, hp0, _, _, _, _⟩ := R.lst e0
    refine ⟨_, s0, .inl ⟨rfl, _, .inl (.inl hp0)⟩, tE.go R h fun r v H' Fs' G e1 P q => ?_⟩
    cases e2 : ownL r.2.2 i with
    | none => rw [e2] at q; exact q.elim
    | some ds =>
      obtain ⟨dv, f, ε'⟩ := r
      cases dv <;> first | (simp only [e2] at q; exact q.elim) | skip
      rename_i es
      dsimp only at e2 q P
      simp only [e2] at q
      by_cases c : (small (ds.length + es.length) && (f || immAll es)) = true
      · rw [if_pos c] at q
        obtain ⟨c1, c2⟩ := Bool.and_eq_true_iff.mp c
        obtain ⟨p', xs, G', s1, hp, rr, hF, _, o⟩ := P.env.lst e2
        obtain rfl : p' = p := by rw [s0] at s1; injection s1 with s1; injection s1 with s1; injection s1 with s1; exact s1.symm
        obtain ⟨t1, t2, t3, t4, t5, t6⟩ := own_tail P.env o hF
        have pi : p' ∈ Fs' i := by rw [hF]; exact List.mem_cons_self
        have og0 := P.org
        have nd0 := P.fr
        have fo : f = true → ∀ x ∈ G, H x = none ∨ ∃ j, Own ε j ∧ x ∈ Fs j := fun z => by subst z; exact P.frOwn
        obtain ⟨pv, vs, Gv, rfl, hv2, rfl, rv⟩ := P.held0.lst
        have lx := rr.length
        have lv := rv.rp.length
        have sz := small_le c1
        refine ⟨p', pv, xs, vs, rfl, rfl, hp, hv2, by omega, ?_⟩
        obtain ⟨n1, n2, n3, n4, n5⟩ : Gv.Nodup ∧ (∀ x ∈ Gv, F.Wr x ∧ Unf H' x) ∧ (∀ j, ∀ x ∈ Gv, x ∉ Fs' j) ∧ (∀ x ∈ Gv, H x = none ∨ ∃ j, Own ε j ∧ x ∈ Fs j) ∧ ∀ x ∈ Gv, F.Og x := by
          have og : ∀ x ∈ Gv, F.Og x := fun x mm => (og0 x (List.mem_cons_of_mem _ mm)).elim (fun z => (R.nw x z).2) fun ⟨j, z⟩ => R.og j x z
          cases f with
          | true =>
            obtain ⟨f1, f2, f3⟩ := rv.fr rfl
            exact ⟨f1, f2, f3, fun x mm => fo rfl x (List.mem_cons_of_mem _ mm), og⟩
          | false =>
            rw [Bool.false_or] at c2
            rw [rv.rp.imm c2]
            exact ⟨List.nodup_nil, nofun, fun _ => nofun, nofun, nofun⟩
        refine q σ _ _ (P.seq.stp.wr e2 s1 hp hF (rr.append rv.rp) ?_ ?_ ?_ ?_ ?_ ?_)
        · exact List.nodup_append.mpr ⟨t1, n1, fun x m y m' z => n3 i y m' (t5 y (z ▸ m))⟩
        · exact fun x mm => (List.mem_append.mp mm).elim (t2 x) (n2 x)
        · exact fun mm => (List.mem_append.mp mm).elim t3 fun z => n3 i _ z pi
        · exact fun j n x mm => (List.mem_append.mp mm).elim (t4 j n x) (n3 j x)
        · exact fun x mm => (List.mem_append.mp mm).elim (fun z => .inl (t5 x z)) fun z => .inr (n4 x z)
        · exact fun x mm => (List.mem_append.mp mm).elim (t6 x) (n5 x)
      · rw [if_neg c] at q; exact q.elim
/-- x.insert(k, e) -/
theorem xs_ins {x : Str} {p1 p2 p3 : Pos} (g : Gd X F) (hN : X.N[i]? = some x) (hv : Vis X.env.scope x) (hk : PE X k (tE F rda efa mk)) (he : PE X e (tE F rd ef m)) (hd : (x == ("__debug__" : Str)) = false := by decide) (hcd : (x == ("__classdict__" : Str)) = false := by decide)
    (hbase : attributeBase (.Name x p1) "insert" X.env (eval (.Name x p1) X.env) = eval (.Name x p1) X.env := by rfl)
    (hfew : ((backTo p3 (starEach [k, e] X.env)).all (fun x => !x.1) && (backToKw p3 (keywordEach [] X.env)).all (fun x => x.1.isSome) && decide ([k, e].length + ([] : List Keyword).length + (if ([] : List Keyword).isEmpty then 0 else 1) < 30)) = true := by rfl)
    (hline : (p2.endLine == p3.line) = true := by rfl) (hs : starEach [k, e] X.env = (false, eval k X.env) :: starEach [e] X.env := by rfl) (hs2 : starEach [e] X.env = (false, eval e X.env) :: starEach [] X.env := by rfl) (hplain : (backTo p3 (starEach [e] X.env)).any (·.1) = false := by rfl)
    (hsw : swapsWith (.Call (.Attribute (.Name x p1) "insert" p2) [k, e] [] p3) none pos.line X.env = pure false := by rfl) :
    PS X (.Expr (.Call (.Attribute (.Name x p1) "insert" p2) [k, e] [] p3) pos) (tS F (sIns i mk m)) := by
  refine (ps_expr (pe_bm PySem.F.plainAttrs_list PySem.F.slot_list_insert PySem.F.type_list_insert mt_insert (pe_var hN hv hd hcd) (pa_cons hk (pa_cons he pa_nil hs2) hs) hbase hfew hline hs hplain) hsw).imp fun D σ H ⟨ε, Fs, R, h⟩ => ?_
  unfold sIns at h
  cases e0 : ownL ε i with
  | none => rw [e0] at h; exact h.elim
  | some ds0 =>
    simp only [e0] at h
    obtain ⟨p, xs0, G0, s0, hp0, _, _, _, _⟩ := R.lst e0
    refine ⟨_, s0, .inl ⟨rfl, _, .inl (.inl hp0)⟩, tE.go R h fun rk vk H1 Fs1 Gk e1 P1 q => ?_⟩
    refine tE.of P1.env (((W0.bind q).later (P1.kw R)).imp fun r e1' q v H' Fs' G P => ?_)
    cases e2 : ownL r.2.2 i with
    | none => rw [e2] at q; exact q.elim
    | some ds =>
      obtain ⟨dk, fk, εk⟩ := rk
      cases dk with
      | int j =>
        dsimp only at e2 q P1
        simp only [e2] at q
        by_cases c : (small (ds.length + 1) && (r.2.1 || imm r.1) && decide (0 ≤ j ∧ j < 2 ^ 62)) = true
        · rw [if_pos c] at q
          simp only [Bool.and_eq_true, decide_eq_true_eq] at c
          obtain ⟨⟨c1, c2⟩, c3, c4⟩ := c
          obtain ⟨p', xs, G', s1, hp, rr, hF, _, o⟩ := P.env.lst e2
          obtain rfl : p' = p := by rw [s0] at s1; injection s1 with s1; injection s1 with s1; injection s1 with s1; exact s1.symm
          have lx := rr.length
          have sz := small_le c1
          refine ⟨p', xs, j, v, rfl, by rw [P1.held0.int], hp, by omega, c3, by omega, ?_⟩
          obtain ⟨n1, n2, n3, n4, n5⟩ := P.into P1.env c2
          obtain ⟨t1, t2, t3, t4, t5, t6⟩ := own_tail P.env o hF
          have pi : p' ∈ Fs' i := by rw [hF]; exact List.mem_cons_self
          have n4' : ∀ x ∈ G, H x = none ∨ ∃ j, Own ε j ∧ x ∈ Fs j := fun x mm => by
            rcases n4 x mm with z | ⟨j', o', z⟩
            · exact .inl (P1.kp.live x z)
            · exact P1.seq.stp.ow j' o' x z
          -- the list in two parts
          have r0 := rr
          rw [← List.take_append_drop j.toNat ds] at r0
          obtain ⟨F1, F2, eF, q1, q2⟩ := r0.split
          have lt : (ds.take j.toNat).length = min j.toNat xs.length := by rw [List.length_take, lx]
          have tk : xs.take (ds.take j.toNat).length = xs.take j.toNat := by
            rw [lt]
            by_cases h : j.toNat ≤ xs.length
            · rw [Nat.min_eq_left h]
            · rw [Nat.min_eq_right (by omega), List.take_of_length_le (by omega), List.take_of_length_le (by omega)]
          have dp : xs.drop (ds.take j.toNat).length = xs.drop j.toNat := by
            rw [lt]
            by_cases h : j.toNat ≤ xs.length
            · rw [Nat.min_eq_left h]
            · rw [Nat.min_eq_right (by omega), List.drop_of_length_le (by omega), List.drop_of_length_le (by omega)]
          rw [tk] at q1
          rw [dp] at q2
          have rn : Rps F.K H' (xs.take j.toNat ++ [v] ++ xs.drop j.toNat) (ds.take j.toNat ++ [r.1] ++ ds.drop j.toNat) (F1 ++ G ++ F2) := (q1.append (Rps.one P.rp)).append q2
          have pm : (F1 ++ G ++ F2).Perm (G' ++ G) := by
            rw [eF]
            rw [List.append_assoc, List.append_assoc]
            exact List.Perm.append_left F1 List.perm_append_comm
          have inn : ∀ {x}, x ∈ F1 ++ G ++ F2 → x ∈ G' ∨ x ∈ G := fun {x} mm => List.mem_append.mp (pm.mem_iff.mp mm)
          refine q σ _ _ ((P1.seq.stp.trans P.seq.stp).wr e2 s1 hp hF rn ?_ ?_ ?_ ?_ ?_ ?_)
          · exact pm.nodup_iff.mpr (List.nodup_append.mpr ⟨t1, n1, fun x m y m' z => n3 i y m' (t5 y (z ▸ m))⟩)
          · exact fun x mm => (inn mm).elim (t2 x) (n2 x)
          · exact fun mm => (inn mm).elim t3 fun z => n3 i _ z pi
          · exact fun j n x mm => (inn mm).elim (t4 j n x) (n3 j x)
          · exact fun x mm => (inn mm).elim (fun z => .inl (t5 x z)) fun z => .inr (n4' x z)
          · exact fun x mm => (inn mm).elim (t6 x) (n5 x)
        · rw [if_neg c] at q; exact q.elim
      | _ => simp only [e2] at q; exact q.elim
theorem rps_set {K : PySem.W.Frag} {H : Hp} {v : V} {d : CF.D} (q : Rp K H v d []) : ∀ {vs : List V} {ds : List CF.D} {G : List Addr} {n : Nat}, Rps K H vs ds G → ∃ G', Rps K H (vs.set n v) (ds.set n d) G' ∧ List.Sublist G' G
  | _, _, _, _, .nil => ⟨[], .nil, .slnil⟩
  | _, _, _, 0, .cons (F := F1) r rs => ⟨_, .cons q rs, by rw [List.nil_append]; exact List.sublist_append_right ..⟩
  | _, _, _, n + 1, .cons (F := F1) r rs => by
    obtain ⟨G', q', s⟩ := rps_set q (n := n) rs
    exact ⟨_, .cons r q', List.Sublist.append_left s _⟩
/-- one place of one's own list, a scalar -/
theorem Stp.put (S : Stp F H ε Fs H1 σ ε1 Fs1) {p : Addr} {xs : List V} {ds : List CF.D} {G : List Addr} {v : V} {d : CF.D} {n : Nat} (h : ownL ε1 i = some ds) (hs : σ[i]? = some (some (.ref p))) (hp : H1 p = some (.lst xs)) (hF : Fs1 i = p :: G) (r : Rps F.K H1 xs ds G) (q : Rp F.K H1 v d []) :
    ∃ Fs2, Stp F H ε Fs (upd H1 p (.lst (xs.set n v))) σ (wrL ε1 i (ds.set n d)) Fs2 := by
  obtain ⟨G', r', s⟩ := rps_set (n := n) q r
  obtain ⟨t1, t2, t3, t4, t5, t6⟩ := own_tail S.env ⟨_, ownL_at h⟩ hF
  exact ⟨_, S.wr h hs hp hF r' (s.nodup t1) (fun x mm => t2 x (s.subset mm)) (fun mm => t3 (s.subset mm)) (fun j n x mm => t4 j n x (s.subset mm)) (fun x mm => .inl (t5 x (s.subset mm))) fun x mm => t6 x (s.subset mm)⟩
/-- x[k] = e, e an int, a text, None -/
theorem xs_setL {x : Str} {p1 p2 : Pos} (hN : X.N[i]? = some x) (hv : Vis X.env.scope x) (hk : PE X k (tE F rda efa mk)) (he : PE X e (tE F rd ef m)) (hd : (x == ("__debug__" : Str)) = false := by decide) (hcd : (x == ("__classdict__" : Str)) = false := by decide)
    (ha : ∀ v, assign (.Subscript (.Name x p1) k p2) X.env v = (do
      let ov ← holding [v] (eval (.Name x p1) X.env)
      let iv ← holding [v, ov] (eval k X.env)
      standAt p2; holding [v, ov, iv] (setItem ov iv v); release [v, ov, iv] []) := by intro _; rfl)
    (hs : swapsWithSole [.Subscript (.Name x p1) k p2] e pos.line X.env = pure false := by rfl) (hw : swappedStores [.Subscript (.Name x p1) k p2] e X.env = pure none := by rfl)
    (h1 : (assignEach [.Subscript (.Name x p1) k p2] X.env).map (·.2) = [assign (.Subscript (.Name x p1) k p2) X.env] := by rfl) :
    PS X (.Assign [.Subscript (.Name x p1) k p2] e pos) (tS F (sSetL i mk m)) := by
  refine (ps_asg he (pg_sub (pe_var hN hv hd hcd) hk set_list ha) hs hw h1).imp fun D σ H ⟨ε, Fs, R, h⟩ => ?_
  refine tE.go R h fun r v H1 Fs1 G e1 P q => ?_
  cases e0 : ownL r.2.2 i with
  | none => rw [e0] at q; exact q.elim
  | some ds0 =>
    simp only [e0] at q
    obtain ⟨p, xs0, G0, s0, hp0, _, _, _, _⟩ := P.env.lst e0
    refine ⟨_, s0, tE.of P.env (((W0.bind q).later (P.kw R)).imp fun rk e2 q vk H2 Fs2 Gk P2 => ?_)⟩
    cases e3 : ownL rk.2.2 i with
    | none => rw [e3] at q; exact q.elim
    | some ds =>
      obtain ⟨dk, fk, εk⟩ := rk
      cases dk <;> first | (simp only [e3] at q; exact q.elim) | skip
      rename_i j
      dsimp only at e3 q P2
      simp only [e3] at q
      cases e4 : ixN ds.length j with
      | none => rw [e4] at q; exact q.elim
      | some n =>
        simp only [e4] at q
        by_cases c : (isScal r.1 || isNone r.1) = true
        · rw [if_pos c] at q
          obtain ⟨p', xs, G', s1, hp, rr, hF, _, o⟩ := P2.env.lst e3
          obtain rfl : p' = p := by rw [s0] at s1; injection s1 with s1; injection s1 with s1; injection s1 with s1; exact s1.symm
          have im : imm r.1 = true := by
            cases z : r.1 <;> rw [z] at c <;> first | rfl | exact nomatch c
          have rv : Rp F.K H2 v r.1 [] := by
            have e := P.rp.imm im
            have := P.rp
            rw [e] at this
            exact this.keep (F := []) P2.kp.kp nofun
          obtain ⟨Fs3, T⟩ := (P.seq.stp.trans P2.seq.stp).put (n := n) e3 s1 hp hF rr rv
          exact ⟨p', xs, j, n, rfl, P2.held0.int, hp, by rw [rr.length]; exact e4, q σ _ Fs3 T⟩
        · rw [if_neg c] at q; exact q.elim
def rGetL : V → V → Hp → VK → Prop := fun o i H Q => ∃ p xs k x, o = .ref p ∧ i = .int k ∧ H p = some (.lst xs) ∧ 0 ≤ k ∧ k < 2 ^ 63 ∧ xs[k.toNat]? = some x ∧ Q x H
theorem get_list : PGet X rGetL := by
  intro pins s σ H o j ov iv Q I ro ri h
  obtain ⟨p, xs, k, x, rfl, rfl, hp, h0, h1, he, q⟩ := h
  cases ro
  obtain ⟨t, rfl⟩ := ri
  obtain ⟨its, r, pl, hz⟩ := I.list (.inl (.inl hp))
  obtain ⟨w, ew, rw'⟩ := r.get he
  exact getItem_listL pl.isList h0 h1 ew ⟨x, H, I, rw', q⟩
/-- x[k] op= e, ints -/
theorem xs_augL {x : Str} {p1 p2 : Pos} {op : BOp} {ti : TIp} (hN : X.N[i]? = some x) (hv : Vis X.env.scope x) (hk : PE X k (tE F rda efa mk)) (he : PE X e (tE F rd ef m)) (ho : PIp X (opOf op) ti)
    (hop : ∀ {a b : CF.D} {r : CF.D × Bool} {v u : V} {G : List Addr} {H : Hp} {Q : VK}, isScal a = true → binD op a true b true = .ok r → Rp F.K H v a [] → Rp F.K H u b G → (∀ w, Rp F.K H w r.1 [] → Q w H) → ti v u H Q)
    (hd : (x == ("__debug__" : Str)) = false := by decide) (hcd : (x == ("__classdict__" : Str)) = false := by decide)
    (ha : ∀ ov iv new, augStore k ov iv new = (do holding [new, ov, iv] (setItem ov iv new); release [new, ov, iv] []; pure .next) := by intros; rfl) :
    PS X (.AugAssign (.Subscript (.Name x p1) k p2) (opOf op) e pos) (tS F (sAugL i mk op m)) := by
  refine (ps_augS (pe_var hN hv hd hcd) hk get_list he ho set_list ha).imp fun D σ H ⟨ε, Fs, R, h⟩ => ?_
  unfold sAugL at h
  cases e0 : ownL ε i with
  | none => rw [e0] at h; exact h.elim
  | some ds0 =>
    simp only [e0] at h
    obtain ⟨p, xs0, G0, s0, hp0, _, _, _, _⟩ := R.lst e0
    refine ⟨_, s0, tE.go R h fun rk vk H1 Fs1 Gk e1 P1 q => ?_⟩
    obtain ⟨dk, fk, εk⟩ := rk
    cases e2 : ownL εk i with
    | none => simp only [e2] at q; exact q.elim
    | some ds =>
      cases dk with
      | int j =>
        dsimp only at q P1
        simp only [e2] at q
        obtain ⟨p', xs, G', s1, hp, rr, hF, _, o⟩ := P1.env.lst e2
        obtain rfl : p' = p := by rw [s0] at s1; injection s1 with s1; injection s1 with s1; injection s1 with s1; exact s1.symm
        cases e3 : ds[j.toNat]? with
        | none => simp only [e3] at q; exact q.elim
        | some dx =>
          cases dx with
          | int a0 =>
            simp only [e3] at q
            obtain ⟨w, Gw, ew, rw', _⟩ := rr.get e3
            cases rw'
            by_cases c : 0 ≤ j ∧ j < 2 ^ 62
            · rw [if_pos c] at q
              obtain ⟨c1, c3⟩ := c
              refine ⟨p', xs, j, .int a0, rfl, P1.held0.int, hp, c1, by omega, ew, tE.of P1.env (((W0.bind q).later (P1.kw R)).imp fun r2 e4 q v2 H2 Fs2 G2 P2 => ?_)⟩
              obtain ⟨d2, f2, ε2⟩ := r2
              cases e5 : ownL ε2 i with
              | none => simp only [e5] at q; exact q.elim
              | some ds' =>
                cases d2 with
                | int b0 =>
                  dsimp only at q
                  simp only [e5] at q
                  cases e6 : binD op (.int a0) true (.int b0) true with
                  | no => simp only [e6] at q; exact q.elim
                  | ex z => exact absurd e6 binD_nox
                  | ok r3 =>
                    obtain ⟨d3, f3⟩ := r3
                    cases d3 with
                    | int c0 =>
                      simp only [e6] at q
                      by_cases c2 : j < ds'.length
                      · rw [if_pos c2] at q
                        refine hop rfl e6 (.int _) P2.rp fun z rz => ?_
                        cases rz
                        obtain ⟨p'', xs2, G'', s2, hp2, rr2, hF2, _, o2⟩ := P2.env.lst e5
                        obtain rfl : p'' = p' := by rw [s0] at s2; injection s2 with s2; injection s2 with s2; injection s2 with s2; exact s2.symm
                        obtain ⟨Fs3, T⟩ := (P1.seq.stp.trans P2.seq.stp).put (n := j.toNat) (v := .int c0) (d := .int c0) e5 s2 hp2 hF2 rr2 (.int _)
                        refine ⟨p'', xs2, j, j.toNat, rfl, P1.held0.int, hp2, ?_, q σ _ Fs3 T⟩
                        have hl := rr2.length
                        unfold ixN
                        rw [if_pos c1, if_pos (by omega)]
                      · rw [if_neg c2] at q; exact q.elim
                    | _ => simp only [e6] at q; exact q.elim
                | _ => simp only [e5] at q; exact q.elim
            · rw [if_neg c] at q; exact q.elim
          | _ => simp only [e3] at q; exact q.elim
      | _ => simp only [e2] at q; exact q.elim
end
end CF
/-! CF23: comprehensions as expressions and statements; for; op=. -/
namespace CF
open PySem PySem.Spec PyProof.Rows L2

section
variable {X : Cx} {F : Fx} {H H1 H2 : Hp} {σ σ1 σ2 : L2.St} {ε ε1 ε2 : EnvT} {Fs Fs1 Fs2 : Nat → List Addr} {rd ef rde efe eft eft1 rdi efi rdi1 efi1 is is1 vs1 : List Nat} {pos : Pos} {m : M} {mi mi1 : MI} {t t1 : MT} {D : Ends} {i : Nat} {g g1 : TG} {tg tg1 : Tg}
theorem Gd.blk (g : Gd X F) {s : Shared} {H : Hp} {sc : Scope} {ce : Env} {fp : List Addr} : Gd (X.blk s H sc ce fp) F := ⟨g.K, g.calm, g.nd, g.un, g.gd⟩
theorem yes_of {Y : Cx} : PTs Y [] (tT F [] mYes) := ⟨fun pins s σ H Q I h => pts_nil.run pins s σ H Q I (by
  obtain ⟨ε, Fs, R, h⟩ := h
  exact h H Fs (.refl R))⟩
/-- the statics of a block of one clause -/
structure Blk1 (F : Fx) (rd ef rde efe eft rdi efi is vs : List Nat) (h he : Bool) : Prop where
  b_rde : ∀ j ∈ rde, j ∈ rd
  b_efe : ∀ j ∈ efe, j ∈ ef
  b_eft : ∀ j ∈ eft, j ∈ ef
  b_rdi : ∀ j ∈ rdi, j ∈ rd
  b_efi : ∀ j ∈ efi, j ∈ ef
  b_hi : h = true ∨ ∀ j ∈ ef, j ∉ rdi
  b_he : he = true ∨ ∀ j ∈ ef, j ∉ rd
  b_is : ∀ j ∈ is, j ∈ vs
  b_io : ∀ j ∈ F.io, j ∉ vs
theorem Blk1.lc {h he : Bool} {vs : List Nat} (b : Blk1 F rd ef rde efe eft rdi efi is vs h he) (gs : GS F g tg is) {Q : VK} (q : tE F rd ef (mLc (cFor mi vs tg h rdi (cIf t (cEnd m he)))) σ H Q) :
    tLc (tI F rdi efi mi) g (tT F eft t) (tE F rde efe m) vs σ H Q :=
  lcB b.b_rdi b.b_efi b.b_hi gs b.b_is b.b_io (body_if (fun h => h) b.b_eft (body_end b.b_rde b.b_efe b.b_he)) q
theorem xe_lc {elt tgE iter : Expr} {ifs : List Expr} {scope : Scope} {own : List (Str × Nat)} {h he : Bool} (G : Gd X F) (rd ef : List Nat) (gs : GS F g tg is) (ok : BlkOk X.N X.env.scope scope own) (b : Blk1 F rd ef rde efe eft rdi efi is (own.map (·.2)) h he) (hi : PI X tgE iter (tI F rdi efi mi))
    (hg : ∀ s H C cl fp, PG (X.blk s H scope (compEnvC scope cl C X.env) fp) tgE g) (ht : ∀ s H C cl fp, PTs (X.blk s H scope (compEnvC scope cl C X.env) fp) ifs (tT F eft t)) (hm : ∀ s H C cl fp, PE (X.blk s H scope (compEnvC scope cl C X.env) fp) elt (tE F rde efe m))
    (hs : ∀ x, foldedSetIterable iter X.env x = pure x := by intro _; rfl) : PE X (.ListComp elt [⟨tgE, iter, ifs, 0⟩] scope pos) (tE F rd ef (mLc (cFor mi (own.map (·.2)) tg h rdi (cIf t (cEnd m he))))) :=
  (pe_lc G.calm G.nd hi ok hg ht hm hs).imp fun σ H Q q => b.lc gs q
theorem xs_setLc {y : Str} {py spos : Pos} {elt tgE iter : Expr} {ifs : List Expr} {scope : Scope} {own : List (Str × Nat)} {h he : Bool} (G : Gd X F) (rd ef : List Nat) (ni : i ∉ F.io) (hy : X.N[i]? = some y) (hyl : X.env.scope.names.lookup y = some .local)
    (hsw : swapsWith (.ListComp elt [⟨tgE, iter, ifs, 0⟩] scope pos) (some (.Name y py)) spos.line X.env = pure true) (gs : GS F g tg is) (ok : BlkOk X.N X.env.scope scope own) (b : Blk1 F rd ef rde efe eft rdi efi is (own.map (·.2)) h he) (hi : PI X tgE iter (tI F rdi efi mi))
    (hg : ∀ s H C cl fp, PG (X.blk s H scope (compEnvC scope cl C X.env) fp) tgE g) (ht : ∀ s H C cl fp, PTs (X.blk s H scope (compEnvC scope cl C X.env) fp) ifs (tT F eft t)) (hm : ∀ s H C cl fp, PE (X.blk s H scope (compEnvC scope cl C X.env) fp) elt (tE F rde efe m))
    (hs : ∀ x, foldedSetIterable iter X.env x = pure x := by intro _; rfl) : PS X (.Assign [.Name y py] (.ListComp elt [⟨tgE, iter, ifs, 0⟩] scope pos) spos) (tS F (sAsg (.nm i) (mLc (cFor mi (own.map (·.2)) tg h rdi (cIf t (cEnd m he)))) rd)) :=
  (ps_setLc G.calm G.nd hy hyl hsw hi ok hg ht hm hs).imp fun D σ H q => asg_w (gs_nm ni) (fun q => b.lc gs q) q
/-- .. of two clauses -/
structure Blk2 (F : Fx) (rd ef rde efe eft eft1 rdi efi rdi1 efi1 is is1 vs vs1 : List Nat) (h h1 he : Bool) : Prop where
  b_b1 : Blk1 F rd ef rde efe eft rdi efi is vs h he
  b_eft1 : ∀ j ∈ eft1, j ∈ ef
  b_efi1 : ∀ j ∈ efi1, j ∈ ef
  b_h1 : h1 = true ∨ ∀ j ∈ ef, j ∉ rdi1
  b_is1 : ∀ j ∈ is1, j ∈ vs1
  b_sub : ∀ j ∈ vs1, j ∈ vs
theorem Blk2.lc {h h1 he : Bool} {vs : List Nat} (b : Blk2 F rd ef rde efe eft eft1 rdi efi rdi1 efi1 is is1 vs vs1 h h1 he) (gs : GS F g tg is) (gs1 : GS F g1 tg1 is1) {Q : VK}
    (q : tE F rd ef (mLc (cFor mi vs tg h rdi (cIf t (cFor mi1 vs1 tg1 h1 rdi1 (cIf t1 (cEnd m he)))))) σ H Q) : tLc2 (tI F rdi efi mi) g (tT F eft t) (tI F rdi1 efi1 mi1) g1 (tT F eft1 t1) (tE F rde efe m) vs vs1 σ H Q :=
  lcB b.b_b1.b_rdi b.b_b1.b_efi b.b_b1.b_hi gs b.b_b1.b_is b.b_b1.b_io (body_if (fun h => h) b.b_b1.b_eft (body_for b.b_efi1 b.b_h1 gs1 b.b_is1 (fun j m n => b.b_b1.b_io j m (b.b_sub j n)) (body_if (fun h => h) b.b_eft1 (body_end b.b_b1.b_rde b.b_b1.b_efe b.b_b1.b_he)))) q
theorem xe_lc2 {elt tgE iter tgE1 iter1 : Expr} {ifs ifs1 : List Expr} {scope : Scope} {own : List (Str × Nat)} {h h1 he : Bool} (G : Gd X F) (rd ef : List Nat) (gs : GS F g tg is) (gs1 : GS F g1 tg1 is1) (ok : BlkOk X.N X.env.scope scope own) (b : Blk2 F rd ef rde efe eft eft1 rdi efi rdi1 efi1 is is1 (own.map (·.2)) vs1 h h1 he) (hi : PI X tgE iter (tI F rdi efi mi))
    (hg : ∀ s H C cl fp, PG (X.blk s H scope (compEnvC scope cl C X.env) fp) tgE g) (ht : ∀ s H C cl fp, PTs (X.blk s H scope (compEnvC scope cl C X.env) fp) ifs (tT F eft t))
    (hi1 : ∀ s H C cl fp, PI (X.blk s H scope (compEnvC scope cl C X.env) fp) tgE1 iter1 (tI F rdi1 efi1 mi1)) (hg1 : ∀ s H C cl fp, PG (X.blk s H scope (compEnvC scope cl C X.env) fp) tgE1 g1) (ht1 : ∀ s H C cl fp, PTs (X.blk s H scope (compEnvC scope cl C X.env) fp) ifs1 (tT F eft1 t1))
    (hm : ∀ s H C cl fp, PE (X.blk s H scope (compEnvC scope cl C X.env) fp) elt (tE F rde efe m)) (hs : ∀ x, foldedSetIterable iter X.env x = pure x := by intro _; rfl) (hs1 : ∀ env x, foldedSetIterable iter1 env x = pure x := by intro _ _; rfl) :
    PE X (.ListComp elt [⟨tgE, iter, ifs, 0⟩, ⟨tgE1, iter1, ifs1, 0⟩] scope pos) (tE F rd ef (mLc (cFor mi (own.map (·.2)) tg h rdi (cIf t (cFor mi1 vs1 tg1 h1 rdi1 (cIf t1 (cEnd m he))))))) :=
  (pe_lc2 G.calm G.nd hi ok b.b_sub hg ht hi1 hg1 ht1 hm hs hs1).imp fun σ H Q q => b.lc gs gs1 q
theorem xs_setLc2 {y : Str} {py spos : Pos} {elt tgE iter tgE1 iter1 : Expr} {ifs ifs1 : List Expr} {scope : Scope} {own : List (Str × Nat)} {h h1 he : Bool} (G : Gd X F) (rd ef : List Nat) (ni : i ∉ F.io) (hy : X.N[i]? = some y) (hyl : X.env.scope.names.lookup y = some .local)
    (hsw : swapsWith (.ListComp elt [⟨tgE, iter, ifs, 0⟩, ⟨tgE1, iter1, ifs1, 0⟩] scope pos) (some (.Name y py)) spos.line X.env = pure true) (gs : GS F g tg is) (gs1 : GS F g1 tg1 is1) (ok : BlkOk X.N X.env.scope scope own) (b : Blk2 F rd ef rde efe eft eft1 rdi efi rdi1 efi1 is is1 (own.map (·.2)) vs1 h h1 he) (hi : PI X tgE iter (tI F rdi efi mi))
    (hg : ∀ s H C cl fp, PG (X.blk s H scope (compEnvC scope cl C X.env) fp) tgE g) (ht : ∀ s H C cl fp, PTs (X.blk s H scope (compEnvC scope cl C X.env) fp) ifs (tT F eft t))
    (hi1 : ∀ s H C cl fp, PI (X.blk s H scope (compEnvC scope cl C X.env) fp) tgE1 iter1 (tI F rdi1 efi1 mi1)) (hg1 : ∀ s H C cl fp, PG (X.blk s H scope (compEnvC scope cl C X.env) fp) tgE1 g1) (ht1 : ∀ s H C cl fp, PTs (X.blk s H scope (compEnvC scope cl C X.env) fp) ifs1 (tT F eft1 t1))
    (hm : ∀ s H C cl fp, PE (X.blk s H scope (compEnvC scope cl C X.env) fp) elt (tE F rde efe m)) (hs : ∀ x, foldedSetIterable iter X.env x = pure x := by intro _; rfl) (hs1 : ∀ env x, foldedSetIterable iter1 env x = pure x := by intro _ _; rfl) :
    PS X (.Assign [.Name y py] (.ListComp elt [⟨tgE, iter, ifs, 0⟩, ⟨tgE1, iter1, ifs1, 0⟩] scope pos) spos) (tS F (sAsg (.nm i) (mLc (cFor mi (own.map (·.2)) tg h rdi (cIf t (cFor mi1 vs1 tg1 h1 rdi1 (cIf t1 (cEnd m he)))))) rd)) :=
  (ps_setLc2 G.calm G.nd hy hyl hsw hi ok b.b_sub hg ht hi1 hg1 ht1 hm hs hs1).imp fun D σ H q => asg_w (gs_nm ni) (fun q => b.lc gs gs1 q) q

/-! ### op= -/
theorem hop_add {a b : CF.D} {r : CF.D × Bool} {v u : V} {G : List Addr} {H : Hp} {Q : VK} (c : isScal a = true) (e : binD .add a true b true = .ok r) (h1 : Rp F.K H v a []) (h2 : Rp F.K H u b G) (q : ∀ w, Rp F.K H w r.1 [] → Q w H) : (ipI fun i j => i + j) v u H Q ∨ (fun x y H Q => ∃ i j, x = .str i ∧ y = .str j ∧ i.length + j.length ≤ sizeLine ∧ Q (.str (i ++ j)) H : TIp) v u H Q := by
  cases a <;> first | (cases c; done) | skip
  · cases b <;> first | (cases e; done) | skip
    cases h1; cases h2; cases e
    exact .inl ⟨_, _, rfl, rfl, q _ (.int _)⟩
  · cases b <;> first | (cases e; done) | skip
    rename_i x y
    simp only [binD] at e
    by_cases c : small (x.length + y.length) = true
    · rw [if_pos c] at e
      cases h1; cases h2; cases e
      exact .inr ⟨_, _, rfl, rfl, small_le c, q _ (.str _)⟩
    · rw [if_neg c] at e; exact nomatch e
end
theorem _root_.L2.PIp.or {X : Cx} {op : Operator} {t t' : TIp} (h : PIp X op t) (h' : PIp X op t') : PIp X op (fun x y H Q => t x y H Q ∨ t' x y H Q) := fun pins s σ H x y v u Q I rx ry q => q.elim (h pins s σ H x y v u Q I rx ry) (h' pins s σ H x y v u Q I rx ry)
end CF
/-! CF24: for loops. -/
namespace CF
open PySem PySem.Spec PyProof.Rows L2

section
variable {X : Cx} {F : Fx} {H H1 H2 : Hp} {σ σ1 σ2 : L2.St} {ε ε1 ε2 : EnvT} {Fs Fs1 Fs2 : Nat → List Addr} {rd ef rdi efi is : List Nat} {pos : Pos} {mi : MI} {D : Ends} {g : TG} {tg : Tg} {body : MS} {J : It} {ds : List CF.D} {G : List Addr} {Iv : Hp → Prop}
theorem W0.bind' {α β : Type} {k : β → Prop} {f : α → Out β} {o : Out α} : W0 F H k (o.bind f) ↔ W0 F H (fun a => W0 F H k (f a)) o := by
  cases o <;> exact Iff.rfl
/-- the turns of a for, from any state that bears what is walked -/
theorem for_ok {tb : TS} (src : Src F.K J ds G Iv) (gs : GS F g tg is) (hb : ∀ {D σ H}, tS F body D σ H → tb D σ H) (R : EnvR F H σ ε Fs) (S : Stp F H ε Fs H1 σ1 ε1 Fs1) (iv : Iv H1) (gl : ∀ x ∈ G, H1 x ≠ none) (go : ∀ j, Own ε1 j → ∀ x ∈ G, x ∉ Fs1 j) (og : ∀ x ∈ G, H x = none ∨ ∃ j, x ∈ Fs j)
    (h : W0 F H (kS F H ε Fs D) (forTurns tg body ds ε1)) : ∃ W : Nat → Nat → L2.St → Hp → Prop, (∃ m, W 0 m σ1 H1) ∧ ∀ i m σ H, W i m σ H → (J.stop i H ∧ D.nx σ H) ∨ (J.go i H ∧ ∃ N : L2.St → Hp → Prop, (∀ σ' H', N σ' H' → ∃ m', m' < m ∧ W (i + 1) m' σ' H') ∧
      ∀ x H', J.yld i H x H' → g x σ H' fun σ2 H2 => tb { D with nx := N, ct := N, bk := D.nx } σ2 H2) := by
  let Pv : Nat → L2.St → Hp → Prop := fun i σc Hc => ∃ εc Fsc, Stp F H ε Fs Hc σc εc Fsc ∧ Iv Hc ∧ (∀ x ∈ G, Hc x ≠ none) ∧ (∀ j, Own εc j → ∀ x ∈ G, x ∉ Fsc j) ∧ W0 F H (kS F H ε Fs D) (forTurns tg body (ds.drop i) εc)
  refine ⟨fun i m σc Hc => m = ds.length - i ∧ i ≤ ds.length ∧ Pv i σc Hc, ⟨ds.length, rfl, Nat.zero_le _, ε1, Fs1, S, iv, gl, go, h⟩, ?_⟩
  rintro i m σc Hc ⟨rfl, hi, εc, Fsc, Sc, ic, lc, oc, hc⟩
  by_cases hlt : i < ds.length
  · refine .inr ⟨src.go i Hc hlt ic, Pv (i + 1), fun σ' H' p => ⟨ds.length - (i + 1), by omega, rfl, hlt, p⟩, fun x H' y => ?_⟩
    obtain ⟨d, Gi, ed, r, sG, fr⟩ := src.yld i Hc x H' hlt ic y
    have dr : ds.drop i = d :: ds.drop (i + 1) := by
      rw [List.drop_eq_getElem_cons hlt]
      have : ds[i] = d := Option.some.inj ((List.getElem?_eq_getElem hlt).symm.trans ed)
      rw [this]
    rw [dr] at hc
    have R1 : EnvR F H' σc εc Fsc := Sc.env.ext fr
    have S1 : Stp F H ε Fs H' σc εc Fsc := ⟨R1, Sc.kp.trans (fr.mono fun _ z => z.elim), Sc.ow, Sc.al⟩
    have ic1 : Iv H' := src.keep ic fr.kp fun _ _ z => z
    have ogF : ∀ b ∈ G, F.Og b := fun b m => (og b m).elim (fun z => (R.nw b z).2) fun ⟨j, z⟩ => R.og j b z
    have hbd : HB F H' εc Fsc false Gi := ⟨fun b m => ogF b (sG b m), fun j o b m => oc j o b (sG b m), nofun⟩
    unfold forTurns at hc
    refine gs R1 r hbd (((W0.bind hc).later (S1.kw R)).imp fun ε2 e2 q σ2 Fs2 B => hb ?_)
    have S2 : Stp F H ε Fs H' σ2 ε2 Fs2 := B.stp S1 (fun b m => og b (sG b m)) nofun
    have o2 : ∀ j, Own ε2 j → ∀ x ∈ G, x ∉ Fs2 j := fun j o x m z => (B.ow j o x z).elim (fun w => oc j w.1 x m w.2) fun w => nomatch w.1
    have l2 : ∀ x ∈ G, H' x ≠ none := fun x m => live_of fr (lc x m)
    refine ⟨ε2, Fs2, B.env, ((W0.bind q).later (S2.kw R)).imp fun res e3 q => ?_⟩
    have step : ∀ {ε3 : EnvT} {σ3 : L2.St} {H3 : Hp} {Fs3 : Nat → List Addr}, Stp F H' ε2 Fs2 H3 σ3 ε3 Fs3 → W0 F H (kS F H ε Fs D) (forTurns tg body (ds.drop (i + 1)) ε3) → Pv (i + 1) σ3 H3 := fun {ε3 σ3 H3 Fs3} T q => by
      refine ⟨ε3, Fs3, S2.trans T, src.keep ic1 T.kp.kp fun x m ⟨j, o, z⟩ => o2 j o x m z, fun x m => live_of T.kp (l2 x m), fun j o x m z => ?_, q⟩
      rcases T.ow j o x z with w | ⟨j', o', w⟩
      · exact l2 x m w
      · exact o2 j' o' x m w
    cases res with
    | nx ε3 => exact fun σ3 H3 Fs3 T => step T q
    | ct ε3 => exact fun σ3 H3 Fs3 T => step T q
    | brk ε3 => exact fun σ3 H3 Fs3 T => q σ3 H3 Fs3 (S2.trans T)
    | ret dv f ε3 => exact fun v σ3 H3 Fs3 Gv T V => (kS.after (r := .ret dv f ε3) S2 q) v σ3 H3 Fs3 Gv T V
  · have ei : i = ds.length := by omega
    subst ei
    rw [List.drop_length] at hc
    exact .inl ⟨src.stop Hc ic, hc σc Hc Fsc Sc⟩
theorem xs_for {tgE iter : Expr} {bd : List Stmt} (hp : PassesOwn (model X.prog X.w) X.A X.env X.xe) (hc : X.calm = true) (gs : GS F g tg is) (hi : PI X tgE iter (tI F rdi efi mi)) (hg : PG X tgE g) (hb : PSs X bd (tS F body)) (hs : ∀ x, foldedSetIterable iter X.env x = pure x := by intro _; rfl) :
    PS X (.For tgE iter bd [] pos) (tS F (sFor mi tg rdi body)) := by
  refine (ps_for hp hc hi hg hb hs).imp fun D σ H ⟨ε, Fs, R, h⟩ => ?_
  refine ⟨ε, Fs, R, (W0.bind h).imp fun p e q J H1 Fs1 G Iv S src iv hc og => ?_⟩
  by_cases c : p.2.1 = true
  · rw [if_pos c] at q
    exact for_ok src gs (fun h => h) R S.stp iv hc.lv (fun j o => hc.fr c j) og q
  · rw [if_neg c] at q
    refine for_ok src gs (fun h => h) R (S.stp.trans (Stp.unowns S.env rdi)) iv hc.lv (fun j o x m => ?_) og q
    obtain ⟨o1, n1⟩ := own_unowns o
    exact hc.al j n1 o1 x m
end
end CF
/-! CF25: dicts: new ones, keys walked while the dict is locked. -/
namespace CF
open PySem PySem.Spec PyProof.Rows L2

section
variable {X : Cx} {F : Fx} {pos : Pos}
theorem xe_dnew : PE X (.Dict [] [] pos) (tE F [] [] (mC (.dict []))) := by
  refine pe_dnewK.imp fun σ H Q h => ?_
  obtain ⟨ε, Fs, R, h⟩ := h.w
  intro p n
  have k : Fr (fun _ => False) H (upd H p (.dK [])) := Fr.new n
  refine h (.ref p) _ Fs [p] ((Seq.ext (ef := []) R k).post ⟨.dct (kvs := []) (.inl upd_same) rfl .nil, fun _ => ⟨List.nodup_cons.mpr ⟨List.not_mem_nil, List.nodup_nil⟩, fun a m => ?_, fun j a m z => ?_⟩, fun j _ _ a m z => ?_⟩ fun a m => ?_)
  · rw [List.mem_singleton.mp m]; exact ⟨(R.nw p n).1, fun o u w => by rw [upd_same] at w; cases w⟩
  · rw [List.mem_singleton.mp m] at z; exact R.live z n
  · rw [List.mem_singleton.mp m] at z; exact R.live z n
  · rw [List.mem_singleton.mp m]; exact .inl n
end

/-! ### a lock -/
/-- a dict that is not empty -/
def Full (u : HO) : Prop := (∃ kv : List (Key × V), u = .dK kv ∧ kv ≠ []) ∨ ∃ kv : List (List Key × V), u = .dT kv ∧ kv ≠ []
/-- H and H' are one but for a lock on a -/
structure Lk (a : Addr) (H H' : Hp) : Prop where
  ne : ∀ b, b ≠ a → H' b = H b
  at' : ∃ u o, Full u ∧ ((H a = some u ∧ H' a = some (.frz o u)) ∨ (H a = some (.frz o u) ∧ H' a = some u))
theorem Lk.dk {a b : Addr} {H H' : Hp} (l : Lk a H H') {kv : List (Key × V)} (r : RdK H b kv) : RdK H' b kv := by
  by_cases c : b = a
  · subst c
    obtain ⟨u, o, f, ⟨h1, h2⟩ | ⟨h1, h2⟩⟩ := l.at'
    · rcases r with r | ⟨_, o', r⟩
      · rw [h1] at r; cases r
        rcases f with ⟨kv', e, n⟩ | ⟨kv', e, n⟩
        · cases e; exact .inr ⟨n, o, h2⟩
        · cases e
      · rw [h1] at r; cases r
        rcases f with ⟨kv', e, n⟩ | ⟨kv', e, n⟩ <;> cases e
    · rcases r with r | ⟨_, o', r⟩
      · rw [h1] at r; cases r
      · rw [h1] at r; cases r; exact .inl h2
  · rcases r with r | ⟨n, o, r⟩
    · exact .inl (by rw [l.ne b c]; exact r)
    · exact .inr ⟨n, o, by rw [l.ne b c]; exact r⟩
theorem Lk.dt {a b : Addr} {H H' : Hp} (l : Lk a H H') {kv : List (List Key × V)} (r : RdT H b kv) : RdT H' b kv := by
  by_cases c : b = a
  · subst c
    obtain ⟨u, o, f, ⟨h1, h2⟩ | ⟨h1, h2⟩⟩ := l.at'
    · rcases r with r | ⟨_, o', r⟩
      · rw [h1] at r; cases r
        rcases f with ⟨kv', e, n⟩ | ⟨kv', e, n⟩
        · cases e
        · cases e; exact .inr ⟨n, o, h2⟩
      · rw [h1] at r; cases r
        rcases f with ⟨kv', e, n⟩ | ⟨kv', e, n⟩ <;> cases e
    · rcases r with r | ⟨_, o', r⟩
      · rw [h1] at r; cases r
      · rw [h1] at r; cases r; exact .inl h2
  · rcases r with r | ⟨n, o, r⟩
    · exact .inl (by rw [l.ne b c]; exact r)
    · exact .inr ⟨n, o, by rw [l.ne b c]; exact r⟩
theorem Lk.other {a b : Addr} {H H' : Hp} (l : Lk a H H') {u : HO} (h : H b = some u) (n : (∀ kv, u ≠ .dK kv) ∧ (∀ kv, u ≠ .dT kv) ∧ ∀ o w, u ≠ .frz o w) : H' b = some u := by
  by_cases c : b = a
  · subst c
    obtain ⟨u', o, f, ⟨h1, _⟩ | ⟨h1, _⟩⟩ := l.at'
    · rw [h1] at h; cases h
      rcases f with ⟨kv', e, _⟩ | ⟨kv', e, _⟩
      · exact absurd e (n.1 kv')
      · exact absurd e (n.2.1 kv')
    · rw [h1] at h; cases h; exact absurd rfl (n.2.2 _ _)
  · rw [l.ne b c]; exact h
theorem not_lst {xs : List V} : (∀ kv, HO.lst xs ≠ .dK kv) ∧ (∀ kv, HO.lst xs ≠ .dT kv) ∧ ∀ o w, HO.lst xs ≠ .frz o w := ⟨fun _ h => (by cases h), fun _ h => (by cases h), fun _ _ h => (by cases h)⟩
theorem not_tup {xs : List V} : (∀ kv, HO.tup xs ≠ .dK kv) ∧ (∀ kv, HO.tup xs ≠ .dT kv) ∧ ∀ o w, HO.tup xs ≠ .frz o w := ⟨fun _ h => (by cases h), fun _ h => (by cases h), fun _ _ h => (by cases h)⟩
mutual
theorem Rp.lk {K : PySem.W.Frag} {a : Addr} {H H' : Hp} (l : Lk a H H') : ∀ {v : V} {d : D} {G : List Addr}, Rp K H v d G → Rp K H' v d G
  | _, _, _, .non => .non
  | _, _, _, .bl b => .bl b
  | _, _, _, .int i => .int i
  | _, _, _, .str s => .str s
  | _, _, _, .lst r q => .lst (l.other r not_lst) (Rps.lk l q)
  | _, _, _, .tup r q => .tup (l.other r not_tup) (Rps.lk l q)
  | _, _, _, .dct r e q => .dct (l.dk r) e (Rps.lk l q)
  | _, _, _, .dcT r e q => .dcT (l.dt r) e (Rps.lk l q)
theorem Rps.lk {K : PySem.W.Frag} {a : Addr} {H H' : Hp} (l : Lk a H H') : ∀ {vs : List V} {ds : List D} {G : List Addr}, Rps K H vs ds G → Rps K H' vs ds G
  | _, _, _, .nil => .nil
  | _, _, _, .cons r q => .cons (Rp.lk l r) (Rps.lk l q)
end
theorem Lk.none {a b : Addr} {H H' : Hp} (l : Lk a H H') (h : H' b = Option.none) : H b = Option.none := by
  by_cases c : b = a
  · subst c
    obtain ⟨u', o, f, ⟨_, h2⟩ | ⟨_, h2⟩⟩ := l.at' <;> rw [h2] at h <;> cases h
  · rw [← l.ne b c]; exact h
theorem Lk.lst {a b : Addr} {H H' : Hp} (l : Lk a H H') {xs : List V} (r : Rd H b (.lst xs)) : Rd H' b (.lst xs) := by
  by_cases c : b = a
  · subst c
    obtain ⟨u', o, f, ⟨h1, _⟩ | ⟨h1, _⟩⟩ := l.at' <;> rcases r with r | ⟨o', r⟩ <;> rw [h1] at r <;> cases r <;> rcases f with ⟨_, e, _⟩ | ⟨_, e, _⟩ <;> cases e
  · rcases r with r | ⟨o, r⟩
    · exact .inl (by rw [l.ne b c]; exact r)
    · exact .inr ⟨o, by rw [l.ne b c]; exact r⟩
section
variable {F : Fx} {H H1 H2 : Hp} {σ : L2.St} {ε : EnvT} {Fs : Nat → List Addr} {a : Addr} {i : Nat} {x : Val} {o : Bool}
theorem own_setF {j : Nat} (h : Own (ε.set i (.v x false)) j) : Own ε j ∧ j ≠ i := by
  obtain ⟨y, e⟩ := h
  rcases set_at e with ⟨_, e2⟩ | ⟨e1, e2⟩
  · cases e2
  · exact ⟨⟨y, e2⟩, e1⟩
/-- the slots while the dict in slot i is locked -/
theorem EnvR.lock (R : EnvR F H σ ε Fs) {d : D} (e : ε[i]? = some (.v (.d d) o)) (hs : σ[i]? = some (some (.ref a))) (ha : a ∈ Fs i) (l : Lk a H H1) : EnvR F H1 σ (ε.set i (.v (.d d) false)) Fs := by
  have nj : ∀ j, Own ε j → j ≠ i → a ∉ Fs j := fun j oj n m => (R.own j oj).2.2 i (Ne.symm n) a m ha
  refine ⟨fun j y f q => ?_, fun j ns f q => ?_, R.og, fun j oj => ?_, fun b n => R.nw b (l.none n), fun j h => R.un j fun y f q => ?_, R.io, by rw [List.length_set]; exact R.len⟩
  · rcases set_at q with ⟨e1, e2⟩ | ⟨e1, e2⟩
    · subst e1; cases e2
      obtain ⟨v, ev, r⟩ := R.d j d o e
      exact ⟨v, ev, r.lk l⟩
    · obtain ⟨v, ev, r⟩ := R.d j y f e2
      exact ⟨v, ev, r.lk l⟩
  · rcases set_at q with ⟨e1, e2⟩ | ⟨e1, e2⟩
    · cases e2
    · obtain ⟨b, eb, r, w, z⟩ := R.s j ns f e2
      rcases w with ⟨w1, w2⟩ | w
      · exact ⟨b, eb, .inl (l.lst w1), .inl ⟨l.lst w1, w2⟩, z⟩
      · exact ⟨b, eb, w _, .inr w, z⟩
  · obtain ⟨oj, n⟩ := own_setF oj
    obtain ⟨f1, f2, f3⟩ := R.own j oj
    refine ⟨f1, fun b m => ⟨(f2 b m).1, fun o' u w => ?_⟩, f3⟩
    have nb : b ≠ a := fun z => nj j oj n (z ▸ m)
    rw [l.ne b nb] at w
    exact (f2 b m).2 o' u w
  · by_cases c : j = i
    · subst c
      refine h d false ?_
      rw [List.getElem?_set_self]
      by_cases hl : j < ε.length
      · exact hl
      · rw [List.getElem?_eq_none (by omega)] at e; cases e
    · exact h y f (by rw [List.getElem?_set_ne (Ne.symm c)]; exact q)
/-- an expression under the lock, seen from ahead of it -/
theorem PostE.unlock {rd ef : List Nat} {d : D} {H' : Hp} {ε' : EnvT} {Fs' : Nat → List Addr} {v : V} {dv : D} {f : Bool} {G : List Addr} {u : HO} {ob : Obj} (R : EnvR F H σ ε Fs) (e : ε[i]? = some (.v (.d d) o)) (hs : σ[i]? = some (some (.ref a))) (ha : a ∈ Fs i) (fu : Full u) (hu : H a = some u)
    (P : PostE F (upd H a (.frz ob u)) σ (ε.set i (.v (.d d) false)) Fs rd ef H' ε' Fs' v dv f G) : H' a = some (.frz ob u) ∧ PostE F H σ ε Fs (i :: rd) ef (upd H' a u) (ε'.set i (.v (.d d) o)) Fs' v dv f G := by
  have l1 : Lk a H (upd H a (.frz ob u)) := ⟨fun b n => upd_ne n, u, ob, fu, .inl ⟨hu, upd_same⟩⟩
  have nj : ∀ j, Own ε j → j ≠ i → a ∉ Fs j := fun j oj n m => (R.own j oj).2.2 i (Ne.symm n) a m ha
  have nW : ¬ ∃ j ∈ ef, Own (ε.set i (.v (.d d) false)) j ∧ a ∈ Fs j := fun ⟨j, _, oj, m⟩ => nj j (own_setF oj).1 (own_setF oj).2 m
  have h' : H' a = some (.frz ob u) := P.kp.kp a _ upd_same fun w => absurd w nW
  have l2 : Lk a H' (upd H' a u) := ⟨fun b n => upd_ne n, u, ob, fu, .inr ⟨h', upd_same⟩⟩
  have li : i < ε.length := by
    by_cases hl : i < ε.length
    · exact hl
    · rw [List.getElem?_eq_none (by omega)] at e; cases e
  have li' : i < ε'.length := by
    have := P.seq.len (R.lock e hs ha l1)
    rw [List.length_set] at this; omega
  have Fi : Fs' i = Fs i := P.ne i fun oi => (own_setF oi).2 rfl
  have ow' : ∀ {j}, Own (ε'.set i (.v (.d d) o)) j → (j = i ∧ Own ε i) ∨ (j ≠ i ∧ Own ε' j ∧ Own ε j) := fun {j} ⟨y, q⟩ => by
    rcases set_at q with ⟨e1, e2⟩ | ⟨e1, e2⟩
    · injection e2 with e2 e3; subst e3; exact .inl ⟨e1, _, e⟩
    · exact .inr ⟨e1, ⟨y, e2⟩, (own_setF (P.oo j ⟨y, e2⟩)).1⟩
  -- the elements of Fs i were not written
  have kept : ∀ b ∈ Fs i, Own ε i → Unf (upd H' a u) b := fun b m oi => by
    by_cases c : b = a
    · subst c
      intro o' w z
      rw [upd_same] at z
      rcases fu with ⟨_, q, _⟩ | ⟨_, q, _⟩ <;> rw [q] at z <;> cases z
    · have U : Unf (upd H a (.frz ob u)) b := fun o' w z => by
        rw [upd_ne c] at z; exact ((R.own i oi).2.1 b m).2 o' w z
      have U2 := U.keep P.kp.kp (fun ⟨j, _, oj, mj⟩ => (R.own j (own_setF oj).1).2.2 i (Ne.symm (own_setF oj).2) b mj m) (fun z => by rw [upd_ne c] at z; exact R.live m z)
      intro o' w z
      rw [upd_ne c] at z; exact U2 o' w z
  have RE := P.env
  refine ⟨h', ⟨⟨fun j y f q => ?_, fun j ns f q => ?_, RE.og, fun j oj => ?_, fun b n => RE.nw b (l2.none n), fun j h => ?_, RE.io, by rw [List.length_set]; exact RE.len⟩, ⟨fun b w hb hw => ?_, fun b hb => ?_⟩, fun j oj => ?_, fun j b m => ?_, fun j n => ?_, P.rp.lk l2, fun b m => ?_, fun z => ?_, fun j hj oj b m => ?_⟩⟩
  · rcases set_at q with ⟨e1, e2⟩ | ⟨e1, e2⟩
    · subst e1; cases e2
      obtain ⟨w, ew, r⟩ := R.d j d o e
      rw [Fi]
      refine ⟨w, ew, ((r.lk l1).keep P.kp.kp fun b m ⟨j', _, oj, mj⟩ => ?_).lk l2⟩
      exact (R.own j' (own_setF oj).1).2.2 j (Ne.symm (own_setF oj).2) b mj m
    · obtain ⟨w, ew, r⟩ := RE.d j y f e2
      exact ⟨w, ew, r.lk l2⟩
  · rcases set_at q with ⟨e1, e2⟩ | ⟨e1, e2⟩
    · cases e2
    · obtain ⟨b, eb, r, w, z⟩ := RE.s j ns f e2
      rcases w with ⟨w1, w2⟩ | w
      · exact ⟨b, eb, .inl (l2.lst w1), .inl ⟨l2.lst w1, w2⟩, z⟩
      · exact ⟨b, eb, w _, .inr w, z⟩
  · rcases ow' oj with ⟨c, oi⟩ | ⟨c, o1, o2⟩
    · subst c
      rw [Fi]
      obtain ⟨f1, f2, f3⟩ := R.own j oi
      refine ⟨f1, fun b m => ⟨(f2 b m).1, kept b m oi⟩, fun j' n b m z => ?_⟩
      rcases P.fe j' b z with w | w | ⟨_, j'', _, o'', w⟩
      · exact R.live m (l1.none w)
      · exact f3 j' n b m w
      · exact f3 j'' (own_setF o'').2 b m w
    · obtain ⟨f1, f2, f3⟩ := RE.own j o1
      have na : a ∉ Fs' j := fun z => by
        rcases P.fe j a z with w | w | ⟨_, j'', _, o'', w⟩
        · rw [upd_same] at w; cases w
        · exact nj j o2 c w
        · exact nj j'' (own_setF o'').1 (own_setF o'').2 w
      refine ⟨f1, fun b m => ⟨(f2 b m).1, fun o' w z => ?_⟩, f3⟩
      rw [upd_ne (fun z : b = a => na (z ▸ m))] at z
      exact (f2 b m).2 o' w z
  · by_cases c : j = i
    · subst c
      exact absurd (show (ε'.set j (.v (.d d) o))[j]? = some (.v (.d d) o) from List.getElem?_set_self li') (h d o)
    · exact RE.un j fun y f q => h y f (by rw [List.getElem?_set_ne (Ne.symm c)]; exact q)
  · by_cases c : b = a
    · subst c; rw [hu] at hb; cases hb; exact upd_same
    · rw [upd_ne c]
      exact P.kp.kp b w (by rw [upd_ne c]; exact hb) fun ⟨j, m1, m2, m3⟩ => hw ⟨j, m1, (own_setF m2).1, m3⟩
  · by_cases c : b = a
    · subst c; rw [upd_same] at hb; cases hb
    · rw [upd_ne c] at hb
      have := P.kp.live b hb
      rw [upd_ne c] at this; exact this
  · rcases ow' oj with ⟨c, oi⟩ | ⟨c, _, o2⟩
    · rw [c]; exact oi
    · exact o2
  · rcases P.fe j b m with w | w | ⟨w1, j', w2, w3, w4⟩
    · exact .inl (l1.none w)
    · exact .inr (.inl w)
    · exact .inr (.inr ⟨w1, j', w2, (own_setF w3).1, w4⟩)
  · by_cases c : j = i
    · rw [c]; exact Fi
    · exact P.ne j fun oj => n (own_setF oj).1
  · rcases P.org b m with w | w
    · exact .inl (l1.none w)
    · exact .inr w
  · obtain ⟨f1, f2, f3⟩ := P.fr z
    refine ⟨f1, fun b m => ⟨(f2 b m).1, fun o' w q => ?_⟩, f3⟩
    have nb : b ≠ a := fun c => f3 i b m (by rw [Fi, c]; exact ha)
    rw [upd_ne nb] at q
    exact (f2 b m).2 o' w q
  · have c : j ≠ i := fun c => hj (by rw [c]; exact List.mem_cons_self)
    rcases ow' oj with ⟨c', _⟩ | ⟨_, o1, _⟩
    · exact absurd c' c
    · exact P.al j (fun w => hj (List.mem_cons_of_mem _ w)) o1 b m
end
end CF
/-! CF26: lists made over the keys of a dict. -/
namespace CF
open PySem PySem.Spec PyProof.Rows L2

section
variable {X : Cx} {F : Fx} {H H1 H2 : Hp} {σ : L2.St} {ε : EnvT} {Fs : Nat → List Addr} {a : Addr} {i : Nat} {rd ef rde efe eft is : List Nat} {pos : Pos} {m : M} {t : MT} {g : TG} {tg : Tg}
theorem key_rp {K : PySem.W.Frag} : ∀ k : Key, Rp K H (kV k) (keyD k) []
  | .inl i => .int i
  | .inr s => .str s
theorem keys_rps {K : PySem.W.Frag} : ∀ ks : List Key, Rps K H (ks.map kV) (ks.map keyD) []
  | [] => .nil
  | k :: r => by
    have := Rps.cons (key_rp (K := K) (H := H) k) (keys_rps r)
    simpa using this
theorem src_keys {K : PySem.W.Frag} {o : Obj} {kv : List (Key × V)} {kvs : List (D × D)} (e : kvs.map (·.1) = kv.map fun p => keyD p.1) : Src K (Itk a o kv) (kvs.map (·.1)) [a] (fun H => H a = some (.frz o (.dK kv))) where
  keep := fun h k n => k _ _ h fun w => absurd w (n _ List.mem_cons_self)
  go := fun i H hi h => ⟨h, by rw [e, List.length_map] at hi; exact hi⟩
  stop := fun H h => ⟨h, by rw [e, List.length_map]; exact Nat.le_refl _⟩
  yld := fun i H x H' hi h ⟨e1, k, v, e2, e3⟩ => by
    subst e1; subst e3
    exact ⟨keyD k, [], by rw [e, List.getElem?_map, e2]; rfl, key_rp k, nofun, .refl⟩
theorem src_keysT {K : PySem.W.Frag} {o : Obj} {kv : List (List Key × V)} {kvs : List (D × D)} (e : kvs.map (·.1) = kv.map fun p => .tuple (p.1.map keyD)) : Src K (Itkt a o kv) (kvs.map (·.1)) [a] (fun H => H a = some (.frz o (.dT kv))) where
  keep := fun h k n => k _ _ h fun w => absurd w (n _ List.mem_cons_self)
  go := fun i H hi h => ⟨h, by rw [e, List.length_map] at hi; exact hi⟩
  stop := fun H h => ⟨h, by rw [e, List.length_map]; exact Nat.le_refl _⟩
  yld := fun i H x H' hi h ⟨e1, k, v, q, e2, e3, e4⟩ => by
    subst e1; subst e3
    exact ⟨.tuple (k.map keyD), [], by rw [e, List.getElem?_map, e2]; rfl, .tup e4 (keys_rps k), nofun, .refl⟩
/-- the keys of a locked dict are walked -/
theorem keys_w {R : It → Hp → Prop} {u : HO} {ob : Obj} (h : tI F [i] [] (CF.iKeys i) σ H R) (hs : σ[i]? = some (some (.ref a))) (ha : H a = some (.frz ob u)) : L2.iKeys (tVar i) σ H R := by
  obtain ⟨ε, Fs, Rv, h⟩ := h
  unfold CF.iKeys at h
  cases e : ε[i]? with
  | none => rw [e] at h; exact h.elim
  | some s => cases s with
    | un => rw [e] at h; exact h.elim
    | v x o => cases x with
      | s ns => rw [e] at h; exact h.elim
      | d d => cases d with
        | dict kvs =>
          rw [e] at h
          obtain ⟨v, ev, r⟩ := Rv.d i _ o e
          obtain rfl : v = .ref a := by rw [hs] at ev; injection ev with ev; injection ev with ev; exact ev.symm
          have al : ∀ j, j ∉ [i] → Own ε j → ∀ x ∈ [a], a ∈ Fs i → x ∉ Fs j := fun j hj oj x m mi z => by
            rw [List.mem_singleton.mp m] at z
            exact (Rv.own j oj).2.2 i (fun w => hj (by rw [← w]; exact List.mem_cons_self)) a z mi
          generalize hF : Fs i = Fi at r
          cases r with
          | dct hd ek q =>
            have ai : a ∈ Fs i := by rw [hF]; exact List.mem_cons_self
            rcases hd with hd | ⟨_, o', hd⟩
            · rw [ha] at hd; cases hd
            · rw [ha] at hd; cases hd
              refine ⟨.ref a, hs, a, ob, rfl, .inl ⟨_, ha, h _ H Fs [a] _ (.refl Rv) (src_keys ek) ha ⟨fun x m => ?_, nofun, fun j hj oj x m => al j hj oj x m ai⟩ fun x m => ?_⟩⟩
              · rw [List.mem_singleton.mp m, ha]; nofun
              · rw [List.mem_singleton.mp m]; exact .inr ⟨i, ai⟩
          | dcT hd ek q =>
            have ai : a ∈ Fs i := by rw [hF]; exact List.mem_cons_self
            rcases hd with hd | ⟨_, o', hd⟩
            · rw [ha] at hd; cases hd
            · rw [ha] at hd; cases hd
              refine ⟨.ref a, hs, a, ob, rfl, .inr ⟨_, ha, h _ H Fs [a] _ (.refl Rv) (src_keysT ek) ha ⟨fun x m => ?_, nofun, fun j hj oj x m => al j hj oj x m ai⟩ fun x m => ?_⟩⟩
              · rw [List.mem_singleton.mp m, ha]; nofun
              · rw [List.mem_singleton.mp m]; exact .inr ⟨i, ai⟩
        | _ => rw [e] at h; exact h.elim
/-- a slot that is not one's own is as it was -/
theorem PostE.reset {d : D} {H' : Hp} {ε' : EnvT} {Fs' : Nat → List Addr} {v : V} {dv : D} {f : Bool} {G : List Addr} (R : EnvR F H σ ε Fs) (e : ε[i]? = some (.v (.d d) false)) (P : PostE F H σ ε Fs rd ef H' ε' Fs' v dv f G) : PostE F H σ ε Fs rd ef H' (ε'.set i (.v (.d d) false)) Fs' v dv f G := by
  have no : ¬ Own ε i := fun ⟨x, z⟩ => by rw [e] at z; cases z
  have li : i < ε.length := by
    by_cases hl : i < ε.length
    · exact hl
    · rw [List.getElem?_eq_none (by omega)] at e; cases e
  have li' : i < ε'.length := by rw [P.seq.len R]; exact li
  have RE := P.env
  refine ⟨⟨fun j y f q => ?_, fun j ns f q => ?_, RE.og, fun j oj => RE.own j (own_setF oj).1, RE.nw, fun j h => ?_, RE.io, by rw [List.length_set]; exact RE.len⟩, P.kp, fun j oj => P.oo j (own_setF oj).1, P.fe, P.ne, P.rp, P.org, P.fr, fun j hj oj => P.al j hj (own_setF oj).1⟩
  · rcases set_at q with ⟨e1, e2⟩ | ⟨e1, e2⟩
    · subst e1; cases e2
      obtain ⟨w, ew, r⟩ := R.d j d false e
      rw [P.ne j no]
      exact ⟨w, ew, r.keep P.kp.kp fun b mb ⟨j', _, oj, mj⟩ => (R.own j' oj).2.2 j (fun z => no (z ▸ oj)) b mj mb⟩
    · exact RE.d j y f e2
  · rcases set_at q with ⟨e1, e2⟩ | ⟨e1, e2⟩
    · cases e2
    · exact RE.s j ns f e2
  · by_cases c : j = i
    · subst c
      exact absurd (show (ε'.set j (.v (.d d) false))[j]? = some (.v (.d d) false) from List.getElem?_set_self li') (h d false)
    · exact RE.un j fun y f q => h y f (by rw [List.getElem?_set_ne (Ne.symm c)]; exact q)
theorem noEx_w {α : Type} {k : α → Prop} {o : Out α} (h : W0 F H k (noEx o)) : W0 F H k o := by cases o <;> first | exact h | exact h.elim
theorem upd_swap {a b : Addr} {o u : HO} (n : b ≠ a) : upd (upd H a o) b u = upd (upd H b u) a o := by
  funext c
  by_cases h1 : c = b
  · subst h1; rw [upd_same, upd_ne n, upd_same]
  · rw [upd_ne h1]
    by_cases h2 : c = a
    · subst h2; rw [upd_same, upd_same]
    · rw [upd_ne h2, upd_ne h2, upd_ne h1]
theorem upd_back {a : Addr} {o u : HO} (h : H a = some u) : upd (upd H a o) a u = H := by rw [upd_upd]; exact upd_id h
/-- [e for k in d ..], d in a slot -/
theorem keyLock {te : TE} {tI' : TI} {tb : BodyT} {vs : List Nat} {Q : VK} (hte : ∀ {σ H Q}, tLcB tI' g tb vs σ H Q → te σ H Q) (hI : ∀ {σ H R}, L2.iKeys (tVar i) σ H R → tI' σ H R)
    (inner : ∀ {σ H Q}, tE F rd ef m σ H Q → tLcB (tI F [i] [] (CF.iKeys i)) g tb vs σ H Q) (h : tE F (i :: rd) ef (mKeyLock i m) σ H Q) : tLockE te σ H Q ∨ te σ H Q := by
  obtain ⟨ε, Fs, R, h⟩ := h.w
  unfold mKeyLock at h
  cases e : ε[i]? with
  | none => rw [e] at h; exact h.elim
  | some s => cases s with
    | un => rw [e] at h; exact h.elim
    | v x o => cases x with
      | s ns => rw [e] at h; exact h.elim
      | d d => cases d with
        | dict kvs =>
          rw [e] at h
          obtain ⟨v, ev, r⟩ := R.d i _ o e
          have goE : ∀ {a : Addr} {u : HO}, v = .ref a → H a = some u → (u = .dK [] ∨ u = .dT []) → kvs = [] → tLockE te σ H Q := fun {a u} hv hu hu0 hk => by
            subst hv; subst hk
            have mu : Mut (some u) := by rcases hu0 with z | z <;> rw [z] <;> trivial
            refine ⟨a, u, hu, mu, fun od => hte (hI ⟨.ref a, ev, a, od, rfl, ?_⟩)⟩
            have fin : ∀ L, upd H a (.frz od u) L = none → (upd (upd H a (.frz od u)) L (.lst [])) a = some (.frz od u) ∧ Q (.ref L) (upd (upd (upd H a (.frz od u)) L (.lst [])) a u) := fun L nL => by
              have n : L ≠ a := fun z => by rw [z, upd_same] at nL; cases nL
              have nH : H L = none := by rw [upd_ne n] at nL; exact nL
              refine ⟨by rw [upd_ne (Ne.symm n), upd_same], ?_⟩
              rw [upd_swap n, upd_upd, ← upd_swap n, upd_id hu]
              exact h (.ref L) _ Fs [L] ((Seq.refl R).newL (rd := i :: rd) (vs := []) (ds := []) (fr := true) .nil nofun nH)
            have lp : ∀ {J : It}, (∀ H, H a = some (.frz od u) → J.stop 0 H) → ∀ L, upd H a (.frz od u) L = none → ∃ W : Nat → Nat → Hp → Prop, (∃ m, W 0 m (upd (upd H a (.frz od u)) L (.lst []))) ∧ ∀ i m H', W i m H' →
                (J.stop i H' ∧ (H' a = some (.frz od u) ∧ Q (.ref L) (upd H' a u))) ∨ (J.go i H' ∧ ∃ Nx : Hp → Prop, (∀ H'', Nx H'' → ∃ m', m' < m ∧ W (i + 1) m' H'') ∧ ∀ x H'', J.yld i H' x H'' → g x (wipe σ vs) H'' fun σ2 H2 => wipe σ2 vs = wipe σ vs ∧ tb σ2 H2 L Nx) := fun {J} st L nL => by
              refine ⟨fun i m H' => i = 0 ∧ H' = upd (upd H a (.frz od u)) L (.lst []), ⟨0, rfl, rfl⟩, ?_⟩
              rintro i m H' ⟨rfl, rfl⟩
              exact .inl ⟨st _ (fin L nL).1, fin L nL⟩
            rcases hu0 with z | z
            · subst z
              exact .inl ⟨[], upd_same, fun L nL => lp (J := Itk a od []) (fun H' hh => ⟨hh, Nat.le_refl _⟩) L nL⟩
            · subst z
              exact .inr ⟨[], upd_same, fun L nL => lp (J := Itkt a od []) (fun H' hh => ⟨hh, Nat.le_refl _⟩) L nL⟩
          have goF : ∀ {a : Addr} {u : HO}, v = .ref a → Full u → (∀ x, a ∈ x → Fs i = x → True) → a ∈ Fs i → (H a = some u ∨ ∃ ob, H a = some (.frz ob u)) → kvs ≠ [] → tLockE te σ H Q ∨ te σ H Q := fun {a u} hv fu _ ai hu hk => by
            subst hv
            have hk' : ¬ kvs.isEmpty = true := fun z => hk (List.isEmpty_iff.mp z)
            simp only [if_neg hk'] at h
            have h := W0.bind h
            rcases hu with hu | ⟨ob, hu⟩
            · left
              have mu : Mut (some u) := by rcases fu with ⟨_, z, _⟩ | ⟨_, z, _⟩ <;> rw [z] <;> trivial
              refine ⟨a, u, hu, mu, fun od => hte ?_⟩
              have l1 : Lk a H (upd H a (.frz od u)) := ⟨fun b n => upd_ne n, u, od, fu, .inl ⟨hu, upd_same⟩⟩
              have RL := R.lock e ev ai l1
              have q : tE F rd ef m σ (upd H a (.frz od u)) (fun v H' => H' a = some (.frz od u) ∧ Q v (upd H' a u)) := by
                refine tE.of RL ?_
                cases em : m (ε.set i (.v (.d (.dict kvs)) false)) with
                | no => rw [em] at h; exact h
                | ex z => rw [em] at h; exact h.elim
                | ok r =>
                  rw [em] at h
                  intro v H' Fs' G P
                  obtain ⟨p1, p2⟩ := P.unlock R e ev ai fu hu
                  exact ⟨p1, h v _ Fs' G p2⟩
              exact hI (keys_w (inner q) ev upd_same)
            · right
              have o0 : o = false := by
                cases o with
                | false => rfl
                | true => exact absurd hu (((R.own i ⟨_, e⟩).2.1 a ai).2 ob u)
              subst o0
              have es : ε.set i (.v (.d (.dict kvs)) false) = ε := by
                refine List.ext_getElem? fun j => ?_
                by_cases c : j = i
                · subst c
                  rw [e]
                  have li : j < ε.length := by
                    by_cases hl : j < ε.length
                    · exact hl
                    · rw [List.getElem?_eq_none (by omega)] at e; cases e
                  exact List.getElem?_set_self li
                · exact List.getElem?_set_ne (Ne.symm c)
              rw [es] at h
              have q : tE F rd ef m σ H Q := tE.of R ((noEx_w h).imp fun r _ q v H' Fs' G P => q v H' Fs' G ((P.mono (fun j m => List.mem_cons_of_mem _ m) fun j m => m).reset R e))
              exact hte (hI (keys_w (inner q) ev hu))
          generalize hF : Fs i = Fi at r
          cases r with
          | @dct a kv _ F' hd ek q =>
            have ai : a ∈ Fs i := by rw [hF]; exact List.mem_cons_self
            by_cases c : kvs = []
            · subst c
              have : kv = [] := by cases kv with
                | nil => rfl
                | cons _ _ => cases ek
              subst this
              exact .inl (goE rfl hd.nil (.inl rfl) rfl)
            · have c' : kv ≠ [] := fun z => by
                subst z
                cases kvs with
                | nil => exact c rfl
                | cons _ _ => cases ek
              exact goF rfl (.inl ⟨kv, rfl, c'⟩) (fun _ _ _ => trivial) ai (hd.imp id fun ⟨_, o, z⟩ => ⟨o, z⟩) c
          | @dcT a kv _ F' hd ek q =>
            have ai : a ∈ Fs i := by rw [hF]; exact List.mem_cons_self
            by_cases c : kvs = []
            · subst c
              have : kv = [] := by cases kv with
                | nil => rfl
                | cons _ _ => cases ek
              subst this
              exact .inl (goE rfl hd.nil (.inr rfl) rfl)
            · have c' : kv ≠ [] := fun z => by
                subst z
                cases kvs with
                | nil => exact c rfl
                | cons _ _ => cases ek
              exact goF rfl (.inr ⟨kv, rfl, c'⟩) (fun _ _ _ => trivial) ai (hd.imp id fun ⟨_, o, z⟩ => ⟨o, z⟩) c
        | _ => rw [e] at h; exact h.elim
end
end CF
/-! CF27: lists over keys; d[k] = e. -/
namespace CF
open PySem PySem.Spec PyProof.Rows L2

section
variable {X : Cx} {F : Fx} {H H1 H2 : Hp} {σ : L2.St} {ε ε1 : EnvT} {Fs Fs1 : Nat → List Addr} {a : Addr} {i j : Nat} {rd ef rda efa rde efe eft is rdi1 efi1 eft1 is1 vs1 : List Nat} {pos p : Pos} {m mk : M} {t t1 : MT} {g g1 : TG} {tg tg1 : Tg} {mi1 : MI}
theorem xe_keysLc {elt tgE : Expr} {x : Str} {ifs : List Expr} {scope : Scope} {own : List (Str × Nat)} {he : Bool} (G : Gd X F) (rd ef : List Nat) (hN : X.N[i]? = some x) (hv : Vis X.env.scope x) (gs : GS F g tg is) (ok : BlkOk X.N X.env.scope scope own) (b : Blk1 F rd ef rde efe eft [i] [] is (own.map (·.2)) false he)
    (hg : ∀ s H C cl fp, PG (X.blk s H scope (compEnvC scope cl C X.env) fp) tgE g) (ht : ∀ s H C cl fp, PTs (X.blk s H scope (compEnvC scope cl C X.env) fp) ifs (tT F eft t)) (hm : ∀ s H C cl fp, PE (X.blk s H scope (compEnvC scope cl C X.env) fp) elt (tE F rde efe m))
    (hd : (x == ("__debug__" : Str)) = false := by decide) (hcd : (x == ("__classdict__" : Str)) = false := by decide) (hs : ∀ y, foldedSetIterable (.Name x p) X.env y = pure y := by intro _; rfl) :
    PE X (.ListComp elt [⟨tgE, .Name x p, ifs, 0⟩] scope pos) (tE F (i :: rd) ef (mKeyLock i (mLc (cFor (CF.iKeys i) (own.map (·.2)) tg false [i] (cIf t (cEnd m he)))))) := by
  have h0 := pe_lc G.calm G.nd (pi_keys (pe_var hN hv hd hcd)) ok hg ht hm hs (pos := pos)
  exact ((pe_lock h0).or h0).imp fun σ H Q q => keyLock (tb := bIf (tT F eft t) (bEnd (tE F rde efe m))) (fun h => h) (fun h => h) (fun q => lcB b.b_rdi b.b_efi b.b_hi gs b.b_is b.b_io (body_if (fun h => h) b.b_eft (body_end b.b_rde b.b_efe b.b_he)) q) q
theorem xe_keysLc2 {elt tgE tgE1 iter1 : Expr} {x : Str} {ifs ifs1 : List Expr} {scope : Scope} {own : List (Str × Nat)} {h1 he : Bool} {rdi1 efi1 : List Nat} (G : Gd X F) (rd ef : List Nat) (hN : X.N[i]? = some x) (hv : Vis X.env.scope x) (gs : GS F g tg is) (gs1 : GS F g1 tg1 is1) (ok : BlkOk X.N X.env.scope scope own) (b : Blk2 F rd ef rde efe eft eft1 [i] [] rdi1 efi1 is is1 (own.map (·.2)) vs1 false h1 he)
    (hg : ∀ s H C cl fp, PG (X.blk s H scope (compEnvC scope cl C X.env) fp) tgE g) (ht : ∀ s H C cl fp, PTs (X.blk s H scope (compEnvC scope cl C X.env) fp) ifs (tT F eft t))
    (hi1 : ∀ s H C cl fp, PI (X.blk s H scope (compEnvC scope cl C X.env) fp) tgE1 iter1 (tI F rdi1 efi1 mi1)) (hg1 : ∀ s H C cl fp, PG (X.blk s H scope (compEnvC scope cl C X.env) fp) tgE1 g1) (ht1 : ∀ s H C cl fp, PTs (X.blk s H scope (compEnvC scope cl C X.env) fp) ifs1 (tT F eft1 t1))
    (hm : ∀ s H C cl fp, PE (X.blk s H scope (compEnvC scope cl C X.env) fp) elt (tE F rde efe m)) (hd : (x == ("__debug__" : Str)) = false := by decide) (hcd : (x == ("__classdict__" : Str)) = false := by decide) (hs : ∀ y, foldedSetIterable (.Name x p) X.env y = pure y := by intro _; rfl) (hs1 : ∀ env x, foldedSetIterable iter1 env x = pure x := by intro _ _; rfl) :
    PE X (.ListComp elt [⟨tgE, .Name x p, ifs, 0⟩, ⟨tgE1, iter1, ifs1, 0⟩] scope pos) (tE F (i :: rd) ef (mKeyLock i (mLc (cFor (CF.iKeys i) (own.map (·.2)) tg false [i] (cIf t (cFor mi1 vs1 tg1 h1 rdi1 (cIf t1 (cEnd m he)))))))) := by
  have h0 := pe_lc2 G.calm G.nd (pi_keys (pe_var hN hv hd hcd)) ok b.b_sub hg ht hi1 hg1 ht1 hm hs hs1 (pos := pos)
  exact ((pe_lock h0).or h0).imp fun σ H Q q => keyLock (tb := bIf (tT F eft t) (bFor (tI F rdi1 efi1 mi1) g1 vs1 (bIf (tT F eft1 t1) (bEnd (tE F rde efe m))))) (fun h => h) (fun h => h)
    (fun q => lcB b.b_b1.b_rdi b.b_b1.b_efi b.b_b1.b_hi gs b.b_b1.b_is b.b_b1.b_io (body_if (fun h => h) b.b_b1.b_eft (body_for b.b_efi1 b.b_h1 gs1 b.b_is1 (fun j m n => b.b_b1.b_io j m (b.b_sub j n)) (body_if (fun h => h) b.b_eft1 (body_end b.b_b1.b_rde b.b_b1.b_efe b.b_b1.b_he)))) q) q

/-! ### d[k] = e -/
def DPutX (H : Hp) (a : Addr) (y v : V) (H' : Hp) : Prop :=
  DPut H a y v H' ∨ (∃ k : Key, y = kV k ∧ H a = some (.dT []) ∧ H' = upd H a (.dK [(k, v)])) ∨ ∃ (k : List Key) (b : Addr), y = .ref b ∧ H b = some (.tup (k.map kV)) ∧ H a = some (.dK []) ∧ H' = upd H a (.dT [(k, v)])
def rSetDX : TSet := fun o i v H Q => ∃ a H', o = .ref a ∧ DPutX H a i v H' ∧ Q H'
theorem set_dictX (hu : X.A.units + 1 < cLine) : PSet X rSetDX := by
  intro pins s σ H o i v ov iv u Q I ro ri rv ⟨a, H', e, g, q⟩
  rcases g with g | ⟨k, rfl, ha, rfl⟩ | ⟨k, b, rfl, hb, ha, rfl⟩
  · exact set_dict hu pins s σ H o i v ov iv u Q I ro ri rv ⟨a, H', e, g, q⟩
  · refine set_dict hu pins s σ _ o (kV k) v ov iv u Q (relK I ha) ro ri rv ⟨a, _, e, .inl ⟨[], k, upd_same, rfl, by rw [sizeLine_eq]; decide, rfl⟩, ?_⟩
    rw [upd_upd]; exact q
  · have n : b ≠ a := fun z => by rw [z, ha] at hb; cases hb
    refine set_dict hu pins s σ _ o (.ref b) v ov iv u Q (relT I ha) ro ri rv ⟨a, _, e, .inr ⟨[], k, b, upd_same, rfl, by rw [upd_ne n]; exact hb, by rw [sizeLine_eq]; decide, rfl⟩, ?_⟩
    rw [upd_upd]; exact q
theorem put_kv {K : PySem.W.Frag} {κ : Type} [DecidableEq κ] {f : κ → D} (inj : ∀ a b, f a = f b ↔ a = b) {kv : List (κ × V)} {kvs : List (D × D)} {G : List Addr} {v : V} {d : D} (e : kvs.map (·.1) = kv.map fun p => f p.1) (r : Rps K H (kv.map (·.2)) (kvs.map (·.2)) G) (q : Rp K H v d []) (k : κ) :
    (dput kvs (f k) d).map (·.1) = (putK kv k v).map (fun p => f p.1) ∧ ∃ G', Rps K H ((putK kv k v).map (·.2)) ((dput kvs (f k) d).map (·.2)) G' ∧ List.Sublist G' G := by
  have dq : ∀ l, deq (f l) (f k) = decide (l = k) := fun l => deq_dec (inj l k)
  have any : ∀ {kv : List (κ × V)} {kvs : List (D × D)}, kvs.map (·.1) = kv.map (fun p => f p.1) → (kvs.any fun p => deq p.1 (f k)) = kv.any fun p => decide (p.1 = k) := by
    intro kv
    induction kv with
    | nil => intro kvs e; cases kvs with
      | nil => rfl
      | cons _ _ => cases e
    | cons x kv ih => intro kvs e; cases kvs with
      | nil => cases e
      | cons y kvs =>
        simp only [List.map_cons, List.cons.injEq] at e
        rw [List.any_cons, List.any_cons, ih e.2, e.1, dq]
  have mp : ∀ {kv : List (κ × V)} {kvs : List (D × D)} {G : List Addr}, kvs.map (·.1) = kv.map (fun p => f p.1) → Rps K H (kv.map (·.2)) (kvs.map (·.2)) G →
      (kvs.map fun p => if deq p.1 (f k) then (p.1, d) else p).map (·.1) = (kv.map fun p => if p.1 = k then (p.1, v) else p).map (fun p => f p.1) ∧
      ∃ G', Rps K H ((kv.map fun p => if p.1 = k then (p.1, v) else p).map (·.2)) ((kvs.map fun p => if deq p.1 (f k) then (p.1, d) else p).map (·.2)) G' ∧ List.Sublist G' G := by
    intro kv
    induction kv with
    | nil => intro kvs G e r; cases kvs with
      | nil => exact ⟨rfl, [], .nil, List.nil_sublist _⟩
      | cons _ _ => cases e
    | cons x kv ih => intro kvs G e r; cases kvs with
      | nil => cases e
      | cons y kvs =>
        simp only [List.map_cons, List.cons.injEq] at e
        cases r with
        | cons r0 rs =>
          obtain ⟨h1, G', h2, h3⟩ := ih e.2 rs
          simp only [List.map_cons, e.1, dq]
          by_cases c : x.1 = k
          · simp only [c, decide_true, if_true]
            exact ⟨by rw [h1], _, .cons q h2, by rw [List.nil_append]; exact h3.trans (List.sublist_append_right ..)⟩
          · simp only [c, decide_false, if_false, Bool.false_eq_true]
            exact ⟨by rw [h1, e.1], _, .cons r0 h2, List.Sublist.append_left h3 _⟩
  unfold dput putK
  rw [any e]
  by_cases c : (kv.any fun p => decide (p.1 = k)) = true
  · rw [if_pos c, if_pos c]; exact mp e r
  · rw [if_neg c, if_neg c]
    refine ⟨by rw [List.map_append, List.map_append, e]; rfl, G, ?_, List.Sublist.refl _⟩
    rw [List.map_append, List.map_append]
    have := r.append (Rps.one q)
    rw [List.append_nil] at this; exact this
theorem kpO {p : Addr} {o o' : HO} (e : H p = some o) (n : ¬ isT o) : Fr (fun a => a = p) H (upd H p o') := ⟨fun a u h w => by
  by_cases c : a = p
  · subst c; rw [e] at h; cases h; exact absurd (w rfl) n
  · rw [upd_ne c]; exact h, fun a h => by
  by_cases c : a = p
  · subst c; rw [upd_same] at h; cases h
  · rw [upd_ne c] at h; exact h⟩
/-- the slots behind a write of one's own thing, nothing new in it that can be changed -/
theorem Stp.wrO (S : Stp F H ε Fs H1 σ ε1 Fs1) {p : Addr} {o o' : HO} {d d' : D} {G' : List Addr} (h : ε1[i]? = some (.v (.d d) true)) (hs : σ[i]? = some (some (.ref p))) (hp : H1 p = some o) (no : ¬ isT o) (nf : ∀ z u, o' ≠ .frz z u) (pi : p ∈ Fs1 i)
    (r : Rp F.K (upd H1 p o') (.ref p) d' G') (nd : G'.Nodup) (sub : ∀ x ∈ G', x ∈ Fs1 i) : Stp F H ε Fs (upd H1 p o') σ (ε1.set i (.v (.d d') true)) (fun j => if j = i then G' else Fs1 j) := by
  have k := kpO (o' := o') hp no
  have R := S.env
  have oi : Own ε1 i := ⟨_, h⟩
  obtain ⟨f1, f2, f3⟩ := R.own i oi
  have pj : ∀ j, j ≠ i → p ∉ Fs1 j := fun j n => f3 j n p pi
  have li : i < ε1.length := oi.lt
  have ow' : ∀ {j}, Own (ε1.set i (.v (.d d') true)) j → j = i ∨ (j ≠ i ∧ Own ε1 j) := fun {j} ⟨x, e⟩ => by
    rcases set_at e with ⟨e1, e2⟩ | ⟨e1, e2⟩
    · exact .inl e1
    · exact .inr ⟨e1, x, e2⟩
  refine ⟨⟨fun j x q e => ?_, fun j ns q e => ?_, fun j x m => ?_, fun j q => ?_, fun x z => R.nw x (k.live x z), fun j hj => ?_, R.io, by rw [List.length_set]; exact R.len⟩, ⟨fun x u e w => k.kp x u (S.kp.kp x u e w) fun z => ?_, fun x z => S.kp.live x (k.live x z)⟩, fun j q x m => ?_, fun j x m => ?_⟩
  · rcases set_at e with ⟨e1, e2⟩ | ⟨e1, e2⟩
    · subst e1; cases e2
      exact ⟨_, hs, by rw [if_pos rfl]; exact r⟩
    · obtain ⟨v, e3, q⟩ := R.d j x q e2
      exact ⟨v, e3, by rw [if_neg e1]; exact q.keep k.kp fun y m z => pj j e1 (z ▸ m)⟩
  · rcases set_at e with ⟨e1, e2⟩ | ⟨e1, e2⟩
    · cases e2
    · obtain ⟨y, e3, q, w, z⟩ := R.s j ns q e2
      rcases w with ⟨w1, w2⟩ | w
      · have ny : ¬ y = p := fun c => w2 (c ▸ (f2 p pi).1)
        exact ⟨y, e3, .inl (k.kp.rd w1 ny), .inl ⟨k.kp.rd w1 ny, w2⟩, z⟩
      · exact ⟨y, e3, w _, .inr w, z⟩
  · by_cases c : j = i
    · rw [if_pos c] at m; exact R.og i x (sub x m)
    · rw [if_neg c] at m; exact R.og j x m
  · rcases ow' q with c | ⟨c, oj⟩
    · subst c
      rw [if_pos rfl]
      refine ⟨nd, fun x m => ⟨(f2 x (sub x m)).1, ?_⟩, fun j' n x m => by rw [if_neg n]; exact f3 j' n x (sub x m)⟩
      by_cases c : x = p
      · subst c; intro z u w; rw [upd_same] at w; exact nf z u (Option.some.inj w)
      · exact (f2 x (sub x m)).2.keep k.kp c (R.live (sub x m))
    · rw [if_neg c]
      obtain ⟨g1, g2, g3⟩ := R.own j oj
      refine ⟨g1, fun x m => ⟨(g2 x m).1, (g2 x m).2.keep k.kp (fun w => pj j c (w ▸ m)) (R.live m)⟩, fun j' n x m => ?_⟩
      by_cases c' : j' = i
      · rw [if_pos c']; exact fun z => f3 j c x (sub x z) m
      · rw [if_neg c']; exact g3 j' n x m
  · by_cases c : j = i
    · subst c
      exact absurd (show (ε1.set j (.v (.d d') true))[j]? = some (.v (.d d') true) from List.getElem?_set_self li) (hj _ _)
    · rw [if_neg c]; exact R.un j fun x q e => hj x q (by rw [List.getElem?_set_ne (Ne.symm c)]; exact e)
  · subst z
    rcases S.ow i oi x pi with z | z
    · rw [e] at z; cases z
    · exact w z
  · rcases ow' q with c | ⟨c, oj⟩
    · subst c
      rw [if_pos rfl] at m
      exact S.ow j oi x (sub x m)
    · rw [if_neg c] at m; exact S.ow j oj x m
  · by_cases c : j = i
    · rw [if_pos c] at m; exact S.al i x (sub x m)
    · rw [if_neg c] at m; exact S.al j x m
theorem ownD_at {kvs : List (D × D)} (h : ownD ε i = some kvs) : ε[i]? = some (.v (.d (.dict kvs)) true) := by
  unfold ownD at h
  split at h
  · rename_i z e; cases h; exact e
  · cases h
/-- one's own dict takes a value -/
theorem Stp.dput (S : Stp F H ε Fs H1 σ ε1 Fs1) {p : Addr} {kvs : List (D × D)} {key : D} {yk v : V} {d : D} {Gk : List Addr} (h : ownD ε1 i = some kvs) (hs : σ[i]? = some (some (.ref p))) (hf : keyFits kvs key = true) (hl : kvs.length + 1 ≤ sizeLine) (rk : Rp F.K H1 yk key Gk) (rv : Rp F.K H1 v d []) :
    ∃ H2 Fs2, DPutX H1 p yk v H2 ∧ Stp F H ε Fs H2 σ (ε1.set i (.v (.d (.dict (CF.dput kvs key d))) true)) Fs2 := by
  have e := ownD_at h
  obtain ⟨w, ew, r⟩ := S.env.d i _ _ e
  obtain rfl : w = .ref p := by rw [hs] at ew; injection ew with ew; injection ew with ew; exact ew.symm
  obtain ⟨f1, f2, f3⟩ := S.env.own i ⟨_, e⟩
  generalize hF : Fs1 i = Fi at r f1 f2 f3
  have fin : ∀ {o o' : HO} {G' G0 : List Addr}, H1 p = some o → ¬ isT o → (∀ z u, o' ≠ .frz z u) → Fi = p :: G0 → (∀ {H2 : Hp}, (∀ b, b ≠ p → H2 b = H1 b) → H2 p = some o' → Rps F.K H2 [] [] [] → ∃ G', Rp F.K H2 (.ref p) (.dict (CF.dput kvs key d)) (p :: G') ∧ List.Sublist G' G0) →
      ∃ Fs2, Stp F H ε Fs (upd H1 p o') σ (ε1.set i (.v (.d (.dict (CF.dput kvs key d))) true)) Fs2 := fun {o o' G' G0} hp no nf eF mk => by
    obtain ⟨G', r', s⟩ := mk (H2 := upd H1 p o') (fun b n => upd_ne n) upd_same .nil
    subst eF
    refine ⟨_, S.wrO e hs hp no nf (by rw [hF]; exact List.mem_cons_self) r' ?_ fun x m => ?_⟩
    · obtain ⟨n1, n2⟩ := List.nodup_cons.mp f1
      exact List.nodup_cons.mpr ⟨fun m => n1 (s.subset m), s.nodup n2⟩
    · rw [hF]
      rcases List.mem_cons.mp m with z | z
      · rw [z]; exact List.mem_cons_self
      · exact List.mem_cons_of_mem _ (s.subset z)
  have stay : ∀ {H2 : Hp} {vs : List V} {ds : List D} {G : List Addr}, (∀ b, b ≠ p → H2 b = H1 b) → p ∉ G → (∃ o, H1 p = some o ∧ ¬ isT o) → Rps F.K H1 vs ds G → Rps F.K H2 vs ds G := fun {H2 vs ds G} ne np ⟨o, ho, nt⟩ q => by
    refine q.keep (W := fun a => a = p) (fun a u hu wt => ?_) fun a m z => np (z ▸ m)
    by_cases c : a = p
    · subst c; rw [ho] at hu; cases hu; exact absurd (wt rfl) nt
    · rw [ne a c]; exact hu
  cases r with
  | @dct a kv _ F' hd ek q =>
    have np : p ∉ F' := (List.nodup_cons.mp f1).1
    have hp : H1 p = some (.dK kv) := hd.elim id fun ⟨_, o, z⟩ => absurd z ((f2 p List.mem_cons_self).2 o _)
    have nt : ¬ isT (HO.dK kv) := fun z => z
    rcases keyFits_cases hf with ⟨k, rfl, _⟩ | ⟨k, rfl, hk⟩
    · obtain ⟨e1, G', r1, s1⟩ := put_kv (H := H1) (fun a b => keyD_inj) ek q rv k
      obtain ⟨Fs2, T⟩ := fin (o' := .dK (putK kv k v)) (G' := G') hp nt (fun _ _ z => by cases z) rfl fun {H2} ne h2 _ => ⟨G', .dct (.inl h2) e1 (stay ne (fun z => np (s1.subset z)) ⟨_, hp, nt⟩ r1), s1⟩
      have hlen : kv.length = kvs.length := by simpa using (congrArg List.length ek).symm
      refine ⟨_, Fs2, .inl (.inl ⟨kv, k, hp, (rp_key rk).1, by omega, rfl⟩), T⟩
    · -- only an empty one is of the other kind
      have kn : kvs = [] := by
        cases kvs with
        | nil => rfl
        | cons y ys =>
          cases kv with
          | nil => cases ek
          | cons z zs =>
            simp only [List.map_cons, List.cons.injEq] at ek
            have := hk y List.mem_cons_self
            rw [ek.1] at this
            cases hz : z.1 <;> rw [hz] at this <;> cases this
      subst kn
      have kvn : kv = [] := by cases kv with
        | nil => rfl
        | cons _ _ => cases ek
      subst kvn
      obtain ⟨b, rfl, hb⟩ := rp_keys rk
      have nb : b ≠ p := fun z => by rw [z, hp] at hb; cases hb
      obtain ⟨Fs2, T⟩ := fin (o' := .dT [(k, v)]) (G' := []) hp nt (fun _ _ z => by cases z) rfl fun {H2} ne h2 _ => ⟨[], .dcT (.inl h2) rfl (stay ne List.not_mem_nil ⟨_, hp, nt⟩ (by have := Rps.one rv; exact this)), List.nil_sublist _⟩
      exact ⟨_, Fs2, .inr (.inr ⟨k, b, rfl, hb, hp, rfl⟩), T⟩
  | @dcT a kv _ F' hd ek q =>
    have np : p ∉ F' := (List.nodup_cons.mp f1).1
    have hp : H1 p = some (.dT kv) := hd.elim id fun ⟨_, o, z⟩ => absurd z ((f2 p List.mem_cons_self).2 o _)
    have nt : ¬ isT (HO.dT kv) := fun z => z
    rcases keyFits_cases hf with ⟨k, rfl, hk⟩ | ⟨k, rfl, _⟩
    · have kn : kvs = [] := by
        cases kvs with
        | nil => rfl
        | cons y ys =>
          cases kv with
          | nil => cases ek
          | cons z zs =>
            simp only [List.map_cons, List.cons.injEq] at ek
            have := hk y List.mem_cons_self
            rw [ek.1] at this
            cases this
      subst kn
      have kvn : kv = [] := by cases kv with
        | nil => rfl
        | cons _ _ => cases ek
      subst kvn
      obtain ⟨rfl, _⟩ := rp_key rk
      obtain ⟨Fs2, T⟩ := fin (o' := .dK [(k, v)]) (G' := []) hp nt (fun _ _ z => by cases z) rfl fun {H2} ne h2 _ => ⟨[], .dct (.inl h2) rfl (stay ne List.not_mem_nil ⟨_, hp, nt⟩ (by have := Rps.one rv; exact this)), List.nil_sublist _⟩
      exact ⟨_, Fs2, .inr (.inl ⟨k, rfl, hp, rfl⟩), T⟩
    · obtain ⟨e1, G', r1, s1⟩ := put_kv (H := H1) (f := fun k : List Key => .tuple (k.map keyD)) (fun a b => by rw [PyData.tuple.injEq]; exact keysD_inj) ek q rv k
      obtain ⟨Fs2, T⟩ := fin (o' := .dT (putK kv k v)) (G' := G') hp nt (fun _ _ z => by cases z) rfl fun {H2} ne h2 _ => ⟨G', .dcT (.inl h2) e1 (stay ne (fun z => np (s1.subset z)) ⟨_, hp, nt⟩ r1), s1⟩
      have hlen : kv.length = kvs.length := by simpa using (congrArg List.length ek).symm
      obtain ⟨b, rfl, hb⟩ := rp_keys rk
      exact ⟨_, Fs2, .inl (.inr ⟨kv, k, b, hp, rfl, hb, by omega, rfl⟩), T⟩
/-- d[k] = e -/
theorem xs_setD {x : Str} {e k : Expr} {p1 p2 : Pos} (g : Gd X F) (hN : X.N[i]? = some x) (hv : Vis X.env.scope x) (hk : PE X k (tE F rda efa mk)) (he : PE X e (tE F rd ef m)) (hd : (x == ("__debug__" : Str)) = false := by decide) (hcd : (x == ("__classdict__" : Str)) = false := by decide)
    (ha : ∀ v, assign (.Subscript (.Name x p1) k p2) X.env v = (do
      let ov ← holding [v] (eval (.Name x p1) X.env)
      let iv ← holding [v, ov] (eval k X.env)
      standAt p2; holding [v, ov, iv] (setItem ov iv v); release [v, ov, iv] []) := by intro _; rfl)
    (hs : swapsWithSole [.Subscript (.Name x p1) k p2] e pos.line X.env = pure false := by rfl) (hw : swappedStores [.Subscript (.Name x p1) k p2] e X.env = pure none := by rfl)
    (h1 : (assignEach [.Subscript (.Name x p1) k p2] X.env).map (·.2) = [assign (.Subscript (.Name x p1) k p2) X.env] := by rfl) :
    PS X (.Assign [.Subscript (.Name x p1) k p2] e pos) (tS F (sSetD i mk m)) := by
  refine (ps_asg he (pg_sub (pe_var hN hv hd hcd) hk (set_dictX (by have := g.un; omega)) ha) hs hw h1).imp fun D σ H ⟨ε, Fs, R, h⟩ => ?_
  refine tE.go R h fun r v H1 Fs1 G e1 P q => ?_
  cases e0 : ownD r.2.2 i with
  | none => rw [e0] at q; exact q.elim
  | some kvs0 =>
    simp only [e0] at q
    obtain ⟨w, ew, rw0⟩ := P.env.d i _ _ (ownD_at e0)
    obtain ⟨p, rfl⟩ : ∃ p, w = .ref p := by
      generalize Fs1 i = Fi at rw0
      cases rw0 <;> exact ⟨_, rfl⟩
    refine ⟨_, ew, tE.of P.env (((W0.bind q).later (P.kw R)).imp fun rk e2 q vk H2 Fs2 Gk P2 => ?_)⟩
    cases e3 : ownD rk.2.2 i with
    | none => simp only [e3] at q; exact q.elim
    | some kvs =>
      simp only [e3] at q
      by_cases c : (imm r.1 && keyFits kvs rk.1 && small (kvs.length + 1)) = true
      · rw [if_pos c] at q
        simp only [Bool.and_eq_true] at c
        obtain ⟨⟨c1, c2⟩, c3⟩ := c
        have rv : Rp F.K H2 v r.1 [] := by
          have e := P.rp.imm c1
          have := P.rp
          rw [e] at this
          exact this.keep (F := []) P2.kp.kp nofun
        obtain ⟨H3, Fs3, D3, T⟩ := (P.seq.stp.trans P2.seq.stp).dput e3 ew c2 (small_le c3) P2.rp rv
        exact ⟨p, H3, rfl, D3, q σ H3 Fs3 T⟩
      · rw [if_neg c] at q; exact q.elim
end
end CF
/-! CFC1: sets in the making, two clauses: the model's run of them. -/
namespace CF
open PySem PySem.Spec PyProof.Rows L2

abbrev sc2 (e a p b q : Expr) (fa fb : List Expr) (sc : Scope) (pos : Pos) : Expr := .SetComp e [⟨a, p, fa, 0⟩, ⟨b, q, fb, 0⟩] sc pos
abbrev testsM (fs : List Expr) (env : Env) : Sem Bool := forIn fs true fun c r => if r = true then do let ok ← isTrue c env (eval c env); pure (ForInStep.yield ok) else pure (ForInStep.yield r)
section
variable {P : Program} {w : World} {A : Around} {R : Result → Shared → Prop} {s : Shared} {e a p b q : Expr} {fa fb : List Expr} {sc : Scope} {pos : Pos} {it acc : Value} {env : Env}
abbrev nE (P : Program) (w : World) (A : Around) (env : Env) (R : Result → Shared → Prop) : Value → Shared → Prop := notedBy (model P w) A env fun x s' => R (.error x) s'
theorem sc2_t0 : compTurn (sc2 e a p b q fa fb sc pos) 0 it acc env = (standAt p.pos >>= fun _ => pyNext it >>= fun r => match r with
    | none => pure (.done .next)
    | some u => letOwnedTupleGo a it u >>= fun _ => assign a env u >>= fun _ => testsM fa env >>= fun ok => if ok = true then
        (eval q env >>= fun x => standAt q.pos >>= fun _ => foldedSetIterable q env x >>= fun y => holding [y] (pyIter y) >>= fun j => runOwn (.compStart (sc2 e a p b q fa fb sc pos) 1 j acc env) env >>= fun _ => again (.compLoop (sc2 e a p b q fa fb sc pos) 0 it acc env))
      else (pure PUnit.unit >>= fun _ => again (.compLoop (sc2 e a p b q fa fb sc pos) 0 it acc env))) := by rfl
theorem sc2_t1 : compTurn (sc2 e a p b q fa fb sc pos) 1 it acc env = (standAt q.pos >>= fun _ => pyNext it >>= fun r => match r with
    | none => pure (.done .next)
    | some u => letOwnedTupleGo b it u >>= fun _ => assign b env u >>= fun _ => testsM fb env >>= fun ok => if ok = true then
        ((eval e env >>= fun v => standAt e.pos >>= fun _ => call (.builtin "set.add") [acc, v] >>= fun _ => pure PUnit.unit) >>= fun _ => again (.compLoop (sc2 e a p b q fa fb sc pos) 1 it acc env))
      else (pure PUnit.unit >>= fun _ => again (.compLoop (sc2 e a p b q fa fb sc pos) 1 it acc env))) := by rfl

/-- a clause's loop: turns that end by the next one -/
theorem sc_loop {Z : Expr} {k : Nat} {tgE src : Expr} {fs : List Expr} {bd : Sem PySem.Fin}
    (hE : compTurn Z k it acc env = (standAt src.pos >>= fun _ => pyNext it >>= fun r => match r with
      | none => pure (.done .next)
      | some u => letOwnedTupleGo tgE it u >>= fun _ => assign tgE env u >>= fun _ => testsM fs env >>= fun ok => if ok = true then bd else (pure PUnit.unit >>= fun _ => again (.compLoop Z k it acc env))))
    (I : Nat → Shared → Prop) (turn : ∀ n s, I n s → wpAny (model P w) A (pyNext it) (fun r s1 => match r with
      | none => R (.ok .next) s1
      | some u => wpAny (model P w) A (letOwnedTupleGo tgE it u) (fun _ s2 => wpAny (model P w) A (assign tgE env u) (fun _ s3 => wpAny (model P w) A (testsM fs env) (fun ok s4 =>
          if ok = true then wpAny (model P w) A bd (fun f s5 => f = .again (.compLoop Z k it acc env) ∧ ∃ m, m < n ∧ I m s5) (nE P w A env R) s4 else ∃ m, m < n ∧ I m s4) (nE P w A env R) s3) (nE P w A env R) s2) (nE P w A env R) s1) (nE P w A env R) s)
    (n : Nat) (h : I n s) (hA : A.under (.compLoop Z k it acc env) = A := by rfl) (hD : (model P w).den (.compLoop Z k it acc env) = (compTurn Z k it acc env).onRaise (fun x => do noteFrame x env; theTreesLotGoes x) := by rfl) : codeAny (model P w) A (.compLoop Z k it acc env) R s := by
  refine codeAny_loop rfl I (fun n s hI => ?_) n h
  rw [hA, hD]
  refine wpAny_noted ?_
  rw [hE]
  refine wpAny_bind (wpAny_standAt (wpAny_bind (thn (turn n s hI) fun r s1 h1 => ?_)))
  cases r with
  | none => exact wpAny_pure h1
  | some u =>
    refine wpAny_bind (thn h1 fun _ s2 h2 => wpAny_bind (thn h2 fun _ s3 h3 => wpAny_bind (thn h3 fun ok s4 h4 => ?_)))
    cases ok with
    | false => exact wpAny_bind (wpAny_pure (wpAny_pure ⟨rfl, h4⟩))
    | true =>
      refine thn h4 fun f s5 h5 => ?_
      obtain ⟨rfl, h5⟩ := h5
      exact ⟨rfl, h5⟩
/-- the inner clause's start -/
theorem sc2_start1 (h0 : codeAny (model P w) A (.compLoop (sc2 e a p b q fa fb sc pos) 1 it acc env) R s)
    (h : wpAny (model P w) A (pyIter it) (fun j s1 => codeAny (model P w) A (.compLoop (sc2 e a p b q fa fb sc pos) 1 j acc env) R s1) (nE P w A env R) s) :
    codeAny (model P w) A (.compStart (sc2 e a p b q fa fb sc pos) 1 it acc env) R s := by
  refine codeAny_of_tree ?_
  show wpAny _ _ ((compStart (sc2 e a p b q fa fb sc pos) 1 it acc env).onRaise (fun x => do noteFrame x env; standAt theWindowsPlace)) _ _ s
  refine wpAny_notedAt ?_
  unfold compStart
  show wpAny _ _ (ask >>= _) _ _ s
  refine wpAny_bind (wpAny_askSetting (wpAny_ite ?_))
  split
  · first | exact wpAny_pure ⟨rfl, h0⟩ | exact wpAny_bind (wpAny_pure (wpAny_pure ⟨rfl, h0⟩))
  · refine wpAny_bind (wpAny_rule ?_)
    show wpAny _ A (standAt q.pos >>= fun _ => pyIter it >>= fun j => again (.compLoop (sc2 e a p b q fa fb sc pos) 1 j acc env)) _ _ s
    exact wpAny_bind (wpAny_standAt (wpAny_bind (thn h fun j s1 hj => wpAny_pure ⟨rfl, hj⟩)))
end
end CF
/-! CFC2: {e for a in p if .. for b in q if ..}, ints. -/
namespace CF
open PySem PySem.Spec PyProof.Rows L2

/-- an int is put into the set at L -/
def bEndS (w : World) (te : TE) : BodyT := fun σ H L Nx => te σ H fun y H4 => ∃ (c : Int) (S : Int → Bool) (n : Nat), y = .int c ∧ H4 L = some (SetO w L S n) ∧ n + 1 < scanBound ∧ Nx (upd H4 L (SetO w L (fun j => S j || decide (j = c)) (if S c = true then n else n + 1)))
def tScB (w : World) (wi : TI) (g : TG) (tb : BodyT) (vs : List Nat) : TE := fun σ H Q => wi σ H fun J H1 => ∀ L, H1 L = none → ∃ W : Nat → Nat → Hp → Prop, (∃ m, W 0 m (upd H1 L (SetO w L (fun _ => false) 0))) ∧ ∀ i m H, W i m H →
  (J.stop i H ∧ Q (.ref L) H) ∨ (J.go i H ∧ ∃ Nx : Hp → Prop, (∀ H', Nx H' → ∃ m', m' < m ∧ W (i + 1) m' H') ∧ ∀ x H', J.yld i H x H' → g x (wipe σ vs) H' fun σ2 H2 => wipe σ2 vs = wipe σ vs ∧ tb σ2 H2 L Nx)
section
variable {X : Cx}
theorem put_ok {pins : List (Addr × Obj)} {σ : L2.St} {H : Hp} {s : Shared} {E : Value → Shared → Prop} {L : Addr} {S : Int → Bool} {n : Nat} {c : Int} {v : Value} {Q : Value → Shared → Prop} (I : Inv X pins σ H s) (hL : H L = some (SetO X.w L S n)) (room : n + 1 < scanBound) (r : RelV (.int c) v)
    (k : ∀ s', Inv X pins σ (upd H L (SetO X.w L (fun j => S j || decide (j = c)) (if S c = true then n else n + 1))) s' → Q .none s') : wpAny (model X.prog X.w) X.A (call (.builtin "set.add") [.ref L, v]) Q E s := by
  obtain ⟨tk, rfl⟩ := r
  refine setR_add (setO_get I hL) room fun g sb nw => k _ (I.write (e := L) (t' := s.toks + 1) (by rw [hL]; trivial) (.inl rfl) (fun b u hb hu => (sb.2 b hb).trans hu) ?_ (setO_new nw))
  obtain ⟨o, _, _, _, ho, _⟩ := nw
  exact ⟨o, ho⟩
theorem pe_sc2 {e a p b q : Expr} {fa fb : List Expr} {sc : Scope} {own : List (Str × Nat)} {vs1 : List Nat} {pos : Pos} {wi wi1 : TI} {g g1 : TG} {tt tt1 : TT} {te : TE} (calm : X.calm = true) (nd : X.N.Nodup) (hi : PI X a p wi) (ok : BlkOk X.N X.env.scope sc own) (sub : ∀ i ∈ vs1, i ∈ own.map (·.2))
    (hg : ∀ s H C cl fp, PG (X.blk s H sc (compEnvC sc cl C X.env) fp) a g) (ht : ∀ s H C cl fp, PTs (X.blk s H sc (compEnvC sc cl C X.env) fp) fa tt)
    (hi1 : ∀ s H C cl fp, PI (X.blk s H sc (compEnvC sc cl C X.env) fp) b q wi1) (hg1 : ∀ s H C cl fp, PG (X.blk s H sc (compEnvC sc cl C X.env) fp) b g1) (ht1 : ∀ s H C cl fp, PTs (X.blk s H sc (compEnvC sc cl C X.env) fp) fb tt1)
    (he : ∀ s H C cl fp, PE (X.blk s H sc (compEnvC sc cl C X.env) fp) e te) (hs : ∀ x, foldedSetIterable p X.env x = pure x := by intro _; rfl) (hs1 : ∀ env x, foldedSetIterable q env x = pure x := by intro _ _; rfl) :
    PE X (sc2 e a p b q fa fb sc pos) (tScB X.w wi g (bIf tt (bFor wi1 g1 vs1 (bIf tt1 (bEndS X.w te)))) (own.map (·.2))) := by
  refine ⟨fun pins s σ H Q I h => ?_⟩
  show wpAny _ X.A (comprehension (sc2 e a p b q fa fb sc pos) sc X.env (firstIterPos [⟨a, p, fa, 0⟩, ⟨b, q, fb, 0⟩] pos) (newSet (.type "set")) (firstAsync [⟨a, p, fa, 0⟩, ⟨b, q, fb, 0⟩]) (firstIter [⟨a, p, fa, 0⟩, ⟨b, q, fb, 0⟩] X.env)) _ _ _
  have free : ∀ y ∈ sc.names, y.2 = .free → ∃ c, X.env.cells.lookup y.1 = some c := fun y m z => (ok.free y m z).elim (fun k => I.ok.has _ (.inl k)) fun k => I.ok.has _ (.inr k)
  refine wpAny_comprehension_free (use := none) rfl hs (closure_ok free) ok.kind (fun y m z => by rw [ok.uniq y m, z]) (thn (hi.run pins s σ H _ I h) fun xv s1 hx => thn hx fun itv s2 ⟨it, fp, tn, J, H2, ev, I2, T, st2, f2, turn0⟩ => ?_)
  subst ev
  refine PpSet.newSet_ok (newEnv_comp ?_)
  generalize eD : s2.heap.objs.size = D
  have nD : H2 D = none := I2.hok.fresh (Nat.le_of_eq eD)
  obtain ⟨W, ⟨m0, w0⟩, turn⟩ := turn0 D nD
  generalize es3 : ({ s2 with heap := s2.heap.push (set0 X.w) } : Shared) = s3
  have hp3 : s3.heap = s2.heap.push (set0 X.w) := by rw [← es3]
  generalize eH3 : upd H2 D (SetO X.w D (fun _ => false) 0) = H3 at w0
  have I3 : Inv X pins σ H3 s3 := by
    rw [← es3, ← eH3]
    refine I2.laid (t' := s2.toks) (fun b o z => Heap.get?_push_of_some _ z) (Nat.le_of_eq eD) ?_
    rw [← eD]; exact setO_new (S := fun _ => false) (setR_new_at (ns := []) (Heap.get?_push_size _ rfl))
  have f3 : ∀ c ∈ fp, FpOk X pins H3 c ∧ c < s3.heap.objs.size := fun c m => by
    obtain ⟨o, z, _⟩ := T.obj _ _ st2 c m
    have lt := Heap.lt_size z
    rw [hp3, Heap.size_push]
    refine ⟨⟨?_, (f2 c m).2⟩, Nat.lt_succ_of_lt lt⟩
    rw [← eH3, upd_ne (by rw [← eD]; exact Nat.ne_of_lt lt)]; exact (f2 c m).1
  have st3 : tn 0 s3.heap := T.keep _ _ _ st2 fun c _ o z => by rw [hp3]; exact Heap.get?_push_of_some _ z
  have I4 := block_start I3 ok nd f3
  generalize ecl : cellsFrom (s3.heap.objs.size + 1) sc.names (cloFrom X.env.cells sc.names []) = cl at I4
  show codeAny _ _ (.compStart (sc2 e a p b q fa fb sc pos) 0 (.ref it) (.ref D) (compEnvC sc cl s3.heap.objs.size X.env)) (compPost (model X.prog X.w) X.A X.xe none _ (.ref D) s3.heap.objs.size) { s3 with heap := pushCells (s3.heap.push { cls := .type "dict", data := .dict #[] }) sc.names }
  have pg := hg s3 H3 s3.heap.objs.size cl fp
  have pt := ht s3 H3 s3.heap.objs.size cl fp
  have pe := he s3 H3 s3.heap.objs.size cl fp
  have pi1 := hi1 s3 H3 s3.heap.objs.size cl fp
  have pg1 := hg1 s3 H3 s3.heap.objs.size cl fp
  have pt1 := ht1 s3 H3 s3.heap.objs.size cl fp
  generalize ece : compEnvC sc cl s3.heap.objs.size X.env = ce at I4 pg pt pe pi1 pg1 pt1 ⊢
  have lc : ce.locals = s3.heap.objs.size := by rw [← ece]; rfl
  generalize es4 : ({ s3 with heap := pushCells (s3.heap.push { cls := .type "dict", data := .dict #[] }) sc.names } : Shared) = s4 at I4 ⊢
  have st4 : tn 0 s4.heap := T.keep _ _ _ st3 fun c _ o z => by rw [← es4]; exact pushCells_keeps _ _ _ _ (Heap.get?_push_of_some _ z)
  have nfp : ∀ c ∈ fp, H3 c = none := fun c m => (f3 c m).1.1
  have stat : ∀ {σ' : L2.St} {H' : Hp} {s' : Shared}, Inv (X.blk s3 H3 sc ce fp) [] σ' H' s' → (∀ c ∈ fp, H' c = none) → ∀ c ∈ fp, FpOk (X.blk s3 H3 sc ce fp) [] H' c := fun {σ' H' s'} J hn c m =>
    ⟨hn c m, (J.ok.exf c m).1, J.ok.exfs c m, .inl m, fun x d z => (J.ok.exf c m).2 x d z, fun r z => absurd (show r ∈ ([] : List (Addr × Obj)) ++ [] from z) (by simp)⟩
  -- between two turns of the outer clause
  let Out : Nat → Shared → Prop := fun n s' => ∃ i H', Inv (X.blk s3 H3 sc ce fp) [] (wipe σ (own.map (·.2))) H' s' ∧ tn i s'.heap ∧ (∀ c ∈ fp, H' c = none) ∧ W i n H'
  have loop : codeAny (model X.prog X.w) X.A (.compLoop (sc2 e a p b q fa fb sc pos) 0 (.ref it) (.ref D) ce) (compPost (model X.prog X.w) X.A X.xe none (EP X pins σ Q) (.ref D) s3.heap.objs.size) s4 := by
    refine sc_loop sc2_t0 Out ?_ m0 ⟨0, H3, I4, st4, nfp, w0⟩
    rintro n s5 ⟨i, H5, I5, st5, n5, w5⟩
    rcases turn i n H5 w5 with ⟨stop, last⟩ | ⟨go, Nx, next, step⟩
    · refine thnF (T.done (X.blk s3 H3 sc ce fp) rfl rfl rfl calm i [] s5 _ H5 (fun _ _ => False) I5 (stat I5 n5) st5 stop) fun r s6 ⟨er, I6⟩ => ?_
      subst er
      have I7 : Inv X pins σ H5 s6 := I3.call' (ch := fp) I6.os I6.base I6.hok I6.bare fun c m => ⟨(f3 c m).1.2.2.2.1, (f3 c m).1.2.1, (f3 c m).1.2.2.2.2.1, (f3 c m).1.2.2.2.2.2⟩
      have nC : H5 s3.heap.objs.size = none := by rw [← lc]; exact I6.free
      obtain ⟨m, ns, _⟩ := I6.loc
      have ns : s6.heap.Ns ce.locals m := ns
      rw [lc] at ns
      obtain ⟨k0, k1, k2, k3, k4, k5⟩ := I3.fpOk (H' := H5) (Nat.le_refl _) nC
      exact ⟨m, ns, fun h' sb => ⟨.ref D, H5, I7.turned (t' := s6.toks) (fun c o m z => (sb.2 c m).trans z) k0 k1 k3 k4 k5, rfl, last⟩⟩
    · refine thnF (T.item (X.blk s3 H3 sc ce fp) rfl rfl rfl calm i [] s5 _ H5 (fun _ _ => False) I5 (stat I5 n5) st5 go) fun r s6 ⟨u, er, h6⟩ => ?_
      subst er
      refine thnF h6 fun _ s7 ⟨x, H7, I7, r7, y7, st7, n7⟩ => ?_
      have P7 := I7.pinned (stat I7 n7) (T.obj _ _ st7)
      refine thnF (pg.run _ s7 _ H7 x u _ P7 r7 (step x H7 y7)) fun _ s8 ⟨σ8, H8, I8, w8, q8⟩ => ?_
      refine thnF (pt.run _ s8 σ8 H8 _ I8 q8) fun bt s9 ⟨H9, I9, q9⟩ => ?_
      have over : ∀ {σ9 : L2.St} {s' : Shared} {H' : Hp}, Inv (X.blk s3 H3 sc ce fp) ([] ++ pinsAt fp s7.heap) σ9 H' s' → (wipe σ (own.map (·.2))).length = σ9.length → (∀ (j : Nat) v, (wipe σ (own.map (·.2)))[j]? = some (some v) → σ9[j]? = some (some v)) → Nx H' → ∃ m, m < n ∧ Out m s' := fun {σ9 s' H'} J hl hk nx => by
        obtain ⟨m', lt, w'⟩ := next H' nx
        have pin : ∀ c ∈ fp, ∀ o, s7.heap.get? c = some o → s'.heap.get? c = some o ∧ H' c = none := fun c m o z =>
          have y := J.pin (c, o) (List.mem_append_right _ (List.mem_append_right _ (mem_pinsAt m z)))
          ⟨y.1, y.2.1⟩
        refine ⟨m', lt, i + 1, H', (J.unpinned (pins := [])).weak hl hk, T.keep _ _ _ st7 fun c m o z => (pin c m o z).1, fun c m => ?_, w'⟩
        obtain ⟨o, z, _⟩ := T.obj _ _ st7 c m
        exact (pin c m o z).2
      have len8 : (wipe σ (own.map (·.2))).length = σ8.length := by rw [← w8, wipe_length]
      have kp8 : ∀ (j : Nat) v, (wipe σ (own.map (·.2)))[j]? = some (some v) → σ8[j]? = some (some v) ∧ j ∉ own.map (·.2) := fun j v z => by rw [← w8] at z; exact wipe_some z
      cases bt with
      | false => exact over I9 len8 (fun j v z => (kp8 j v z).1) q9
      | true =>
        rw [if_pos rfl] at q9 ⊢
        refine wpAny_bind (thnF (pi1.run _ s9 σ8 H9 _ I9 q9) fun xv s10 hx => ?_)
        refine wpAny_bind (wpAny_standAt (wpAny_bind (wpAny_of_eq (hs1 ce xv) (wpAny_bind (wpAny_holding (thnF hx fun jv s11 h11 => ?_))))))
        obtain ⟨it1, fp1, tn1, J1, H11, ej, I11, T1, st11, f11, W1, ⟨m1, w1⟩, turn1⟩ := h11
        subst ej
        have stat1 : ∀ {H' : Hp}, (∀ c ∈ fp1, H' c = none) → ∀ c ∈ fp1, FpOk (X.blk s3 H3 sc ce fp) ([] ++ pinsAt fp s7.heap) H' c := fun hn c m => ⟨hn c m, (f11 c m).2⟩
        have inner : codeAny (model X.prog X.w) X.A (.compLoop (sc2 e a p b q fa fb sc pos) 1 (.ref it1) (.ref D) ce) (fun r s' => match r with
            | .ok _ => ∃ m, m < n ∧ Out m s'
            | .error _ => False) s11 := by
          refine sc_loop sc2_t1 (fun k s' => ∃ j H', Inv (X.blk s3 H3 sc ce fp) ([] ++ pinsAt fp s7.heap) (wipe σ8 vs1) H' s' ∧ tn1 j s'.heap ∧ (∀ c ∈ fp1, H' c = none) ∧ W1 j k H') ?_ m1 ⟨0, H11, I11.weak (wipe_length _ _) fun j v z => (wipe_some z).1, st11, fun c m => (f11 c m).1, w1⟩
          rintro k s12 ⟨j, H12, I12, st12, n12, w12⟩
          rcases turn1 j k H12 w12 with ⟨stop1, last1⟩ | ⟨go1, Nx1, next1, step1⟩
          · refine thnF (T1.done (X.blk s3 H3 sc ce fp) rfl rfl rfl calm j _ s12 (wipe σ8 vs1) H12 (fun _ _ => False) I12 (stat1 n12) st12 stop1) fun r s13 ⟨er, I13⟩ => ?_
            subst er
            refine over I13 (len8.trans (wipe_length σ8 vs1).symm) (fun j v z => ?_) last1
            rw [L2.wipe_out fun y => (kp8 j v z).2 (sub j y)]
            exact (kp8 j v z).1
          · refine thnF (T1.item (X.blk s3 H3 sc ce fp) rfl rfl rfl calm j _ s12 (wipe σ8 vs1) H12 (fun _ _ => False) I12 (stat1 n12) st12 go1) fun r s13 ⟨u1, er, h13⟩ => ?_
            subst er
            refine thnF h13 fun _ s14 ⟨x1, H14, I14, r14, y14, st14, n14⟩ => ?_
            have P14 := I14.pinned (stat1 n14) (T1.obj _ _ st14)
            refine thnF (pg1.run _ s14 (wipe σ8 vs1) H14 x1 u1 _ P14 r14 (step1 x1 H14 y14)) fun _ s15 ⟨σ15, H15, I15, w15, q15⟩ => ?_
            refine thnF (pt1.run _ s15 σ15 H15 _ I15 q15) fun bt1 s16 ⟨H16, I16, q16⟩ => ?_
            have over1 : ∀ {s' : Shared} {H' : Hp}, Inv (X.blk s3 H3 sc ce fp) (([] ++ pinsAt fp s7.heap) ++ pinsAt fp1 s14.heap) σ15 H' s' → Nx1 H' → ∃ m, m < k ∧ ∃ j H', Inv (X.blk s3 H3 sc ce fp) ([] ++ pinsAt fp s7.heap) (wipe σ8 vs1) H' s' ∧ tn1 j s'.heap ∧ (∀ c ∈ fp1, H' c = none) ∧ W1 j m H' := fun {s' H'} J nx => by
              obtain ⟨m', lt, w'⟩ := next1 H' nx
              have pin : ∀ c ∈ fp1, ∀ o, s14.heap.get? c = some o → s'.heap.get? c = some o ∧ H' c = none := fun c m o z =>
                have y := J.pin (c, o) (List.mem_append_right _ (List.mem_append_right _ (mem_pinsAt m z)))
                ⟨y.1, y.2.1⟩
              refine ⟨m', lt, j + 1, H', J.unpinned.weak (by rw [← w15, wipe_length]) (fun j v z => by rw [← w15] at z; exact (wipe_some z).1), T1.keep _ _ _ st14 fun c m o z => (pin c m o z).1, fun c m => ?_, w'⟩
              obtain ⟨o, z, _⟩ := T1.obj _ _ st14 c m
              exact (pin c m o z).2
            cases bt1 with
            | false => exact over1 I16 q16
            | true =>
              rw [if_pos rfl] at q16 ⊢
              refine wpAny_bind (wpAny_bind (thnF (pe.run _ s16 σ15 H16 _ I16 q16) fun zv s17 ⟨yv, H17, I17, r17, c, S0, n0, ey, hD, room, nx⟩ => wpAny_bind (wpAny_standAt (wpAny_bind ?_))))
              subst ey
              exact put_ok (X := X.blk s3 H3 sc ce fp) I17 hD room r17 fun s18 I18 => wpAny_pure (wpAny_pure ⟨rfl, over1 I18 nx⟩)
        refine wpAny_bind (wpAny_runOwn ?_)
        rw [Around.mark_none]
        refine codeAny_mono (sc2_start1 inner (T1.self X.A 0 _ _ _ st11 inner)) fun r s' hr => ?_
        cases r with
        | ok f => exact wpAny_pure ⟨rfl, hr⟩
        | error y => exact hr.elim
  exact PpSet.codeAny_compStart_set loop (T.self X.A 0 _ _ _ st4 loop)
end
end CF
/-! CFC3: sorted({e for a in p if .. for b in q if ..}) of ints in the small language. -/
namespace CF
open PySem PySem.Spec PyProof.Rows L2

def isIntD : D → Bool
  | .int _ => true
  | _ => false
theorem isIntD_ok {d : D} (h : isIntD d = true) : ∃ c, d = .int c := by
  cases d <;> first | exact ⟨_, rfl⟩ | (cases h; done)
def kdS (w : World) : Kd := ⟨fun L acc o => ∃ (S : Int → Bool) (n : Nat), o = SetO w L S n ∧ (∀ j, S j = true ↔ V.int j ∈ acc) ∧ n ≤ acc.length, isIntD, scanBound - 1, fun ⟨_, _, e, _⟩ z => by subst e; exact z⟩
def mSortC (c : ML) : M := fun ε => (c ε).bind fun p => (sortSetD (.list (p.1.map (·.1)))).bind fun r => .ok (r.1, r.2, p.2)
def contS (w : World) (Q : VK) : VK := fun x H1 => ∃ (l : Addr) (S : Int → Bool) (n : Nat) (ns : List Int), x = .ref l ∧ H1 l = some (SetO w l S n) ∧ (∀ k, S k = true ↔ k ∈ ns) ∧ (sortU ns).length < 64 ∧ ∀ p, H1 p = none → Q (.ref p) (upd H1 p (.lst ((sortU ns).map V.int)))
theorem allInt_all : ∀ {ds : List D} {ns : List Int}, allInt ds = some ns → (∀ d ∈ ds, isIntD d = true) ∧ ds.length = ns.length
  | [], ns, h => by cases h; exact ⟨nofun, rfl⟩
  | d :: ds, ns, h => by
    cases d <;> first | (cases h; done) | skip
    rename_i i
    rw [allInt] at h
    cases e : allInt ds with
    | none => rw [e] at h; cases h
    | some ms =>
      rw [e] at h
      obtain ⟨h1, h2⟩ := allInt_all e
      cases h
      refine ⟨fun d m => ?_, by simp [h2]⟩
      rcases List.mem_cons.mp m with rfl | m
      · rfl
      · exact h1 d m
section
variable {F : Fx} {w : World} {rd ef rdb efb : List Nat} {m : M}
theorem body_endS {h : Bool} (hm : ∀ j ∈ rdb, j ∈ rd) (he : ∀ j ∈ efb, j ∈ ef) : BodyOk (kdS w) F rd ef (bEndS w (tE F rdb efb m)) (cEnd m h) := fun {H σ ε Fs Ge L acc ads Ga r Nx} R A e sz pk fin => by
  unfold cEnd at e
  cases e1 : m ε with
  | no => rw [e1] at e; cases e
  | ex x => rw [e1] at e; cases e
  | ok p =>
    rw [e1] at e
    simp only [Out.bind_ok'] at e
    cases e2 : hold h p.1 p.2.1 with
    | no => rw [e2] at e; cases e
    | ex x => rw [e2] at e; cases e
    | ok u =>
      rw [e2] at e
      cases e
      refine tE.of R ?_
      rw [e1]
      intro v H' Fs' G P
      have ip : isIntD p.1 = true := pk (p.1, p.2.1) (List.mem_singleton.mpr rfl)
      obtain ⟨c, ec⟩ := isIntD_ok ip
      have rp := P.rp
      rw [ec] at rp
      cases rp
      have S := P.seq.mono he
      have A' := A.seq S (S.len R)
      have al : acc.length = ads.length := A.hl.length
      obtain ⟨o, eo, S0, n0, rfl, hS, hn⟩ := A'.at'
      have sz : ads.length + 1 ≤ scanBound - 1 := sz
      refine ⟨c, S0, n0, rfl, eo, by omega, ?_⟩
      have hv : Held F H' p.2.2 (ghost p.2.2.length Ge Fs') rd (.int c) p.1 p.2.1 [] := ⟨P.rp, fun f => ⟨List.nodup_nil, fun a m => (List.not_mem_nil m).elim, fun j a m => (List.not_mem_nil m).elim⟩, fun j hj o a m => (List.not_mem_nil m).elim⟩
      have A2 := A'.push (A.hl.mapSnoc (A.held S (S.len R)) hv fun _ _ a _ => List.not_mem_nil) List.not_mem_nil (.inr (.inl (by rw [ec, imm]))) (o' := SetO w L (fun j => S0 j || decide (j = c)) (if S0 c = true then n0 else n0 + 1)) ⟨_, _, rfl, fun j => by simp [hS], by rw [List.length_append]; split <;> simp <;> omega⟩
      refine fin _ Fs' (acc ++ [.int c]) (Ga ++ []) ((S.toD).trans ⟨P.env.updD eo (fun z => z) A'.out A'.nd.2.2, (kpD eo fun z => z).mono fun a z => .inl z, fun _ o => o, fun _ _ m => .inr (.inl m), fun _ _ => rfl⟩) A2 fun a m => ?_
      rw [List.append_nil] at m
      exact .inl m
end
section
variable {X : Cx} {F : Fx} {w : World} {rd ef rdi efi vs is : List Nat} {tg : Tg} {mi : MI} {a : ML} {tb : BodyT} {g : TG} {σ : L2.St} {H : Hp} {Q : VK}
theorem scB {h : Bool} (hrd : ∀ j ∈ rdi, j ∈ rd) (he : ∀ j ∈ efi, j ∈ ef) (hh : h = true ∨ ∀ j ∈ ef, j ∉ rdi) (gs : GS F g tg is) (his : ∀ i ∈ is, i ∈ vs) (io : ∀ i ∈ F.io, i ∉ vs) (bk : BodyOk (kdS w) F rd ef tb a)
    (q : tE F rd ef (mSortC (cFor mi vs tg h rdi a)) σ H Q) : tScB w (tI F rdi efi mi) g tb vs σ H (contS w Q) := by
  obtain ⟨ε, Fs, R, q⟩ := q.w
  refine ⟨ε, Fs, R, ?_⟩
  unfold mSortC cFor at q
  refine (W0.bind (W0.bind q)).imp fun p e1 q J H1 Fs1 G Iv S src iv hc og L nL => ?_
  by_cases c : (itOk h rdi p.1 p.2.1 p.2.2 && vs.all (freeSlot p.2.2)) = true
  · rw [if_pos c] at q
    obtain ⟨c1, c2⟩ := Bool.and_eq_true_iff.mp c
    cases e2 : noEx (turns vs tg a p.1 (wipeE p.2.2 vs)) with
    | no => rw [e2] at q; exact q.elim
    | ex x => cases e3 : turns vs tg a p.1 (wipeE p.2.2 vs) <;> rw [e3] at e2 <;> cases e2
    | ok r =>
      rw [e2] at q
      simp only [W0, Out.bind_ok', sortSetD] at q
      cases ei : allInt (r.1.map (·.1)) with
      | none => rw [ei] at q; exact q.elim
      | some ns =>
        rw [ei] at q
        by_cases cs : ns.length ≤ 4000 ∧ (sortU ns).length < 64
        · simp only [W0, if_pos cs, Out.bind_ok'] at q
          obtain ⟨ia, il⟩ := allInt_all ei
          rw [List.length_map] at il
          have S := S.mono he
          have k0 : Fr (fun _ => False) H1 (upd H1 L (SetO w L (fun _ => false) 0)) := Fr.new nL
          have S2 := S.trans (Seq.ext (ef := ef) S.env k0)
          have nLF : ∀ j, L ∉ Fs1 j := fun j m => S.env.live m nL
          have nLG : L ∉ G := fun m => hc.lv L m nL
          have hc2 : HoldC F (upd H1 L (SetO w L (fun _ => false) 0)) p.2.2 Fs1 rdi p.2.1 G := ⟨fun b m => live_of k0 (hc.lv b m), hc.fr, hc.al⟩
          obtain ⟨k1, k2, k3⟩ := clause (ef := ef) (L := L) S2.env c1 hh hc2 nLG
          have oG : ∀ b ∈ geOf p.2.1 p.1 G, F.Og b := fun b m => (og b (geOf_sub m)).elim (fun z => (R.nw b z).2) fun ⟨j, z⟩ => R.og j b z
          have wL : F.Wr L := (S.env.nw L nL).1
          have A : Acc (kdS w) F (upd H1 L (SetO w L (fun _ => false) 0)) p.2.2 Fs1 rd ef (geOf p.2.1 p.1 G ++ []) L [] [] [] :=
            ⟨⟨_, upd_same, _, _, rfl, fun j => by simp, Nat.zero_le _⟩, nLF, .nil, ⟨nofun, by rw [List.append_nil]; exact fun m => nLG (geOf_sub m), wL⟩, .inr nofun, fun b m => hc2.lv b (geOf_sub (by rw [List.append_nil] at m; exact m)), fun j o b m => k3 j o b (by rw [List.append_nil] at m; exact m)⟩
          have iv2 : Iv (upd H1 L (SetO w L (fun _ => false) 0)) := src.keep iv k0.kp fun _ _ z => z
          have lp := loop_ok src bk gs his io S2.env (List.all_eq_true.mp c2) iv2 k1 k2 oG A (noEx_ok e2) (by show ([] : List (D × Bool)).length + r.1.length ≤ scanBound - 1; rw [List.length_nil, il]; have := cs.1; unfold scanBound; omega) (fun x m => ia _ (List.mem_map_of_mem m)) (Nx := fun H' => contS w Q (.ref L) H') fun H2 Fs2 acc2 Ga2 T B o => ?_
          · exact lp
          · have n0 : H L = none := S.kp.live L nL
            obtain ⟨ob, eB, S0, m0, rfl, hS, hn⟩ := B.at'
            have row := B.hl.row
            simp only [List.nil_append] at row
            have ea := allInt_rps ei row.rp
            have ST : Seq F H σ ε Fs ef H2 (restE r.2 p.2.2 vs) Fs2 := (S2.toD.trans T).seq n0
            refine ⟨L, S0, m0, ns, rfl, eB, fun k => ?_, cs.2, fun l nl => q _ _ Fs2 _ (ST.newL (rd := rd) (fr := true) ⟨rps_ints _, fun _ => ⟨List.nodup_nil, noM, fun _ => noM⟩, fun _ _ _ => noM⟩ noM nl)⟩
            rw [hS, ea]; simp
        · simp only [W0, if_neg cs] at q; exact q.elim
  · rw [if_neg c] at q; exact q.elim
end
section
variable {X : Cx} {a : Expr} {ta : TE} {p pos : Pos}
theorem pe_sortOf (hc : X.calm = true) (hg : Gl X "sorted") (hm : X.mg "sorted" = none) (ha : PE X a ta) (na : starEach [a] X.env = (false, eval a X.env) :: starEach [] X.env := by rfl) :
    PE X (.Call (.Name "sorted" p) [a] [] pos) (fun σ H Q => ta σ H (contS X.w Q)) := by
  refine ⟨fun pins s σ H Q I h => Call_ (ld_blt I hg hm boot_sorted ?_)⟩
  refine PyProof.Rows.callWith_builtin1 (PyProof.Rows.args_cons ?_ na) na rfl
  refine thn (ha.run pins s σ H _ I h) fun v s1 ⟨x, H1, I1, r1, l, S, n, ns, ex, hl, hS, h64, q⟩ => PyProof.Rows.args_nil ?_
  subst ex
  cases r1
  have R := setO_get I1 hl
  have c64 : n < 64 := by
    obtain ⟨o, es, ep, t, ho, hex, hd, gg, nd, hm, hb, hf, hn, hr, hl⟩ := id R
    have : (es.toList.map L2.keyOf).length ≤ (sortU ns).length := nodup_le nd fun k z => mem_sortU.mpr ((hS k).mp ((hm k).mpr z))
    rw [List.length_map, Array.length_toList, hn] at this
    omega
  refine sorted_set R (I1.ok.hd hc) c64 fun s' d out cc ms k g' o hp hg hi hs hm hl => ?_
  have em : ms = sortU ns := lt_unique hs (sortU_lt ns) fun k => by rw [hm, mem_sortU, hS]
  subst em
  have hn : H1 d = none := I1.hok.fresh hp
  have J : Inv X pins σ (upd H1 d (.lst ((sortU ns).map V.int))) { s1 with heap := s'.heap, gens := s'.gens, drawn := s'.drawn, toks := s'.toks } :=
    I1.call (ch := []) (Un.laid k hp hn) (I1.hok.laid k hp ⟨by rw [List.length_map, sizeLine_eq]; omega, out.toList, cc, vals_of_ints hi, hg⟩) (by rw [g']; exact I1.bare) nofun
  have e : s' = { s1 with heap := s'.heap, gens := s'.gens, drawn := s'.drawn, toks := s'.toks } := by
    cases s'; cases s1; cases o; rfl
  rw [e]
  exact ⟨.ref d, _, J, rfl, q d hn⟩
end
end CF
/-! CFC4: sorted sets over the keys of a dict. -/
namespace CF
open PySem PySem.Spec PyProof.Rows L2

section
variable {X : Cx} {F : Fx} {H H1 H2 : Hp} {σ : L2.St} {ε : EnvT} {Fs : Nat → List Addr} {a : Addr} {i : Nat} {rd ef rde efe eft is : List Nat} {pos : Pos} {m : M} {t : MT} {g : TG} {tg : Tg}
theorem keyLockS {te : TE} {tI' : TI} {Rq : L2.St → VK → It → Hp → Prop} {Q : VK} (hte : ∀ {σ H Q}, tI' σ H (Rq σ Q) → te σ H Q) (hI : ∀ {σ H R}, L2.iKeys (tVar i) σ H R → tI' σ H R)
    (inner : ∀ {σ H Q}, tE F rd ef m σ H Q → tI F [i] [] (CF.iKeys i) σ H (Rq σ Q)) (emp : ∀ {σ : L2.St} {H : Hp} {Q : VK} {J : It}, (∀ H', Fr (fun _ => False) H H' → J.stop 0 H') → (∀ L H', Fr (fun _ => False) H H' → H' L = none → Q (.ref L) (upd H' L (.lst []))) → Rq σ Q J H)
    (h : tE F (i :: rd) ef (mKeyLock i m) σ H Q) : tLockE te σ H Q ∨ te σ H Q := by
  obtain ⟨ε, Fs, R, h⟩ := h.w
  unfold mKeyLock at h
  cases e : ε[i]? with
  | none => rw [e] at h; exact h.elim
  | some s => cases s with
    | un => rw [e] at h; exact h.elim
    | v x o => cases x with
      | s ns => rw [e] at h; exact h.elim
      | d d => cases d with
        | dict kvs =>
          rw [e] at h
          obtain ⟨v, ev, r⟩ := R.d i _ o e
          have goE : ∀ {a : Addr} {u : HO}, v = .ref a → H a = some u → (u = .dK [] ∨ u = .dT []) → kvs = [] → tLockE te σ H Q := fun {a u} hv hu hu0 hk => by
            subst hv; subst hk
            have mu : Mut (some u) := by rcases hu0 with z | z <;> rw [z] <;> trivial
            refine ⟨a, u, hu, mu, fun od => hte (hI ⟨.ref a, ev, a, od, rfl, ?_⟩)⟩
            have kq : ∀ L H', Fr (fun _ => False) (upd H a (.frz od u)) H' → H' L = none → (upd H' L (.lst [])) a = some (.frz od u) ∧ Q (.ref L) (upd (upd H' L (.lst [])) a u) := fun L H' fr nL => by
              have ea : H' a = some (.frz od u) := fr.kp a _ upd_same nofun
              have n : L ≠ a := fun z => by rw [z, ea] at nL; cases nL
              have frH : Fr (fun _ => False) H (upd H' a u) := ⟨fun b o hb w => by
                by_cases c : b = a
                · subst c; rw [hu] at hb; cases hb; exact upd_same
                · rw [upd_ne c]; exact fr.kp b o (by rw [upd_ne c]; exact hb) w, fun b hb => by
                by_cases c : b = a
                · subst c; rw [upd_same] at hb; cases hb
                · rw [upd_ne c] at hb
                  have := fr.live b hb
                  rw [upd_ne c] at this; exact this⟩
              refine ⟨by rw [upd_ne (Ne.symm n)]; exact ea, ?_⟩
              rw [upd_swap (Ne.symm n)]
              exact h (.ref L) _ Fs [L] ((Seq.ext (ef := ef) R frH).newL (rd := i :: rd) (vs := []) (ds := []) (fr := true) .nil nofun (by rw [upd_ne n]; exact nL))
            rcases hu0 with z | z
            · subst z
              exact .inl ⟨[], upd_same, emp (fun H' fr => ⟨fr.kp a _ upd_same nofun, Nat.le_refl _⟩) kq⟩
            · subst z
              exact .inr ⟨[], upd_same, emp (fun H' fr => ⟨fr.kp a _ upd_same nofun, Nat.le_refl _⟩) kq⟩
          have goF : ∀ {a : Addr} {u : HO}, v = .ref a → Full u → (∀ x, a ∈ x → Fs i = x → True) → a ∈ Fs i → (H a = some u ∨ ∃ ob, H a = some (.frz ob u)) → kvs ≠ [] → tLockE te σ H Q ∨ te σ H Q := fun {a u} hv fu _ ai hu hk => by
            subst hv
            have hk' : ¬ kvs.isEmpty = true := fun z => hk (List.isEmpty_iff.mp z)
            simp only [if_neg hk'] at h
            have h := W0.bind h
            rcases hu with hu | ⟨ob, hu⟩
            · left
              have mu : Mut (some u) := by rcases fu with ⟨_, z, _⟩ | ⟨_, z, _⟩ <;> rw [z] <;> trivial
              refine ⟨a, u, hu, mu, fun od => hte ?_⟩
              have l1 : Lk a H (upd H a (.frz od u)) := ⟨fun b n => upd_ne n, u, od, fu, .inl ⟨hu, upd_same⟩⟩
              have RL := R.lock e ev ai l1
              have q : tE F rd ef m σ (upd H a (.frz od u)) (fun v H' => H' a = some (.frz od u) ∧ Q v (upd H' a u)) := by
                refine tE.of RL ?_
                cases em : m (ε.set i (.v (.d (.dict kvs)) false)) with
                | no => rw [em] at h; exact h
                | ex z => rw [em] at h; exact h.elim
                | ok r =>
                  rw [em] at h
                  intro v H' Fs' G P
                  obtain ⟨p1, p2⟩ := P.unlock R e ev ai fu hu
                  exact ⟨p1, h v _ Fs' G p2⟩
              exact hI (keys_w (inner q) ev upd_same)
            · right
              have o0 : o = false := by
                cases o with
                | false => rfl
                | true => exact absurd hu (((R.own i ⟨_, e⟩).2.1 a ai).2 ob u)
              subst o0
              have es : ε.set i (.v (.d (.dict kvs)) false) = ε := by
                refine List.ext_getElem? fun j => ?_
                by_cases c : j = i
                · subst c
                  rw [e]
                  have li : j < ε.length := by
                    by_cases hl : j < ε.length
                    · exact hl
                    · rw [List.getElem?_eq_none (by omega)] at e; cases e
                  exact List.getElem?_set_self li
                · exact List.getElem?_set_ne (Ne.symm c)
              rw [es] at h
              have q : tE F rd ef m σ H Q := tE.of R ((noEx_w h).imp fun r _ q v H' Fs' G P => q v H' Fs' G ((P.mono (fun j m => List.mem_cons_of_mem _ m) fun j m => m).reset R e))
              exact hte (hI (keys_w (inner q) ev hu))
          generalize hF : Fs i = Fi at r
          cases r with
          | @dct a kv _ F' hd ek q =>
            have ai : a ∈ Fs i := by rw [hF]; exact List.mem_cons_self
            by_cases c : kvs = []
            · subst c
              have : kv = [] := by cases kv with
                | nil => rfl
                | cons _ _ => cases ek
              subst this
              exact .inl (goE rfl hd.nil (.inl rfl) rfl)
            · have c' : kv ≠ [] := fun z => by
                subst z
                cases kvs with
                | nil => exact c rfl
                | cons _ _ => cases ek
              exact goF rfl (.inl ⟨kv, rfl, c'⟩) (fun _ _ _ => trivial) ai (hd.imp id fun ⟨_, o, z⟩ => ⟨o, z⟩) c
          | @dcT a kv _ F' hd ek q =>
            have ai : a ∈ Fs i := by rw [hF]; exact List.mem_cons_self
            by_cases c : kvs = []
            · subst c
              have : kv = [] := by cases kv with
                | nil => rfl
                | cons _ _ => cases ek
              subst this
              exact .inl (goE rfl hd.nil (.inr rfl) rfl)
            · have c' : kv ≠ [] := fun z => by
                subst z
                cases kvs with
                | nil => exact c rfl
                | cons _ _ => cases ek
              exact goF rfl (.inr ⟨kv, rfl, c'⟩) (fun _ _ _ => trivial) ai (hd.imp id fun ⟨_, o, z⟩ => ⟨o, z⟩) c
        | _ => rw [e] at h; exact h.elim
end
theorem empS {w : World} {g : TG} {tb : BodyT} {vs : List Nat} {σ : L2.St} {H : Hp} {Q : VK} {J : It} (st : ∀ H', Fr (fun _ => False) H H' → J.stop 0 H') (k : ∀ L H', Fr (fun _ => False) H H' → H' L = none → Q (.ref L) (upd H' L (.lst []))) :
    ∀ L, H L = none → ∃ W : Nat → Nat → Hp → Prop, (∃ m, W 0 m (upd H L (SetO w L (fun _ => false) 0))) ∧ ∀ i m H', W i m H' →
      (J.stop i H' ∧ contS w Q (.ref L) H') ∨ (J.go i H' ∧ ∃ Nx : Hp → Prop, (∀ H'', Nx H'' → ∃ m', m' < m ∧ W (i + 1) m' H'') ∧ ∀ x H'', J.yld i H' x H'' → g x (wipe σ vs) H'' fun σ2 H2 => wipe σ2 vs = wipe σ vs ∧ tb σ2 H2 L Nx) := fun L nL => by
  refine ⟨fun i m H' => i = 0 ∧ H' = upd H L (SetO w L (fun _ => false) 0), ⟨0, rfl, rfl⟩, ?_⟩
  rintro i m H' ⟨rfl, rfl⟩
  exact .inl ⟨st _ (Fr.new nL), L, _, _, [], rfl, upd_same, fun k => by simp, by decide, fun p np => k p _ (Fr.new nL) np⟩
section
variable {X : Cx} {F : Fx} {σ σ2 : L2.St} {i : Nat} {rd ef rda efa rde efe eft rdi efi is rdi1 efi1 eft1 is1 vs1 : List Nat} {pos p p2 pos2 : Pos} {m : M} {t t1 : MT} {g g1 : TG} {tg tg1 : Tg} {mi mi1 : MI}
theorem Blk2.sc {w : World} {h h1 he : Bool} {vs : List Nat} (b : Blk2 F rd ef rde efe eft eft1 rdi efi rdi1 efi1 is is1 vs vs1 h h1 he) (gs : GS F g tg is) (gs1 : GS F g1 tg1 is1) {H : Hp} {Q : VK}
    (q : tE F rd ef (mSortC (cFor mi vs tg h rdi (cIf t (cFor mi1 vs1 tg1 h1 rdi1 (cIf t1 (cEnd m he)))))) σ H Q) : tScB w (tI F rdi efi mi) g (bIf (tT F eft t) (bFor (tI F rdi1 efi1 mi1) g1 vs1 (bIf (tT F eft1 t1) (bEndS w (tE F rde efe m))))) vs σ H (contS w Q) :=
  scB b.b_b1.b_rdi b.b_b1.b_efi b.b_b1.b_hi gs b.b_b1.b_is b.b_b1.b_io (body_if (fun h => h) b.b_b1.b_eft (body_for b.b_efi1 b.b_h1 gs1 b.b_is1 (fun j m n => b.b_b1.b_io j m (b.b_sub j n)) (body_if (fun h => h) b.b_eft1 (body_endS b.b_b1.b_rde b.b_b1.b_efe)))) q
theorem xe_sortSc2 {elt tgE iter tgE1 iter1 : Expr} {ifs ifs1 : List Expr} {scope : Scope} {own : List (Str × Nat)} {h h1 he : Bool} (G : Gd X F) (hgl : Gl X "sorted") (hgm : X.mg "sorted" = none) (rd ef : List Nat) (gs : GS F g tg is) (gs1 : GS F g1 tg1 is1) (ok : BlkOk X.N X.env.scope scope own) (b : Blk2 F rd ef rde efe eft eft1 rdi efi rdi1 efi1 is is1 (own.map (·.2)) vs1 h h1 he) (hi : PI X tgE iter (tI F rdi efi mi))
    (hg : ∀ s H C cl fp, PG (X.blk s H scope (compEnvC scope cl C X.env) fp) tgE g) (ht : ∀ s H C cl fp, PTs (X.blk s H scope (compEnvC scope cl C X.env) fp) ifs (tT F eft t))
    (hi1 : ∀ s H C cl fp, PI (X.blk s H scope (compEnvC scope cl C X.env) fp) tgE1 iter1 (tI F rdi1 efi1 mi1)) (hg1 : ∀ s H C cl fp, PG (X.blk s H scope (compEnvC scope cl C X.env) fp) tgE1 g1) (ht1 : ∀ s H C cl fp, PTs (X.blk s H scope (compEnvC scope cl C X.env) fp) ifs1 (tT F eft1 t1))
    (hm : ∀ s H C cl fp, PE (X.blk s H scope (compEnvC scope cl C X.env) fp) elt (tE F rde efe m)) (hs : ∀ x, foldedSetIterable iter X.env x = pure x := by intro _; rfl) (hs1 : ∀ env x, foldedSetIterable iter1 env x = pure x := by intro _ _; rfl)
    (na : starEach [sc2 elt tgE iter tgE1 iter1 ifs ifs1 scope pos] X.env = (false, eval (sc2 elt tgE iter tgE1 iter1 ifs ifs1 scope pos) X.env) :: starEach [] X.env := by rfl) :
    PE X (.Call (.Name "sorted" p2) [sc2 elt tgE iter tgE1 iter1 ifs ifs1 scope pos] [] pos2) (tE F rd ef (mSortC (cFor mi (own.map (·.2)) tg h rdi (cIf t (cFor mi1 vs1 tg1 h1 rdi1 (cIf t1 (cEnd m he))))))) :=
  (pe_sortOf G.calm hgl hgm (pe_sc2 G.calm G.nd hi ok b.b_sub hg ht hi1 hg1 ht1 hm hs hs1) na).imp fun σ H Q q => b.sc gs gs1 q
theorem xe_keysSortSc2 {elt tgE tgE1 iter1 : Expr} {x : Str} {ifs ifs1 : List Expr} {scope : Scope} {own : List (Str × Nat)} {h1 he : Bool} {rdi1 efi1 : List Nat} (G : Gd X F) (hgl : Gl X "sorted") (hgm : X.mg "sorted" = none) (rd ef : List Nat) (hN : X.N[i]? = some x) (hv : Vis X.env.scope x) (gs : GS F g tg is) (gs1 : GS F g1 tg1 is1) (ok : BlkOk X.N X.env.scope scope own) (b : Blk2 F rd ef rde efe eft eft1 [i] [] rdi1 efi1 is is1 (own.map (·.2)) vs1 false h1 he)
    (hg : ∀ s H C cl fp, PG (X.blk s H scope (compEnvC scope cl C X.env) fp) tgE g) (ht : ∀ s H C cl fp, PTs (X.blk s H scope (compEnvC scope cl C X.env) fp) ifs (tT F eft t))
    (hi1 : ∀ s H C cl fp, PI (X.blk s H scope (compEnvC scope cl C X.env) fp) tgE1 iter1 (tI F rdi1 efi1 mi1)) (hg1 : ∀ s H C cl fp, PG (X.blk s H scope (compEnvC scope cl C X.env) fp) tgE1 g1) (ht1 : ∀ s H C cl fp, PTs (X.blk s H scope (compEnvC scope cl C X.env) fp) ifs1 (tT F eft1 t1))
    (hm : ∀ s H C cl fp, PE (X.blk s H scope (compEnvC scope cl C X.env) fp) elt (tE F rde efe m)) (hd : (x == ("__debug__" : Str)) = false := by decide) (hcd : (x == ("__classdict__" : Str)) = false := by decide) (hs : ∀ y, foldedSetIterable (.Name x p) X.env y = pure y := by intro _; rfl) (hs1 : ∀ env x, foldedSetIterable iter1 env x = pure x := by intro _ _; rfl)
    (na : starEach [sc2 elt tgE (.Name x p) tgE1 iter1 ifs ifs1 scope pos] X.env = (false, eval (sc2 elt tgE (.Name x p) tgE1 iter1 ifs ifs1 scope pos) X.env) :: starEach [] X.env := by rfl) :
    PE X (.Call (.Name "sorted" p2) [sc2 elt tgE (.Name x p) tgE1 iter1 ifs ifs1 scope pos] [] pos2) (tE F (i :: rd) ef (mKeyLock i (mSortC (cFor (CF.iKeys i) (own.map (·.2)) tg false [i] (cIf t (cFor mi1 vs1 tg1 h1 rdi1 (cIf t1 (cEnd m he)))))))) := by
  have h0 := pe_sortOf G.calm hgl hgm (pe_sc2 G.calm G.nd (pi_keys (pe_var hN hv hd hcd)) ok b.b_sub hg ht hi1 hg1 ht1 hm hs hs1 (pos := pos)) na (p := p2) (pos := pos2)
  exact ((pe_lock h0).or h0).imp fun σ H Q q => keyLockS (fun h => h) (fun h => h) (fun q => b.sc gs gs1 q) (fun st k => empS st k) q
end
end CF
/-! CF28: arguments. -/
namespace CF
open PySem PySem.Spec PyProof.Rows L2

/-- arguments held; Gs: what can be changed in the values among them -/
inductive HeldA (F : Fx) (H0 H : Hp) (σ : L2.St) (ε : EnvT) (Fs : Nat → List Addr) (rd : List Nat) : List V → List Arg → List (List Addr) → Prop
  | nil : HeldA F H0 H σ ε Fs rd [] [] []
  | ref {i : Nat} {v : V} {vs : List V} {as : List Arg} {Gs : List (List Addr)} : σ[i]? = some (some v) → i ∈ rd → HeldA F H0 H σ ε Fs rd vs as Gs → HeldA F H0 H σ ε Fs rd (v :: vs) (.ref i :: as) ([] :: Gs)
  | val {v : V} {d : D} {f : Bool} {G : List Addr} {vs : List V} {as : List Arg} {Gs : List (List Addr)} : Held F H ε Fs rd v d f G → HeldA F H0 H σ ε Fs rd vs as Gs → (f = true → ∀ a ∈ G, ∀ G' ∈ Gs, a ∉ G') → HeldA F H0 H σ ε Fs rd (v :: vs) (.val d f :: as) (G :: Gs)
  | tmp {v : V} {d : D} {G : List Addr} {vs : List V} {as : List Arg} {Gs : List (List Addr)} : Held F H ε Fs rd v d true G → (∀ a ∈ G, H0 a = none) → HeldA F H0 H σ ε Fs rd vs as Gs → (∀ a ∈ G, ∀ G' ∈ Gs, a ∉ G') → HeldA F H0 H σ ε Fs rd (v :: vs) (.tmp d :: as) (G :: Gs)
abbrev kA (F : Fx) (H : Hp) (σ : L2.St) (ε : EnvT) (Fs : Nat → List Addr) (rd ef : List Nat) (Q : List V → Hp → Prop) : List Arg × EnvT → Prop := fun r => ∀ vs H' Fs' Gs, Seq F H σ ε Fs ef H' r.2 Fs' → HeldA F H H' σ r.2 Fs' rd vs r.1 Gs → (∀ G ∈ Gs, ∀ a ∈ G, H a = none ∨ ∃ j, a ∈ Fs j) → Q vs H'
def tA (F : Fx) (rd ef : List Nat) (m : MA) : TA := fun σ H Q => ∃ ε Fs, EnvR F H σ ε Fs ∧ W0 F H (kA F H σ ε Fs rd ef Q) (m ε)
section
variable {X : Cx} {F : Fx} {H H0 H1 H2 : Hp} {σ : L2.St} {ε ε1 : EnvT} {Fs Fs1 : Nat → List Addr} {i : Nat} {rd rd' ef rda rdb efa efb : List Nat} {pos p : Pos} {m : M} {r : MA} {l : ML} {e : Expr} {es : List Expr}
theorem HeldA.mono {vs : List V} {as : List Arg} {Gs : List (List Addr)} {H0' : Hp} (h : HeldA F H0 H σ ε Fs rd vs as Gs) (s : ∀ j ∈ rd, j ∈ rd') (n : ∀ a, H0 a = none → H0' a = none) : HeldA F H0' H σ ε Fs rd' vs as Gs := by
  induction h with
  | nil => exact .nil
  | ref a b c ih => exact .ref a (s _ b) ih
  | val a b c ih => exact .val ⟨a.rp, a.fr, fun j hj => a.al j fun z => hj (s j z)⟩ ih c
  | tmp a b c d ih => exact .tmp ⟨a.rp, a.fr, fun j hj => a.al j fun z => hj (s j z)⟩ (fun x m => n x (b x m)) ih d
theorem xa_nil : PA X [] (tA F [] [] aNil) := pa_nil.imp fun σ H Q ⟨ε, Fs, R, h⟩ => h [] H Fs [] (.refl R) .nil fun _ m => nomatch m
theorem xa_ref {x : Str} (hN : X.N[i]? = some x) (hv : Vis X.env.scope x) (hb : PA X es (tA F rdb efb r)) (hs : starEach (.Name x p :: es) X.env = (false, eval (.Name x p) X.env) :: starEach es X.env := by rfl) (hd : (x == ("__debug__" : Str)) = false := by decide) (hcd : (x == ("__classdict__" : Str)) = false := by decide) :
    PA X (.Name x p :: es) (tA F (i :: rdb) efb (aRef i r)) := by
  refine (pa_cons (pe_var hN hv hd hcd) hb hs).imp fun σ H Q ⟨ε, Fs, R, h⟩ => ?_
  unfold aRef at h
  by_cases c : hasV ε i = true
  · rw [if_pos c] at h
    have : ∃ v, σ[i]? = some (some v) := by
      unfold hasV at c
      split at c
      · rename_i x o e0
        cases x with
        | d d => obtain ⟨v, ev, _⟩ := R.d i d o e0; exact ⟨v, ev⟩
        | s ns => obtain ⟨a, ev, _⟩ := R.s i ns o e0; exact ⟨_, ev⟩
      · exact nomatch c
    obtain ⟨v, ev⟩ := this
    refine ⟨v, ev, ε, Fs, R, (W0.bind h).imp fun q e1 q2 vs H' Fs' Gs S A o => ?_⟩
    exact q2 (v :: vs) H' Fs' ([] :: Gs) S (.ref ev List.mem_cons_self (A.mono (fun j m => List.mem_cons_of_mem _ m) fun _ z => z)) fun G m a ma => (List.mem_cons.mp m).elim (fun z => by rw [z] at ma; exact nomatch ma) fun z => o G z a ma
  · rw [if_neg c] at h; exact h.elim
theorem hold_w {h : Bool} {d : D} {f : Bool} {β : Type} {k : β → Prop} {o : Out β} (hh : h = true ∨ ∀ j ∈ efb, j ∉ rda) (q : W0 F H k ((hold h d f).bind fun _ => o)) : ((∀ j ∈ efb, j ∉ rda) ∨ imm d = true ∨ f = true) ∧ W0 F H k o := by
  cases e3 : hold h d f with
  | ok _ =>
    rw [e3] at q
    exact ⟨hh.elim (fun c => .inr (hold_ok e3 c)) .inl, q⟩
  | ex x => unfold hold at e3; split at e3 <;> cases e3
  | no => rw [e3] at q; exact q.elim
theorem HeldA.live {vs : List V} {as : List Arg} {Gs : List (List Addr)} (h : HeldA F H0 H σ ε Fs rd vs as Gs) : ∀ G ∈ Gs, ∀ a ∈ G, H a ≠ none := by
  induction h with
  | nil => exact nofun
  | ref a b c ih => exact fun G m x mx => (List.mem_cons.mp m).elim (fun z => by rw [z] at mx; exact nomatch mx) fun z => ih G z x mx
  | val a b c ih => exact fun G m x mx => (List.mem_cons.mp m).elim (fun z => a.rp.live (z ▸ mx)) fun z => ih G z x mx
  | tmp a b c d ih => exact fun G m x mx => (List.mem_cons.mp m).elim (fun z => a.rp.live (z ▸ mx)) fun z => ih G z x mx
theorem xa_val (h : Bool) (ha : PE X e (tE F rda efa m)) (hb : PA X es (tA F rdb efb r)) (hh : h = true ∨ ∀ j ∈ efb, j ∉ rda) (hs : starEach (e :: es) X.env = (false, eval e X.env) :: starEach es X.env := by rfl) :
    PA X (e :: es) (tA F (rda ++ rdb) (efa ++ efb) (aVal m h r)) := by
  refine (pa_cons ha hb hs).imp fun σ H Q ⟨ε, Fs, R, q⟩ => ?_
  refine tE.go R q fun p v H' Fs' G e1 P q => ?_
  refine ⟨p.2.2, Fs', P.env, ((W0.bind q).later (P.kw R)).imp fun r2 e2 q vs H2 Fs2 Gs S A o => ?_⟩
  obtain ⟨hc, q2⟩ := hold_w hh q
  have h1 := P.held0.next P.env S.kp S.oo S.fe hc
  refine q2 (v :: vs) H2 Fs2 (G :: Gs) (P.seq.two S) (.val ⟨h1.rp, h1.fr, fun j hj => h1.al j fun z => hj (List.mem_append_left _ z)⟩ (A.mono (fun j m => List.mem_append_right _ m) P.seq.kp.live) fun f a m G' mG m2 => ?_) fun G' mG a m => ?_
  · rcases o G' mG a m2 with z | ⟨j, z⟩
    · exact P.rp.live m z
    · exact (P.fr f).2.2 j a m z
  · rcases List.mem_cons.mp mG with z | z
    · exact P.org a (z ▸ m)
    · exact P.seq.org (o G' z a m)
theorem xa_tmp {p : Pos} {xs : List Expr} (ha : PA X xs (tL F rda efa l)) (hb : PA X es (tA F rdb efb r)) (hs : starEach (.List xs p :: es) X.env = (false, eval (.List xs p) X.env) :: starEach es X.env := by rfl) :
    PA X (.List xs p :: es) (tA F (rda ++ rdb) (efa ++ efb) (aTmp l r)) := by
  refine (pa_cons (pe_lst ha) hb hs).imp fun σ H Q ⟨ε, Fs, R, q⟩ => ?_
  unfold aTmp mLst at q
  refine tL.go R (W0.bind q) fun p0 vs0 H' Fs' G e1 S L o q => ?_
  by_cases c : small p0.1.length = true
  · rw [if_pos c] at q
    simp only [W0] at q
    by_cases c2 : immAll (p0.1.map (·.1)) = true
    · rw [if_pos c2] at q
      refine ⟨by rw [L.length]; exact small_le c, fun a n => ?_⟩
      have row := L.row
      have G0 := row.rp.imm c2
      subst G0
      have P := S.newL (rd := rda) (row.imm c2 (fr' := true)) nofun n
      refine ⟨_, Fs', P.env, ((W0.bind q).later (P.kw R)).imp fun r2 e2 q vs H2 Fs2 Gs T A o2 => ?_⟩
      have h1 := P.held0.next P.env T.kp T.oo T.fe (.inr (.inr rfl))
      have n0 : H a = none := S.kp.live a n
      refine q (.ref a :: vs) H2 Fs2 ([a] :: Gs) (P.seq.two T) (.tmp ⟨h1.rp, h1.fr, fun j hj => h1.al j fun z => hj (List.mem_append_left _ z)⟩ (fun x m => by rw [List.mem_singleton.mp m]; exact n0) (A.mono (fun j m => List.mem_append_right _ m) P.seq.kp.live) fun x m G' mG m2 => ?_) fun G' mG x m => ?_
      · rcases o2 G' mG x m2 with z | ⟨j, z⟩
        · exact P.rp.live m z
        · exact (P.fr rfl).2.2 j x m z
      · rcases List.mem_cons.mp mG with z | z
        · rw [z] at m; rw [List.mem_singleton.mp m]; exact .inl n0
        · exact P.seq.org (o2 G' z x m)
    · rw [if_neg c2] at q; exact q.elim
  · rw [if_neg c] at q; exact q.elim
/-- the k-th of the arguments -/
theorem HeldA.at {vs : List V} {as : List Arg} {Gs : List (List Addr)} (h : HeldA F H0 H σ ε Fs rd vs as Gs) : vs.length = as.length ∧ Gs.length = as.length ∧ (∀ (k i : Nat), as[k]? = some (.ref i) → i ∈ rd ∧ ∃ v, vs[k]? = some v ∧ σ[i]? = some (some v)) ∧
    (∀ (k : Nat) d f, as[k]? = some (.val d f) → ∃ v G, vs[k]? = some v ∧ Gs[k]? = some G ∧ Held F H ε Fs rd v d f G) ∧ (∀ (k : Nat) d, as[k]? = some (.tmp d) → ∃ v G, vs[k]? = some v ∧ Gs[k]? = some G ∧ Held F H ε Fs rd v d true G ∧ ∀ a ∈ G, H0 a = none) ∧
    ∀ (k j : Nat) G G', k < j → (as[k]? = some (.ref 0) → False ∨ True) → Gs[k]? = some G → Gs[j]? = some G' → ((∃ d, as[k]? = some (.val d true)) ∨ ∃ d, as[k]? = some (.tmp d)) → ∀ a ∈ G, a ∉ G' := by
  induction h with
  | nil => exact ⟨rfl, rfl, nofun, nofun, nofun, nofun⟩
  | @ref i v vs as Gs a b c ih =>
    obtain ⟨l1, l2, h1, h2, h3, h4⟩ := ih
    refine ⟨by simp [l1], by simp [l2], fun k j e => ?_, fun k d f e => ?_, fun k d e => ?_, fun k j G G' lt x e1 e2 w => ?_⟩
    · cases k with
      | zero => cases e; exact ⟨b, v, rfl, a⟩
      | succ k => exact h1 k j e
    · cases k with
      | zero => cases e
      | succ k => exact h2 k d f e
    · cases k with
      | zero => cases e
      | succ k => exact h3 k d e
    · cases k with
      | zero => rcases w with ⟨d, w⟩ | ⟨d, w⟩ <;> cases w
      | succ k => cases j with
        | zero => omega
        | succ j => exact h4 k j G G' (by omega) (fun _ => .inr trivial) e1 e2 w
  | @val v d f G vs as Gs a b c ih =>
    obtain ⟨l1, l2, h1, h2, h3, h4⟩ := ih
    refine ⟨by simp [l1], by simp [l2], fun k j e => ?_, fun k d f e => ?_, fun k d e => ?_, fun k j G G' lt x e1 e2 w => ?_⟩
    · cases k with
      | zero => cases e
      | succ k => exact h1 k j e
    · cases k with
      | zero => cases e; exact ⟨v, G, rfl, rfl, a⟩
      | succ k => exact h2 k d f e
    · cases k with
      | zero => cases e
      | succ k => exact h3 k d e
    · cases k with
      | zero => cases j with
        | zero => omega
        | succ j =>
          rcases w with ⟨d, w⟩ | ⟨d, w⟩ <;> cases w
          cases e1
          exact fun y my => c rfl y my G' (List.mem_of_getElem? e2)
      | succ k => cases j with
        | zero => omega
        | succ j => exact h4 k j G G' (by omega) (fun _ => .inr trivial) e1 e2 w
  | @tmp v d G vs as Gs a a2 b c ih =>
    obtain ⟨l1, l2, h1, h2, h3, h4⟩ := ih
    refine ⟨by simp [l1], by simp [l2], fun k j e => ?_, fun k d f e => ?_, fun k d e => ?_, fun k j G G' lt x e1 e2 w => ?_⟩
    · cases k with
      | zero => cases e
      | succ k => exact h1 k j e
    · cases k with
      | zero => cases e
      | succ k => exact h2 k d f e
    · cases k with
      | zero => cases e; exact ⟨v, G, rfl, rfl, a, a2⟩
      | succ k => exact h3 k d e
    · cases k with
      | zero => cases j with
        | zero => omega
        | succ j =>
          cases e1
          exact fun y my => c y my G' (List.mem_of_getElem? e2)
      | succ k => cases j with
        | zero => omega
        | succ j => exact h4 k j G G' (by omega) (fun _ => .inr trivial) e1 e2 w
end
end CF
/-! CF29: what a def promises, in trees; a call. -/
namespace CF
open PySem PySem.Spec PyProof.Rows L2

/-- the arguments as the def takes them -/
structure EntR (K : PySem.W.Frag) (H : Hp) (io : List Nat) (vs : List V) (xs : List Val) (Gs : Nat → List Addr) : Prop where
  len : vs.length = xs.length
  d : ∀ (k : Nat) x, xs[k]? = some (.d x) → ∃ v, vs[k]? = some v ∧ Rp K H v x (Gs k)
  s : ∀ (k : Nat) ns, xs[k]? = some (.s ns) → ∃ a, vs[k]? = some (.ref a) ∧ ((Rd H a (.lst (ns.map V.int)) ∧ ∀ k' ∈ io, a ∉ Gs k') ∨ ∀ H', SqL K H' a (ns.map V.int))
  io : ∀ k ∈ io, (∃ x, xs[k]? = some (.d x)) ∧ (Gs k).Nodup ∧ (∀ a ∈ Gs k, Unf H a) ∧ ∀ j, j ≠ k → ∀ a ∈ Gs k, a ∉ Gs j
  un : ∀ (k : Nat), (∀ x, xs[k]? ≠ some (.d x)) → Gs k = []
/-- the heap and the values behind it -/
structure RetR (K : PySem.W.Frag) (H : Hp) (io : List Nat) (vs : List V) (Gs : Nat → List Addr) (r : FRet) (v : V) (H' : Hp) (G : List Addr) (Gs' : Nat → List Addr) : Prop where
  kp : Fr (fun a => ∃ k ∈ io, a ∈ Gs k) H H'
  rp : Rp K H' v r.d G
  org : ∀ a ∈ G, H a = none ∨ ∃ k, a ∈ Gs k
  fr : r.fr = true → G.Nodup ∧ (∀ a ∈ G, (H a = none ∨ ∃ k ∈ io, a ∈ Gs k) ∧ Unf H' a) ∧ ∀ k ∈ io, ∀ a ∈ G, a ∉ Gs' k
  rlen : r.io.length = io.length
  rio : ∀ (t k : Nat) d, io[t]? = some k → r.io[t]? = some d → ∃ v, vs[k]? = some v ∧ Rp K H' v d (Gs' k)
  rion : ∀ k ∈ io, (Gs' k).Nodup ∧ (∀ a ∈ Gs' k, (H a = none ∨ ∃ k' ∈ io, a ∈ Gs k') ∧ Unf H' a) ∧ ∀ k' ∈ io, k' ≠ k → ∀ a ∈ Gs' k, a ∉ Gs' k'
/-- the promise -/
def spT (S : FS) (K : PySem.W.Frag) (np : Nat) : Sp := fun vs H Q E => ∃ xs Gs, vs.length = np ∧ EntR K H S.io vs xs Gs ∧ match S.run xs with
  | .ok r => ∀ v H' G Gs', RetR K H S.io vs Gs r v H' G Gs' → Q v H'
  | .ex _ => False
  | .no => False

theorem mapM_at {α β : Type} {f : α → Option β} : ∀ {l : List α} {r : List β}, l.mapM f = some r → r.length = l.length ∧ ∀ (t : Nat) a, l[t]? = some a → ∃ b, r[t]? = some b ∧ f a = some b
  | [], r, h => by simp at h; subst h; exact ⟨rfl, nofun⟩
  | x :: l, r, h => by
    simp only [List.mapM_cons, Option.bind_eq_bind, Option.bind_eq_some_iff, Option.pure_def, Option.some.injEq] at h
    obtain ⟨b, e1, bs, e2, e3⟩ := h
    subst e3
    obtain ⟨l1, l2⟩ := mapM_at e2
    refine ⟨by simp [l1], fun t a e => ?_⟩
    cases t with
    | zero => cases e; exact ⟨b, rfl, e1⟩
    | succ t => exact l2 t a e
section
variable {ε : EnvT} {as : List Arg}
theorem setAll_len : ∀ {is : List (Option Nat)} {ds : List D}, (setAll ε is ds).length = ε.length
  | [], _ => by unfold setAll; rfl
  | some i :: is, d :: ds => by unfold setAll; rw [List.length_set]; exact setAll_len
  | none :: is, d :: ds => by unfold setAll; exact setAll_len
  | some i :: is, [] => by unfold setAll; rfl
  | none :: is, [] => by unfold setAll; rfl
theorem setAll_out {j : Nat} : ∀ {is : List (Option Nat)} {ds : List D}, (∀ t : Nat, is[t]? ≠ some (some j)) → (setAll ε is ds)[j]? = ε[j]?
  | [], _, _ => by unfold setAll; rfl
  | some i :: is, d :: ds, h => by
    unfold setAll
    rw [List.getElem?_set_ne fun z => h 0 (by rw [← z]; rfl)]
    exact setAll_out fun t => h (t + 1)
  | none :: is, d :: ds, h => by unfold setAll; exact setAll_out fun t => h (t + 1)
  | some i :: is, [], _ => by unfold setAll; rfl
  | none :: is, [], _ => by unfold setAll; rfl
theorem setAll_in {j : Nat} : ∀ {is : List (Option Nat)} {ds : List D} {t : Nat} {d : D}, is[t]? = some (some j) → ds[t]? = some d → (∀ t' : Nat, is[t']? = some (some j) → t' = t) → j < ε.length → (setAll ε is ds)[j]? = some (.v (.d d) true)
  | [], _, _, _, e, _, _, _ => by simp at e
  | some i :: is, d0 :: ds, 0, d, e, e2, _, hl => by
    cases e; cases e2
    unfold setAll
    exact List.getElem?_set_self (by rw [setAll_len]; exact hl)
  | some i :: is, d0 :: ds, t + 1, d, e, e2, u, hl => by
    unfold setAll
    have n : i ≠ j := fun z => by
      have := u 0 (by rw [← z]; rfl)
      omega
    rw [List.getElem?_set_ne n]
    exact setAll_in e e2 (fun t' h => by have := u (t' + 1) h; omega) hl
  | none :: is, d0 :: ds, 0, d, e, _, _, _ => by cases e
  | none :: is, d0 :: ds, t + 1, d, e, e2, u, hl => by
    unfold setAll
    exact setAll_in e e2 (fun t' h => by have := u (t' + 1) h; omega) hl
  | some i :: is, [], t, d, _, e2, _, _ => by simp at e2
  | none :: is, [], t, d, _, e2, _, _ => by simp at e2
/-- a slot stands once among the arguments -/
theorem once {i : Nat} : ∀ {as : List Arg}, (as.filter (isRef i)).length ≤ 1 → ∀ {k j : Nat}, as[k]? = some (.ref i) → as[j]? = some (.ref i) → k = j
  | [], _, k, j, e, _ => by simp at e
  | a :: as, h, k, j, e1, e2 => by
    have two : ∀ {k : Nat} {as : List Arg}, as[k]? = some (.ref i) → 0 < (as.filter (isRef i)).length := fun {k as} e => by
      refine List.length_pos_of_mem (List.mem_filter.mpr ⟨List.mem_of_getElem? e, ?_⟩)
      simp [isRef]
    cases k with
    | zero => cases j with
      | zero => rfl
      | succ j =>
        cases e1
        have := two (k := j) e2
        rw [List.filter_cons_of_pos (by simp [isRef]), List.length_cons] at h
        omega
    | succ k => cases j with
      | zero =>
        cases e2
        have := two (k := k) e1
        rw [List.filter_cons_of_pos (by simp [isRef]), List.length_cons] at h
        omega
      | succ j =>
        have h' : (as.filter (isRef i)).length ≤ 1 := by
          refine Nat.le_trans ?_ h
          rw [List.filter_cons]
          split
          · rw [List.length_cons]; omega
          · exact Nat.le_refl _
        rw [once h' (k := k) (j := j) e1 e2]
end
section
variable {X : Cx} {F : Fx} {H H0 H1 H2 : Hp} {σ : L2.St} {ε ε1 : EnvT} {Fs Fs1 : Nat → List Addr} {rd ef js : List Nat} {vs : List V} {as : List Arg} {Gs : List (List Addr)} {S : FS} {is : List (Option Nat)} {xs : List Val}
/-- what can be changed in the k-th argument -/
def gsOf (as : List Arg) (Gs : List (List Addr)) (Fs : Nat → List Addr) (k : Nat) : List Addr := match as[k]? with
  | some (.ref i) => Fs i
  | some (.val _ _) => Gs.getD k []
  | some (.tmp _) => Gs.getD k []
  | none => []
theorem valAt_ref {i : Nat} {x : Val} (h : valAt ε (.ref i) = some x) : ∃ o, ε[i]? = some (.v x o) := by
  unfold valAt at h
  cases e : ε[i]? with
  | none => simp only [e] at h; cases h
  | some s => cases s with
    | un => simp only [e] at h; cases h
    | v y o => simp only [e] at h; cases h; exact ⟨o, rfl⟩
theorem gs_ref {k i : Nat} (e : as[k]? = some (.ref i)) : gsOf as Gs Fs k = Fs i := by unfold gsOf; rw [e]
theorem gs_val {k : Nat} {d : D} {f : Bool} {G : List Addr} (e : as[k]? = some (.val d f)) (g : Gs[k]? = some G) : gsOf as Gs Fs k = G := by unfold gsOf; rw [e, List.getD_eq_getElem?_getD, g]; rfl
theorem gs_tmp {k : Nat} {d : D} {G : List Addr} (e : as[k]? = some (.tmp d)) (g : Gs[k]? = some G) : gsOf as Gs Fs k = G := by unfold gsOf; rw [e, List.getD_eq_getElem?_getD, g]; rfl
theorem ownB_own {i : Nat} (h : ownB ε i = true) : Own ε i ∧ ∃ x, ε[i]? = some (.v (.d x) true) := by
  unfold ownB at h
  split at h
  · rename_i x e; exact ⟨⟨_, e⟩, x, e⟩
  · exact nomatch h
/-- a changed argument: its kind, and that it stands apart from all others -/
theorem io_arg (R : EnvR F H σ ε Fs) (A : HeldA F H0 H σ ε Fs rd vs as Gs) (fits : ioFits js as is = true) {t k : Nat} {o : Option Nat} (et : is[t]? = some o) (e : ioSlot ε as k = some o) :
    ((∃ i, o = some i ∧ as[k]? = some (.ref i) ∧ Own ε i ∧ (∃ x, ε[i]? = some (.v (.d x) true)) ∧ i ∈ js) ∨ (o = none ∧ ∃ d, as[k]? = some (.tmp d))) ∧ (gsOf as Gs Fs k).Nodup ∧ (∀ a ∈ gsOf as Gs Fs k, F.Wr a ∧ Unf H a) ∧ ∀ j, j ≠ k → ∀ a ∈ gsOf as Gs Fs k, a ∉ gsOf as Gs Fs j := by
  obtain ⟨l1, l2, h1, h2, h3, h4⟩ := A.at
  have ne : is.isEmpty = false := by
    cases is with
    | nil => simp at et
    | cons _ _ => rfl
  unfold ioFits at fits
  rw [ne, Bool.false_or, Bool.and_eq_true, List.all_eq_true, List.all_eq_true] at fits
  obtain ⟨q1, q2⟩ := fits
  have okv : ∀ {j : Nat} {d : D} {f : Bool} {G : List Addr} {v : V}, as[j]? = some (.val d f) → Held F H ε Fs rd v d f G → f = true ∨ G = [] := fun {j d f G v} e h => by
    have := q1 _ (List.mem_of_getElem? e)
    simp only [okArg, Bool.or_eq_true] at this
    exact this.elim (fun z => .inr (h.rp.imm z)) .inl
  unfold ioSlot at e
  cases ek : as[k]? with
  | none => rw [ek] at e; cases e
  | some a => cases a with
    | ref i =>
      rw [ek] at e
      simp only at e
      by_cases c : ownB ε i = true
      · rw [if_pos c] at e
        cases e
        obtain ⟨oi, hx⟩ := ownB_own c
        have q3 := q2 _ (List.mem_of_getElem? et)
        simp only [Bool.and_eq_true, decide_eq_true_eq, List.contains_iff_mem] at q3
        obtain ⟨f1, f2, f3⟩ := R.own i oi
        rw [gs_ref ek]
        refine ⟨.inl ⟨i, rfl, rfl, oi, hx, q3.1⟩, f1, f2, fun j n a m => ?_⟩
        cases ej : as[j]? with
        | none => unfold gsOf; rw [ej]; exact List.not_mem_nil
        | some b => cases b with
          | ref i' =>
            rw [gs_ref ej]
            exact f3 i' (fun z => n (once q3.2 (z ▸ ej) ek)) a m
          | val d f =>
            obtain ⟨v, G, _, eG, hh⟩ := h2 j d f ej
            rw [gs_val ej eG]
            rcases okv ej hh with z | z
            · exact fun w => (hh.fr z).2.2 i a w m
            · rw [z]; exact List.not_mem_nil
          | tmp d =>
            obtain ⟨v, G, _, eG, hh, _⟩ := h3 j d ej
            rw [gs_tmp ej eG]
            exact fun w => (hh.fr rfl).2.2 i a w m
      · rw [if_neg c] at e; cases e
    | val d f => rw [ek] at e; cases e
    | tmp d =>
      rw [ek] at e
      cases e
      obtain ⟨v, G, _, eG, hh, hn⟩ := h3 k d ek
      rw [gs_tmp ek eG]
      obtain ⟨f1, f2, f3⟩ := hh.fr rfl
      refine ⟨.inr ⟨rfl, d, rfl⟩, f1, f2, fun j n a m => ?_⟩
      cases ej : as[j]? with
      | none => unfold gsOf; rw [ej]; exact List.not_mem_nil
      | some b => cases b with
        | ref i' => rw [gs_ref ej]; exact f3 i' a m
        | val d' f' =>
          obtain ⟨v', G', _, eG', hh'⟩ := h2 j d' f' ej
          rw [gs_val ej eG']
          rcases okv ej hh' with z | z
          · rcases Nat.lt_or_gt_of_ne n with lt | lt
            · exact fun w => h4 j k G' G lt (fun _ => .inr trivial) eG' eG (.inl ⟨d', z ▸ ej⟩) a w m
            · exact h4 k j G G' lt (fun _ => .inr trivial) eG eG' (.inr ⟨d, ek⟩) a m
          · rw [z]; exact List.not_mem_nil
        | tmp d' =>
          obtain ⟨v', G', _, eG', hh', _⟩ := h3 j d' ej
          rw [gs_tmp ej eG']
          rcases Nat.lt_or_gt_of_ne n with lt | lt
          · exact fun w => h4 j k G' G lt (fun _ => .inr trivial) eG' eG (.inr ⟨d', ej⟩) a w m
          · exact h4 k j G G' lt (fun _ => .inr trivial) eG eG' (.inr ⟨d, ek⟩) a m
/-- as the def takes them -/
theorem ent_of (R : EnvR F H σ ε Fs) (A : HeldA F H0 H σ ε Fs rd vs as Gs) (fits : ioFits js as is = true) (eI : S.io.mapM (ioSlot ε as) = some is) (eX : as.mapM (valAt ε) = some xs) : EntR F.K H S.io vs xs (gsOf as Gs Fs) := by
  obtain ⟨l1, l2, h1, h2, h3, h4⟩ := A.at
  obtain ⟨m1, m2⟩ := mapM_at eI
  obtain ⟨n1, n2⟩ := mapM_at eX
  have inv : ∀ (k : Nat) x, xs[k]? = some x → ∃ a, as[k]? = some a ∧ valAt ε a = some x := fun k x e => by
    have hk : k < as.length := by rw [← n1]; exact (List.getElem?_eq_some_iff.mp e).1
    obtain ⟨b, eb, ev⟩ := n2 k _ (List.getElem?_eq_getElem hk)
    rw [e] at eb; cases eb
    exact ⟨_, List.getElem?_eq_getElem hk, ev⟩
  refine ⟨l1.trans n1.symm, fun k x e => ?_, fun k ns e => ?_, fun k hk => ?_, fun k hu => ?_⟩
  · obtain ⟨a, ea, ev⟩ := inv k _ e
    cases a with
    | ref i =>
      obtain ⟨_, v, ev1, es⟩ := h1 k i ea
      rw [gs_ref ea]
      obtain ⟨o, ey⟩ := valAt_ref ev
      obtain ⟨w, ew, r⟩ := R.d i x o ey
      rw [es] at ew; cases ew
      exact ⟨_, ev1, r⟩
    | val d f =>
      cases ev
      obtain ⟨v, G, ev1, eG, hh⟩ := h2 k _ f ea
      rw [gs_val ea eG]; exact ⟨v, ev1, hh.rp⟩
    | tmp d =>
      cases ev
      obtain ⟨v, G, ev1, eG, hh, _⟩ := h3 k _ ea
      rw [gs_tmp ea eG]; exact ⟨v, ev1, hh.rp⟩
  · obtain ⟨a, ea, ev⟩ := inv k _ e
    cases a with
    | ref i =>
      obtain ⟨_, v, ev1, es⟩ := h1 k i ea
      obtain ⟨o, ey⟩ := valAt_ref ev
      obtain ⟨b, eb, _, w, _⟩ := R.s i ns o ey
      rw [es] at eb; cases eb
      refine ⟨b, ev1, w.imp (fun ⟨w1, w2⟩ => ⟨w1, fun k' hk' m => ?_⟩) id⟩
      obtain ⟨t, et⟩ := List.getElem?_of_mem hk'
      obtain ⟨o', eo, e'⟩ := m2 t k' et
      exact w2 ((io_arg R A fits eo e').2.2.1 b m).1
    | val d f => cases ev
    | tmp d => cases ev
  · obtain ⟨t, et⟩ := List.getElem?_of_mem hk
    obtain ⟨o, eo, e⟩ := m2 t k et
    obtain ⟨hc, g1, g2, g3⟩ := io_arg R A fits eo e
    refine ⟨?_, g1, fun a m => (g2 a m).2, g3⟩
    rcases hc with ⟨i, rfl, ek, _, ⟨x, ex⟩, _⟩ | ⟨rfl, d, ek⟩
    · obtain ⟨b, eb, ev⟩ := n2 k _ ek
      obtain ⟨o', ey⟩ := valAt_ref ev
      rw [ex] at ey; cases ey
      exact ⟨x, eb⟩
    · obtain ⟨b, eb, ev⟩ := n2 k _ ek
      cases ev
      exact ⟨d, eb⟩
  · cases ea : as[k]? with
    | none => unfold gsOf; rw [ea]
    | some a =>
      obtain ⟨b, eb, ev⟩ := n2 k a ea
      cases a with
      | ref i =>
        rw [gs_ref ea]
        refine R.un i fun x o ex => ?_
        obtain ⟨o', ey⟩ := valAt_ref ev
        rw [ex] at ey; cases ey
        exact hu x eb
      | val d f => cases ev; exact absurd eb (hu d)
      | tmp d => cases ev; exact absurd eb (hu d)
/-- the place among the changed ones -/
def findIo (is : List (Option Nat)) (io : List Nat) (j : Nat) : Option Nat := ((is.zip io).find? fun p => p.1 == some j).map (·.2)
theorem findIo_some {io : List Nat} {j k : Nat} : ∀ {is : List (Option Nat)} {io : List Nat}, findIo is io j = some k → ∃ t : Nat, is[t]? = some (some j) ∧ io[t]? = some k
  | [], _, h => by simp [findIo] at h
  | _ :: _, [], h => by simp [findIo] at h
  | o :: is, l :: io, h => by
    unfold findIo at h
    rw [List.zip_cons_cons, List.find?_cons] at h
    by_cases c : (o == some j) = true
    · simp only [c] at h
      cases h
      exact ⟨0, by simpa using c, rfl⟩
    · simp only [c] at h
      obtain ⟨t, h1, h2⟩ := findIo_some (is := is) (io := io) h
      exact ⟨t + 1, h1, h2⟩
theorem findIo_none {j : Nat} : ∀ {is : List (Option Nat)} {io : List Nat}, is.length = io.length → findIo is io j = none → ∀ t : Nat, is[t]? ≠ some (some j)
  | [], _, _, _, t, e => by simp at e
  | _ :: _, [], hl, _, _, _ => by simp at hl
  | o :: is, l :: io, hl, h, t, e => by
    unfold findIo at h
    rw [List.zip_cons_cons, List.find?_cons] at h
    by_cases c : (o == some j) = true
    · simp only [c] at h; cases h
    · simp only [c] at h
      cases t with
      | zero => cases e; simp at c
      | succ t => exact findIo_none (is := is) (io := io) (by simpa using hl) h t e
/-- behind a call -/
theorem call_post {r : FRet} {v : V} {G : List Addr} {Gs' : Nat → List Addr} (R0 : EnvR F H0 σ ε1 Fs1) (S0 : Seq F H0 σ ε1 Fs1 ef H ε Fs) (A : HeldA F H0 H σ ε Fs rd vs as Gs) (og : ∀ G ∈ Gs, ∀ a ∈ G, H0 a = none ∨ ∃ j, a ∈ Fs1 j) (hjs : ∀ j ∈ js, j ∈ ef) (hrd : ∀ j ∈ js, j ∈ rd) (nd : S.io.Nodup)
    (fits : ioFits js as is = true) (eI : S.io.mapM (ioSlot ε as) = some is) (rr : RetR F.K H S.io vs (gsOf as Gs Fs) r v H2 G Gs') :
    PostE F H0 σ ε1 Fs1 rd ef H2 (setAll ε is r.io) (fun j => match findIo is S.io j with
      | some k => Gs' k
      | none => Fs j) v r.d r.fr G := by
  obtain ⟨l1, l2, h1, h2, h3, h4⟩ := A.at
  obtain ⟨m1, m2⟩ := mapM_at eI
  have R := S0.env
  -- a changed slot
  have slot : ∀ {j k : Nat}, findIo is S.io j = some k → ∃ t : Nat, is[t]? = some (some j) ∧ S.io[t]? = some k ∧ k ∈ S.io ∧ as[k]? = some (.ref j) ∧ Own ε j ∧ j ∈ js ∧ gsOf as Gs Fs k = Fs j ∧ ∃ w, vs[k]? = some w ∧ σ[j]? = some (some w) := fun {j k} h => by
    obtain ⟨t, e1, e2⟩ := findIo_some (io := S.io) h
    obtain ⟨o, eo, e⟩ := m2 t k e2
    rw [e1] at eo; cases eo
    obtain ⟨hc, _⟩ := io_arg R A fits e1 e
    rcases hc with ⟨i, ei, ek, oi, _, hj⟩ | ⟨z, _⟩
    · cases ei
      obtain ⟨_, w, ew, es⟩ := h1 k j ek
      exact ⟨t, e1, e2, List.mem_of_getElem? e2, ek, oi, hj, gs_ref ek, w, ew, es⟩
    · cases z
  -- a changed argument
  have chg : ∀ {k : Nat}, k ∈ S.io → (∃ j, Own ε j ∧ j ∈ js ∧ gsOf as Gs Fs k = Fs j ∧ findIo is S.io j = some k) ∨ ((∀ a ∈ gsOf as Gs Fs k, H0 a = none) ∧ ∀ j, ∀ a ∈ gsOf as Gs Fs k, a ∉ Fs j) := fun {k} hk => by
    obtain ⟨t, et⟩ := List.getElem?_of_mem hk
    obtain ⟨o, eo, e⟩ := m2 t k et
    obtain ⟨hc, _⟩ := io_arg R A fits eo e
    rcases hc with ⟨i, rfl, ek, oi, _, hj⟩ | ⟨rfl, d, ek⟩
    · left
      refine ⟨i, oi, hj, gs_ref ek, ?_⟩
      cases q : findIo is S.io i with
      | none => exact absurd eo (findIo_none m1 q t)
      | some k' =>
        obtain ⟨_, _, _, _, ek', _⟩ := slot q
        have ne : is.isEmpty = false := by
          cases is with
          | nil => simp at eo
          | cons _ _ => rfl
        unfold ioFits at fits
        rw [ne, Bool.false_or, Bool.and_eq_true, List.all_eq_true, List.all_eq_true] at fits
        have q3 := fits.2 _ (List.mem_of_getElem? eo)
        simp only [Bool.and_eq_true, decide_eq_true_eq] at q3
        rw [once q3.2 ek ek']
    · right
      obtain ⟨w, G', _, eG, hh, hn⟩ := h3 k d ek
      rw [gs_tmp ek eG]
      exact ⟨hn, (hh.fr rfl).2.2⟩
  -- no two changed arguments are one
  have apart : ∀ {k k' : Nat}, k ∈ S.io → k' ≠ k → ∀ a ∈ gsOf as Gs Fs k, a ∉ gsOf as Gs Fs k' := fun {k k'} hk n a m => by
    obtain ⟨t, et⟩ := List.getElem?_of_mem hk
    obtain ⟨o, eo, e⟩ := m2 t k et
    exact (io_arg R A fits eo e).2.2.2 k' n a m
  have wr : ∀ {k : Nat}, k ∈ S.io → ∀ a ∈ gsOf as Gs Fs k, F.Wr a := fun {k} hk a m => by
    obtain ⟨t, et⟩ := List.getElem?_of_mem hk
    obtain ⟨o, eo, e⟩ := m2 t k et
    exact ((io_arg R A fits eo e).2.2.1 a m).1
  -- what is not changed has nothing of what is
  have keepS : ∀ {j : Nat}, findIo is S.io j = none → ∀ a ∈ Fs j, ¬ ∃ k ∈ S.io, a ∈ gsOf as Gs Fs k := fun {j} hj a m ⟨k, hk, mk⟩ => by
    rcases chg hk with ⟨i, oi, _, eg, ei⟩ | ⟨_, z⟩
    · rw [eg] at mk
      exact (R.own i oi).2.2 j (fun z => by rw [z, ei] at hj; cases hj) a mk m
    · exact z j a mk m
  have new' : ∀ {k : Nat}, k ∈ S.io → ∀ a ∈ Gs' k, (∀ j, findIo is S.io j = none → a ∉ Fs j) := fun {k} hk a m j hj z => by
    rcases ((rr.rion k hk).2.1 a m).1 with w | ⟨k', hk', w⟩
    · exact R.live z w
    · exact keepS hj a z ⟨k', hk', w⟩
  -- from ahead of all
  have org0 : ∀ {k : Nat} {a : Addr}, a ∈ gsOf as Gs Fs k → H0 a = none ∨ ∃ j, a ∈ Fs1 j := fun {k a} m => by
    cases ek : as[k]? with
    | none => unfold gsOf at m; rw [ek] at m; exact nomatch m
    | some b => cases b with
      | ref i => rw [gs_ref ek] at m; exact S0.org (.inr ⟨i, m⟩)
      | val d f => obtain ⟨w, G', _, eG, _⟩ := h2 k d f ek; rw [gs_val ek eG] at m; exact og G' (List.mem_of_getElem? eG) a m
      | tmp d => obtain ⟨w, G', _, eG, _⟩ := h3 k d ek; rw [gs_tmp ek eG] at m; exact og G' (List.mem_of_getElem? eG) a m
  have ow' : ∀ {j : Nat}, Own (setAll ε is r.io) j → Own ε j := fun {j} ⟨x, e⟩ => by
    cases q : findIo is S.io j with
    | none => rw [setAll_out (findIo_none m1 q)] at e; exact ⟨x, e⟩
    | some k => obtain ⟨_, _, _, _, _, oj, _⟩ := slot q; exact oj
  have slotIn : ∀ {j k : Nat}, findIo is S.io j = some k → ∃ d w, (setAll ε is r.io)[j]? = some (.v (.d d) true) ∧ σ[j]? = some (some w) ∧ Rp F.K H2 w d (Gs' k) := fun {j k} q => by
    obtain ⟨t, e1, e2, hk, ek, oj, _, _, w, ew, es⟩ := slot q
    have ht : t < r.io.length := by rw [rr.rlen]; exact (List.getElem?_eq_some_iff.mp e2).1
    obtain ⟨w', ew', rp⟩ := rr.rio t k _ e2 (List.getElem?_eq_getElem ht)
    rw [ew] at ew'; cases ew'
    have un1 : ∀ t' : Nat, is[t']? = some (some j) → t' = t := fun t' e' => by
      have hlt : t' < S.io.length := by rw [← m1]; exact (List.getElem?_eq_some_iff.mp e').1
      obtain ⟨o', eo', es'⟩ := m2 t' _ (List.getElem?_eq_getElem hlt)
      rw [e'] at eo'; cases eo'
      obtain ⟨hc, _⟩ := io_arg R A fits e' es'
      rcases hc with ⟨i', ei', ek', _⟩ | ⟨z, _⟩
      · cases ei'
        have ne : is.isEmpty = false := by
          cases is with
          | nil => simp at e1
          | cons _ _ => rfl
        unfold ioFits at fits
        rw [ne, Bool.false_or, Bool.and_eq_true, List.all_eq_true, List.all_eq_true] at fits
        have q3 := fits.2 _ (List.mem_of_getElem? e1)
        simp only [Bool.and_eq_true, decide_eq_true_eq] at q3
        have ekk := once q3.2 ek ek'
        have ht2 : t < S.io.length := (List.getElem?_eq_some_iff.mp e2).1
        have e3 : S.io[t] = k := Option.some.inj ((List.getElem?_eq_getElem ht2).symm.trans e2)
        exact (List.getElem_inj nd).mp (by rw [e3, ekk])
      · cases z
    exact ⟨_, w, setAll_in e1 (List.getElem?_eq_getElem ht) un1 oj.lt, es, rp⟩
  have liv : ∀ {a : Addr}, H2 a = none → H a = none := fun {a} e => rr.kp.live a e
  refine ⟨⟨fun j x o e => ?_, fun j ns o e => ?_, fun j a m => ?_, fun j o => ?_, fun a e => R.nw a (liv e), fun j hu => ?_, R.io, by rw [setAll_len]; exact R.len⟩, ⟨fun a o e w => ?_, fun a e => S0.kp.live a (liv e)⟩, fun j o => S0.oo j (ow' o), fun j a m => ?_, fun j n => ?_, rr.rp, fun a m => ?_, fun f => ?_, fun j hj o a m => ?_⟩
  · cases q : findIo is S.io j with
    | none =>
      rw [setAll_out (findIo_none m1 q)] at e
      obtain ⟨w, ew, rp⟩ := R.d j x o e
      exact ⟨w, ew, rp.keep rr.kp.kp (keepS q)⟩
    | some k =>
      obtain ⟨d, w, ed, es, rp⟩ := slotIn q
      rw [ed] at e
      cases e
      exact ⟨w, es, rp⟩
  · cases q : findIo is S.io j with
    | none =>
      rw [setAll_out (findIo_none m1 q)] at e
      obtain ⟨b, eb, c, w, z⟩ := R.s j ns o e
      rcases w with ⟨w1, w2⟩ | w
      · have nb : ¬ ∃ k ∈ S.io, b ∈ gsOf as Gs Fs k := fun ⟨k, hk, mk⟩ => w2 (wr hk b mk)
        exact ⟨b, eb, .inl (rr.kp.kp.rd w1 nb), .inl ⟨rr.kp.kp.rd w1 nb, w2⟩, z⟩
      · exact ⟨b, eb, w _, .inr w, z⟩
    | some k =>
      obtain ⟨d, w, ed, _⟩ := slotIn q
      rw [ed] at e
      cases e
  · cases q : findIo is S.io j with
    | none => simp only [q] at m; exact R.og j a m
    | some k =>
      simp only [q] at m
      obtain ⟨t, e1, e2, hk, _⟩ := slot q
      rcases ((rr.rion k hk).2.1 a m).1 with w | ⟨k', hk', w⟩
      · exact (R.nw a w).2
      · rcases org0 w with z | ⟨j', z⟩
        · exact (R0.nw a z).2
        · exact R0.og j' a z
  · cases q : findIo is S.io j with
    | none =>
      simp only [q]
      obtain ⟨f1, f2, f3⟩ := R.own j (ow' o)
      refine ⟨f1, fun a m => ⟨(f2 a m).1, (f2 a m).2.keep rr.kp.kp (keepS q a m) (R.live m)⟩, fun j' n a m => ?_⟩
      cases q' : findIo is S.io j' with
      | none => exact f3 j' n a m
      | some k' =>
        obtain ⟨_, _, _, hk', _⟩ := slot q'
        exact fun z => new' hk' a z j q m
    | some k =>
      simp only [q]
      obtain ⟨t, e1, e2, hk, ek, oj, _⟩ := slot q
      obtain ⟨f1, f2, f3⟩ := rr.rion k hk
      refine ⟨f1, fun a m => ⟨?_, (f2 a m).2⟩, fun j' n a m => ?_⟩
      · rcases (f2 a m).1 with w | ⟨k', hk', w⟩
        · exact (R.nw a w).1
        · exact wr hk' a w
      · cases q' : findIo is S.io j' with
        | none => exact new' hk a m j' q'
        | some k' =>
          obtain ⟨_, _, _, hk', ek', _⟩ := slot q'
          refine f3 k' hk' (fun z => n ?_) a m
          rw [z, ek] at ek'
          injection ek' with ek'; injection ek' with ek'; exact ek'.symm
  · cases q : findIo is S.io j with
    | none => simp only [q]; exact R.un j fun x o e => hu x o (by rw [setAll_out (findIo_none m1 q)]; exact e)
    | some k =>
      obtain ⟨d, w, ed, _⟩ := slotIn q
      exact absurd ed (hu d true)
  · refine rr.kp.kp a o (S0.kp.kp a o e w) fun ⟨k, hk, m⟩ => ?_
    rcases chg hk with ⟨i, oi, hi, eg, _⟩ | ⟨z, _⟩
    · rw [eg] at m
      rcases S0.fe i a m with z | z | ⟨_, j', hj', oj', z⟩
      · rw [e] at z; cases z
      · exact w ⟨i, hjs i hi, S0.oo i oi, z⟩
      · exact w ⟨j', hj', oj', z⟩
    · rw [z a m] at e; cases e
  · cases q : findIo is S.io j with
    | none => simp only [q] at m; exact S0.fe j a m
    | some k =>
      simp only [q] at m
      obtain ⟨t, e1, e2, hk, ek, oj, hj, _⟩ := slot q
      rcases ((rr.rion k hk).2.1 a m).1 with w | ⟨k', hk', w⟩
      · exact .inl (S0.kp.live a w)
      · rcases chg hk' with ⟨i, oi, hi, eg, _⟩ | ⟨z, _⟩
        · rw [eg] at w
          rcases S0.fe i a w with z | z | ⟨_, j', hj', oj', z⟩
          · exact .inl z
          · exact .inr (.inr ⟨hjs j hj, i, hjs i hi, S0.oo i oi, z⟩)
          · exact .inr (.inr ⟨hjs j hj, j', hj', oj', z⟩)
        · exact .inl (z a w)
  · cases q : findIo is S.io j with
    | none => exact S0.ne j n
    | some k =>
      obtain ⟨_, _, _, _, _, oj, _⟩ := slot q
      exact absurd (S0.oo j oj) n
  · rcases rr.org a m with w | ⟨k, w⟩
    · exact .inl (S0.kp.live a w)
    · exact org0 w
  · obtain ⟨f1, f2, f3⟩ := rr.fr f
    refine ⟨f1, fun a m => ⟨?_, (f2 a m).2⟩, fun j a m => ?_⟩
    · rcases (f2 a m).1 with w | ⟨k', hk', w⟩
      · exact (R.nw a w).1
      · exact wr hk' a w
    · cases q : findIo is S.io j with
      | none =>
        intro z
        rcases (f2 a m).1 with w | ⟨k', hk', w⟩
        · exact R.live z w
        · exact keepS q a z ⟨k', hk', w⟩
      | some k =>
        obtain ⟨_, _, _, hk, _⟩ := slot q
        exact f3 k hk a m
  · cases q : findIo is S.io j with
    | none =>
      intro z
      rcases rr.org a m with w | ⟨k, w⟩
      · exact R.live z w
      · cases ek : as[k]? with
        | none => unfold gsOf at w; rw [ek] at w; exact nomatch w
        | some b => cases b with
          | ref i =>
            rw [gs_ref ek] at w
            exact (R.own j (ow' o)).2.2 i (fun c => hj (by rw [← c]; exact (h1 k i ek).1)) a z w
          | val d f =>
            obtain ⟨_, G', _, eG, hh⟩ := h2 k d f ek
            rw [gs_val ek eG] at w
            exact hh.al j hj (ow' o) a w z
          | tmp d =>
            obtain ⟨_, G', _, eG, hh, _⟩ := h3 k d ek
            rw [gs_tmp ek eG] at w
            exact hh.al j hj (ow' o) a w z
    | some k =>
      obtain ⟨_, _, _, _, _, _, hj', _⟩ := slot q
      exact absurd (hrd j hj') hj
end
end CF
/-! CF30: defs. -/
namespace CF
open PySem PySem.Spec PyProof.Rows L2

def noX : XK := fun _ _ _ => False
/-- a def keeps its promise wherever it is called, no container being shown at the time -/
structure FnG (P : Program) (w : World) (K : PySem.W.Frag) (mg : Str → Option Value) (base : Heap) (k : Nat) (f : Addr) (fd : FuncData) (ps : List Str) (sp : Sp) : Prop where
  len : ∀ vs H Q, sp vs H Q noX → vs.length = ps.length
  run : ∀ (A : Around) (outer : List Env) (s : Shared) (H : Hp) (args : Args) (us : List Value) (vs : List V) (Q : VK), Room k A → A.guards = some [] → Env0 P w K mg base A outer s H → BindsTo s fd args (ps.zip us) → Vals vs us → sp vs H Q noX →
    codeAny (model P w) A (.call (.ref f) args) (CR CX0 outer P w H s Q noX) s
theorem FnG.mono {P : Program} {w : World} {K : PySem.W.Frag} {mg : Str → Option Value} {base : Heap} {j k : Nat} {f : Addr} {fd : FuncData} {ps : List Str} {sp : Sp} (F : FnG P w K mg base j f fd ps sp) (h : j ≤ k) : FnG P w K mg base k f fd ps sp :=
  ⟨F.len, fun A outer s H args us vs Q hr => F.run A outer s H args us vs Q (hr.mono h)⟩
theorem spT_len {S : FS} {K : PySem.W.Frag} {np : Nat} {vs : List V} {H : Hp} {Q : VK} {E : XK} (h : spT S K np vs H Q E) : vs.length = np := by
  obtain ⟨xs, Gs, h, _⟩ := h; exact h
section
variable {X : Cx} {F : Fx} {k : Nat} {f : Addr} {fd : FuncData} {ps : List Str} {sp : Sp} {x : Str} {p pos : Pos} {e : Expr} {es : List Expr} {t : TA} {rd ef efa js : List Nat} {ma : MA} {S : FS}
theorem pe_callG (C : FnG X.prog X.w X.K X.mg X.base k f fd ps sp) (hr : Room k X.A) (gd : X.A.guards = some []) (hg : Gl X x) (hm : X.mg x = some (.ref f)) (hk : PySem.W.keepIn X.K (.ref f) = true) (hb : Binds X.K fd ps []) (ha : PA X (e :: es) t)
    (hdb : (x == ("__debug__" : Str)) = false := by decide) (he : starEach (e :: es) X.env = (false, eval e X.env) :: starEach es X.env := by rfl) (hpl : (backTo pos (starEach es X.env)).any (·.1) = false := by rfl) :
    PE X (.Call (.Name x p) (e :: es) [] pos) (fun σ H Q => t σ H fun vs H1 => sp vs H1 Q noX) := by
  refine ⟨fun pins s σ H Q I h => wpAny_Call_Name_kw (ld_glob I hg hm (PySem.W.callWith_K (h₀ := X.base) I.ok.mod.kin hk (thn (ha.run pos pins s σ H _ I h) fun us s1 ⟨vs, H1, I1, r, q⟩ => ⟨I1.kIn, ?_⟩) he hpl) hdb)⟩
  have hl : (us ++ []).length = ps.length := by rw [List.append_nil, ← r.length]; exact C.len _ _ _ q
  have hb1 := hb s1 us I1.kIn hl
  rw [List.append_nil] at hb1
  refine wpAny_call (codeAny_mono (C.run X.A X.stack s1 H1 ⟨us, []⟩ us vs Q hr gd I1.env0 hb1 r q) fun rs s' hq => ?_)
  cases rs with
  | error z => exact hq.elim
  | ok fl => cases fl with
    | ret u => exact I1.after hq
    | next => exact hq.elim
    | brk => exact hq.elim
    | cont => exact hq.elim
/-- a call as an expression -/
theorem xe_call (g : Gd X F) (C : FnG X.prog X.w X.K X.mg X.base k f fd ps (spT S X.K ps.length)) (hr : Room k X.A) (hg : Gl X x) (hm : X.mg x = some (.ref f)) (hk : PySem.W.keepIn X.K (.ref f) = true) (hb : Binds X.K fd ps []) (js : List Nat) (ha : PA X (e :: es) (tA F rd efa ma))
    (hrd : ∀ j ∈ js, j ∈ rd) (nd : S.io.Nodup) (np : S.np = ps.length) (nx : ∀ H z, ¬ F.Ex H z)
    (hdb : (x == ("__debug__" : Str)) = false := by decide) (he : starEach (e :: es) X.env = (false, eval e X.env) :: starEach es X.env := by rfl) (hpl : (backTo pos (starEach es X.env)).any (·.1) = false := by rfl) :
    PE X (.Call (.Name x p) (e :: es) [] pos) (tE F rd (efa ++ js) (mCall S js ma)) := by
  refine (pe_callG C hr g.gd hg hm hk hb ha hdb he hpl).imp fun σ H Q q => ?_
  obtain ⟨ε, Fs, R, q⟩ := q.w
  refine ⟨ε, Fs, R, (W0.bind q).imp fun r e1 q vs H' Fs' Gs S0 A o => ?_⟩
  unfold doCall at q
  cases eI : S.io.mapM (ioSlot r.2 r.1) with
  | none => simp only [eI] at q; exact q.elim
  | some is => cases eX : r.1.mapM (valAt r.2) with
    | none => simp only [eI, eX] at q; exact q.elim
    | some xs =>
      simp only [eI, eX] at q
      by_cases c : (ioFits js r.1 is && decide (r.1.length = S.np)) = true
      · rw [if_pos c] at q
        simp only [Bool.and_eq_true, decide_eq_true_eq] at c
        obtain ⟨c, c2⟩ := c
        refine ⟨xs, gsOf r.1 Gs Fs', by rw [A.at.1, c2, np], by rw [g.K]; exact ent_of S0.env A c eI eX, ?_⟩
        cases er : S.run xs with
        | no => rw [er] at q; exact q.elim
        | ex z => rw [er] at q; exact absurd q (nx _ _)
        | ok rt =>
          rw [er] at q
          intro v H2 G Gs' rr
          rw [g.K] at rr
          refine q v H2 _ G (call_post R (S0.mono fun j m => List.mem_append_left _ m) A o (fun j m => List.mem_append_right _ m) hrd nd c eI rr)
      · rw [if_neg c] at q; exact q.elim
end
/-! ### a def by its body -/
def ioOut (ε : EnvT) : List Nat → Out (List D)
  | [] => .ok []
  | k :: r => match ε[k]? with
    | some (.v (.d d) true) => (ioOut ε r).bind fun ds => .ok (d :: ds)
    | _ => .no
/-- the slots at the entry -/
def entry (n : Nat) (io : List Nat) (xs : List Val) : EnvT := (xs.zipIdx.map fun p => SlV.v p.1 (io.contains p.2)) ++ List.replicate (n - xs.length) .un
def runDef (n : Nat) (io : List Nat) (m : MS) (xs : List Val) : Out FRet := (m (entry n io xs)).bind fun r => match r with
  | .nx ε => (ioOut ε io).bind fun ds => .ok ⟨.none, true, ds⟩
  | .ret d f ε => (ioOut ε io).bind fun ds => .ok ⟨d, f, ds⟩
  | _ => .no
/-- what is fixed through a def's run -/
def fxOf (K : PySem.W.Frag) (H : Hp) (io : List Nat) (Gs : Nat → List Addr) (vs : List V) : Fx where
  K := K
  Wr := fun a => H a = none ∨ ∃ k ∈ io, a ∈ Gs k
  Og := fun a => H a = none ∨ ∃ k, a ∈ Gs k
  Ex := fun _ _ => False
  exm := fun h => h.elim
  io := io
  pv := fun k => vs.getD k .non
theorem entry_at {n : Nat} {io : List Nat} {xs : List Val} {k : Nat} {x : Val} {o : Bool} (h : (entry n io xs)[k]? = some (.v x o)) : xs[k]? = some x ∧ o = io.contains k := by
  unfold entry at h
  by_cases c : k < xs.length
  · rw [List.getElem?_append_left (by simpa using c), List.getElem?_map] at h
    rw [List.getElem?_zipIdx] at h
    rw [List.getElem?_eq_getElem c] at h ⊢
    simp at h
    exact ⟨by rw [h.1], by simpa using h.2.symm⟩
  · rw [List.getElem?_append_right (by simpa using c)] at h
    rw [List.getElem?_replicate] at h
    split at h <;> cases h
theorem entry_len {n : Nat} {io : List Nat} {xs : List Val} (h : xs.length ≤ n) : (entry n io xs).length = n := by
  unfold entry
  simp; omega
theorem entry_some {n : Nat} {io : List Nat} {xs : List Val} {k : Nat} {x : Val} (h : xs[k]? = some x) : (entry n io xs)[k]? = some (.v x (io.contains k)) := by
  have c : k < xs.length := (List.getElem?_eq_some_iff.mp h).1
  unfold entry
  rw [List.getElem?_append_left (by simpa using c), List.getElem?_map, List.getElem?_zipIdx, h]
  simp
theorem start_at {N : List Str} {vs : List V} {k : Nat} {v : V} (h : vs[k]? = some v) : (L2.start N vs)[k]? = some (some v) := by
  have c : k < vs.length := (List.getElem?_eq_some_iff.mp h).1
  unfold L2.start
  rw [List.getElem?_append_left (by simpa using c), List.getElem?_map, h]; rfl
theorem env_start {K : PySem.W.Frag} {H : Hp} {io : List Nat} {vs : List V} {xs : List Val} {Gs : Nat → List Addr} {N : List Str} (e : EntR K H io vs xs Gs) (hn : vs.length ≤ N.length) : EnvR (fxOf K H io Gs vs) H (L2.start N vs) (entry N.length io xs) Gs := by
  refine ⟨fun k x o h => ?_, fun k ns o h => ?_, fun j a m => .inr ⟨j, m⟩, fun k ok => ?_, fun a h => ⟨.inl h, .inl h⟩, fun k h => e.un k fun x hx => h x _ (entry_some hx), fun k hk => ?_, ?_⟩
  · obtain ⟨h1, _⟩ := entry_at h
    obtain ⟨v, ev, r⟩ := e.d k x h1
    exact ⟨v, start_at ev, r⟩
  · obtain ⟨h1, h2⟩ := entry_at h
    obtain ⟨a, ev, w⟩ := e.s k ns h1
    refine ⟨a, start_at ev, ?_, ?_, ?_⟩
    · rcases w with ⟨w, _⟩ | w
      · exact .inl w
      · exact w H
    · rcases w with ⟨w1, w2⟩ | w
      · refine .inl ⟨w1, fun z => ?_⟩
        rcases z with z | ⟨k', hk', z⟩
        · rcases w1 with w1 | ⟨_, w1⟩ <;> rw [z] at w1 <;> cases w1
        · exact w2 k' hk' z
      · exact .inr w
    · rw [h2]
      cases c : io.contains k with
      | false => rfl
      | true =>
        obtain ⟨⟨x, hx⟩, _⟩ := e.io k (by simpa using c)
        rw [h1] at hx; cases hx
  · obtain ⟨x, hx⟩ := ok
    obtain ⟨h1, h2⟩ := entry_at hx
    have hk : k ∈ io := by simpa using h2.symm
    obtain ⟨_, f1, f2, f3⟩ := e.io k hk
    exact ⟨f1, fun a m => ⟨.inr ⟨k, hk, m⟩, f2 a m⟩, f3⟩
  · obtain ⟨⟨x, hx⟩, _⟩ := e.io k hk
    have c : k < vs.length := by rw [e.len]; exact (List.getElem?_eq_some_iff.mp hx).1
    have ev := List.getElem?_eq_getElem c
    rw [start_at ev]
    show some (some vs[k]) = some (some (vs.getD k .non))
    rw [List.getD_eq_getElem?_getD, ev]; rfl
  · rw [entry_len (by rw [← e.len]; exact hn)]
    unfold L2.start
    rw [List.length_append, List.length_map, List.length_replicate]; omega
theorem ioOut_ok {ε : EnvT} : ∀ {io : List Nat} {ds : List D}, ioOut ε io = .ok ds → ds.length = io.length ∧ ∀ (t k : Nat) d, io[t]? = some k → ds[t]? = some d → ε[k]? = some (.v (.d d) true)
  | [], ds, h => by cases h; exact ⟨rfl, nofun⟩
  | k :: r, ds, h => by
    unfold ioOut at h
    split at h
    · rename_i d e
      cases q : ioOut ε r with
      | no => rw [q] at h; cases h
      | ex z => rw [q] at h; cases h
      | ok ds' =>
        rw [q] at h; cases h
        obtain ⟨l1, l2⟩ := ioOut_ok q
        refine ⟨by simp [l1], fun t k' d' e1 e2 => ?_⟩
        cases t with
        | zero => cases e1; cases e2; exact e
        | succ t => exact l2 t k' d' e1 e2
    · cases h
theorem ioOut_nox {ε : EnvT} {z : Xc} : ∀ {io : List Nat}, ioOut ε io ≠ .ex z
  | [] => nofun
  | k :: r => by
    unfold ioOut
    split
    · cases q : ioOut ε r with
      | no => nofun
      | ex z => exact absurd q ioOut_nox
      | ok ds' => nofun
    · nofun
/-- behind the body -/
theorem ret_of {K : PySem.W.Frag} {H : Hp} {io : List Nat} {vs : List V} {xs : List Val} {Gs Fs' : Nat → List Addr} {n : Nat} {H' : Hp} {σ' : L2.St} {ε' : EnvT} {ds : List D} {v : V} {d : D} {f : Bool} {G : List Addr} (e : EntR K H io vs xs Gs) (S : Stp (fxOf K H io Gs vs) H (entry n io xs) Gs H' σ' ε' Fs') (V : Rv (fxOf K H io Gs vs) H Gs H' Fs' v d f G) (ho : ioOut ε' io = .ok ds) :
    RetR K H io vs Gs ⟨d, f, ds⟩ v H' G Fs' := by
  obtain ⟨o1, o2⟩ := ioOut_ok ho
  have own : ∀ {k}, k ∈ io → ∃ d, ε'[k]? = some (.v (.d d) true) := fun {k} hk => by
    obtain ⟨t, et⟩ := List.getElem?_of_mem hk
    have ht : t < ds.length := by rw [o1]; exact (List.getElem?_eq_some_iff.mp et).1
    exact ⟨_, o2 t k _ et (List.getElem?_eq_getElem ht)⟩
  refine ⟨S.kp.mono fun a ⟨j, ⟨x, ox⟩, m⟩ => ?_, V.rp, V.org, fun z => ?_, o1, fun t k d' e1 e2 => ?_, fun k hk => ?_⟩
  · obtain ⟨_, h2⟩ := entry_at ox
    exact ⟨j, by simpa using h2.symm, m⟩
  · obtain ⟨f1, f2, f3⟩ := V.fr z
    exact ⟨f1, f2, fun k _ => f3 k⟩
  · have hk : k ∈ io := List.mem_of_getElem? e1
    obtain ⟨w, ew, r⟩ := S.env.d k d' true (o2 t k d' e1 e2)
    have hp := S.env.io k hk
    rw [ew] at hp
    have hw : w = vs.getD k .non := by injection hp with hp; injection hp
    obtain ⟨⟨x, hx⟩, _⟩ := e.io k hk
    have c : k < vs.length := by rw [e.len]; exact (List.getElem?_eq_some_iff.mp hx).1
    have ev := List.getElem?_eq_getElem c
    rw [List.getD_eq_getElem?_getD, ev] at hw
    exact ⟨w, by rw [hw]; exact ev, r⟩
  · obtain ⟨d', ed⟩ := own hk
    obtain ⟨f1, f2, f3⟩ := S.env.own k ⟨_, ed⟩
    exact ⟨f1, f2, fun k' _ n => f3 k' n⟩
/-- THE RULE of a def -/
theorem fnG_of {P : Program} {w : World} {K : PySem.W.Frag} {mg : Str → Option Value} {base : Heap} {k : Nat} {f : Addr} {name qual : Str} {params : Arguments} {body : List Stmt} {scope : Scope} {dV kV doc pm cdv ct oc : Value} {an od : Option Addr} {osl : Array (Option Value)} {N ps : List Str} {io : List Nat} {m : MS}
    (lk : K.lookup f = some ⟨oc, od, .func (PySem.W.fnOf name qual params body scope dV kV doc pm an cdv ct), osl⟩) (hcd : PySem.W.codeIn K cdv qual = true) (S : FnScope N ps scope)
    (hb : ∀ (A : Around) (outer : List Env) (s : Shared) (H : Hp) (vs : List V) (Gs : Nat → List Addr), Room k (A.deeper (envOfC qual scope s.heap.objs.size f cdv)) → (A.deeper (envOfC qual scope s.heap.objs.size f cdv)).guards = some [] →
      PSs (cxOf CX0 P w K mg base N qual scope f cdv A outer s H noX).nox body (tS (fxOf K H io Gs vs) m)) :
    FnG P w K mg base (k + 1) f (PySem.W.fnOf name qual params body scope dV kV doc pm an cdv ct) ps (spT ⟨ps.length, io, runDef N.length io m⟩ K ps.length) := by
  refine ⟨fun vs H Q h => spT_len h, fun A outer s H args us vs Q hr gd e0 hbi r hsp => ?_⟩
  obtain ⟨xs, Gs, hl, en, hrun⟩ := hsp
  have KX : K.In s.heap := e0.mod.kin.keeps fun b o e => (e0.bs b o e).1
  have lim : s.heap.NoLimit := e0.mod.nolimit.keeps fun b o e => (e0.bs b o e).1
  have hkind : ∀ y ∈ ps.zip us, scope.names.lookup y.1 = some .local ∨ (scope.names.lookup y.1 = some .cell ∧ ((cellsFrom (s.heap.objs.size + 1) scope.names []).lookup y.1).isSome = true) := fun y hy =>
    (S.par y.1 (List.of_mem_zip hy).1).imp id fun q => ⟨q, PySem.W.cellsFrom_some _ _ _ (.inl q)⟩
  refine codeAny_call_function hr.depth (KX _ _ lk) rfl S.co S.gen rfl (PySem.W.codeRec_of KX hcd) (hbi _ _ _ _ (wpAny_newFunctionEnv_cells S.kind hkind fun env he s1 x => ?_))
  subst he
  refine ⟨lim.keeps x.toInCall.keep, codeAny_func ?_⟩
  have hpl : vs.length ≤ N.length := by
    have := congrArg List.length S.pre
    rw [List.length_take] at this; omega
  have ht := (hb A outer s H vs Gs (hr.deeper _) gd).nox
  have I := inv_start (CX := CX0) (E := noX) S hr.hd e0 hl r x
  refine wpAny_mono (ht.run [] s1 (L2.start N vs) H { nx := fun _ H' => Q .non H', rt := Q } I ⟨_, Gs, env_start en hpl, ?_⟩) (fun fl s' hs => ?_) fun e s' hs => hs
  · have hrun : W0 (fxOf K H io Gs vs) H (fun r => ∀ v H' G Gs', RetR K H io vs Gs r v H' G Gs' → Q v H') (runDef N.length io m xs) := by
      have hrun := show (match runDef N.length io m xs with
        | .ok r => ∀ v H' G Gs', RetR K H io vs Gs r v H' G Gs' → Q v H'
        | .ex _ => False
        | .no => False) from hrun
      cases er : runDef N.length io m xs with
      | ok rr => rw [er] at hrun; exact hrun
      | ex z => rw [er] at hrun; exact hrun.elim
      | no => rw [er] at hrun; exact hrun.elim
    unfold runDef at hrun
    refine (W0.bind hrun).imp fun res e1 q => ?_
    cases res with
    | brk ε' => exact q.elim
    | ct ε' => exact q.elim
    | nx ε' =>
      intro σ' H' Fs' T
      cases eo : ioOut ε' io with
      | no => simp only [eo] at q; exact q.elim
      | ex z => exact absurd eo ioOut_nox
      | ok ds =>
        simp only [eo] at q
        exact q .non H' [] Fs' (ret_of en T ⟨.non, fun _ => ⟨List.nodup_nil, nofun, fun _ => nofun⟩, nofun⟩ eo)
    | ret d fr ε' =>
      intro v σ' H' Fs' G T V
      cases eo : ioOut ε' io with
      | no => simp only [eo] at q; exact q.elim
      | ex z => exact absurd eo ioOut_nox
      | ok ds =>
        simp only [eo] at q
        exact q v H' G Fs' (ret_of en T V eo)
  · have fin : ∀ {σ' : L2.St} {H' : Hp} {v : V} {u : Value}, L2.Inv (cxOf CX0 P w K mg base N qual scope f cdv A outer s H noX) [] σ' H' s' → RelV v u → Q v H' → CE outer P w H s Q u s' := fun J rv q => ⟨_, _, J.os, J.bare, J.base, J.hok, rv, q⟩
    cases fl with
    | ret u => obtain ⟨v, σ', H', J, rv, q⟩ := hs; exact fin J rv q
    | next => obtain ⟨σ', H', J, q⟩ := hs; exact fin (v := V.non) (u := Value.none) J rfl q
    | brk => obtain ⟨_, _, _, q⟩ := hs; exact q.elim
    | cont => obtain ⟨_, _, _, q⟩ := hs; exact q.elim
end CF
/-! CF31: the law's own call. -/
namespace CF
open PySem PySem.Spec PyProof.Rows L2

/-- what the law's def promises of a script -/
theorem sp_law {S : FS} {K : PySem.W.Frag} {H : Hp} {a : Addr} {ns : List Int} {b : Bool} (hio : S.io = []) (hS : S.run [.s ns] = .ok ⟨.bool true, b, []⟩) (h : SqL K H a (ns.map V.int)) : spT S K 1 [.ref a] H (fun v _ => v = .bl true) noX := by
  refine ⟨[.s ns], fun _ => [], rfl, ⟨rfl, fun k x e => ?_, fun k ns' e => ?_, fun k hk => ?_, fun _ _ => rfl⟩, ?_⟩
  · cases k with
    | zero => cases e
    | succ k => simp at e
  · cases k with
    | zero =>
      cases e
      refine ⟨a, rfl, ?_⟩
      rcases h with h | h
      · exact .inl ⟨h, fun _ _ => List.not_mem_nil⟩
      · exact .inr fun _ => .inr h
    | succ k => simp at e
  · rw [hio] at hk; exact nomatch hk
  · rw [hS]
    intro v H' G Gs' r
    have := r.rp
    cases this
    rfl
section
variable {P : Program} {w : World} {K : PySem.W.Frag} {mg mb : Str → Option Value} {k : Nat} {fa a : Addr} {fd : FuncData} {x : Str} {S : FS} {s : Shared} {vs : List Value} {ns : List Int} {b : Bool}
/-- the law is called: H has at most the script -/
theorem law_at (KX : K.In s.heap) (hns : s.heap.Ns mainGlobals mg) (hb : s.heap.Ns builtinsNs mb) (hbb : ∀ x : Str, x ≠ "__name__" → mb x = bootBuiltins x) (hlim : s.heap.NoLimit) (hg : s.gens = #[]) (ha : s.heap.get? a = some { cls := .type "list", data := .seq vs.toArray }) (hr : Room k callerA)
    (F : ∀ base : Heap, K.In base → base.Ns mainGlobals mg → ∃ fd, FnG P w K mg base k fa fd [x] (spT S K 1) ∧ Binds K fd [x] []) (hio : S.io = []) (hS : S.run [.s ns] = .ok ⟨.bool true, b, []⟩)
    {H : Hp} (hO : Only H) (hQ : SqL K H a (ns.map V.int)) (hok : HOk P w H s.heap) (hA : ∀ b, H b ≠ none → b = a) (hK : H a ≠ none → K.lookup a = none) :
    codeAny (model P w) callerA (.call (.ref fa) ⟨[.ref a], []⟩) (fun r s' => r = .ok (.ret (.bool true)) ∧ OldK s.heap s'.heap ∧ s'.os = s.os ∧ AllBare s'.gens) s := by
  have free : ∀ {c : Addr} {o : Obj}, s.heap.get? c = some o → (c = a → False) → H c = none := fun {c o} e n => by
    cases q : H c with
    | none => rfl
    | some u => exact (n (hA c (by rw [q]; nofun))).elim
  have dict : ∀ {c : Addr} {o : Obj} {es : Array DictEntry} {ep : Nat}, s.heap.get? c = some o → o.data = .dict es ep → H c = none := fun {c o es ep} e d => free e fun z => by
    subst z; rw [ha] at e; cases e; cases d
  have ns2 : ∀ {c : Addr} {m : Str → Option Value}, s.heap.Ns c m → (hidT s.heap H).Ns c m := fun {c m} ⟨o, es, ep, e, d, r⟩ => ⟨o, es, ep, hidT_get e (dict e d), d, r⟩
  have KB : K.In (hidT s.heap H) := fun c o e => hidT_get (KX c o e) (by
    cases q : H c with
    | none => rfl
    | some u =>
      have ne : H c ≠ none := by rw [q]; nofun
      have z := hA c ne
      subst z
      rw [hK ne] at e; cases e)
  have md : Mod K mg (hidT s.heap H) := ⟨KB, ns2 hns, ⟨mb, ns2 hb, hbb⟩, let ⟨mc, h1, h2⟩ := hlim; ⟨mc, ns2 h1, h2⟩⟩
  have e0 : Env0 P w K mg (hidT s.heap H) callerA [] s H := ⟨rfl, md, fun c o e => of_hidT e, Nat.le_of_eq (hidT_size _ _), trivial, (fun c m => nomatch m), hok, .of_eq hg⟩
  obtain ⟨fd, FG, bnd⟩ := F _ KB (ns2 hns)
  refine codeAny_mono (FG.run callerA [] s H ⟨[.ref a], []⟩ [.ref a] [.ref a] _ hr rfl e0 (bnd s [.ref a] KX rfl) (.cons rfl .nil) (sp_law hio hS hQ)) fun r s' h => ?_
  cases r with
  | error e => exact h.elim
  | ok fl => cases fl with
    | next => exact h.elim
    | brk => exact h.elim
    | cont => exact h.elim
    | ret u =>
      obtain ⟨v, H', os, bare, un, hok', rv, q⟩ := h
      obtain rfl : v = .bl true := q
      obtain rfl : u = Value.bool true := rv
      refine ⟨rfl, .of_keep fun c o e => ?_, os, bare⟩
      cases q : H c with
      | none => exact un.keep c o e q nofun nofun
      | some u =>
        rcases hO c with z | ⟨ob, xs, z⟩
        · rw [q] at z; cases z
        · obtain ⟨e1, _⟩ := hok c _ z
          obtain ⟨e2, _⟩ := hok' c _ (un.frzs c ob _ z)
          rw [e] at e1; cases e1
          exact e2
theorem law_callG (KX : K.In s.heap) (hns : s.heap.Ns mainGlobals mg) (hb : s.heap.Ns builtinsNs mb) (hbb : ∀ x : Str, x ≠ "__name__" → mb x = bootBuiltins x) (hlim : s.heap.NoLimit) (hg : s.gens = #[]) (ha : s.heap.get? a = some { cls := .type "list", data := .seq vs.toArray }) (hi : IntsAre vs ns) (hl : ns.length ≤ sizeLine) (hr : Room k callerA)
    (F : ∀ base : Heap, K.In base → base.Ns mainGlobals mg → ∃ fd, FnG P w K mg base k fa fd [x] (spT S K 1) ∧ Binds K fd [x] []) (hio : S.io = []) (hS : S.run [.s ns] = .ok ⟨.bool true, b, []⟩) :
    codeAny (model P w) callerA (.call (.ref fa) ⟨[.ref a], []⟩) (fun r s' => r = .ok (.ret (.bool true)) ∧ OldK s.heap s'.heap ∧ s'.os = s.os ∧ AllBare s'.gens) s := by
  have rv := vals_ints hi
  have lv := hi.length
  by_cases hk : K.lookup a = none
  · let H : Hp := fun c => if c = a then some (.frz { cls := .type "list", data := .seq vs.toArray } (.lst (ns.map V.int))) else none
    have at_ : ∀ {c : Addr}, H c ≠ none → c = a := fun {c} z => Classical.byContradiction fun n => z (if_neg n)
    refine law_at (H := H) KX hns hb hbb hlim hg ha hr F hio hS (fun c => ?_) (.inl (.inr ⟨_, if_pos rfl⟩)) (fun c u z => ?_) (fun c z => at_ z) fun _ => hk
    · by_cases q : c = a
      · exact .inr ⟨_, _, if_pos q⟩
      · exact .inl (if_neg q)
    · have ca := at_ (c := c) (by rw [z]; nofun)
      subst ca
      have z' := (if_pos rfl).symm.trans z
      cases z'
      exact ⟨ha, by rw [List.length_map]; exact hl, vs, _, rv, ha⟩
  · obtain ⟨o, ho⟩ := Option.ne_none_iff_exists'.mp hk
    have e := KX a o ho
    rw [ha] at e
    cases e
    exact law_at (H := fun _ => none) KX hns hb hbb hlim hg ha hr F hio hS (fun _ => .inl rfl) (.inr ⟨_, vs.toArray, _, ho, rfl, rfl, rfl, by rw [List.size_toArray, lv]; exact hl, by simpa using rv⟩) (fun c u z => nomatch z) (fun c z => absurd rfl z) fun z => absurd rfl z
end
theorem walkG {l : PySem.W.OpenLaw} {n k : Nat} {q : Program} {loose : List Str} {XP : (Str → Option Value) → Heap → Prop} {YP : World → Heap → Prop} {d : DefRec} {x : Str} {S : FS} {b : List Int → Bool}
    (hn : l.most = some n) (hn2 : n ≤ sizeLine) (hdf : d.params.defaults = []) (hr : Room k callerA)
    (F : ∀ (w : World) (mg : Str → Option Value) (fa : Addr) (h : Heap), YP w h → h.Ns mainGlobals mg → mg d.name = some (.ref fa) →
      ∃ K : PySem.W.Frag, K.In h ∧ ∀ base : Heap, K.In base → base.Ns mainGlobals mg → ∃ fd : FuncData, FnG l.prog w K mg base k fa fd [x] (spT S K 1) ∧ Binds K fd [x] [])
    (hio : S.io = []) (hS : ∀ ns : List Int, ns.length ≤ n → S.run [.s ns] = .ok ⟨.bool true, b ns, []⟩) : PySem.W.WalkO q loose XP YP l.row.toRowW d [] (fun f vs => PySem.call f vs) := by
  refine Att.attach_call hn hdf fun w s₀ s₁ mg mb fa o pm cd doc a vs ns G Y ho hd hcd hmg hobj hints hlen hg => ?_
  obtain ⟨K, KX, hF⟩ := F w mg fa _ Y G.T.g hmg
  exact law_callG KX G.T.g G.T.b G.T.builtins G.T.nolimit hg hobj hints (Nat.le_trans hlen hn2) hr hF hio (hS ns hlen)
end CF
/-! CF32: built-ins by name; the script; a def as it is called. -/
namespace CF
open PySem PySem.Spec PyProof.Rows L2

section
variable {X : Cx} {F : Fx} {rd ef rda efa : List Nat} {e : Expr} {es : List Expr} {p pos p2 pc : Pos} {l : ML} {m mk : M} {i : Nat} {D : Ends}
theorem xe_len (g : Gd X F) (hg : Gl X "len") (hm : X.mg "len" = none) (ha : PA X (e :: es) (tL F rd ef l)) (he : starEach (e :: es) X.env = (false, eval e X.env) :: starEach es X.env := by rfl) (hpl : (backTo pos (starEach es X.env)).any (·.1) = false := by rfl) :
    PE X (.Call (.Name "len" p) (e :: es) [] pos) (tE F rd ef (mBlt .len l)) := xe_bltB g .len nofun rfl hg hm (by decide +kernel) ha (by decide) (by decide) he hpl
theorem xe_list (g : Gd X F) (hg : Gl X "list") (hm : X.mg "list" = none) (ha : PA X (e :: es) (tL F rd ef l)) (he : starEach (e :: es) X.env = (false, eval e X.env) :: starEach es X.env := by rfl) (hpl : (backTo pos (starEach es X.env)).any (·.1) = false := by rfl) :
    PE X (.Call (.Name "list" p) (e :: es) [] pos) (tE F rd ef (mBlt .list l)) := xe_bltT g .list nofun rfl hg hm (by decide +kernel) ha (by decide) (by decide) he hpl
theorem xe_tuple (g : Gd X F) (hg : Gl X "tuple") (hm : X.mg "tuple" = none) (ha : PA X (e :: es) (tL F rd ef l)) (he : starEach (e :: es) X.env = (false, eval e X.env) :: starEach es X.env := by rfl) (hpl : (backTo pos (starEach es X.env)).any (·.1) = false := by rfl) :
    PE X (.Call (.Name "tuple" p) (e :: es) [] pos) (tE F rd ef (mBlt .tuple l)) := xe_bltT g .tuple nofun rfl hg hm (by decide +kernel) ha (by decide) (by decide) he hpl
theorem xe_intB (g : Gd X F) (hg : Gl X "int") (hm : X.mg "int" = none) (ha : PA X (e :: es) (tL F rd ef l)) (he : starEach (e :: es) X.env = (false, eval e X.env) :: starEach es X.env := by rfl) (hpl : (backTo pos (starEach es X.env)).any (·.1) = false := by rfl) :
    PE X (.Call (.Name "int" p) (e :: es) [] pos) (tE F rd ef (mBlt .int l)) := xe_bltT g .int nofun rfl hg hm (by decide +kernel) ha (by decide) (by decide) he hpl
theorem xe_abs (g : Gd X F) (hg : Gl X "abs") (hm : X.mg "abs" = none) (ha : PA X (e :: es) (tL F rd ef l)) (he : starEach (e :: es) X.env = (false, eval e X.env) :: starEach es X.env := by rfl) (hpl : (backTo pos (starEach es X.env)).any (·.1) = false := by rfl) :
    PE X (.Call (.Name "abs" p) (e :: es) [] pos) (tE F rd ef (mBlt .abs l)) := xe_bltB g .abs nofun rfl hg hm (by decide +kernel) ha (by decide) (by decide) he hpl
theorem xe_repr (g : Gd X F) (hg : Gl X "repr") (hm : X.mg "repr" = none) (ha : PA X (e :: es) (tL F rd ef l)) (he : starEach (e :: es) X.env = (false, eval e X.env) :: starEach es X.env := by rfl) (hpl : (backTo pos (starEach es X.env)).any (·.1) = false := by rfl) :
    PE X (.Call (.Name "repr" p) (e :: es) [] pos) (tE F rd ef (mBlt .repr l)) := xe_bltB g .repr nofun rfl hg hm (by decide +kernel) ha (by decide) (by decide) he hpl
theorem xe_min (g : Gd X F) (hg : Gl X "min") (hm : X.mg "min" = none) (ha : PA X (e :: es) (tL F rd ef l)) (he : starEach (e :: es) X.env = (false, eval e X.env) :: starEach es X.env := by rfl) (hpl : (backTo pos (starEach es X.env)).any (·.1) = false := by rfl) :
    PE X (.Call (.Name "min" p) (e :: es) [] pos) (tE F rd ef (mBlt .min l)) := xe_bltB g .min nofun rfl hg hm (by decide +kernel) ha (by decide) (by decide) he hpl
theorem xe_max (g : Gd X F) (hg : Gl X "max") (hm : X.mg "max" = none) (ha : PA X (e :: es) (tL F rd ef l)) (he : starEach (e :: es) X.env = (false, eval e X.env) :: starEach es X.env := by rfl) (hpl : (backTo pos (starEach es X.env)).any (·.1) = false := by rfl) :
    PE X (.Call (.Name "max" p) (e :: es) [] pos) (tE F rd ef (mBlt .max l)) := xe_bltB g .max nofun rfl hg hm (by decide +kernel) ha (by decide) (by decide) he hpl
theorem xe_sum (g : Gd X F) (hg : Gl X "sum") (hm : X.mg "sum" = none) (ha : PA X (e :: es) (tL F rd ef l)) (he : starEach (e :: es) X.env = (false, eval e X.env) :: starEach es X.env := by rfl) (hpl : (backTo pos (starEach es X.env)).any (·.1) = false := by rfl) :
    PE X (.Call (.Name "sum" p) (e :: es) [] pos) (tE F rd ef (mBlt .sum l)) := xe_bltB g .sum nofun rfl hg hm (by decide +kernel) ha (by decide) (by decide) he hpl
theorem xe_all (g : Gd X F) (hg : Gl X "all") (hm : X.mg "all" = none) (ha : PA X (e :: es) (tL F rd ef l)) (he : starEach (e :: es) X.env = (false, eval e X.env) :: starEach es X.env := by rfl) (hpl : (backTo pos (starEach es X.env)).any (·.1) = false := by rfl) :
    PE X (.Call (.Name "all" p) (e :: es) [] pos) (tE F rd ef (mBlt .all l)) := xe_bltB g .all nofun rfl hg hm (by decide +kernel) ha (by decide) (by decide) he hpl
theorem xe_any (g : Gd X F) (hg : Gl X "any") (hm : X.mg "any" = none) (ha : PA X (e :: es) (tL F rd ef l)) (he : starEach (e :: es) X.env = (false, eval e X.env) :: starEach es X.env := by rfl) (hpl : (backTo pos (starEach es X.env)).any (·.1) = false := by rfl) :
    PE X (.Call (.Name "any" p) (e :: es) [] pos) (tE F rd ef (mBlt .any l)) := xe_bltB g .any nofun rfl hg hm (by decide +kernel) ha (by decide) (by decide) he hpl
theorem xe_sorted (g : Gd X F) (hg : Gl X "sorted") (hm : X.mg "sorted" = none) (ha : PA X (e :: es) (tL F rd ef l)) (he : starEach (e :: es) X.env = (false, eval e X.env) :: starEach es X.env := by rfl) (hpl : (backTo pos (starEach es X.env)).any (·.1) = false := by rfl) :
    PE X (.Call (.Name "sorted" p) (e :: es) [] pos) (tE F rd ef (mBlt .sorted l)) := xe_bltB g .sorted nofun rfl hg hm (by decide +kernel) ha (by decide) (by decide) he hpl
theorem xe_sortedRv (g : Gd X F) {j : Nat} {pk : Pos} (hg : Gl X "sorted") (hm : X.mg "sorted" = none) (ha : PE X e (tE F rd ef m)) (he : backTo pos (starEach [e] X.env) = (false, eval e X.env) :: backTo pos (starEach [] X.env) := by rfl) (hs : starEach [e] X.env = (false, eval e X.env) :: starEach [] X.env := by rfl) (hpl : (backTo pos (starEach [e] X.env)).any (·.1) = false := by rfl) :
    PE X (.Call (.Name "sorted" p) [e] [⟨some "reverse", .Constant (.bool true) j pc, pk⟩] pos) (tE F rd ef (mBlt .sortedR (lCons m false lNil))) := xe_sortedR g hg hm (by decide +kernel) ha he hs hpl
/-- script[:n] -/
theorem xe_scr {x : Str} {n : Int} {j : Nat} (g : Gd X F) (hN : X.N[i]? = some x) (hv : Vis X.env.scope x) (hd : (x == ("__debug__" : Str)) = false := by decide) (hcd : (x == ("__classdict__" : Str)) = false := by decide) :
    PE X (.Subscript (.Name x p) (.Slice none (some (.Constant (.int n) j pc)) none p2) pos) (tE F [] [] (mScr i none (some n))) := by
  refine (pe_slice sl_list (pe_var hN hv hd hcd) po_none (po_some pe_int)).imp fun σ H Q q => ?_
  obtain ⟨ε, Fs, R, q⟩ := q.w
  unfold mScr at q
  cases e : ε[i]? with
  | none => rw [e] at q; exact q.elim
  | some s => cases s with
    | un => rw [e] at q; exact q.elim
    | v y o => cases y with
      | d d => rw [e] at q; exact q.elim
      | s ns =>
        rw [e] at q
        obtain ⟨a, ea, hq, _⟩ := R.s i ns o e
        refine ⟨_, ea, n, rfl, a, _, rfl, by rw [g.K]; exact hq, fun w nw => ?_⟩
        have h : HeldR F H ε Fs [] (cutV (ns.map V.int) none (some n)) ((cut ns none (some n)).map .int) true [] := by
          refine ⟨?_, fun _ => ⟨List.nodup_nil, noM, fun _ => noM⟩, fun _ _ _ => noM⟩
          have e2 : cutV (ns.map V.int) none (some n) = (cut ns none (some n)).map V.int := by
            unfold cutV cut
            rw [List.map_take, List.map_drop, List.length_map]
          rw [e2]
          exact rps_ints _
        exact q _ _ Fs _ ((Seq.refl R).newL h nofun nw)
/-! ### op= by kind -/
theorem xs_augAdd {x : Str} {pos' : Pos} (ni : i ∉ F.io) (hN : X.N.Nodup) (hi : X.N[i]? = some x) (hx : Loc X.env.scope x) (he : PE X e (tE F rd ef m)) (hf : X.fn x = true ∨ X.env.scope.names.lookup x = some .local := by first | exact .inl rfl | exact .inr rfl | assumption) :
    PS X (.AugAssign (.Name x pos') .Add e pos) (tS F (sAug i .add m)) := xs_aug (op := .add) ni hN hi hx he (ip_add.or iop_add_str) hop_add hf
theorem hop_mul {a b : CF.D} {r : CF.D × Bool} {v u : V} {G : List Addr} {H : Hp} {Q : VK} (c : isScal a = true) (e : binD .mul a true b true = .ok r) (h1 : Rp F.K H v a []) (h2 : Rp F.K H u b G) (q : ∀ w, Rp F.K H w r.1 [] → Q w H) : rI CMul (fun i j => .int (i * j)) v u H Q := by
  cases a <;> first | (cases c; done) | skip
  · cases b <;> first | (cases e; done) | skip
    rename_i x y
    simp only [binD] at e
    by_cases cc : mulOk x y = true
    · rw [if_pos cc] at e
      cases h1; cases h2; cases e
      refine ⟨_, _, rfl, rfl, ?_, q _ (.int _)⟩
      unfold mulOk at cc
      rcases Bool.or_eq_true_iff.mp cc with z | z
      · exact .inl (of_decide_eq_true z)
      · exact .inr (of_decide_eq_true z)
    · rw [if_neg cc] at e; cases e
  · cases b <;> cases e
theorem hop_sub {a b : CF.D} {r : CF.D × Bool} {v u : V} {G : List Addr} {H : Hp} {Q : VK} (c : isScal a = true) (e : binD .sub a true b true = .ok r) (h1 : Rp F.K H v a []) (h2 : Rp F.K H u b G) (q : ∀ w, Rp F.K H w r.1 [] → Q w H) : ipI (fun i j => i - j) v u H Q := by
  cases a <;> first | (cases c; done) | skip
  · cases b <;> first | (cases e; done) | skip
    cases h1; cases h2; cases e
    exact ⟨_, _, rfl, rfl, q _ (.int _)⟩
  · cases b <;> cases e
theorem xs_augMul {x : Str} {pos' : Pos} (ni : i ∉ F.io) (hN : X.N.Nodup) (hi : X.N[i]? = some x) (hx : Loc X.env.scope x) (he : PE X e (tE F rd ef m)) (hf : X.fn x = true ∨ X.env.scope.names.lookup x = some .local := by first | exact .inl rfl | exact .inr rfl | assumption) :
    PS X (.AugAssign (.Name x pos') .Mult e pos) (tS F (sAug i .mul m)) := xs_aug (op := .mul) ni hN hi hx he iop_mul hop_mul hf
theorem xs_augSub {x : Str} {pos' : Pos} (ni : i ∉ F.io) (hN : X.N.Nodup) (hi : X.N[i]? = some x) (hx : Loc X.env.scope x) (he : PE X e (tE F rd ef m)) (hf : X.fn x = true ∨ X.env.scope.names.lookup x = some .local := by first | exact .inl rfl | exact .inr rfl | assumption) :
    PS X (.AugAssign (.Name x pos') .Sub e pos) (tS F (sAug i .sub m)) := xs_aug (op := .sub) ni hN hi hx he ip_sub hop_sub hf
theorem xs_augLAdd {x : Str} {p1 p2 : Pos} {k : Expr} (hN : X.N[i]? = some x) (hv : Vis X.env.scope x) (hk : PE X k (tE F rda efa mk)) (he : PE X e (tE F rd ef m)) (hd : (x == ("__debug__" : Str)) = false := by decide) (hcd : (x == ("__classdict__" : Str)) = false := by decide)
    (ha : ∀ ov iv new, augStore k ov iv new = (do holding [new, ov, iv] (setItem ov iv new); release [new, ov, iv] []; pure .next) := by intros; rfl) : PS X (.AugAssign (.Subscript (.Name x p1) k p2) .Add e pos) (tS F (sAugL i mk .add m)) :=
  xs_augL (op := .add) hN hv hk he (ip_add.or iop_add_str) hop_add hd hcd ha
theorem xs_augLSub {x : Str} {p1 p2 : Pos} {k : Expr} (hN : X.N[i]? = some x) (hv : Vis X.env.scope x) (hk : PE X k (tE F rda efa mk)) (he : PE X e (tE F rd ef m)) (hd : (x == ("__debug__" : Str)) = false := by decide) (hcd : (x == ("__classdict__" : Str)) = false := by decide)
    (ha : ∀ ov iv new, augStore k ov iv new = (do holding [new, ov, iv] (setItem ov iv new); release [new, ov, iv] []; pure .next) := by intros; rfl) : PS X (.AugAssign (.Subscript (.Name x p1) k p2) .Sub e pos) (tS F (sAugL i mk .sub m)) :=
  xs_augL (op := .sub) hN hv hk he ip_sub hop_sub hd hcd ha
end
/-! ### a def as it is called -/
structure Cl (P : Program) (w : World) (K : PySem.W.Frag) (mg : Str → Option Value) (base : Heap) (k : Nat) (x : Str) (ps : List Str) (S : FS) : Prop where
  ex : ∃ f fd, FnG P w K mg base k f fd ps (spT S K ps.length) ∧ mg x = some (.ref f) ∧ PySem.W.keepIn K (.ref f) = true ∧ Binds K fd ps []
  np : S.np = ps.length
  nd : S.io.Nodup
section
variable {X : Cx} {F : Fx} {k j : Nat} {x : Str} {ps : List Str} {p pos : Pos} {e : Expr} {es : List Expr} {rd efa : List Nat} {ma : MA} {S : FS}
theorem xe_cl (g : Gd X F) (C : Cl X.prog X.w X.K X.mg X.base j x ps S) (hr : Room k X.A) (hj : j ≤ k) (hg : Gl X x) (nx : ∀ H z, ¬ F.Ex H z) (js : List Nat) (hrd : ∀ j ∈ js, j ∈ rd) (ha : PA X (e :: es) (tA F rd efa ma))
    (hdb : (x == ("__debug__" : Str)) = false := by decide) (he : starEach (e :: es) X.env = (false, eval e X.env) :: starEach es X.env := by rfl) (hpl : (backTo pos (starEach es X.env)).any (·.1) = false := by rfl) :
    PE X (.Call (.Name x p) (e :: es) [] pos) (tE F rd (efa ++ js) (mCall S js ma)) := by
  obtain ⟨f, fd, h1, h2, h3, h4⟩ := C.ex
  exact xe_call g h1 (hr.mono hj) hg h2 h3 h4 js ha hrd C.nd C.np nx hdb he hpl
end
/-- a def of the module, as the top has laid it -/
structure DefF (K : PySem.W.Frag) (mg : Str → Option Value) (x : Str) (st : Stmt) (ps : List Str) : Prop where
  ex : ∃ f fd, Fun K x x st f fd ∧ mg x = some (.ref f) ∧ Binds K fd ps []
theorem cl_of {P : Program} {w : World} {K : PySem.W.Frag} {mg : Str → Option Value} {base : Heap} {k : Nat} {x : Str} {st : Stmt} {N ps : List Str} {io : List Nat} {m : MS} (Dd : DefF K mg x st ps) (S : FnScope N ps (defScope st)) (nd : io.Nodup)
    (hb : ∀ (f : Addr) (cdv : Value) (A : Around) (outer : List Env) (s : Shared) (H : Hp) (vs : List V) (Gs : Nat → List Addr), Room k (A.deeper (envOfC x (defScope st) s.heap.objs.size f cdv)) → (A.deeper (envOfC x (defScope st) s.heap.objs.size f cdv)).guards = some [] →
      PSs (cxOf CX0 P w K mg base N x (defScope st) f cdv A outer s H noX).nox (defBody st) (tS (fxOf K H io Gs vs) m)) : Cl P w K mg base (k + 1) x ps ⟨ps.length, io, runDef N.length io m⟩ := by
  obtain ⟨f, fd, F, hm, bd⟩ := Dd.ex
  obtain ⟨oc, od, kV, doc, pm, an, cdv, ct, osl, rfl, lk, hcd⟩ := F.ex
  exact ⟨⟨f, _, fnG_of lk hcd S (hb f cdv), hm, F.kp, bd⟩, rfl, nd⟩
/-- a def that is never called -/
theorem cl_no {P : Program} {w : World} {K : PySem.W.Frag} {mg : Str → Option Value} {base : Heap} {k : Nat} {x : Str} {st : Stmt} {ps : List Str} {io : List Nat} (Dd : DefF K mg x st ps) (nd : io.Nodup) : Cl P w K mg base k x ps ⟨ps.length, io, fun _ => .no⟩ := by
  obtain ⟨f, fd, F, hm, bd⟩ := Dd.ex
  refine ⟨⟨f, fd, ⟨fun vs H Q h => spT_len h, fun A outer s H args us vs Q _ _ _ _ _ h => ?_⟩, hm, F.kp, bd⟩, rfl, nd⟩
  obtain ⟨_, _, _, _, h⟩ := h
  exact h.elim
end CF
/-! CF33: rules in short. -/
namespace CF
open PySem PySem.Spec PyProof.Rows L2

section
variable {X : Cx} {F : Fx} {rdb efb rd ef : List Nat} {es : List Expr} {p pos : Pos} {r : MA} {D : Ends} {l : ML}
theorem xe_v (i : Nat) (mv : Bool) {x : Str} (hN : X.N[i]? = some x := by rfl) (hv : Vis X.env.scope x := by first | exact Or.inl rfl | exact Or.inr (Or.inl rfl) | exact Or.inr (Or.inr rfl)) (hd : (x == ("__debug__" : Str)) = false := by decide) (hcd : (x == ("__classdict__" : Str)) = false := by decide) :
    PE X (.Name x pos) (tE F [i] [] (mNm i mv)) := xe_nm mv hN hv hd hcd
theorem xa_r (i : Nat) {x : Str} (hb : PA X es (tA F rdb efb r)) (hN : X.N[i]? = some x := by rfl) (hv : Vis X.env.scope x := by first | exact Or.inl rfl | exact Or.inr (Or.inl rfl) | exact Or.inr (Or.inr rfl)) (hs : starEach (.Name x p :: es) X.env = (false, eval (.Name x p) X.env) :: starEach es X.env := by rfl)
    (hd : (x == ("__debug__" : Str)) = false := by decide) (hcd : (x == ("__classdict__" : Str)) = false := by decide) : PA X (.Name x p :: es) (tA F (i :: rdb) efb (aRef i r)) := xa_ref hN hv hb hs hd hcd
theorem pg_v (i : Nat) {x : Str} (hN : X.N.Nodup) (hi : X.N[i]? = some x := by rfl) (hx : Loc X.env.scope x := by first | exact .inl rfl | exact .inr rfl) (hf : X.fn x = true ∨ X.env.scope.names.lookup x = some .local := by first | exact .inl rfl | exact .inr rfl) : PG X (.Name x pos) (gName i) := pg_name hN hi hx hf
theorem xs_par {i j : Nat} {x y : Str} {a b : Expr} {px py pt : Pos} {kt k2 pt2} (ni : i ∉ F.io) (nj : j ∉ F.io) (g : Gd X F) (hi : X.N[i]? = some x) (hj : X.N[j]? = some y) (hij : i ≠ j) (hx : X.env.scope.names.lookup x = some .local) (hy : X.env.scope.names.lookup y = some .local) (ha : PA X [a, b] (tL F rd ef l))
    (hw : swappedStores [.Tuple [.Name x px, .Name y py] kt pt] (.Tuple [a, b] k2 pt2) X.env = pure (some [x, y])) (hs : swapsWithSole [.Tuple [.Name x px, .Name y py] kt pt] (.Tuple [a, b] k2 pt2) pos.line X.env = pure false := by rfl) :
    PS X (.Assign [.Tuple [.Name x px, .Name y py] kt pt] (.Tuple [a, b] k2 pt2) pos) (tS F (sPar i j l)) := by
  refine (ps_par g.calm g.nd hi hj hij hx hy ha hw hs).imp fun D σ H ⟨ε, Fs, R, h⟩ => ?_
  refine tL.go R h fun q vs H' Fs' G e S A o k => ?_
  obtain ⟨ds, ε'⟩ := q
  match ds, A, k with
  | [], _, k => exact k.elim
  | [_], _, k => exact k.elim
  | _ :: _ :: _ :: _, _, k => exact k.elim
  | [(d1, f1), (d2, f2)], A, k =>
    dsimp only at k
    by_cases c : (imm d1 && (imm d2 || f2)) = true
    · rw [if_pos c] at k
      obtain ⟨c1, c2⟩ := Bool.and_eq_true_iff.mp c
      have og2 : ∃ v u G1 G2, vs = [v, u] ∧ Held F H' ε' Fs' rd v d1 f1 G1 ∧ Held F H' ε' Fs' rd u d2 f2 G2 ∧ ∀ a ∈ G2, a ∈ G := by
        cases A with
        | cons h t dj => cases t with
          | cons h2 t2 dj2 => cases t2 with
            | nil => exact ⟨_, _, _, _, rfl, h, h2, fun a m => List.mem_append_right _ (List.mem_append_left _ m)⟩
      obtain ⟨v, u, G1, G2, rfl, h1, h2, sub⟩ := og2
      refine ⟨v, u, rfl, ?_⟩
      have hb : ∀ {ε : EnvT} {Fs : Nat → List Addr}, HB F H' ε Fs true [] := ⟨nofun, fun _ _ => nofun, fun _ => ⟨List.nodup_nil, nofun, fun _ => nofun⟩⟩
      have r1 : Rp F.K H' v d1 [] := by have := h1.rp; rw [h1.rp.imm c1] at this; exact this
      have fr2 : G2.Nodup ∧ (∀ a ∈ G2, F.Wr a ∧ Unf H' a) ∧ ∀ j, ∀ a ∈ G2, a ∉ Fs' j := by
        rcases Bool.or_eq_true_iff.mp c2 with z | z
        · rw [h2.rp.imm z]; exact ⟨List.nodup_nil, nofun, fun _ => nofun⟩
        · exact h2.fr z
      have gs1 := gs_nm (F := F) ni (Q := fun σ H => D.nx (σ.set j (some u)) H) S.env r1 hb
      refine gs1 (((W0.bind k).later (S.kw R)).imp fun ε1 _ k σ1 Fs1 B => ?_)
      have no : ∀ j, ∀ a ∈ G2, a ∉ Fs1 j := fun j a m z => (B.fs j a z).elim (fun z => fr2.2.2 j a m z) fun z => nomatch z
      have hb2 : HB F H' ε1 Fs1 true G2 := ⟨fun a m => (o a (sub a m)).elim (fun z => (R.nw a z).2) fun ⟨j, z⟩ => R.og j a z, fun j _ => no j, fun _ => ⟨fr2.1, fr2.2.1, no⟩⟩
      have T1 := B.stp S.stp nofun fun _ => nofun
      have gs2 := gs_nm (F := F) nj (Q := D.nx) B.env h2.rp hb2
      exact gs2 (((W0.bind k).later (S.kw R)).imp fun ε2 _ k σ2 Fs2 B2 => k σ2 H' Fs2 (B2.stp T1 (fun a m => o a (sub a m)) fun _ a m => (o a (sub a m)).imp id fun ⟨j, z⟩ => by
        by_cases w : Own ε j
        · exact ⟨j, w, z⟩
        · rw [← S.ne j w] at z; exact absurd z (fr2.2.2 j a m)))
    · rw [if_neg c] at k; exact k.elim
end
theorem gd_of {P : Program} {w : World} {K : PySem.W.Frag} {mg : Str → Option Value} {base : Heap} {N : List Str} {qual : Str} {scope : Scope} {f : Addr} {cdv : Value} {A : Around} {outer : List Env} {s : Shared} {H : Hp} {io : List Nat} {Gs : Nat → List Addr} {vs : List V} {k : Nat} (nd : N.Nodup)
    (hr : Room k (A.deeper (envOfC qual scope s.heap.objs.size f cdv))) (gd : (A.deeper (envOfC qual scope s.heap.objs.size f cdv)).guards = some []) : Gd (cxOf CX0 P w K mg base N qual scope f cdv A outer s H noX).nox (fxOf K H io Gs vs) :=
  ⟨rfl, rfl, nd, by have := hr.un; show (A.deeper (envOfC qual scope s.heap.objs.size f cdv)).units + 128 < cLine; omega, gd⟩
end CF
/-! CF34: what the top has laid. -/
namespace CF
open PySem PySem.Spec PyProof.Rows L2

/-- the datum of a def of the module that has no defaults -/
def dd (x : Str) (st : Stmt) : He.DefD := ⟨(x, none), x, x, defArgs st, defBody st, defScope st, [], []⟩
theorem defF_of {K : PySem.W.Frag} {mg : Str → Option Value} {h : Heap} {x : Str} {st : Stmt} {ps : List Str} (X : K.In h) (G : h.Ns mainGlobals mg) (c : ∃ fd, FunD K x x (defArgs st) (defBody st) (defScope st) [] [] (He.fAd K (x, none)) fd) (cg : (He.Fa.glo x).ok K = true)
    (hb : ∀ (kV doc pm : Value) (an : Option Addr) (cdv ct : Value) (us : List Value), us.length = ps.length → bindArgs (PySem.W.fnOf x x (defArgs st) (defBody st) (defScope st) .none kV doc pm an cdv ct) ⟨us, []⟩ = pure (ps.zip us)) : DefF K mg x st ps := by
  obtain ⟨fd, F⟩ := c
  refine ⟨_, fd, ⟨?_, F.kp⟩, He.glo_ok X G cg, F.bindsN hb⟩
  obtain ⟨oc, od, dV, kV, doc, pm, an, cdv, ct, osl, e, lk, hcd, hD, hK⟩ := F.ex
  rcases hD with ⟨_, rfl⟩ | ⟨n, _⟩
  · exact ⟨oc, od, kV, doc, pm, an, cdv, ct, osl, e, lk, hcd⟩
  · exact absurd rfl n
/-- the law's def as the walk wants it -/
theorem law_of {P : Program} {w : World} {K : PySem.W.Frag} {mg : Str → Option Value} {base : Heap} {k : Nat} {x y : Str} {S : FS} {fa : Addr} (hm : mg x = some (.ref fa)) (C : Cl P w K mg base k x [y] S) : ∃ fd : FuncData, FnG P w K mg base k fa fd [y] (spT S K 1) ∧ Binds K fd [y] [] := by
  obtain ⟨f, fd, h1, h2, _, h4⟩ := C.ex
  rw [hm] at h2
  cases h2
  exact ⟨fd, h1, h4⟩
end CF
/-! CV1: how the small language is reckoned. -/
namespace CF
open PySem PySem.Spec PyProof.Rows L2

def fin (io : List Nat) (r : Res) : Out FRet := match r with
  | .nx ε => (ioOut ε io).bind fun ds => .ok ⟨.none, true, ds⟩
  | .ret d f ε => (ioOut ε io).bind fun ds => .ok ⟨d, f, ds⟩
  | _ => .no
theorem run_eq {n : Nat} {io : List Nat} {m : MS} {xs : List Val} {ε : EnvT} (h : entry n io xs = ε) : runDef n io m xs = (m ε).bind (CF.fin io) := by
  subst h
  unfold runDef
  congr 1
theorem run_eqS {S : FS} {n np : Nat} {io : List Nat} {m : MS} {xs : List Val} {ε : EnvT} (hS : S = ⟨np, io, runDef n io m⟩) (h : entry n io xs = ε) : S.run xs = (m ε).bind (CF.fin io) := by
  subst hS
  exact run_eq h
theorem bindTg_nm {ε : EnvT} {i : Nat} {d : D} {f : Bool} (h : i < ε.length) : bindTg ε (.nm i) d f = .ok (bindOne ε i d f) := by simp [bindTg, h]

/-! ### lists of results -/
inductive All2 {α β : Type} (R : α → β → Prop) : List α → List β → Prop
  | nil : All2 R [] []
  | cons {a : α} {b : β} {as : List α} {bs : List β} : R a b → All2 R as bs → All2 R (a :: as) (b :: bs)
theorem All2.length {α β : Type} {R : α → β → Prop} {as : List α} {bs : List β} (h : All2 R as bs) : as.length = bs.length := by
  induction h with
  | nil => rfl
  | cons _ _ ih => simp [ih]
theorem All2.right {α β : Type} {R : α → β → Prop} {P : β → Prop} {as : List α} {bs : List β} (h : All2 R as bs) (i : ∀ a b, R a b → P b) : ∀ b ∈ bs, P b := by
  induction h with
  | nil => nofun
  | cons r _ ih => intro b m; rcases List.mem_cons.mp m with rfl | m; exact i _ _ r; exact ih b m
/-- what stands for data of one's own, by rows -/
theorem All2.lift {α β γ : Type} {R : α → β → Prop} {e : γ → β} {P : α → γ → Prop} {as : List α} {bs : List β} (h : All2 R as bs) (i : ∀ a b, R a b → ∃ c, b = e c ∧ P a c) : ∃ cs, bs = cs.map e ∧ All2 P as cs := by
  induction h with
  | nil => exact ⟨[], rfl, .nil⟩
  | cons r _ ih =>
    obtain ⟨cs, rfl, q⟩ := ih
    obtain ⟨c, rfl, p⟩ := i _ _ r
    exact ⟨c :: cs, rfl, .cons p q⟩
theorem All2.mapR {α β : Type} {R : α → β → Prop} {f : α → β} {as : List α} {bs : List β} (h : All2 R as bs) (i : ∀ a b, R a b → b = f a) : bs = as.map f := by
  induction h with
  | nil => rfl
  | cons r _ ih => rw [List.map_cons, ih, i _ _ r]
theorem All2.keyR {α β γ : Type} {R : α → β → Prop} {f : α → γ} {g : β → γ} {as : List α} {bs : List β} (h : All2 R as bs) (i : ∀ a b, R a b → g b = f a) : bs.map g = as.map f := by
  induction h with
  | nil => rfl
  | cons r _ ih => rw [List.map_cons, List.map_cons, ih, i _ _ r]
theorem allFr_append : ∀ (l m : List (D × Bool)), allFr (l ++ m) = (allFr l && allFr m)
  | [], _ => rfl
  | (d, f) :: l, m => by rw [List.cons_append, allFr, allFr, allFr_append l m, Bool.and_assoc]
theorem allFr_imm : ∀ (l : List (D × Bool)), immAll (l.map (·.1)) = true → allFr l = true
  | [], _ => rfl
  | (d, f) :: l, h => by
    rw [List.map_cons, immAll, Bool.and_eq_true] at h
    rw [allFr, allFr_imm l h.2, h.1, Bool.or_true, Bool.and_true]
theorem immAll_mem {ds : List D} : immAll ds = true ↔ ∀ d ∈ ds, imm d = true := by
  induction ds with
  | nil => simp [immAll]
  | cons d r ih => simp [immAll, ih]
theorem immAll_map {α : Type} {e : α → D} {xs : List α} (h : ∀ x ∈ xs, imm (e x) = true) : immAll (xs.map e) = true := immAll_mem.mpr fun d m => by
  obtain ⟨x, mx, rfl⟩ := List.mem_map.mp m
  exact h x mx

/-! ### comprehensions -/
def Gives1 (own : List Nat) (ε : EnvT) (d : D) (o : Out (List (D × Bool) × EnvT)) : Prop := ∃ fl ε2, o = .ok ([(d, fl)], ε2) ∧ wipeE ε2 own = ε ∧ (fl || imm d) = true
def GivesM (own : List Nat) (ε : EnvT) (g : List D) (o : Out (List (D × Bool) × EnvT)) : Prop := ∃ l ε2, o = .ok (l, ε2) ∧ wipeE ε2 own = ε ∧ l.map (·.1) = g ∧ allFr l = true
def GivesF (own : List Nat) (ε : EnvT) (p : Bool) (d : D) (o : Out (List (D × Bool) × EnvT)) : Prop := ∃ fl ε2, o = .ok (if p = true then [(d, fl)] else [], ε2) ∧ wipeE ε2 own = ε ∧ (fl || imm d) = true
def GivesS {S : Type} (own : List Nat) (env : S → EnvT) (I : S → Prop) (R : D → Prop) (o : Out (List (D × Bool) × EnvT)) : Prop := ∃ d fl ε2 s', o = .ok ([(d, fl)], ε2) ∧ wipeE ε2 own = env s' ∧ I s' ∧ R d ∧ (fl || imm d) = true
def GivesL {S : Type} (env : S → EnvT) (I : S → Prop) (o : Out Res) : Prop := ∃ s', (o = .ok (.nx (env s')) ∨ o = .ok (.ct (env s'))) ∧ I s'
theorem bind_two {α β : Type} {o : Out α} {f : α → Out β} {b : β} (h : o.bind f = .ok b) : ∃ a, o = .ok a ∧ f a = .ok b := Out.bind_ok h
section
variable {own : List Nat} {tg : Tg} {body : EnvT → Out (List (D × Bool) × EnvT)} {ε : EnvT}
/-- nothing changes from turn to turn -/
theorem turns_map {α : Type} {e : α → D} {xs : List α} (g : α → List D) (h : ∀ x ∈ xs, ∃ ε1 ε2 l, bindTg ε tg (e x) false = .ok ε1 ∧ body ε1 = .ok (l, ε2) ∧ wipeE ε2 own = ε ∧ l.map (·.1) = g x ∧ allFr l = true) :
    ∃ L, turns own tg body (xs.map e) ε = .ok (L, ε) ∧ L.map (·.1) = xs.flatMap g ∧ L.length = (xs.flatMap g).length ∧ allFr L = true := by
  induction xs with
  | nil => exact ⟨[], rfl, rfl, rfl, rfl⟩
  | cons x r ih =>
    obtain ⟨L, e1, e2, _, e3⟩ := ih fun y m => h y (List.mem_cons_of_mem _ m)
    obtain ⟨ε1, ε2, l, b1, b2, b3, b4, b5⟩ := h x List.mem_cons_self
    refine ⟨l ++ L, ?_, ?_, ?_, by rw [allFr_append, b5, e3]; rfl⟩
    · rw [List.map_cons, turns, b1]
      simp only [Out.bind_ok']
      rw [b2]
      simp only [Out.bind_ok', b3, e1]
    · rw [List.map_append, b4, e2]; rfl
    · rw [← List.length_map (as := l ++ L) (f := (·.1)), List.map_append, b4, e2]; rfl
theorem turns_map1 {α : Type} {e : α → D} {xs : List α} {T : Out (List (D × Bool) × EnvT)} (hT : turns own tg body (xs.map e) ε = T) (f : α → D) (h : ∀ x ∈ xs, Gives1 own ε (f x) ((bindTg ε tg (e x) false).bind body)) :
    ∃ L, T = .ok (L, ε) ∧ L.map (·.1) = xs.map f ∧ L.length = xs.length ∧ allFr L = true := by
  obtain ⟨L, e1, e2, e3, e4⟩ := turns_map (own := own) (tg := tg) (body := body) (ε := ε) (e := e) (xs := xs) (fun x => [f x]) fun x m => by
    obtain ⟨fl, ε2, b2, b3, b4⟩ := h x m
    obtain ⟨ε1, b0, b1⟩ := bind_two b2
    exact ⟨ε1, ε2, _, b0, b1, b3, rfl, by rw [allFr, b4]; rfl⟩
  have ef : xs.flatMap (fun x => [f x]) = xs.map f := by
    clear h hT e1 e2 e3
    induction xs with
    | nil => rfl
    | cons x r ih => rw [List.flatMap_cons, ih]; rfl
  exact ⟨L, hT.symm.trans e1, by rw [e2, ef], by rw [e3, ef, List.length_map], e4⟩
theorem turns_mapT {α : Type} {e : α → D} {xs : List α} {T : Out (List (D × Bool) × EnvT)} (hT : turns own tg body (xs.map e) ε = T) (g : α → List D) (h : ∀ x ∈ xs, GivesM own ε (g x) ((bindTg ε tg (e x) false).bind body)) :
    ∃ L, T = .ok (L, ε) ∧ L.map (·.1) = xs.flatMap g ∧ L.length = (xs.flatMap g).length ∧ allFr L = true := by
  obtain ⟨L, e1, e2, e3, e4⟩ := turns_map (own := own) (tg := tg) (body := body) (ε := ε) (e := e) (xs := xs) g fun x m => by
    obtain ⟨l, ε2, b2, b3, b4, b5⟩ := h x m
    obtain ⟨ε1, b0, b1⟩ := bind_two b2
    exact ⟨ε1, ε2, l, b0, b1, b3, b4, b5⟩
  exact ⟨L, hT.symm.trans e1, e2, e3, e4⟩
theorem turns_fil {α : Type} {e : α → D} {xs : List α} {T : Out (List (D × Bool) × EnvT)} (hT : turns own tg body (xs.map e) ε = T) (f : α → D) (p : α → Bool) (h : ∀ x ∈ xs, GivesF own ε (p x) (f x) ((bindTg ε tg (e x) false).bind body)) :
    ∃ L, T = .ok (L, ε) ∧ L.map (·.1) = (xs.filter p).map f ∧ L.length = (xs.filter p).length ∧ allFr L = true := by
  obtain ⟨L, e1, e2, e3, e4⟩ := turns_map (own := own) (tg := tg) (body := body) (ε := ε) (e := e) (xs := xs) (fun x => if p x = true then [f x] else []) fun x m => by
    obtain ⟨fl, ε2, b2, b3, b4⟩ := h x m
    obtain ⟨ε1, b0, b1⟩ := bind_two b2
    refine ⟨ε1, ε2, _, b0, b1, b3, ?_, ?_⟩
    · by_cases c : p x = true
      · rw [if_pos c, if_pos c]; rfl
      · rw [if_neg c, if_neg c]; rfl
    · by_cases c : p x = true
      · rw [if_pos c, allFr, b4]; rfl
      · rw [if_neg c]; rfl
  have ef : xs.flatMap (fun x => if p x = true then [f x] else []) = (xs.filter p).map f := by
    clear h hT e1 e2 e3
    induction xs with
    | nil => rfl
    | cons x r ih =>
      rw [List.flatMap_cons, ih]
      by_cases c : p x = true
      · rw [if_pos c, List.filter_cons_of_pos c]; rfl
      · rw [if_neg c, List.filter_cons_of_neg c]; rfl
  exact ⟨L, hT.symm.trans e1, by rw [e2, ef], by rw [e3, ef, List.length_map], e4⟩
theorem turns_map1D {ds : List D} {T : Out (List (D × Bool) × EnvT)} (hT : turns own tg body ds ε = T) (f : D → D) (h : ∀ x ∈ ds, Gives1 own ε (f x) ((bindTg ε tg x false).bind body)) :
    ∃ L, T = .ok (L, ε) ∧ L.map (·.1) = ds.map f ∧ L.length = ds.length ∧ allFr L = true := turns_map1 (e := id) (xs := ds) (T := T) (by rw [List.map_id]; exact hT) f h
theorem turns_filD {ds : List D} {T : Out (List (D × Bool) × EnvT)} (hT : turns own tg body ds ε = T) (p : D → Bool) (h : ∀ x ∈ ds, GivesF own ε (p x) x ((bindTg ε tg x false).bind body)) :
    ∃ L, T = .ok (L, ε) ∧ L.map (·.1) = ds.filter p ∧ L.length = (ds.filter p).length ∧ allFr L = true := by
  obtain ⟨L, h1, h2, h3, h4⟩ := turns_fil (e := id) (xs := ds) (T := T) (by rw [List.map_id]; exact hT) id p h
  exact ⟨L, h1, by rw [h2, List.map_id], h3, h4⟩
/-- what changes from turn to turn is a state of one's own -/
theorem turns_st {α S : Type} {e : α → D} {xs : List α} (I : S → Prop) (env : S → EnvT) (R : α → D → Prop)
    (h : ∀ x ∈ xs, ∀ s, I s → ∃ ε1 ε2 d f s', bindTg (env s) tg (e x) false = .ok ε1 ∧ body ε1 = .ok ([(d, f)], ε2) ∧ wipeE ε2 own = env s' ∧ I s' ∧ R x d ∧ (f || imm d) = true) (s : S) (hs : I s) :
    ∃ L ds s', turns own tg body (xs.map e) (env s) = .ok (L, env s') ∧ I s' ∧ L.map (·.1) = ds ∧ L.length = xs.length ∧ All2 R xs ds ∧ allFr L = true := by
  induction xs generalizing s with
  | nil => exact ⟨[], [], s, rfl, hs, rfl, rfl, .nil, rfl⟩
  | cons x r ih =>
    obtain ⟨ε1, ε2, d, f, s1, b1, b2, b3, b4, b5, b6⟩ := h x List.mem_cons_self s hs
    obtain ⟨L, ds, s', e1, e2, e3, e5, e6, e7⟩ := ih (fun y m => h y (List.mem_cons_of_mem _ m)) s1 b4
    refine ⟨(d, f) :: L, d :: ds, s', ?_, e2, by rw [List.map_cons, e3], by simp [e5], .cons b5 e6, by rw [allFr, b6, e7]; rfl⟩
    rw [List.map_cons, turns, b1]
    simp only [Out.bind_ok']
    rw [b2]
    simp only [Out.bind_ok', b3, e1]
    rfl
theorem turns_stT {α S : Type} {e : α → D} {xs : List α} {T : Out (List (D × Bool) × EnvT)} (hT : turns own tg body (xs.map e) ε = T) (env : S → EnvT) (s : S) (he : env s = ε) (I : S → Prop) (hs : I s) (R : α → D → Prop)
    (h : ∀ x ∈ xs, ∀ s, I s → GivesS own env I (R x) ((bindTg (env s) tg (e x) false).bind body)) :
    ∃ L ds s', T = .ok (L, env s') ∧ I s' ∧ L.map (·.1) = ds ∧ L.length = xs.length ∧ All2 R xs ds ∧ allFr L = true := by
  obtain ⟨L, ds, s', e1, r⟩ := turns_st (own := own) (tg := tg) (body := body) (e := e) (xs := xs) I env R (fun x m s hs => by
    obtain ⟨d, fl, ε2, s', b2, b3, b4, b5, b6⟩ := h x m s hs
    obtain ⟨ε1, b0, b1⟩ := bind_two b2
    exact ⟨ε1, ε2, d, fl, s', b0, b1, b3, b4, b5, b6⟩) s hs
  exact ⟨L, ds, s', hT.symm.trans (he ▸ e1), r⟩
end
/-! ### loops -/
section
variable {tg : Tg} {body : MS}
theorem forTurns_st {α S : Type} {e : α → D} (env : S → EnvT) (I : List α → S → Prop)
    (h : ∀ x r s, I (x :: r) s → ∃ ε1 s', bindTg (env s) tg (e x) false = .ok ε1 ∧ (body ε1 = .ok (.nx (env s')) ∨ body ε1 = .ok (.ct (env s'))) ∧ I r s') : ∀ (xs : List α) (s : S), I xs s → ∃ s', forTurns tg body (xs.map e) (env s) = .ok (.nx (env s')) ∧ I [] s'
  | [], s, hs => ⟨s, rfl, hs⟩
  | x :: r, s, hs => by
    obtain ⟨ε1, s1, b1, b2, b3⟩ := h x r s hs
    obtain ⟨s', e1, e2⟩ := forTurns_st env I h r s1 b3
    refine ⟨s', ?_, e2⟩
    rw [List.map_cons, forTurns, b1]
    simp only [Out.bind_ok']
    rcases b2 with b2 | b2 <;> rw [b2] <;> exact e1
theorem forTurns_stT {α S : Type} {e : α → D} {xs : List α} {ε : EnvT} {T : Out Res} (hT : forTurns tg body (xs.map e) ε = T) (env : S → EnvT) (s : S) (he : env s = ε) (I : List α → S → Prop) (hs : I xs s)
    (h : ∀ x r s, I (x :: r) s → GivesL env (I r) ((bindTg (env s) tg (e x) false).bind body)) : ∃ s', T = .ok (.nx (env s')) ∧ I [] s' := by
  obtain ⟨s', e1, e2⟩ := forTurns_st (tg := tg) (body := body) (e := e) env I (fun x r s hs => by
    obtain ⟨s', b2, b3⟩ := h x r s hs
    rcases b2 with b2 | b2
    · obtain ⟨ε1, b0, b1⟩ := bind_two b2
      exact ⟨ε1, s', b0, .inl b1, b3⟩
    · obtain ⟨ε1, b0, b1⟩ := bind_two b2
      exact ⟨ε1, s', b0, .inr b1, b3⟩) xs s hs
  exact ⟨s', hT.symm.trans (he ▸ e1), e2⟩
end
end CF
/-! CM1: sorted lists of numbers, the k-th greatest, counting. -/
namespace CM
def srt (ns : List Int) : List Int := ns.mergeSort fun a b => decide (a ≤ b)
def srtD (ns : List Int) : List Int := ns.mergeSort fun a b => decide (b ≤ a)
theorem srt_perm (ns : List Int) : (srt ns).Perm ns := List.mergeSort_perm _ _
theorem srtD_perm (ns : List Int) : (srtD ns).Perm ns := List.mergeSort_perm _ _
theorem srt_pw (ns : List Int) : (srt ns).Pairwise (· ≤ ·) := by
  have := List.pairwise_mergeSort (le := fun a b : Int => decide (a ≤ b)) (fun a b c h1 h2 => by simp only [decide_eq_true_eq] at *; omega) (fun a b => by simp only [Bool.or_eq_true, decide_eq_true_eq]; omega) ns
  exact this.imp fun h => of_decide_eq_true h
theorem srtD_pw (ns : List Int) : (srtD ns).Pairwise (fun a b => b ≤ a) := by
  have := List.pairwise_mergeSort (le := fun a b : Int => decide (b ≤ a)) (fun a b c h1 h2 => by simp only [decide_eq_true_eq] at *; omega) (fun a b => by simp only [Bool.or_eq_true, decide_eq_true_eq]; omega) ns
  exact this.imp fun h => of_decide_eq_true h
theorem srtD_eq (ns : List Int) : srtD ns = (srt ns).reverse :=
  List.Perm.eq_of_pairwise (le := fun a b : Int => b ≤ a) (fun a b _ _ h1 h2 => Int.le_antisymm h2 h1) (srtD_pw ns) (List.pairwise_reverse.mpr (srt_pw ns)) ((srtD_perm ns).trans ((srt_perm ns).symm.trans (List.reverse_perm _).symm))
theorem srt_len (ns : List Int) : (srt ns).length = ns.length := (srt_perm ns).length_eq
theorem srtD_len (ns : List Int) : (srtD ns).length = ns.length := (srtD_perm ns).length_eq
/-- the k-th greatest -/
def kth (ns : List Int) (k : Nat) : Option Int := (srtD ns)[k - 1]?
theorem kth_none {ns : List Int} {k : Nat} (h : ns.length < k) : kth ns k = none := by
  unfold kth
  exact List.getElem?_eq_none (by rw [srtD_len]; omega)
theorem kth_some {ns : List Int} {k : Nat} (h1 : 1 ≤ k) (h : k ≤ ns.length) : ∃ v, kth ns k = some v ∧ v ∈ ns := by
  unfold kth
  have hl : k - 1 < (srtD ns).length := by rw [srtD_len]; omega
  refine ⟨_, List.getElem?_eq_getElem hl, (srtD_perm ns).mem_iff.mp (List.getElem_mem _)⟩
theorem kth_asc {ns : List Int} {k : Nat} (h1 : 1 ≤ k) (h : k ≤ ns.length) : (srt ns)[ns.length - k]? = kth ns k := by
  unfold kth
  rw [srtD_eq, List.getElem?_reverse (by rw [srt_len]; omega), srt_len]
  congr 1
  omega
theorem desc_count {p : Int → Bool} (hp : ∀ a b, p a = true → a ≤ b → p b = true) : ∀ {l : List Int}, l.Pairwise (fun a b => b ≤ a) → ∀ j : Nat, (∃ v, l[j]? = some v ∧ p v = true) ↔ j < (l.filter p).length
  | [], _, j => by simp
  | x :: l, hl, j => by
    obtain ⟨h1, h2⟩ := List.pairwise_cons.mp hl
    by_cases c : p x = true
    · rw [List.filter_cons_of_pos c]
      cases j with
      | zero => simp [c]
      | succ j => rw [List.getElem?_cons_succ, desc_count hp h2 j, List.length_cons]; omega
    · rw [List.filter_cons_of_neg c]
      have none : ∀ v ∈ l, ¬ p v = true := fun v m q => c (hp v x q (h1 v m))
      have e : l.filter p = [] := List.filter_eq_nil_iff.mpr none
      rw [e]
      constructor
      · rintro ⟨v, e1, e2⟩
        cases j with
        | zero => simp at e1; subst e1; exact absurd e2 c
        | succ j => rw [List.getElem?_cons_succ] at e1; exact absurd e2 (none v (List.mem_of_getElem? e1))
      · intro h; simp at h
/-- the k-th greatest is of such a kind exactly if k are -/
theorem kth_count {p : Int → Bool} (hp : ∀ a b, p a = true → a ≤ b → p b = true) {ns : List Int} {k : Nat} (h1 : 1 ≤ k) : (∃ v, kth ns k = some v ∧ p v = true) ↔ k ≤ (ns.filter p).length := by
  unfold kth
  rw [desc_count hp (srtD_pw ns), ((srtD_perm ns).filter p).length_eq]
  omega
theorem filter_filterMap_len {α : Type} (f : α → Option Int) (p : Int → Bool) (q : α → Bool) : ∀ (l : List α), (∀ a ∈ l, q a = true ↔ ∃ v, f a = some v ∧ p v = true) → ((l.filterMap f).filter p).length = (l.filter q).length
  | [], _ => rfl
  | a :: l, h => by
    have ih := filter_filterMap_len f p q l fun b m => h b (List.mem_cons_of_mem _ m)
    have ha := h a List.mem_cons_self
    cases e : f a with
    | none =>
      rw [List.filterMap_cons_none e, List.filter_cons_of_neg (by rw [ha]; rintro ⟨v, e', _⟩; rw [e] at e'; cases e'), ih]
    | some v =>
      rw [List.filterMap_cons_some e]
      by_cases c : p v = true
      · rw [List.filter_cons_of_pos c, List.filter_cons_of_pos (ha.mpr ⟨v, e, c⟩), List.length_cons, List.length_cons, ih]
      · rw [List.filter_cons_of_neg c, List.filter_cons_of_neg (by rw [ha]; rintro ⟨w, e', q'⟩; rw [e] at e'; cases e'; exact c q'), ih]
/-! the keys (0, 0) and (1, v), ascending -/
def kle (a b : Int × Int) : Bool := decide (a.1 < b.1) || (decide (a.1 = b.1) && decide (a.2 ≤ b.2))
theorem kle_iff {a b : Int × Int} : kle a b = true ↔ a.1 < b.1 ∨ (a.1 = b.1 ∧ a.2 ≤ b.2) := by
  unfold kle; simp
def keyO : Option Int → Int × Int
  | none => (0, 0)
  | some v => (1, v)
theorem key_sort (vs : List (Option Int)) : (vs.map keyO).mergeSort kle = List.replicate (vs.length - (vs.filterMap id).length) (0, 0) ++ (srt (vs.filterMap id)).map fun v => (1, v) := by
  refine List.Perm.eq_of_pairwise (le := fun a b => kle a b = true) (fun a b _ _ h1 h2 => ?_) ?_ ?_ ?_
  · rw [kle_iff] at h1 h2
    exact Prod.ext (by omega) (by omega)
  · exact List.pairwise_mergeSort (fun a b c h1 h2 => by rw [kle_iff] at *; omega) (fun a b => by rw [Bool.or_eq_true, kle_iff, kle_iff]; omega) _
  · rw [List.pairwise_append]
    refine ⟨List.pairwise_replicate.mpr (.inr (by decide)), ?_, ?_⟩
    · rw [List.pairwise_map]
      exact (srt_pw _).imp fun h => by rw [kle_iff]; exact .inr ⟨rfl, h⟩
    · intro a ha b hb
      rw [List.eq_of_mem_replicate ha]
      obtain ⟨v, _, rfl⟩ := List.mem_map.mp hb
      rw [kle_iff]; exact .inl (show (0 : Int) < 1 by decide)
  · refine (List.mergeSort_perm _ _).trans ?_
    refine List.Perm.trans ?_ (List.Perm.append_left _ ((srt_perm _).map _).symm)
    induction vs with
    | nil => exact .refl _
    | cons v vs ih =>
      have hle : (vs.filterMap id).length ≤ vs.length := List.length_filterMap_le _ _
      cases v with
      | none =>
        have e : (none :: vs).filterMap id = vs.filterMap id := by simp
        rw [e, List.length_cons, show vs.length + 1 - (vs.filterMap id).length = (vs.length - (vs.filterMap id).length) + 1 by omega, List.replicate_succ, List.map_cons, List.cons_append]
        exact List.Perm.cons _ ih
      | some v =>
        have e : (some v :: vs).filterMap id = v :: vs.filterMap id := by simp
        rw [e, List.length_cons, List.length_cons, show vs.length + 1 - ((vs.filterMap id).length + 1) = vs.length - (vs.filterMap id).length by omega, List.map_cons, List.map_cons]
        exact (List.Perm.cons _ ih).trans List.perm_middle.symm
theorem key_at {vs : List (Option Int)} {k : Nat} (h1 : 1 ≤ k) (h : k ≤ vs.length) : ((vs.map keyO).mergeSort kle)[vs.length - k]? = some (keyO (kth (vs.filterMap id) k)) := by
  rw [key_sort]
  have hle : (vs.filterMap id).length ≤ vs.length := List.length_filterMap_le _ _
  by_cases c : k ≤ (vs.filterMap id).length
  · rw [List.getElem?_append_right (by rw [List.length_replicate]; omega), List.length_replicate, List.getElem?_map, show vs.length - k - (vs.length - (vs.filterMap id).length) = (vs.filterMap id).length - k by omega, kth_asc h1 c]
    obtain ⟨v, e, _⟩ := kth_some h1 c
    rw [e]; rfl
  · rw [List.getElem?_append_left (by rw [List.length_replicate]; omega), List.getElem?_replicate, if_pos (by omega), kth_none (by omega)]; rfl
/-! sums over a lot -/
theorem sum_perm {l m : List Nat} (h : l.Perm m) : l.sum = m.sum := by
  induction h with
  | nil => rfl
  | cons x _ ih => simp [ih]
  | swap x y l => simp; omega
  | trans _ _ h1 h2 => rw [h1, h2]
theorem nodup_perm {α : Type} [DecidableEq α] : ∀ {l m : List α}, l.Nodup → m.Nodup → (∀ a, a ∈ l ↔ a ∈ m) → l.Perm m := fun hl hm h => (List.perm_ext_iff_of_nodup hl hm).mpr h
theorem lot_sum {α : Type} [DecidableEq α] (g : α → Nat) {names lot : List α} (hn : names.Nodup) (hl : lot.Nodup) (hs : ∀ a ∈ lot, a ∈ names) : ((names.filter fun n => decide (n ∈ lot)).map g).sum = (lot.map g).sum := by
  refine sum_perm (List.Perm.map _ (nodup_perm (hn.sublist List.filter_sublist) hl fun a => ?_))
  rw [List.mem_filter, decide_eq_true_eq]
  exact ⟨fun z => z.2, fun z => ⟨hs a z, z⟩⟩
theorem flat_count {α : Type} (rows : α → List Int) (p : Int → Bool) : ∀ (lot : List α), ((lot.flatMap rows).filter p).length = (lot.map fun n => ((rows n).filter p).length).sum
  | [] => rfl
  | a :: l => by rw [List.flatMap_cons, List.filter_append, List.length_append, flat_count rows p l, List.map_cons, List.sum_cons]
theorem perm_map_inv {α β : Type} {f : α → β} {l m : List β} (p : l.Perm m) : ∀ {xs : List α}, m = xs.map f → ∃ ys : List α, l = ys.map f ∧ ys.Perm xs := by
  induction p with
  | nil => intro xs h; exact ⟨[], rfl, by have := List.map_eq_nil_iff.mp h.symm; rw [this]⟩
  | cons x _ ih =>
    intro xs h
    cases xs with
    | nil => cases h
    | cons y ys =>
      rw [List.map_cons] at h
      obtain ⟨rfl, h2⟩ := List.cons.inj h
      obtain ⟨zs, rfl, q⟩ := ih h2
      exact ⟨y :: zs, rfl, .cons y q⟩
  | swap x y l =>
    intro xs h
    match xs, h with
    | [], h => cases h
    | [_], h => cases h
    | a :: b :: ys, h =>
      rw [List.map_cons, List.map_cons] at h
      obtain ⟨rfl, h2⟩ := List.cons.inj h
      obtain ⟨rfl, rfl⟩ := List.cons.inj h2
      exact ⟨b :: a :: ys, rfl, .swap a b ys⟩
  | trans _ _ ih1 ih2 =>
    intro xs h
    obtain ⟨ys, rfl, q⟩ := ih2 h
    obtain ⟨zs, rfl, q'⟩ := ih1 rfl
    exact ⟨zs, rfl, q'.trans q⟩
end CM
/-! CM2: sums over houses. -/
namespace CM
theorem sum_cast {α : Type} (f : α → Nat) : ∀ (l : List α), (l.map fun x => ((f x : Nat) : Int)).sum = (((l.map f).sum : Nat) : Int)
  | [] => rfl
  | a :: l => by rw [List.map_cons, List.sum_cons, sum_cast f l, List.map_cons, List.sum_cons, Int.natCast_add]
theorem zip_self {α β : Type} (g : α → β) : ∀ (l : List α), l.zip (l.map g) = l.map fun x => (x, g x)
  | [] => rfl
  | a :: l => by rw [List.map_cons, List.zip_cons_cons, zip_self g l, List.map_cons]
theorem zip_sum {α : Type} (g : α → Nat) (p : α → Bool) (l : List α) : (((l.zip (l.map fun x => ((g x : Nat) : Int))).filter fun q => p q.1).map (·.2)).sum = ((((l.filter p).map g).sum : Nat) : Int) := by
  rw [zip_self, List.filter_map, List.map_map]
  exact sum_cast g _
theorem house_sum {α N : Type} [DecidableEq N] (nm : α → N) (g : N → Nat) {h : List α} {lot : List N} (hn : (h.map nm).Nodup) (hl : lot.Nodup) (hs : ∀ a ∈ lot, a ∈ h.map nm) : ((h.filter fun s => decide (nm s ∈ lot)).map fun s => g (nm s)).sum = (lot.map g).sum := by
  rw [← lot_sum g hn hl hs, List.filter_map, List.map_map]
  rfl
end CM
/-! CD1: the data of the laws as trees. -/
namespace CF
open PySem PySem.Spec PyProof.Rows L2

/-- a sort: name, least, most -/
abbrev Srt := Str × Nat × Option Nat
def topD : Option Nat → D
  | none => .none
  | some n => .int (n : Nat)
def optD : Option Int → D
  | none => .none
  | some n => .int n
def sortD (s : Srt) : D := .tuple [.str s.1, .int (s.2.1 : Nat), topD s.2.2]
abbrev houseD (h : List Srt) : D := .tuple (h.map sortD)
abbrev intsD (ns : List Int) : D := .tuple (ns.map .int)
abbrev strsD (ns : List Str) : D := .tuple (ns.map .str)
abbrev natsD (ns : List Nat) : D := .tuple (ns.map fun n => .int (n : Nat))
abbrev Tab := List (Str × List Int)
abbrev tableD (t : Tab) : D := .dict (t.map fun p => (.str p.1, intsD p.2))
structure Bag where
  a : Nat
  b : Nat
  c : Nat
  cs : List Nat
  h : cs.length ≤ 63
def bagD (b : Bag) : D := .list [.int (b.a : Nat), .int (b.b : Nat), .int (b.c : Nat), .list (b.cs.map fun n => .int (n : Nat))]

theorem imm_none : imm .none = true := by rw [imm]
theorem imm_bool (b : Bool) : imm (.bool b) = true := by rw [imm]
theorem imm_int (i : Int) : imm (.int i) = true := by rw [imm]
theorem imm_str (s : Str) : imm (.str s) = true := by rw [imm]
theorem imm_tup (xs : List D) : imm (.tuple xs) = immAll xs := by rw [imm]
theorem imm_list (xs : List D) : imm (.list xs) = false := by rw [imm]
theorem imm_dict (xs : List (D × D)) : imm (.dict xs) = false := by rw [imm]
theorem immAll_nil : immAll [] = true := by rw [immAll]
theorem immAll_cons (x : D) (xs : List D) : immAll (x :: xs) = (imm x && immAll xs) := by rw [immAll]
theorem imm_top (o : Option Nat) : imm (topD o) = true := by cases o <;> rw [topD, imm]
theorem imm_opt (o : Option Int) : imm (optD o) = true := by cases o <;> rw [optD, imm]
theorem imm_sort (s : Srt) : imm (sortD s) = true := by simp only [sortD, imm_tup, immAll_cons, imm_str, imm_int, imm_top, immAll_nil, Bool.and_self]
theorem imm_house (h : List Srt) : imm (houseD h) = true := by rw [imm_tup]; exact immAll_map fun s _ => imm_sort s
theorem immAll_ints (ns : List Int) : immAll (ns.map .int) = true := immAll_map fun s _ => imm_int s
theorem immAll_strs (ns : List Str) : immAll (ns.map .str) = true := immAll_map fun s _ => imm_str s
theorem immAll_sorts (ns : List Srt) : immAll (ns.map sortD) = true := immAll_map fun s _ => imm_sort s
theorem imm_ints (ns : List Int) : imm (intsD ns) = true := by rw [imm_tup]; exact immAll_ints ns
theorem imm_strs (ns : List Str) : imm (strsD ns) = true := by rw [imm_tup]; exact immAll_strs ns
theorem imm_nats (ns : List Nat) : imm (natsD ns) = true := by rw [imm_tup]; exact immAll_map fun s _ => imm_int _
theorem imm_bag (b : Bag) : imm (bagD b) = false := by rw [bagD, imm]
theorem imm_table (t : Tab) : imm (tableD t) = false := by rw [imm]

theorem allInt_map (ns : List Int) : allInt (ns.map .int) = some ns := by
  induction ns with
  | nil => rfl
  | cons n r ih => rw [List.map_cons, allInt, ih]; rfl
theorem small_mil {n : Nat} (h : n ≤ 1000000) : small n = true := by unfold small sizeLine; exact decide_eq_true (by omega)
theorem mulOk_r {i j : Int} (h : -(2 ^ 64) < j ∧ j < 2 ^ 64) : mulOk i j = true := by unfold mulOk; rw [decide_eq_true h, Bool.or_true]
theorem mulOk_l {i j : Int} (h : -(2 ^ 64) < i ∧ i < 2 ^ 64) : mulOk i j = true := by unfold mulOk; rw [decide_eq_true h, Bool.true_or]
theorem log_ok {m : Int} (h0 : 0 < m) (h1 : m < 2 ^ 62) : m.natAbs.log2 < 9000 := by
  have hm : m.natAbs ≠ 0 := by omega
  refine (Nat.log2_lt hm).mpr (Nat.lt_of_lt_of_le (show m.natAbs < 2 ^ 62 by omega) (Nat.pow_le_pow_right (by decide) (by decide)))

/-! ### sorting -/
theorem le_int (a b : Int) : W.dataLe false id (.int a) (.int b) = decide (a ≤ b) := by
  show (!W.dataLt (.int b) (.int a)) = _
  rw [W.dataLt_int, ← decide_not]
  exact decide_eq_decide.mpr (by omega)
theorem le_intR (a b : Int) : W.dataLe true id (.int a) (.int b) = decide (b ≤ a) := by
  show (!W.dataLt (.int a) (.int b)) = _
  rw [W.dataLt_int, ← decide_not]
  exact decide_eq_decide.mpr (by omega)
theorem sort_ints (ns : List Int) : (ns.map PyData.int).mergeSort (W.dataLe false id) = (CM.srt ns).map PyData.int := by
  unfold CM.srt
  exact (List.map_mergeSort (f := PyData.int) fun a _ b _ => (le_int a b).symm).symm
theorem sort_intsR (ns : List Int) : (ns.map PyData.int).mergeSort (W.dataLe true id) = (CM.srtD ns).map PyData.int := by
  unfold CM.srtD
  exact (List.map_mergeSort (f := PyData.int) fun a _ b _ => (le_intR a b).symm).symm
theorem depth_int (i : Int) : (PyData.int i).depth = 0 := by rw [PyData.depth]
theorem depth_str (i : Str) : (PyData.str i).depth = 0 := by rw [PyData.depth]
theorem can_ints (ns : List Int) : W.AllAlike (ns.map PyData.int) ∧ W.Sortable (ns.map PyData.int) ∧ ∀ d ∈ ns.map PyData.int, d.depth ≤ 64 := by
  refine ⟨fun d hd e he => ?_, .inr fun d hd => ?_, fun d hd => ?_⟩
  · obtain ⟨a, _, rfl⟩ := List.mem_map.mp hd
    obtain ⟨b, _, rfl⟩ := List.mem_map.mp he
    rw [W.alike]
  · obtain ⟨a, _, rfl⟩ := List.mem_map.mp hd
    exact ⟨nofun, nofun⟩
  · obtain ⟨a, _, rfl⟩ := List.mem_map.mp hd
    rw [depth_int]; decide
theorem can_strs (ns : List Str) : W.AllAlike (ns.map PyData.str) ∧ W.Sortable (ns.map PyData.str) ∧ ∀ d ∈ ns.map PyData.str, d.depth ≤ 64 := by
  refine ⟨fun d hd e he => ?_, .inr fun d hd => ?_, fun d hd => ?_⟩
  · obtain ⟨a, _, rfl⟩ := List.mem_map.mp hd
    obtain ⟨b, _, rfl⟩ := List.mem_map.mp he
    rw [W.alike]
  · obtain ⟨a, _, rfl⟩ := List.mem_map.mp hd
    exact ⟨nofun, nofun⟩
  · obtain ⟨a, _, rfl⟩ := List.mem_map.mp hd
    rw [depth_str]; decide
/-- texts in order: a list with the same members, each as often -/
noncomputable def srtS (ns : List Str) : List Str := ns.mergeSort fun a b => W.dataLe false id (.str a) (.str b)
theorem srtS_perm (ns : List Str) : (srtS ns).Perm ns := List.mergeSort_perm _ _
theorem sort_strs (ns : List Str) : (ns.map PyData.str).mergeSort (W.dataLe false id) = (srtS ns).map PyData.str := by
  unfold srtS
  exact (List.map_mergeSort (f := PyData.str) fun a _ b _ => rfl).symm
/-- the keys of values, none being less -/
def rkD (v : Option Int) : D := match v with
  | none => .tuple [.int 0, .int 0]
  | some v => .tuple [.int 1, .int v]
def pairD (p : Int × Int) : D := .tuple [.int p.1, .int p.2]
theorem rkD_eq (v : Option Int) : rkD v = pairD (CM.keyO v) := by cases v <;> rfl
theorem bltD_sorted {ds : List D} {f : Bool} (h : W.AllAlike ds ∧ W.Sortable ds ∧ ∀ d ∈ ds, d.depth ≤ 64) : bltD .sorted [(.list ds, f)] = .ok (.list (ds.mergeSort (W.dataLe false id)), f || immAll ds) := by
  unfold bltD
  exact if_pos h
theorem bltD_sortedR {ds : List D} {f : Bool} (h : W.AllAlike ds ∧ W.Sortable ds ∧ ∀ d ∈ ds, d.depth ≤ 64) : bltD .sortedR [(.list ds, f)] = .ok (.list (ds.mergeSort (W.dataLe true id)), f || immAll ds) := by
  unfold bltD
  exact if_pos h
theorem bltD_sum {ns : List Int} {f : Bool} : bltD .sum [(.list (ns.map .int), f)] = .ok (.int ns.sum, true) := by
  unfold bltD
  simp only [allInt_map]
end CF
/-! CV2: full applications of the small language's pieces, values of operations. -/
namespace CF
open PySem PySem.Spec PyProof.Rows L2
theorem mNm_ap (i : Nat) (mv : Bool) (ε : EnvT) : mNm i mv ε = (getD ε i).bind fun p => if (mv && p.2) = true then .ok (p.1, true, ε.set i .un) else .ok (p.1, false, ε) := Eq.trans rfl rfl
theorem mC_ap (d : D) (ε : EnvT) : mC d ε = .ok (d, true, ε) := Eq.trans rfl rfl
theorem m2_ap (a b : M) (h : Bool) (f : D → Bool → D → Bool → Out (D × Bool)) (ε : EnvT) : m2 a b h f ε = (a ε).bind fun p => (b p.2.2).bind fun q => (hold h p.1 p.2.1).bind fun _ => (f p.1 p.2.1 q.1 q.2.1).bind fun r => .ok (r.1, r.2, q.2.2) := Eq.trans rfl rfl
theorem m1_ap (a : M) (f : D → Bool → Out (D × Bool)) (ε : EnvT) : m1 a f ε = (a ε).bind fun p => (f p.1 p.2.1).bind fun r => .ok (r.1, r.2, p.2.2) := Eq.trans rfl rfl
theorem mT_ap (a : M) (ε : EnvT) : mT a ε = (a ε).bind fun p => if truthOk p.1 = true then .ok (truD p.1, p.2.2) else .no := Eq.trans rfl rfl
theorem mTb_ap (a : M) (ε : EnvT) : mTb a ε = (a ε).bind fun p => match p.1 with
  | .bool c => .ok (c, p.2.2)
  | _ => .no := Eq.trans rfl rfl
theorem mNot_ap (a : MT) (ε : EnvT) : mNot a ε = (a ε).bind fun p => .ok (!p.1, p.2) := Eq.trans rfl rfl
theorem mAnd_ap (a b : MT) (ε : EnvT) : mAnd a b ε = (a ε).bind fun p => if p.1 = true then b p.2 else .ok (false, p.2) := Eq.trans rfl rfl
theorem mOr_ap (a b : MT) (ε : EnvT) : mOr a b ε = (a ε).bind fun p => if p.1 = true then .ok (true, p.2) else b p.2 := Eq.trans rfl rfl
theorem mB_ap (a : MT) (ε : EnvT) : mB a ε = (a ε).bind fun p => .ok (.bool p.1, true, p.2) := Eq.trans rfl rfl
theorem mIs_ap (a : M) (ng : Bool) (ε : EnvT) : mIs a ng ε = (a ε).bind fun p => .ok (isNone p.1 != ng, p.2.2) := Eq.trans rfl rfl
theorem mIte_ap (t : MT) (a b : M) (ε : EnvT) : mIte t a b ε = (t ε).bind fun p => if p.1 = true then a p.2 else b p.2 := Eq.trans rfl rfl
theorem lNil_ap (ε : EnvT) : lNil ε = .ok ([], ε) := Eq.trans rfl rfl
theorem lCons_ap (a : M) (h : Bool) (r : ML) (ε : EnvT) : lCons a h r ε = (a ε).bind fun p => (r p.2.2).bind fun q => (hold h p.1 p.2.1).bind fun _ => .ok ((p.1, p.2.1) :: q.1, q.2) := Eq.trans rfl rfl
theorem mTup_ap (es : ML) (ε : EnvT) : mTup es ε = (es ε).bind fun p => if small p.1.length = true then .ok (.tuple (p.1.map (·.1)), allFr p.1, p.2) else .no := Eq.trans rfl rfl
theorem mLst_ap (es : ML) (ε : EnvT) : mLst es ε = (es ε).bind fun p => if small p.1.length = true then .ok (.list (p.1.map (·.1)), allFr p.1, p.2) else .no := Eq.trans rfl rfl
theorem mBlt_ap (b : BI) (es : ML) (ε : EnvT) : mBlt b es ε = (es ε).bind fun p => (bltD b p.1).bind fun r => .ok (r.1, r.2, p.2) := Eq.trans rfl rfl
theorem oNo_ap (ε : EnvT) : oNo ε = .ok (none, ε) := Eq.trans rfl rfl
theorem oYes_ap (a : M) (ε : EnvT) : oYes a ε = (a ε).bind fun p => match p.1 with
  | .int i => .ok (some i, p.2.2)
  | _ => .no := Eq.trans rfl rfl
theorem mSl_ap (a : M) (lo hi : MO) (h : Bool) (ε : EnvT) : mSl a lo hi h ε = (a ε).bind fun p => (lo p.2.2).bind fun l => (hi l.2).bind fun u => (hold h p.1 p.2.1).bind fun _ => (slD p.1 p.2.1 l.1 u.1).bind fun r => .ok (r.1, r.2, u.2) := Eq.trans rfl rfl
theorem mScr_ap (i : Nat) (lo hi : Option Int) (ε : EnvT) : mScr i lo hi ε = match ε[i]? with
  | some (.v (.s ns) _) => .ok (.list ((cut ns lo hi).map .int), true, ε)
  | _ => .no := Eq.trans rfl rfl
theorem aNil_ap (ε : EnvT) : aNil ε = .ok ([], ε) := Eq.trans rfl rfl
theorem aRef_ap (i : Nat) (r : MA) (ε : EnvT) : aRef i r ε = if hasV ε i = true then (r ε).bind fun q => .ok (.ref i :: q.1, q.2) else .no := Eq.trans rfl rfl
theorem aVal_ap (a : M) (h : Bool) (r : MA) (ε : EnvT) : aVal a h r ε = (a ε).bind fun p => (r p.2.2).bind fun q => (hold h p.1 p.2.1).bind fun _ => .ok (.val p.1 p.2.1 :: q.1, q.2) := Eq.trans rfl rfl
theorem aTmp_ap (l : ML) (r : MA) (ε : EnvT) : aTmp l r ε = (mLst l ε).bind fun p => match p.1 with
  | .list ds => if immAll ds = true then (r p.2.2).bind fun q => .ok (.tmp p.1 :: q.1, q.2) else .no
  | _ => .no := Eq.trans rfl rfl
theorem mCall_ap (S : FS) (js : List Nat) (as : MA) (ε : EnvT) : mCall S js as ε = (as ε).bind fun p => doCall S js p.1 p.2 := Eq.trans rfl rfl
theorem iEx_ap (a : M) (ε : EnvT) : iEx a ε = (a ε).bind fun p => match p.1 with
  | .list ds => .ok (ds, p.2.1, p.2.2)
  | .tuple ds => .ok (ds, p.2.1 || immAll ds, p.2.2)
  | _ => .no := Eq.trans rfl rfl
theorem iStr_ap (a : M) (ε : EnvT) : iStr a ε = (a ε).bind fun p => match p.1 with
  | .str s => if small s.length = true then .ok (s.cps.toList.map fun c => .str ⟨#[c]⟩, true, p.2.2) else .no
  | _ => .no := Eq.trans rfl rfl
theorem iR1_ap (a : M) (ε : EnvT) : iR1 a ε = (a ε).bind fun p => match p.1 with
  | .int j => if -(2 ^ 62) ≤ j ∧ j < 2 ^ 62 then .ok ((List.range j.toNat).map fun k => .int (k : Nat), true, p.2.2) else .no
  | _ => .no := Eq.trans rfl rfl
theorem iR2_ap (a b : M) (ε : EnvT) : iR2 a b ε = (a ε).bind fun p => (b p.2.2).bind fun q => match p.1, q.1 with
  | .int i, .int j => if -(2 ^ 62) ≤ i ∧ i < 2 ^ 62 ∧ -(2 ^ 62) ≤ j ∧ j < 2 ^ 62 then .ok ((List.range (j - i).toNat).map fun k => .int (i + (k : Nat)), true, q.2.2) else .no
  | _, _ => .no := Eq.trans rfl rfl
theorem iZip_ap (a b : M) (h : Bool) (ε : EnvT) : iZip a b h ε = (a ε).bind fun p => (b p.2.2).bind fun q => (hold h p.1 p.2.1).bind fun _ => match seqOf p.1, seqOf q.1 with
  | some xs, some ys => .ok ((xs.zip ys).map fun z => .tuple [z.1, z.2], (p.2.1 || imm p.1) && (q.2.1 || imm q.1), q.2.2)
  | _, _ => .no := Eq.trans rfl rfl
theorem iEnum_ap (a : M) (ε : EnvT) : iEnum a ε = (a ε).bind fun p => match seqOf p.1 with
  | some xs => .ok (xs.zipIdx.map fun z => .tuple [.int (z.2 : Nat), z.1], p.2.1 || imm p.1, p.2.2)
  | none => .no := Eq.trans rfl rfl
theorem iKeys_ap (i : Nat) (ε : EnvT) : iKeys i ε = match ε[i]? with
  | some (.v (.d (.dict kvs)) _) => .ok (kvs.map (·.1), false, ε)
  | _ => .no := Eq.trans rfl rfl
theorem mKeyLock_ap (i : Nat) (m : M) (ε : EnvT) : mKeyLock i m ε = match ε[i]? with
  | some (.v (.d (.dict kvs)) o) => if kvs.isEmpty = true then .ok (.list [], true, ε) else (noEx (m (ε.set i (.v (.d (.dict kvs)) false)))).bind fun r => .ok (r.1, r.2.1, r.2.2.set i (.v (.d (.dict kvs)) o))
  | _ => .no := Eq.trans rfl rfl
theorem cEnd_ap (elt : M) (h : Bool) (ε : EnvT) : cEnd elt h ε = (elt ε).bind fun p => (hold h p.1 p.2.1).bind fun _ => .ok ([(p.1, p.2.1)], p.2.2) := Eq.trans rfl rfl
theorem cIf_ap (t : MT) (a : ML) (ε : EnvT) : cIf t a ε = (t ε).bind fun p => if p.1 = true then a p.2 else .ok ([], p.2) := Eq.trans rfl rfl
theorem cFor_ap (it : MI) (own : List Nat) (tg : Tg) (h : Bool) (rds : List Nat) (a : ML) (ε : EnvT) : cFor it own tg h rds a ε = (it ε).bind fun p => if (itOk h rds p.1 p.2.1 p.2.2 && own.all (freeSlot p.2.2)) = true then (noEx (turns own tg a p.1 (wipeE p.2.2 own))).bind fun q => .ok (q.1, restE q.2 p.2.2 own) else .no := Eq.trans rfl rfl
theorem mLc_ap (c : ML) (ε : EnvT) : mLc c ε = (c ε).bind fun p => if small p.1.length = true then .ok (.list (p.1.map (·.1)), allFr p.1, p.2) else .no := Eq.trans rfl rfl
theorem mYes_ap (ε : EnvT) : mYes ε = .ok (true, ε) := Eq.trans rfl rfl
theorem sNx_ap (ε : EnvT) : sNx ε = .ok (.nx ε) := Eq.trans rfl rfl
theorem sBrk_ap (ε : EnvT) : sBrk ε = .ok (.brk ε) := Eq.trans rfl rfl
theorem sCt_ap (ε : EnvT) : sCt ε = .ok (.ct ε) := Eq.trans rfl rfl
theorem sSeq_ap (a b : MS) (ε : EnvT) : sSeq a b ε = (a ε).bind fun r => match r with
  | .nx ε' => b ε'
  | r => .ok r := Eq.trans rfl rfl
theorem sRet_ap (m : M) (ε : EnvT) : sRet m ε = (m ε).bind fun p => .ok (.ret p.1 p.2.1 p.2.2) := Eq.trans rfl rfl
theorem sRetN_ap (ε : EnvT) : sRetN ε = .ok (.ret .none true ε) := Eq.trans rfl rfl
theorem sIf_ap (t : MT) (a b : MS) (ε : EnvT) : sIf t a b ε = (t ε).bind fun p => if p.1 = true then a p.2 else b p.2 := Eq.trans rfl rfl
theorem sExp_ap (m : M) (ε : EnvT) : sExp m ε = (m ε).bind fun p => .ok (.nx p.2.2) := Eq.trans rfl rfl
theorem sAsg_ap (tg : Tg) (m : M) (rds : List Nat) (ε : EnvT) : sAsg tg m rds ε = (m ε).bind fun p => (bindTg (if (p.2.1 || imm p.1) = true then p.2.2 else unowns p.2.2 rds) tg p.1 p.2.1).bind fun ε' => .ok (.nx ε') := Eq.trans rfl rfl
theorem sPar_ap (i j : Nat) (l : ML) (ε : EnvT) : sPar i j l ε = (l ε).bind fun p => match p.1 with
  | [(d1, _), (d2, f2)] => if (imm d1 && (imm d2 || f2)) = true then (bindTg p.2 (.nm i) d1 true).bind fun ε1 => (bindTg ε1 (.nm j) d2 true).bind fun ε2 => .ok (.nx ε2) else .no
  | _ => .no := Eq.trans rfl rfl
theorem sAug_ap (i : Nat) (op : BOp) (m : M) (ε : EnvT) : sAug i op m ε = (getD ε i).bind fun a => if isScal a.1 = true then (m ε).bind fun p => (binD op a.1 true p.1 true).bind fun r => (bindTg p.2.2 (.nm i) r.1 true).bind fun ε' => .ok (.nx ε') else .no := Eq.trans rfl rfl
theorem sApp_ap (i : Nat) (m : M) (ε : EnvT) : sApp i m ε = match ownL ε i with
  | none => .no
  | some _ => (m ε).bind fun p => match ownL p.2.2 i with
    | some ds => if (small (ds.length + 1) && (p.2.1 || imm p.1)) = true then .ok (.nx (wrL p.2.2 i (ds ++ [p.1]))) else .no
    | none => .no := Eq.trans rfl rfl
theorem sExt_ap (i : Nat) (m : M) (ε : EnvT) : sExt i m ε = match ownL ε i with
  | none => .no
  | some _ => (m ε).bind fun p => match ownL p.2.2 i, p.1 with
    | some ds, .list es => if (small (ds.length + es.length) && (p.2.1 || immAll es)) = true then .ok (.nx (wrL p.2.2 i (ds ++ es))) else .no
    | _, _ => .no := Eq.trans rfl rfl
theorem sIns_ap (i : Nat) (mk m : M) (ε : EnvT) : sIns i mk m ε = match ownL ε i with
  | none => .no
  | some _ => (mk ε).bind fun k => (m k.2.2).bind fun p => match ownL p.2.2 i, k.1 with
    | some ds, .int j => if (small (ds.length + 1) && (p.2.1 || imm p.1) && decide (0 ≤ j ∧ j < 2 ^ 62)) = true then .ok (.nx (wrL p.2.2 i (ds.take j.toNat ++ [p.1] ++ ds.drop j.toNat))) else .no
    | _, _ => .no := Eq.trans rfl rfl
theorem sSetL_ap (i : Nat) (mk m : M) (ε : EnvT) : sSetL i mk m ε = (m ε).bind fun p => match ownL p.2.2 i with
  | none => .no
  | some _ => (mk p.2.2).bind fun k => match ownL k.2.2 i, k.1 with
    | some ds, .int j => match ixN ds.length j with
      | some n => if (isScal p.1 || (isNone p.1)) = true then .ok (.nx (wrL k.2.2 i (ds.set n p.1))) else .no
      | none => .no
    | _, _ => .no := Eq.trans rfl rfl
theorem sAugL_ap (i : Nat) (mk : M) (op : BOp) (m : M) (ε : EnvT) : sAugL i mk op m ε = match ownL ε i with
  | none => .no
  | some _ => (mk ε).bind fun k => match ownL k.2.2 i, k.1 with
    | some ds, .int j => match ds[j.toNat]? with
      | some (.int x) => if 0 ≤ j ∧ j < 2 ^ 62 then (m k.2.2).bind fun p => match ownL p.2.2 i, p.1 with
        | some ds', .int y => match binD op (.int x) true (.int y) true with
          | .ok (.int z, _) => if j < ds'.length then .ok (.nx (wrL p.2.2 i (ds'.set j.toNat (.int z)))) else .no
          | _ => .no
        | _, _ => .no
        else .no
      | _ => .no
    | _, _ => .no := Eq.trans rfl rfl
theorem sSetD_ap (i : Nat) (mk m : M) (ε : EnvT) : sSetD i mk m ε = (m ε).bind fun p => match ownD p.2.2 i with
  | none => .no
  | some _ => (mk p.2.2).bind fun k => match ownD k.2.2 i with
    | some kvs => if (imm p.1 && keyFits kvs k.1 && small (kvs.length + 1)) = true then .ok (.nx (k.2.2.set i (.v (.d (.dict (dput kvs k.1 p.1))) true))) else .no
    | none => .no := Eq.trans rfl rfl
theorem sFor_ap (it : MI) (tg : Tg) (rds : List Nat) (body : MS) (ε : EnvT) : sFor it tg rds body ε = (it ε).bind fun p => forTurns tg body p.1 (if p.2.1 = true then p.2.2 else unowns p.2.2 rds) := Eq.trans rfl rfl
theorem mBin_ap (op : BOp) (a b : M) (h : Bool) (ε : EnvT) : mBin op a b h ε = (a ε).bind fun p => (b p.2.2).bind fun q => (hold h p.1 p.2.1).bind fun _ => (binD op p.1 p.2.1 q.1 q.2.1).bind fun r => .ok (r.1, r.2, q.2.2) := Eq.trans rfl rfl
theorem mCmp_ap (op : COp) (a b : M) (h : Bool) (ε : EnvT) : mCmp op a b h ε = (a ε).bind fun p => (b p.2.2).bind fun q => (hold h p.1 p.2.1).bind fun _ => (cmpD op p.1 q.1).bind fun r => .ok (.bool r, true, q.2.2) := by
  unfold mCmp m2
  simp only
  congr 1; funext p; congr 1; funext q; congr 1; funext _
  cases cmpD op p.1 q.1 <;> rfl
theorem mIx_ap (a b : M) (h : Bool) (ε : EnvT) : mIx a b h ε = (a ε).bind fun p => (b p.2.2).bind fun q => (hold h p.1 p.2.1).bind fun _ => (ixD p.1 p.2.1 q.1).bind fun r => .ok (r.1, r.2, q.2.2) := Eq.trans rfl rfl
theorem mNeg_ap (a : M) (ε : EnvT) : mNeg a ε = (a ε).bind fun p => (negD p.1).bind fun r => .ok (r.1, r.2, p.2.2) := Eq.trans rfl rfl
theorem mRev_ap (a : M) (ε : EnvT) : mRev a ε = (a ε).bind fun p => (revD p.1 p.2.1).bind fun r => .ok (r.1, r.2, p.2.2) := Eq.trans rfl rfl
theorem mSortSet_ap (a : M) (ε : EnvT) : mSortSet a ε = (a ε).bind fun p => (sortSetD p.1).bind fun r => .ok (r.1, r.2, p.2.2) := Eq.trans rfl rfl
theorem topD_none : topD none = .none := Eq.trans rfl rfl
theorem topD_some (n : Nat) : topD (some n) = .int (n : Nat) := Eq.trans rfl rfl
theorem optD_none : optD none = .none := Eq.trans rfl rfl
theorem optD_some (n : Int) : optD (some n) = .int n := Eq.trans rfl rfl
theorem isn_none : isNone .none = true := Eq.trans rfl rfl
theorem isn_int (i : Int) : isNone (.int i) = false := Eq.trans rfl rfl
theorem isn_str (i : Str) : isNone (.str i) = false := Eq.trans rfl rfl
theorem isn_bool (i : Bool) : isNone (.bool i) = false := Eq.trans rfl rfl
theorem isn_tup (i : List D) : isNone (.tuple i) = false := Eq.trans rfl rfl
theorem isn_list (i : List D) : isNone (.list i) = false := Eq.trans rfl rfl
theorem isn_dict (i : List (D × D)) : isNone (.dict i) = false := Eq.trans rfl rfl
theorem bt_nm (ε : EnvT) (i : Nat) (d : D) (f : Bool) : bindTg ε (.nm i) d f = if i < ε.length then .ok (bindOne ε i d f) else .no := by rw [bindTg]
theorem bt_tup (ε : EnvT) (ts : List Tg) (ds : List D) (f : Bool) : bindTg ε (.tup ts) (.tuple ds) f = bindTgs ε ts ds f := by rw [bindTg]
theorem bts_nil (ε : EnvT) (f : Bool) : bindTgs ε [] [] f = .ok ε := by rw [bindTgs]
theorem bts_cons (ε : EnvT) (t : Tg) (ts : List Tg) (d : D) (ds : List D) (f : Bool) : bindTgs ε (t :: ts) (d :: ds) f = (bindTg ε t d f).bind fun ε1 => bindTgs ε1 ts ds f := by rw [bindTgs]
theorem bo {α β : Type} (a : α) (f : α → Out β) : (Out.ok a).bind f = f a := Eq.trans rfl rfl
theorem bx {α β : Type} (a : Xc) (f : α → Out β) : (Out.ex a).bind f = .ex a := Eq.trans rfl rfl
theorem bn {α β : Type} (f : α → Out β) : (Out.no : Out α).bind f = .no := Eq.trans rfl rfl
theorem gz {α : Type} (a : α) (l : List α) : (a :: l)[0]? = some a := Eq.trans rfl rfl
theorem gs {α : Type} (a : α) (l : List α) (n : Nat) : (a :: l)[n + 1]? = l[n]? := Eq.trans rfl rfl
theorem sz {α : Type} (a b : α) (l : List α) : (a :: l).set 0 b = b :: l := Eq.trans rfl rfl
theorem ss {α : Type} (a b : α) (l : List α) (n : Nat) : (a :: l).set (n + 1) b = a :: l.set n b := Eq.trans rfl rfl
/-! ### values -/
section
variable {i j : Int} {f g : Bool} {xs ys : List D} {d d0 d1 d2 d3 : D} {s t : Str}
theorem v_add : binD .add (.int i) f (.int j) g = .ok (.int (i + j), true) := Eq.trans rfl rfl
theorem v_sub : binD .sub (.int i) f (.int j) g = .ok (.int (i - j), true) := Eq.trans rfl rfl
theorem v_mul (h : mulOk i j = true) : binD .mul (.int i) f (.int j) g = .ok (.int (i * j), true) := if_pos h
theorem v_mulR (h : -(2 ^ 64) < j ∧ j < 2 ^ 64) : binD .mul (.int i) f (.int j) g = .ok (.int (i * j), true) := v_mul (mulOk_r h)
theorem v_mulL (h : -(2 ^ 64) < i ∧ i < 2 ^ 64) : binD .mul (.int i) f (.int j) g = .ok (.int (i * j), true) := v_mul (mulOk_l h)
theorem v_mulM {x y : Int} : binD .mul (.int (x % 1000000007)) f (.int (y % 1000000007)) g = .ok (.int (x % 1000000007 * (y % 1000000007)), true) := v_mulR (by omega)
theorem v_mod (h : 0 < j) : binD .mod (.int i) f (.int j) g = .ok (.int (i % j), true) := if_pos h
theorem v_fdiv (h0 : 0 < j) (h1 : j < 4611686018427387904) : binD .fdiv (.int i) f (.int j) g = .ok (.int (i / j), true) := if_pos ⟨h0, log_ok h0 h1⟩
theorem v_pow (h : 0 ≤ j ∧ j ≤ 1000000 ∧ i.natAbs < 2 ^ 64) : binD .pow (.int i) f (.int j) g = .ok (.int (i ^ j.toNat), true) := if_pos h
theorem v_pow10 (h0 : 0 ≤ j) (h1 : j ≤ 1000000) : binD .pow (.int 10) f (.int j) g = .ok (.int (10 ^ j.toNat), true) := if_pos ⟨h0, h1, by decide⟩
theorem v_addL (h : small (xs.length + ys.length) = true) : binD .add (.list xs) f (.list ys) g = .ok (.list (xs ++ ys), (f || immAll xs) && (g || immAll ys)) := if_pos h
theorem v_addT (h : small (xs.length + ys.length) = true) : binD .add (.tuple xs) f (.tuple ys) g = .ok (.tuple (xs ++ ys), (f || immAll xs) && (g || immAll ys)) := if_pos h
theorem v_neg : negD (.int i) = .ok (.int (-i), true) := Eq.trans rfl rfl
theorem v_eqI : cmpD .eq (.int i) (.int j) = .ok (decide (i = j)) := Eq.trans rfl rfl
theorem v_eqS : cmpD .eq (.str s) (.str t) = .ok (decide (s = t)) := by
  show (Out.ok (deq (.str s) (.str t)) : Out Bool) = _
  rw [deq]
  congr 1
theorem v_lt : cmpD .lt (.int i) (.int j) = .ok (decide (i < j)) := Eq.trans rfl rfl
theorem v_le : cmpD .le (.int i) (.int j) = .ok (decide (i ≤ j)) := Eq.trans rfl rfl
theorem v_gt : cmpD .gt (.int i) (.int j) = .ok (decide (j < i)) := Eq.trans rfl rfl
theorem v_ge : cmpD .ge (.int i) (.int j) = .ok (decide (j ≤ i)) := Eq.trans rfl rfl
theorem atI_nat {α : Type} {xs : List α} {n : Nat} {d : α} (h : xs[n]? = some d) : atI xs (n : Int) = some d := by
  have hl : n < xs.length := (List.getElem?_eq_some_iff.mp h).1
  unfold atI ixN
  rw [if_pos (by omega), if_pos (by omega)]
  exact h
theorem v_ixL {n : Nat} (h : xs[n]? = some d) : ixD (.list xs) f (.int (n : Int)) = .ok (d, f) := by simp only [ixD, atI_nat h]
theorem v_ixT {n : Nat} (h : xs[n]? = some d) : ixD (.tuple xs) f (.int (n : Int)) = .ok (d, f) := by simp only [ixD, atI_nat h]
theorem v_ixLi (h0 : 0 ≤ i) (h : xs[i.toNat]? = some d) : ixD (.list xs) f (.int i) = .ok (d, f) := by
  obtain ⟨n, rfl⟩ := Int.eq_ofNat_of_zero_le h0
  exact v_ixL h
theorem v_l0 : ixD (.list (d0 :: xs)) f (.int 0) = .ok (d0, f) := v_ixL (n := 0) rfl
theorem v_l1 : ixD (.list (d0 :: d1 :: xs)) f (.int 1) = .ok (d1, f) := v_ixL (n := 1) rfl
theorem v_l2 : ixD (.list (d0 :: d1 :: d2 :: xs)) f (.int 2) = .ok (d2, f) := v_ixL (n := 2) rfl
theorem v_l3 : ixD (.list (d0 :: d1 :: d2 :: d3 :: xs)) f (.int 3) = .ok (d3, f) := v_ixL (n := 3) rfl
theorem v_t0 : ixD (.tuple (d0 :: xs)) f (.int 0) = .ok (d0, f) := v_ixT (n := 0) rfl
theorem v_t1 : ixD (.tuple (d0 :: d1 :: xs)) f (.int 1) = .ok (d1, f) := v_ixT (n := 1) rfl
theorem v_t2 : ixD (.tuple (d0 :: d1 :: d2 :: xs)) f (.int 2) = .ok (d2, f) := v_ixT (n := 2) rfl
theorem v_t3 : ixD (.tuple (d0 :: d1 :: d2 :: d3 :: xs)) f (.int 3) = .ok (d3, f) := v_ixT (n := 3) rfl
theorem v_s0 (z : Srt) : ixD (sortD z) f (.int 0) = .ok (.str z.1, f) := v_t0
theorem v_s1 (z : Srt) : ixD (sortD z) f (.int 1) = .ok (.int (z.2.1 : Nat), f) := v_t1
theorem v_s2 (z : Srt) : ixD (sortD z) f (.int 2) = .ok (topD z.2.2, f) := v_t2
theorem v_slL {lo hi : Option Int} : slD (.list xs) f lo hi = .ok (.list (cut xs lo hi), f || immAll xs) := Eq.trans rfl rfl
theorem v_revL : revD (.list xs) f = .ok (.list xs.reverse, f || immAll xs) := Eq.trans rfl rfl
theorem v_lenL : bltD .len [(.list xs, f)] = .ok (.int (xs.length : Nat), true) := Eq.trans rfl rfl
theorem v_lenT : bltD .len [(.tuple xs, f)] = .ok (.int (xs.length : Nat), true) := Eq.trans rfl rfl
theorem v_listL : bltD .list [(.list xs, f)] = .ok (.list xs, f || immAll xs) := Eq.trans rfl rfl
theorem v_listT : bltD .list [(.tuple xs, f)] = .ok (.list xs, f || immAll xs) := Eq.trans rfl rfl
theorem v_tupL : bltD .tuple [(.list xs, f)] = .ok (.tuple xs, f || immAll xs) := Eq.trans rfl rfl
theorem v_tupT : bltD .tuple [(.tuple xs, f)] = .ok (.tuple xs, f || immAll xs) := Eq.trans rfl rfl
theorem v_int : bltD .int [(.int i, f)] = .ok (.int i, true) := Eq.trans rfl rfl
theorem v_abs : bltD .abs [(.int i, f)] = .ok (.int i.natAbs, true) := Eq.trans rfl rfl
theorem v_min : bltD .min [(.int i, f), (.int j, g)] = .ok (.int (if j < i then j else i), true) := Eq.trans rfl rfl
theorem v_max : bltD .max [(.int i, f), (.int j, g)] = .ok (.int (if i < j then j else i), true) := Eq.trans rfl rfl
theorem v_sortI {ns : List Int} : bltD .sorted [(.list (ns.map .int), f)] = .ok (.list ((CM.srt ns).map .int), true) := by
  rw [bltD_sorted (can_ints ns), sort_ints, immAll_ints, Bool.or_true]
theorem v_sortIR {ns : List Int} : bltD .sortedR [(.list (ns.map .int), f)] = .ok (.list ((CM.srtD ns).map .int), true) := by
  rw [bltD_sortedR (can_ints ns), sort_intsR, immAll_ints, Bool.or_true]
theorem v_sortS {ns : List Str} : bltD .sorted [(.list (ns.map .str), f)] = .ok (.list ((srtS ns).map .str), true) := by
  rw [bltD_sorted (can_strs ns), sort_strs, immAll_strs, Bool.or_true]
theorem v_sum {ns : List Int} : bltD .sum [(.list (ns.map .int), f)] = .ok (.int ns.sum, true) := bltD_sum
theorem v_isTop (o : Option Nat) : isNone (topD o) = o.isNone := by cases o <;> rfl
theorem v_isOpt (o : Option Int) : isNone (optD o) = o.isNone := by cases o <;> rfl
end
theorem zipD {α β : Type} (f : α → D) (g : β → D) (xs : List α) (ys : List β) : ((xs.map f).zip (ys.map g)).map (fun z => PyData.tuple [z.1, z.2]) = (xs.zip ys).map fun p => .tuple [f p.1, g p.2] := by
  rw [List.zip_map, List.map_map]
  rfl
/-! ### calls: the arguments are put together -/
theorem call0 {S : FS} {js : List Nat} {as : List Arg} {ε : EnvT} {vs : List Val} {r : FRet} (h : S.io = []) (hn : as.length = S.np) (hv : as.mapM (valAt ε) = some vs) (e : S.run vs = .ok r) : doCall S js as ε = .ok (r.d, r.fr, ε) := by
  unfold doCall
  rw [h, hv]
  simp only [List.mapM_nil, Option.pure_def, ioFits, List.isEmpty_nil, Bool.true_or, Bool.true_and, hn, decide_true, if_true, e, Out.bind_ok', setAll]
/-! a bind whose way on is not looked into before its turn -/
def Tok {α : Type} (_ : α) : Type := Unit
def tok {α : Type} (f : α) : Tok f := ()
def Bk {α β : Type} (o : Out α) (f : α → Out β) (_ : Tok f) : Out β := o.bind f
theorem bk_in {α β : Type} (o : Out α) (f : α → Out β) : o.bind f = Bk o f (tok f) := Eq.trans rfl rfl
theorem bk_o {α β : Type} (a : α) (f : α → Out β) (u : Tok f) : Bk (.ok a) f u = f a := Eq.trans rfl rfl
theorem bk_x {α β : Type} (a : Xc) (f : α → Out β) (u : Tok f) : Bk (.ex a) f u = .ex a := Eq.trans rfl rfl
theorem bk_n {α β : Type} (f : α → Out β) (u : Tok f) : Bk (.no : Out α) f u = .no := Eq.trans rfl rfl
theorem mSortC_ap (c : ML) (ε : EnvT) : mSortC c ε = (c ε).bind fun p => (sortSetD (.list (p.1.map (·.1)))).bind fun r => .ok (r.1, r.2, p.2) := Eq.trans rfl rfl
end CF
/-! CV3: how long what is shown is, and how deep. -/
namespace CF
open PySem PySem.Spec PyProof.Rows L2

theorem slen_app (a b : Str) : (a ++ b).length = a.length + b.length := by
  show (a.cps ++ b.cps).size = _
  rw [Array.size_append]; rfl
theorem join_len {n : Nat} (sep : Str) : ∀ (ts : List Str), (∀ t ∈ ts, t.length ≤ n) → (Str.join sep ts).length ≤ ts.length * (n + sep.length)
  | [], _ => Nat.zero_le _
  | [t], h => by
    have := h t List.mem_cons_self
    show t.length ≤ 1 * (n + sep.length)
    omega
  | t :: u :: r, h => by
    have h1 := h t List.mem_cons_self
    have h2 := join_len sep (u :: r) fun v m => h v (List.mem_cons_of_mem _ m)
    show (t ++ sep ++ Str.join sep (u :: r)).length ≤ _
    rw [slen_app, slen_app, List.length_cons, Nat.add_mul]
    omega
theorem text_len {n : Nat} : ∀ (ts : List Str) (k : Nat) (acc : Str), (∀ t ∈ ts, t.length ≤ n) → (textFrom k acc ts).length ≤ acc.length + ts.length * (n + 2)
  | [], k, acc, _ => by show acc.length ≤ acc.length + 0 * (n + 2); omega
  | t :: r, k, acc, h => by
    have h1 := h t List.mem_cons_self
    have h2 := text_len r (k + 1) (acc ++ (if k > 0 then ", " else "" : String) ++ t) fun v m => h v (List.mem_cons_of_mem _ m)
    show (textFrom (k + 1) (acc ++ (if k > 0 then ", " else "" : String) ++ t) r).length ≤ _
    rw [slen_app, slen_app] at h2
    have h3 : (Str.ofString (if k > 0 then ", " else "" : String)).length ≤ 2 := by split <;> decide
    rw [List.length_cons, Nat.add_mul]
    omega
theorem shownAll_map : ∀ (xs : List D), PyData.shownAll xs = xs.map PyData.shown
  | [] => by rw [PyData.shownAll]; rfl
  | x :: xs => by rw [PyData.shownAll, shownAll_map xs]; rfl
theorem showableAll_iff : ∀ (xs : List D), PyData.showableAll xs = true ↔ ∀ x ∈ xs, PyData.showable x = true
  | [] => by rw [PyData.showableAll]; simp
  | x :: xs => by rw [PyData.showableAll, Bool.and_eq_true, showableAll_iff xs]; simp
theorem depthAll_le {n : Nat} : ∀ (xs : List D), (∀ x ∈ xs, PyData.depth x ≤ n) → PyData.depthAll xs ≤ n
  | [], _ => by rw [PyData.depthAll]; omega
  | x :: xs, h => by
    rw [PyData.depthAll]
    have h1 := h x List.mem_cons_self
    have h2 := depthAll_le xs fun v m => h v (List.mem_cons_of_mem _ m)
    omega
/-- shown by at most n signs, at most m deep -/
structure Nice (n m : Nat) (d : D) : Prop where
  sh : d.showable = true
  ln : d.shown.length ≤ n
  dp : d.depth ≤ m
theorem Nice.le {n m n' m' : Nat} {d : D} (h : Nice n m d) (h1 : n ≤ n') (h2 : m ≤ m') : Nice n' m' d := ⟨h.sh, Nat.le_trans h.ln h1, Nat.le_trans h.dp h2⟩
theorem nice_none : Nice 5 0 .none := ⟨by rw [PyData.showable], by rw [PyData.shown]; decide, by rw [PyData.depth]; decide⟩
theorem nice_bool (b : Bool) : Nice 5 0 (.bool b) := ⟨by rw [PyData.showable], by rw [PyData.shown]; cases b <;> decide, by rw [PyData.depth]; decide⟩
theorem ofs_len (s : String) : (Str.ofString s).length = s.toList.length := by
  simp only [Str.length, Str.ofString_eq_toList, List.size_toArray, List.length_map]
theorem nice_int {i : Int} (h : i.natAbs < 10 ^ 40) : Nice 41 0 (.int i) := by
  refine ⟨?_, ?_, by rw [PyData.depth]; decide⟩
  · rw [PyData.showable, decide_eq_true_eq]
    by_cases c : i.natAbs = 0
    · rw [c]; decide
    · exact (Nat.log2_lt c).mpr (Nat.lt_of_lt_of_le h (Nat.le_trans (show 10 ^ 40 ≤ 2 ^ 200 by decide) (Nat.pow_le_pow_right (by decide) (by decide))))
  · rw [PyData.shown]
    show (Str.ofString (toString i)).length ≤ 41
    rw [ofs_len]
    exact int_text_length_le10 (by decide) h
theorem nice_str {n : Nat} {s : Str} (h : (reprText s).length ≤ n) : Nice n 0 (.str s) := ⟨by rw [PyData.showable], by rw [PyData.shown]; exact h, by rw [PyData.depth]; omega⟩
theorem nice_list {n m : Nat} {xs : List D} (h : ∀ x ∈ xs, Nice n m x) : Nice (xs.length * (n + 2) + 2) (m + 1) (.list xs) := by
  refine ⟨?_, ?_, ?_⟩
  · rw [PyData.showable, showableAll_iff]; exact fun x m => (h x m).sh
  · rw [PyData.shown, shownAll_map]
    unfold listText
    rw [slen_app]
    have := text_len (n := n) (xs.map PyData.shown) 0 "[" fun t mt => by
      obtain ⟨x, mx, rfl⟩ := List.mem_map.mp mt
      exact (h x mx).ln
    rw [List.length_map] at this
    have e1 : (Str.ofString "[").length = 1 := by decide
    have e2 : (Str.ofString "]").length = 1 := by decide
    omega
  · rw [PyData.depth]
    have := depthAll_le xs fun x mx => (h x mx).dp
    omega
theorem nice_tup {n m : Nat} {xs : List D} (h : ∀ x ∈ xs, Nice n m x) : Nice (xs.length * (n + 2) + 3) (m + 1) (.tuple xs) := by
  refine ⟨?_, ?_, ?_⟩
  · rw [PyData.showable, showableAll_iff]; exact fun x m => (h x m).sh
  · rw [PyData.shown, shownAll_map]
    unfold tupleText
    rw [slen_app, slen_app]
    have := join_len (n := n) ", " (xs.map PyData.shown) fun t mt => by
      obtain ⟨x, mx, rfl⟩ := List.mem_map.mp mt
      exact (h x mx).ln
    rw [List.length_map] at this
    have e1 : (Str.ofString "(").length = 1 := by decide
    have e2 : (Str.ofString ", ").length = 2 := by decide
    rw [e2] at this
    have e3 : (Str.ofString (if (xs.map PyData.shown).length == 1 then ",)" else ")" : String)).length ≤ 2 := by split <;> decide
    omega
  · rw [PyData.depth]
    have := depthAll_le xs fun x mx => (h x mx).dp
    omega
theorem nice_dict {n m : Nat} {kvs : List (D × D)} (h : ∀ p ∈ kvs, Nice n m p.1 ∧ Nice n m p.2) : Nice (kvs.length * (2 * n + 4) + 2) (m + 1) (.dict kvs) := by
  have a : ∀ (l : List (D × D)), (∀ p ∈ l, Nice n m p.1 ∧ Nice n m p.2) → PyData.showableKv l = true ∧ (∀ t ∈ PyData.shownKv l, t.length ≤ 2 * n + 2) ∧ (PyData.shownKv l).length = l.length ∧ PyData.depthKv l ≤ m := by
    intro l
    induction l with
    | nil => intro _; exact ⟨by rw [PyData.showableKv], by rw [PyData.shownKv]; exact nofun, by rw [PyData.shownKv]; rfl, by rw [PyData.depthKv]; omega⟩
    | cons p l ih =>
      intro h
      obtain ⟨k, v⟩ := p
      obtain ⟨h1, h2⟩ := h (k, v) List.mem_cons_self
      dsimp only at h1 h2
      obtain ⟨i1, i2, i3, i4⟩ := ih fun q m => h q (List.mem_cons_of_mem _ m)
      refine ⟨by rw [PyData.showableKv, h1.sh, h2.sh, i1]; rfl, ?_, by rw [PyData.shownKv, List.length_cons, i3]; rfl, ?_⟩
      · rw [PyData.shownKv]
        intro t mt
        rcases List.mem_cons.mp mt with rfl | mt
        · rw [slen_app, slen_app]
          have e : (Str.ofString ": ").length = 2 := by decide
          have := h1.ln
          have := h2.ln
          omega
        · exact i2 t mt
      · rw [PyData.depthKv]
        have := h1.dp
        have := h2.dp
        omega
  obtain ⟨a1, a2, a3, a4⟩ := a kvs h
  refine ⟨by rw [PyData.showable]; exact a1, ?_, by rw [PyData.depth]; omega⟩
  rw [PyData.shown]
  unfold dictText
  rw [slen_app, slen_app]
  have := join_len ", " _ a2
  have e1 : (Str.ofString "{").length = 1 := by decide
  have e2 : (Str.ofString ", ").length = 2 := by decide
  have e3 : (Str.ofString "}").length = 1 := by decide
  rw [e2, a3, show 2 * n + 2 + 2 = 2 * n + 4 from rfl] at this
  omega
theorem v_repr {n m : Nat} {d : D} {f : Bool} (h : Nice n m d) (h1 : n ≤ 16000000) (h2 : m ≤ 64) : bltD .repr [(d, f)] = .ok (.str d.shown, true) := by
  have c : (d.showable && small d.shown.length && decide (d.depth ≤ 64)) = true := by
    rw [h.sh, (show small d.shown.length = true from by unfold small sizeLine; exact decide_eq_true (by have := h.ln; omega)), decide_eq_true (Nat.le_trans h.dp h2)]; rfl
  unfold bltD
  exact if_pos c
theorem v_neS {s : Str} : cmpD .ne (.str s) (.str s) = .ok false := by
  show (eqD (.str s) (.str s)).bind (fun c => .ok (!c)) = _
  have := v_eqS (s := s) (t := s)
  rw [decide_eq_true rfl] at this
  have e : eqD (.str s) (.str s) = .ok true := this
  rw [e]; rfl
theorem eq_opt (v : Option Int) : cmpD .eq (optD v) (optD v) = .ok true := by
  cases v with
  | none => show Out.ok (deq .none .none) = _; rw [deq]
  | some v => have := v_eqI (i := v) (j := v); rw [decide_eq_true rfl] at this; exact this
theorem eq_bool (b : Bool) : cmpD .eq (.bool b) (.bool b) = .ok true := by
  show Out.ok (deq (.bool b) (.bool b)) = _; rw [deq]; simp
theorem eqvAll_ints : ∀ (ns : List Int), PyData.eqvAll (ns.map .int) (ns.map .int) = true
  | [] => by rw [List.map_nil, PyData.eqvAll]
  | n :: ns => by rw [List.map_cons, PyData.eqvAll, eqvAll_ints ns, PyData.eqv]; simp
theorem layAll_ints : ∀ (ns : List Int), PyData.canLayAll0 (ns.map .int) = true
  | [] => by rw [List.map_nil, PyData.canLayAll0]
  | n :: ns => by rw [List.map_cons, PyData.canLayAll0, layAll_ints ns, PyData.canLay0]; rfl
theorem depthAll_ints : ∀ (ns : List Int), PyData.depthAll (ns.map .int) = 0
  | [] => by rw [List.map_nil, PyData.depthAll]
  | n :: ns => by rw [List.map_cons, PyData.depthAll, depthAll_ints ns, PyData.depth]; rfl
theorem eq_due (b : Bool) (ns : List Int) : cmpD .eq (.list [.bool b, intsD ns]) (.list [.bool b, intsD ns]) = .ok true := by
  have sh : shapedD (.list [.bool b, intsD ns]) = true := by
    show (PyData.canLay0 (.list [.bool b, intsD ns]) && decide (PyData.depth (.list [.bool b, intsD ns]) ≤ 64)) = true
    simp only [PyData.canLay0, PyData.canLayAll0, layAll_ints, PyData.depth, PyData.depthAll, depthAll_ints, Bool.and_self, Bool.true_and]
    decide
  have ev : PyData.eqv (.list [.bool b, intsD ns]) (.list [.bool b, intsD ns]) = true := by
    simp only [PyData.eqv, PyData.eqvAll, eqvAll_ints, beq_self_eq_true, Bool.and_self]
  have e : ∀ x : D, scalD x x = false → shapedD x = true → PyData.eqv x x = true → eqD x x = .ok true := fun x h1 h2 h3 => by
    unfold eqD
    rw [h1, h2, h3]; rfl
  exact e _ rfl sh ev
end CF
/-! CV4: a thing is equal to itself; first and last of a list of ints. -/
namespace CF
open PySem PySem.Spec PyProof.Rows L2

/-- can be held against itself, at most m deep -/
structure Same (m : Nat) (d : D) : Prop where
  ev : PyData.eqv d d = true
  ly : PyData.canLay0 d = true
  dp : PyData.depth d ≤ m
theorem Same.le {n m : Nat} {d : D} (h : Same n d) (l : n ≤ m) : Same m d := ⟨h.ev, h.ly, Nat.le_trans h.dp l⟩
theorem same_none : Same 0 .none := ⟨by rw [PyData.eqv], by rw [PyData.canLay0], by rw [PyData.depth]; decide⟩
theorem same_int (i : Int) : Same 0 (.int i) := ⟨by rw [PyData.eqv]; simp, by rw [PyData.canLay0], by rw [PyData.depth]; decide⟩
theorem same_bool (i : Bool) : Same 0 (.bool i) := ⟨by rw [PyData.eqv]; simp, by rw [PyData.canLay0], by rw [PyData.depth]; decide⟩
theorem same_str {i : Str} (h : PyData.strOk i = true) : Same 0 (.str i) := ⟨by rw [PyData.eqv]; simp, by rw [PyData.canLay0]; exact h, by rw [PyData.depth]; decide⟩
theorem same_opt (v : Option Int) : Same 0 (optD v) := by
  cases v with
  | none => exact same_none
  | some v => exact same_int v
theorem sameAll {m : Nat} : ∀ {xs : List D}, (∀ x ∈ xs, Same m x) → PyData.eqvAll xs xs = true ∧ PyData.canLayAll0 xs = true ∧ PyData.depthAll xs ≤ m
  | [], _ => ⟨by rw [PyData.eqvAll], by rw [PyData.canLayAll0], by rw [PyData.depthAll]; omega⟩
  | x :: xs, h => by
    obtain ⟨h1, h2, h3⟩ := sameAll (m := m) (xs := xs) fun y my => h y (List.mem_cons_of_mem _ my)
    obtain ⟨k1, k2, k3⟩ := h x List.mem_cons_self
    exact ⟨by rw [PyData.eqvAll, h1, k1]; rfl, by rw [PyData.canLayAll0, h2, k2]; rfl, by rw [PyData.depthAll]; omega⟩
theorem same_list {m : Nat} {xs : List D} (h : ∀ x ∈ xs, Same m x) : Same (m + 1) (.list xs) := by
  obtain ⟨h1, h2, h3⟩ := sameAll h
  exact ⟨by rw [PyData.eqv]; exact h1, by rw [PyData.canLay0]; exact h2, by rw [PyData.depth]; omega⟩
theorem same_tup {m : Nat} {xs : List D} (h : ∀ x ∈ xs, Same m x) : Same (m + 1) (.tuple xs) := by
  obtain ⟨h1, h2, h3⟩ := sameAll h
  exact ⟨by rw [PyData.eqv]; exact h1, by rw [PyData.canLay0]; exact h2, by rw [PyData.depth]; omega⟩
theorem shaped_same {d : D} (h : Same 64 d) : shapedD d = true := by
  show (PyData.canLay0 d && decide (PyData.depth d ≤ 64)) = true
  rw [h.ly, decide_eq_true h.dp]; rfl
theorem eq_same {d : D} (h : Same 64 d) : cmpD .eq d d = .ok true := by
  have key : scalD d d = false → eqD d d = .ok true := fun s => by
    unfold eqD
    rw [s, shaped_same h, h.ev]; rfl
  show eqD d d = _
  cases d with
  | none => exact eq_opt none
  | int i => exact eq_opt (some i)
  | bool b => exact eq_bool b
  | str s =>
    have := v_eqS (s := s) (t := s)
    rw [decide_eq_true rfl] at this
    exact this
  | _ => exact key rfl
theorem same_ints (ns : List Int) : Same 1 (.list (ns.map .int)) := same_list fun x hx => by
  obtain ⟨n, _, rfl⟩ := List.mem_map.mp hx
  exact same_int n
theorem same_intsT (ns : List Int) : Same 1 (.tuple (ns.map .int)) := same_tup fun x hx => by
  obtain ⟨n, _, rfl⟩ := List.mem_map.mp hx
  exact same_int n
theorem v_neNil (ns : List Int) : cmpD .ne (.list (ns.map .int)) (.list []) = .ok (!ns.isEmpty) := by
  have e : eqD (.list (ns.map .int)) (.list []) = .ok ns.isEmpty := by
    have s : scalD (.list (ns.map .int)) (.list []) = false := rfl
    unfold eqD
    rw [s, shaped_same ((same_ints ns).le (by omega)), shaped_same (d := .list []) ((same_ints []).le (by omega))]
    show Out.ok (PyData.eqv (.list (ns.map .int)) (.list [])) = _
    rw [PyData.eqv]
    cases ns with
    | nil => rw [List.map_nil, PyData.eqvAll]; rfl
    | cons n r => rw [List.map_cons, PyData.eqvAll]; rfl
  show (eqD (.list (ns.map .int)) (.list [])).bind (fun c => .ok (!c)) = _
  rw [e]; rfl
theorem v_first {n : Int} {r : List Int} {f : Bool} : ixD (.list ((n :: r).map .int)) f (.int 0) = .ok (.int n, f) := v_ixL (n := 0) rfl
theorem v_last {n : Int} {r : List Int} {f : Bool} : ∃ z, z ∈ n :: r ∧ ixD (.list ((n :: r).map .int)) f (.int (-1)) = .ok (.int z, f) := by
  have hl : (n :: r).length - 1 < (n :: r).length := by simp
  refine ⟨(n :: r)[(n :: r).length - 1], List.getElem_mem hl, ?_⟩
  have e : atI ((n :: r).map PyData.int) (-1) = some (.int ((n :: r)[(n :: r).length - 1])) := by
    unfold atI ixN
    rw [if_neg (by omega), List.length_map, if_pos (by rw [List.length_cons]; omega), Option.bind_some, List.getElem?_map]
    have e2 : (-1 + ((n :: r).length : Int)).toNat = (n :: r).length - 1 := by rw [List.length_cons]; omega
    rw [e2, List.getElem?_eq_getElem hl]; rfl
  simp only [ixD, e]
end CF
/-! PK02: the text in the small language. -/
namespace CF.K02
open PySem CF
/-- _law_bag: 0 script, 1 cell -/
noncomputable def m__law_bag : MS :=
  (sRet (mLst (lCons (mC (.int 0)) false (lCons (mC (.int 1234567891)) false (lCons (mC (.int 0)) false (lCons (mLc (cFor (iEx (mScr 0 none (some 63))) [1] (.nm 1) false [] (cIf mYes (cEnd (mBlt .abs (lCons (mNm 1 false) false lNil)) false)))) false lNil))))))
noncomputable def S__law_bag : FS := ⟨1, [], runDef 2 [] m__law_bag⟩
theorem r__law_bag (x0 : Val) : S__law_bag.run [x0] = (m__law_bag [.v x0 false, .un]).bind (fin []) := run_eqS (n := 2) (io := []) (m := m__law_bag) (np := 1) (by rw [S__law_bag]) rfl
theorem io__law_bag : S__law_bag.io = [] := by rw [S__law_bag]
theorem np__law_bag : S__law_bag.np = 1 := by rw [S__law_bag]
/-- _law_take: 0 bag, 1 many, 2 begin, 3 second, 4 cell, 5 stirred, 6 value -/
noncomputable def m__law_take : MS :=
  (sSeq (sIf (mTb (mCmp .eq (mIx (mNm 0 false) (mC (.int 0)) false) (mC (.int 0)) false)) (sSeq (sAsg (.nm 4) (mIx (mBin .add (mSl (mIx (mNm 0 false) (mC (.int 3)) false) (oYes (mIx (mNm 0 false) (mC (.int 2)) false)) oNo false) (mLst (lCons (mC (.int 0)) false lNil)) false) (mC (.int 0)) false) [0])
    (sSeq (sAugL 0 (mC (.int 2)) .add (mC (.int 1)))
    (sSeq (sIf (mTb (mCmp .ge (mNm 4 false) (mBin .pow (mC (.int 10)) (mC (.int 18)) false) false)) (sSetL 0 (mC (.int 0)) (mNm 4 false)) sNx)
    (sSeq (sAsg (.nm 5) (mBin .add (mBin .add (mBin .mul (mIx (mNm 0 false) (mC (.int 1)) false) (mC (.int 48271)) false) (mBin .mod (mBlt .int (lCons (mNm 4 false) false lNil)) (mC (.int 2147483647)) false) false) (mBin .mul (mC (.int 7919)) (mIx (mNm 0 false) (mC (.int 2)) false) false) false) [0, 4, 0])
    (sSetL 0 (mC (.int 1)) (mBin .mod (mBlt .int (lCons (mNm 5 false) false lNil)) (mC (.int 2147483647)) false)))))) sNx)
    (sSeq (sIf (mTb (mCmp .gt (mIx (mNm 0 false) (mC (.int 0)) false) (mC (.int 0)) false)) (sSeq (sAsg (.nm 6) (mBin .mod (mBlt .int (lCons (mIx (mNm 0 false) (mC (.int 0)) false) false lNil)) (mNm 1 false) false) [0, 1])
    (sSeq (sSetL 0 (mC (.int 0)) (mBin .fdiv (mBlt .int (lCons (mIx (mNm 0 false) (mC (.int 0)) false) false lNil)) (mNm 1 false) false))
    (sRet (mNm 6 true)))) sNx)
    (sSeq (sAsg (.nm 2) (mBin .mod (mBlt .int (lCons (mBin .mul (mBin .add (mIx (mNm 0 false) (mC (.int 1)) false) (mC (.int 1)) false) (mC (.int 39373)) false) false lNil)) (mC (.int 1000000007)) false) [0])
    (sSeq (sAsg (.nm 3) (mBin .mod (mBlt .int (lCons (mBin .mul (mBin .mod (mBlt .int (lCons (mBin .mul (mNm 2 false) (mNm 2 false) false) false lNil)) (mC (.int 998244353)) false) (mC (.int 30011)) false) false lNil)) (mC (.int 998244353)) false) [2, 2])
    (sRet (mBin .mod (mBlt .int (lCons (mBin .fdiv (mNm 3 false) (mC (.int 7)) false) false lNil)) (mNm 1 false) false))))))
noncomputable def S__law_take : FS := ⟨2, [0], runDef 7 [0] m__law_take⟩
theorem r__law_take (x0 x1 : Val) : S__law_take.run [x0, x1] = (m__law_take [.v x0 true, .v x1 false, .un, .un, .un, .un, .un]).bind (fin [0]) := run_eqS (n := 7) (io := [0]) (m := m__law_take) (np := 2) (by rw [S__law_take]) rfl
theorem io__law_take : S__law_take.io = [0] := by rw [S__law_take]
theorem np__law_take : S__law_take.np = 2 := by rw [S__law_take]
/-- _law_one: 0 bag, 1 things -/
noncomputable def m__law_one : MS :=
  (sRet (mIx (mNm 1 false) (mCall S__law_take [0] (aRef 0 (aVal (mBlt .len (lCons (mNm 1 false) false lNil)) false aNil))) false))
noncomputable def S__law_one : FS := ⟨2, [0], runDef 2 [0] m__law_one⟩
theorem r__law_one (x0 x1 : Val) : S__law_one.run [x0, x1] = (m__law_one [.v x0 true, .v x1 false]).bind (fin [0]) := run_eqS (n := 2) (io := [0]) (m := m__law_one) (np := 2) (by rw [S__law_one]) rfl
theorem io__law_one : S__law_one.io = [0] := by rw [S__law_one]
theorem np__law_one : S__law_one.np = 2 := by rw [S__law_one]
/-- _law_sort: 0 bag, 1 name, 2 way, 3 few -/
noncomputable def m__law_sort : MS :=
  (sSeq (sPar 2 3 (lCons (mCall S__law_take [0] (aRef 0 (aVal (mC (.int 7)) false aNil))) true (lCons (mCall S__law_one [0] (aRef 0 (aVal (mLst (lCons (mC (.int 0)) false (lCons (mC (.int 1)) false (lCons (mC (.int 2)) false (lCons (mC (.int 1)) false (lCons (mC (.int 3)) false lNil)))))) false aNil))) false lNil)))
    (sSeq (sIf (mTb (mCmp .lt (mNm 2 false) (mC (.int 3)) false)) (sRet (mTup (lCons (mNm 1 false) false (lCons (mC (.int 1)) false (lCons (mC (.int 1)) false lNil))))) sNx)
    (sSeq (sIf (mTb (mCmp .eq (mNm 2 false) (mC (.int 3)) false)) (sRet (mTup (lCons (mNm 1 false) false (lCons (mNm 3 false) false (lCons (mNm 3 false) false lNil))))) sNx)
    (sSeq (sIf (mTb (mCmp .eq (mNm 2 false) (mC (.int 4)) false)) (sRet (mTup (lCons (mNm 1 false) false (lCons (mC (.int 0)) false (lCons (mBin .add (mC (.int 1)) (mCall S__law_take [0] (aRef 0 (aVal (mC (.int 3)) false aNil))) false) false lNil))))) sNx)
    (sSeq (sIf (mTb (mCmp .eq (mNm 2 false) (mC (.int 5)) false)) (sRet (mTup (lCons (mNm 1 false) false (lCons (mNm 3 false) false (lCons (mBin .add (mNm 3 false) (mCall S__law_one [0] (aRef 0 (aVal (mLst (lCons (mC (.int 1)) false (lCons (mC (.int 2)) false (lCons (mC (.int 0)) false (lCons (mC (.int 6)) false lNil))))) false aNil))) false) false lNil))))) sNx)
    (sRet (mTup (lCons (mNm 1 false) false (lCons (mNm 3 false) false (lCons (mC .none) false lNil))))))))))
noncomputable def S__law_sort : FS := ⟨2, [0], runDef 4 [0] m__law_sort⟩
theorem r__law_sort (x0 x1 : Val) : S__law_sort.run [x0, x1] = (m__law_sort [.v x0 true, .v x1 false, .un, .un]).bind (fin [0]) := run_eqS (n := 4) (io := [0]) (m := m__law_sort) (np := 2) (by rw [S__law_sort]) rfl
theorem io__law_sort : S__law_sort.io = [0] := by rw [S__law_sort]
theorem np__law_sort : S__law_sort.np = 2 := by rw [S__law_sort]
/-- _law_mixed: 0 bag, 1 things, 2 found, 3 thing -/
noncomputable def m__law_mixed : MS :=
  (sSeq (sAsg (.nm 2) (mLst lNil) [])
    (sSeq (sFor (iEx (mNm 1 false)) (.nm 3) [1] (sIns 2 (mCall S__law_take [0] (aRef 0 (aVal (mBin .add (mBlt .len (lCons (mNm 2 false) false lNil)) (mC (.int 1)) false) false aNil))) (mNm 3 false)))
    (sRet (mNm 2 true))))
noncomputable def S__law_mixed : FS := ⟨2, [0], runDef 4 [0] m__law_mixed⟩
theorem r__law_mixed (x0 x1 : Val) : S__law_mixed.run [x0, x1] = (m__law_mixed [.v x0 true, .v x1 false, .un, .un]).bind (fin [0]) := run_eqS (n := 4) (io := [0]) (m := m__law_mixed) (np := 2) (by rw [S__law_mixed]) rfl
theorem io__law_mixed : S__law_mixed.io = [0] := by rw [S__law_mixed]
theorem np__law_mixed : S__law_mixed.np = 2 := by rw [S__law_mixed]
/-- _law_names: 0 bag, 1 many, 2 menu -/
noncomputable def m__law_names : MS :=
  (sSeq (sAsg (.nm 2) (mLst (lCons (mC (.str "a")) false (lCons (mC (.str "b")) false (lCons (mC (.str "c")) false (lCons (mC (.str "ab")) false (lCons (mC (.str "rank")) false (lCons (mC (.str "kth")) false (lCons (mC (.str "open")) false (lCons (mC (.str "sort")) false (lCons (mC (.str "rows")) false (lCons (mC (.str "is")) false (lCons (mC (.str "at")) false (lCons (mC (.str "count")) false (lCons (mC (.str "fact")) false lNil)))))))))))))) [])
    (sSeq (sAsg (.nm 2) (mBin .add (mNm 2 false) (mLst (lCons (mC (.str "zzzzzz")) false (lCons (mC (.str "x")) false (lCons (mC (.str "gym")) false (lCons (mC (.str "jvl")) false lNil))))) false) [2])
    (sRet (mBlt .tuple (lCons (mBlt .sorted (lCons (mSl (mCall S__law_mixed [0] (aRef 0 (aRef 2 aNil))) oNo (oYes (mNm 1 false)) false) false lNil)) false lNil)))))
noncomputable def S__law_names : FS := ⟨2, [0], runDef 3 [0] m__law_names⟩
theorem r__law_names (x0 x1 : Val) : S__law_names.run [x0, x1] = (m__law_names [.v x0 true, .v x1 false, .un]).bind (fin [0]) := run_eqS (n := 3) (io := [0]) (m := m__law_names) (np := 2) (by rw [S__law_names]) rfl
theorem io__law_names : S__law_names.io = [0] := by rw [S__law_names]
theorem np__law_names : S__law_names.np = 2 := by rw [S__law_names]
/-- _law_house: 0 bag, 1 most, 2 name -/
noncomputable def m__law_house : MS :=
  (sRet (mBlt .tuple (lCons (mLc (cFor (iEx (mCall S__law_names [0] (aRef 0 (aVal (mBin .add (mC (.int 1)) (mCall S__law_take [0] (aRef 0 (aRef 1 aNil))) false) false aNil)))) [2] (.nm 2) true [0, 0, 1] (cIf mYes (cEnd (mCall S__law_sort [0] (aRef 0 (aRef 2 aNil))) true)))) false lNil)))
noncomputable def S__law_house : FS := ⟨2, [0], runDef 3 [0] m__law_house⟩
theorem r__law_house (x0 x1 : Val) : S__law_house.run [x0, x1] = (m__law_house [.v x0 true, .v x1 false, .un]).bind (fin [0]) := run_eqS (n := 3) (io := [0]) (m := m__law_house) (np := 2) (by rw [S__law_house]) rfl
theorem io__law_house : S__law_house.io = [0] := by rw [S__law_house]
theorem np__law_house : S__law_house.np = 2 := by rw [S__law_house]
/-- _law_size: 0 bag, 1 sort, 2 more, 3 top -/
noncomputable def m__law_size : MS :=
  (sSeq (sAsg (.nm 3) (mIte (mIs (mIx (mNm 1 false) (mC (.int 2)) false) false) (mBin .add (mIx (mNm 1 false) (mC (.int 1)) false) (mNm 2 false) false) (mBlt .min (lCons (mIx (mNm 1 false) (mC (.int 2)) false) false (lCons (mBin .add (mIx (mNm 1 false) (mC (.int 1)) false) (mNm 2 false) false) false lNil)))) [1, 2, 1, 1, 2])
    (sRet (mBin .add (mIx (mNm 1 false) (mC (.int 1)) false) (mCall S__law_take [0] (aRef 0 (aVal (mBin .add (mBin .sub (mNm 3 false) (mIx (mNm 1 false) (mC (.int 1)) false) false) (mC (.int 1)) false) false aNil))) false)))
noncomputable def S__law_size : FS := ⟨3, [0], runDef 4 [0] m__law_size⟩
theorem r__law_size (x0 x1 x2 : Val) : S__law_size.run [x0, x1, x2] = (m__law_size [.v x0 true, .v x1 false, .v x2 false, .un]).bind (fin [0]) := run_eqS (n := 4) (io := [0]) (m := m__law_size) (np := 3) (by rw [S__law_size]) rfl
theorem io__law_size : S__law_size.io = [0] := by rw [S__law_size]
theorem np__law_size : S__law_size.np = 3 := by rw [S__law_size]
/-- _law_table: 0 bag, 1 house, 2 pool, 3 more, 4 found, 5 sort, 6 row -/
noncomputable def m__law_table : MS :=
  (sSeq (sAsg (.nm 4) (mC (.dict [])) [])
    (sSeq (sFor (iEx (mCall S__law_mixed [0] (aRef 0 (aRef 1 aNil)))) (.nm 5) [0, 1] (sSetD 4 (mIx (mNm 5 false) (mC (.int 0)) false) (mBlt .tuple (lCons (mBlt .sorted (lCons (mLc (cFor (iR1 (mCall S__law_size [0] (aRef 0 (aRef 5 (aRef 3 aNil))))) [6] (.nm 6) true [0, 5, 3] (cIf mYes (cEnd (mCall S__law_one [0] (aRef 0 (aRef 2 aNil))) true)))) false lNil)) false lNil))))
    (sRet (mNm 4 true))))
noncomputable def S__law_table : FS := ⟨4, [0], runDef 7 [0] m__law_table⟩
theorem r__law_table (x0 x1 x2 x3 : Val) : S__law_table.run [x0, x1, x2, x3] = (m__law_table [.v x0 true, .v x1 false, .v x2 false, .v x3 false, .un, .un, .un]).bind (fin [0]) := run_eqS (n := 7) (io := [0]) (m := m__law_table) (np := 4) (by rw [S__law_table]) rfl
theorem io__law_table : S__law_table.io = [0] := by rw [S__law_table]
theorem np__law_table : S__law_table.np = 4 := by rw [S__law_table]
/-- _law_numbers: 0 bag, 1 low, 2 step, 3 place -/
noncomputable def m__law_numbers : MS :=
  (sSeq (sAsg (.tup [(.nm 1), (.nm 2)]) (mTup (lCons (mCall S__law_one [0] (aRef 0 (aVal (mLst (lCons (mC (.int 0)) false (lCons (mNeg (mC (.int 2))) false (lCons (mC (.int 5)) false (lCons (mC (.int 0)) false (lCons (mBin .sub (mC (.int 1)) (mBin .pow (mC (.int 10)) (mC (.int 30)) false) false) false lNil)))))) false aNil))) true (lCons (mCall S__law_one [0] (aRef 0 (aVal (mLst (lCons (mC (.int 1)) false (lCons (mC (.int 2)) false (lCons (mC (.int 1)) false (lCons (mC (.int 3)) false (lCons (mBin .pow (mC (.int 10)) (mC (.int 29)) false) false lNil)))))) false aNil))) false lNil))) [0, 0])
    (sRet (mLc (cFor (iR1 (mBin .add (mC (.int 1)) (mCall S__law_take [0] (aRef 0 (aVal (mC (.int 7)) false aNil))) false)) [3] (.nm 3) true [0] (cIf mYes (cEnd (mBin .add (mNm 1 false) (mBin .mul (mNm 2 false) (mNm 3 false) false) false) true))))))
noncomputable def S__law_numbers : FS := ⟨1, [0], runDef 4 [0] m__law_numbers⟩
theorem r__law_numbers (x0 : Val) : S__law_numbers.run [x0] = (m__law_numbers [.v x0 true, .un, .un, .un]).bind (fin [0]) := run_eqS (n := 4) (io := [0]) (m := m__law_numbers) (np := 1) (by rw [S__law_numbers]) rfl
theorem io__law_numbers : S__law_numbers.io = [0] := by rw [S__law_numbers]
theorem np__law_numbers : S__law_numbers.np = 1 := by rw [S__law_numbers]
/-- _law_lot: 0 bag, 1 house, 2 names, 3 sort -/
noncomputable def m__law_lot : MS :=
  (sSeq (sAsg (.nm 2) (mLc (cFor (iEx (mNm 1 false)) [3] (.nm 3) false [1] (cIf mYes (cEnd (mIx (mNm 3 false) (mC (.int 0)) false) false)))) [1, 3])
    (sRet (mBlt .tuple (lCons (mBlt .sorted (lCons (mSl (mCall S__law_mixed [0] (aRef 0 (aRef 2 aNil))) oNo (oYes (mBin .add (mC (.int 1)) (mCall S__law_take [0] (aRef 0 (aVal (mBlt .len (lCons (mNm 2 false) false lNil)) false aNil))) false)) true) false lNil)) false lNil))))
noncomputable def S__law_lot : FS := ⟨2, [0], runDef 4 [0] m__law_lot⟩
theorem r__law_lot (x0 x1 : Val) : S__law_lot.run [x0, x1] = (m__law_lot [.v x0 true, .v x1 false, .un, .un]).bind (fin [0]) := run_eqS (n := 4) (io := [0]) (m := m__law_lot) (np := 2) (by rw [S__law_lot]) rfl
theorem io__law_lot : S__law_lot.io = [0] := by rw [S__law_lot]
theorem np__law_lot : S__law_lot.np = 2 := by rw [S__law_lot]
/-- _law_rank: 0 bag, 1 house, 2 most -/
noncomputable def m__law_rank : MS :=
  (sRet (mTup (lCons (mC (.str "rank")) false (lCons (mCall S__law_lot [0] (aRef 0 (aRef 1 aNil))) true (lCons (mBin .add (mC (.int 1)) (mCall S__law_one [0] (aRef 0 (aVal (mLst (lCons (mC (.int 0)) false (lCons (mC (.int 0)) false (lCons (mCall S__law_take [0] (aRef 0 (aRef 2 aNil))) false lNil)))) false aNil))) false) false lNil)))))
noncomputable def S__law_rank : FS := ⟨3, [0], runDef 3 [0] m__law_rank⟩
theorem r__law_rank (x0 x1 x2 : Val) : S__law_rank.run [x0, x1, x2] = (m__law_rank [.v x0 true, .v x1 false, .v x2 false]).bind (fin [0]) := run_eqS (n := 3) (io := [0]) (m := m__law_rank) (np := 3) (by rw [S__law_rank]) rfl
theorem io__law_rank : S__law_rank.io = [0] := by rw [S__law_rank]
theorem np__law_rank : S__law_rank.np = 3 := by rw [S__law_rank]
/-- _law_formula: 0 bag, 1 house, 2 deep, 3 most, 4 left, 5 parts, 6 turn -/
noncomputable def m__law_formula (Sf : FS) : MS :=
  (sSeq (sAugL 4 (mC (.int 0)) .sub (mC (.int 1)))
    (sSeq (sIf (mOr (mTb (mCmp .lt (mNm 2 false) (mC (.int 2)) false)) (mOr (mTb (mCmp .lt (mIx (mNm 4 false) (mC (.int 0)) false) (mC (.int 2)) false)) (mTb (mCmp .lt (mCall S__law_take [0] (aRef 0 (aVal (mC (.int 5)) false aNil))) (mC (.int 2)) false)))) (sRet (mCall S__law_rank [0] (aRef 0 (aRef 1 (aRef 3 aNil))))) sNx)
    (sSeq (sAsg (.nm 5) (mLst lNil) [])
    (sSeq (sFor (iR1 (mBin .add (mC (.int 1)) (mCall S__law_one [0] (aRef 0 (aVal (mLst (lCons (mC (.int 1)) false (lCons (mC (.int 1)) false (lCons (mC (.int 0)) false (lCons (mC (.int 2)) false lNil))))) false aNil))) false)) (.nm 6) [0] (sIf (mTb (mCmp .gt (mIx (mNm 4 false) (mC (.int 0)) false) (mC (.int 0)) false)) (sApp 5 (mCall Sf [0, 4] (aRef 0 (aRef 1 (aVal (mBin .sub (mNm 2 false) (mC (.int 1)) false) false (aRef 3 (aRef 4 aNil))))))) sNx))
    (sRet (mTup (lCons (mC (.str "kth")) false (lCons (mCall S__law_one [0] (aRef 0 (aVal (mLst (lCons (mC (.int 1)) false (lCons (mBlt .len (lCons (mNm 5 false) false lNil)) false (lCons (mBin .add (mC (.int 1)) (mCall S__law_take [0] (aRef 0 (aVal (mBlt .len (lCons (mNm 5 false) false lNil)) false aNil))) false) false lNil)))) false aNil))) false (lCons (mBlt .tuple (lCons (mNm 5 false) false lNil)) false lNil)))))))))
noncomputable def S__law_formula : Nat → FS
  | 0 => ⟨5, [0, 4], fun _ => .no⟩
  | n + 1 => ⟨5, [0, 4], runDef 7 [0, 4] (m__law_formula (S__law_formula n))⟩
theorem r__law_formula (n : Nat) (x0 x1 x2 x3 x4 : Val) : (S__law_formula (n + 1)).run [x0, x1, x2, x3, x4] = (m__law_formula (S__law_formula n) [.v x0 true, .v x1 false, .v x2 false, .v x3 false, .v x4 true, .un, .un]).bind (fin [0, 4]) := run_eqS (n := 7) (io := [0, 4]) (m := m__law_formula (S__law_formula n)) (np := 5) (by rw [S__law_formula]) rfl
theorem io__law_formula (n : Nat) : (S__law_formula n).io = [0, 4] := by cases n <;> rw [S__law_formula]
theorem np__law_formula (n : Nat) : (S__law_formula n).np = 5 := by cases n <;> rw [S__law_formula]
/-- _law_any_formula: 0 bag, 1 house -/
noncomputable def m__law_any_formula : MS :=
  (sRet (mCall (S__law_formula 12) [0] (aRef 0 (aRef 1 (aVal (mCall S__law_one [0] (aRef 0 (aVal (mLst (lCons (mC (.int 1)) false (lCons (mC (.int 2)) false (lCons (mC (.int 2)) false (lCons (mC (.int 3)) false (lCons (mC (.int 4)) false lNil)))))) false aNil))) true (aVal (mCall S__law_one [0] (aRef 0 (aVal (mLst (lCons (mC (.int 2)) false (lCons (mC (.int 3)) false (lCons (mC (.int 2)) false (lCons (mC (.int 9)) false lNil))))) false aNil))) false (aTmp (lCons (mC (.int 12)) false lNil) aNil)))))))
noncomputable def S__law_any_formula : FS := ⟨2, [0], runDef 2 [0] m__law_any_formula⟩
theorem r__law_any_formula (x0 x1 : Val) : S__law_any_formula.run [x0, x1] = (m__law_any_formula [.v x0 true, .v x1 false]).bind (fin [0]) := run_eqS (n := 2) (io := [0]) (m := m__law_any_formula) (np := 2) (by rw [S__law_any_formula]) rfl
theorem io__law_any_formula : S__law_any_formula.io = [0] := by rw [S__law_any_formula]
theorem np__law_any_formula : S__law_any_formula.np = 2 := by rw [S__law_any_formula]
/-- all_numbers: 0 table, 1 name, 2 number -/
noncomputable def m_all_numbers : MS :=
  (sRet (mKeyLock 0 (mSortC (cFor (iKeys 0) [1, 2] (.nm 1) false [0] (cIf mYes (cFor (iEx (mIx (mNm 0 false) (mNm 1 false) false)) [2] (.nm 2) false [0, 1] (cIf mYes (cEnd (mNm 2 false) false))))))))
noncomputable def S_all_numbers : FS := ⟨1, [], runDef 3 [] m_all_numbers⟩
theorem r_all_numbers (x0 : Val) : S_all_numbers.run [x0] = (m_all_numbers [.v x0 false, .un, .un]).bind (fin []) := run_eqS (n := 3) (io := []) (m := m_all_numbers) (np := 1) (by rw [S_all_numbers]) rfl
theorem io_all_numbers : S_all_numbers.io = [] := by rw [S_all_numbers]
theorem np_all_numbers : S_all_numbers.np = 1 := by rw [S_all_numbers]
/-- _law_flat: 0 rows, 1 found, 2 row -/
noncomputable def m__law_flat : MS :=
  (sSeq (sAsg (.nm 1) (mLst lNil) [])
    (sSeq (sFor (iEx (mNm 0 false)) (.nm 2) [0] (sExt 1 (mNm 2 false)))
    (sRet (mNm 1 true))))
noncomputable def S__law_flat : FS := ⟨1, [], runDef 3 [] m__law_flat⟩
theorem r__law_flat (x0 : Val) : S__law_flat.run [x0] = (m__law_flat [.v x0 false, .un, .un]).bind (fin []) := run_eqS (n := 3) (io := []) (m := m__law_flat) (np := 1) (by rw [S__law_flat]) rfl
theorem io__law_flat : S__law_flat.io = [] := by rw [S__law_flat]
theorem np__law_flat : S__law_flat.np = 1 := by rw [S__law_flat]
/-- _law_known: 0 table, 1 name -/
noncomputable def m__law_known : MS :=
  (sRet (mSortSet (mCall S__law_flat [] (aVal (mKeyLock 0 (mLc (cFor (iKeys 0) [1] (.nm 1) false [0] (cIf mYes (cEnd (mBlt .list (lCons (mIx (mNm 0 false) (mNm 1 false) false) false lNil)) false))))) false aNil))))
noncomputable def S__law_known : FS := ⟨1, [], runDef 2 [] m__law_known⟩
theorem r__law_known (x0 : Val) : S__law_known.run [x0] = (m__law_known [.v x0 false, .un]).bind (fin []) := run_eqS (n := 2) (io := []) (m := m__law_known) (np := 1) (by rw [S__law_known]) rfl
theorem io__law_known : S__law_known.io = [] := by rw [S__law_known]
theorem np__law_known : S__law_known.np = 1 := by rw [S__law_known]
/-- _law_key: 0 value -/
noncomputable def m__law_key : MS :=
  (sRet (mIte (mIs (mNm 0 false) false) (mTup (lCons (mC (.int 0)) false (lCons (mC (.int 0)) false lNil))) (mTup (lCons (mC (.int 1)) false (lCons (mNm 0 false) false lNil)))))
noncomputable def S__law_key : FS := ⟨1, [], runDef 1 [] m__law_key⟩
theorem r__law_key (x0 : Val) : S__law_key.run [x0] = (m__law_key [.v x0 false]).bind (fin []) := run_eqS (n := 1) (io := []) (m := m__law_key) (np := 1) (by rw [S__law_key]) rfl
theorem io__law_key : S__law_key.io = [] := by rw [S__law_key]
theorem np__law_key : S__law_key.np = 1 := by rw [S__law_key]
/-- _law_value: 0 table, 1 formula, 2 keys, 3 key, 4 rows, 5 part, 6 name -/
noncomputable def m__law_value (Sf : FS) : MS :=
  (sSeq (sIf (mTb (mCmp .eq (mIx (mNm 1 false) (mC (.int 0)) false) (mC (.str "rank")) false)) (sSeq (sAsg (.nm 4) (mBlt .sorted (lCons (mCall S__law_flat [] (aVal (mLc (cFor (iEx (mIx (mNm 1 false) (mC (.int 1)) false)) [6] (.nm 6) false [1] (cIf mYes (cEnd (mBlt .list (lCons (mIx (mNm 0 false) (mNm 6 false) false) false lNil)) false)))) false aNil)) false lNil)) [0, 1, 6])
    (sRet (mIte (mTb (mCmp .ge (mBlt .len (lCons (mNm 4 false) false lNil)) (mIx (mNm 1 false) (mC (.int 2)) false) false)) (mIx (mNm 4 false) (mBin .sub (mBlt .len (lCons (mNm 4 false) false lNil)) (mIx (mNm 1 false) (mC (.int 2)) false) false) false) (mC .none)))) sNx)
    (sSeq (sAsg (.nm 2) (mBlt .sorted (lCons (mLc (cFor (iEx (mIx (mNm 1 false) (mC (.int 2)) false)) [5] (.nm 5) false [1] (cIf mYes (cEnd (mCall S__law_key [] (aVal (mCall Sf [] (aRef 0 (aRef 5 aNil))) false aNil)) false)))) false lNil)) [0, 1, 5])
    (sSeq (sAsg (.nm 3) (mIx (mNm 2 false) (mBin .sub (mBlt .len (lCons (mNm 2 false) false lNil)) (mIx (mNm 1 false) (mC (.int 1)) false) false) false) [2, 2, 1])
    (sRet (mIte (mTb (mCmp .eq (mIx (mNm 3 false) (mC (.int 0)) false) (mC (.int 0)) false)) (mC .none) (mIx (mNm 3 false) (mC (.int 1)) false))))))
noncomputable def S__law_value : Nat → FS
  | 0 => ⟨2, [], fun _ => .no⟩
  | n + 1 => ⟨2, [], runDef 7 [] (m__law_value (S__law_value n))⟩
theorem r__law_value (n : Nat) (x0 x1 : Val) : (S__law_value (n + 1)).run [x0, x1] = (m__law_value (S__law_value n) [.v x0 false, .v x1 false, .un, .un, .un, .un, .un]).bind (fin []) := run_eqS (n := 7) (io := []) (m := m__law_value (S__law_value n)) (np := 2) (by rw [S__law_value]) rfl
theorem io__law_value (n : Nat) : (S__law_value n).io = [] := by cases n <;> rw [S__law_value]
theorem np__law_value (n : Nat) : (S__law_value n).np = 2 := by cases n <;> rw [S__law_value]
/-- _law_alike: 0 found, 1 due -/
noncomputable def m__law_alike : MS :=
  (sRet (mB (mAnd (mTb (mCmp .eq (mNm 0 false) (mNm 1 false) false)) (mTb (mCmp .eq (mBlt .repr (lCons (mNm 0 false) false lNil)) (mBlt .repr (lCons (mNm 1 false) false lNil)) false)))))
noncomputable def S__law_alike : FS := ⟨2, [], runDef 2 [] m__law_alike⟩
theorem r__law_alike (x0 x1 : Val) : S__law_alike.run [x0, x1] = (m__law_alike [.v x0 false, .v x1 false]).bind (fin []) := run_eqS (n := 2) (io := []) (m := m__law_alike) (np := 2) (by rw [S__law_alike]) rfl
theorem io__law_alike : S__law_alike.io = [] := by rw [S__law_alike]
theorem np__law_alike : S__law_alike.np = 2 := by rw [S__law_alike]
/-- count_at_least: 0 house, 1 table, 2 lot, 3 number, 4 name, 5 told -/
noncomputable def m_count_at_least : MS :=
  (sRet (mBlt .len (lCons (mLc (cFor (iEx (mNm 2 false)) [4, 5] (.nm 4) false [2] (cIf mYes (cFor (iEx (mIx (mNm 1 false) (mNm 4 false) false)) [5] (.nm 5) false [1, 4] (cIf (mTb (mCmp .ge (mNm 5 false) (mNm 3 false) false)) (cEnd (mC (.int 1)) false)))))) false lNil)))
noncomputable def S_count_at_least : FS := ⟨4, [], runDef 6 [] m_count_at_least⟩
theorem r_count_at_least (x0 x1 x2 x3 : Val) : S_count_at_least.run [x0, x1, x2, x3] = (m_count_at_least [.v x0 false, .v x1 false, .v x2 false, .v x3 false, .un, .un]).bind (fin []) := run_eqS (n := 6) (io := []) (m := m_count_at_least) (np := 4) (by rw [S_count_at_least]) rfl
theorem io_count_at_least : S_count_at_least.io = [] := by rw [S_count_at_least]
theorem np_count_at_least : S_count_at_least.np = 4 := by rw [S_count_at_least]
/-- _law_count: 0 table, 1 lot, 2 number, 3 row, 4 name -/
noncomputable def m__law_count : MS :=
  (sRet (mBlt .len (lCons (mLc (cFor (iEx (mCall S__law_flat [] (aVal (mLc (cFor (iEx (mNm 1 false)) [4] (.nm 4) false [1] (cIf mYes (cEnd (mBlt .list (lCons (mIx (mNm 0 false) (mNm 4 false) false) false lNil)) false)))) false aNil))) [3] (.nm 3) false [0, 1, 4] (cIf (mTb (mCmp .ge (mNm 3 false) (mNm 2 false) false)) (cEnd (mNm 3 false) false)))) false lNil)))
noncomputable def S__law_count : FS := ⟨3, [], runDef 5 [] m__law_count⟩
theorem r__law_count (x0 x1 x2 : Val) : S__law_count.run [x0, x1, x2] = (m__law_count [.v x0 false, .v x1 false, .v x2 false, .un, .un]).bind (fin []) := run_eqS (n := 5) (io := []) (m := m__law_count) (np := 3) (by rw [S__law_count]) rfl
theorem io__law_count : S__law_count.io = [] := by rw [S__law_count]
theorem np__law_count : S__law_count.np = 3 := by rw [S__law_count]
/-- sizes_of: 0 house, 1 table, 2 sort -/
noncomputable def m_sizes_of : MS :=
  (sRet (mBlt .tuple (lCons (mLc (cFor (iEx (mNm 0 false)) [2] (.nm 2) false [0] (cIf mYes (cEnd (mBlt .len (lCons (mIx (mNm 1 false) (mIx (mNm 2 false) (mC (.int 0)) false) false) false lNil)) false)))) false lNil)))
noncomputable def S_sizes_of : FS := ⟨2, [], runDef 3 [] m_sizes_of⟩
theorem r_sizes_of (x0 x1 : Val) : S_sizes_of.run [x0, x1] = (m_sizes_of [.v x0 false, .v x1 false, .un]).bind (fin []) := run_eqS (n := 3) (io := []) (m := m_sizes_of) (np := 2) (by rw [S_sizes_of]) rfl
theorem io_sizes_of : S_sizes_of.io = [] := by rw [S_sizes_of]
theorem np_sizes_of : S_sizes_of.np = 2 := by rw [S_sizes_of]
/-- _law_sizes: 0 house, 1 table, 2 sort -/
noncomputable def m__law_sizes : MS :=
  (sRet (mBlt .tuple (lCons (mLc (cFor (iEx (mNm 0 false)) [2] (.nm 2) false [0] (cIf mYes (cEnd (mBlt .len (lCons (mIx (mNm 1 false) (mIx (mNm 2 false) (mC (.int 0)) false) false) false lNil)) false)))) false lNil)))
noncomputable def S__law_sizes : FS := ⟨2, [], runDef 3 [] m__law_sizes⟩
theorem r__law_sizes (x0 x1 : Val) : S__law_sizes.run [x0, x1] = (m__law_sizes [.v x0 false, .v x1 false, .un]).bind (fin []) := run_eqS (n := 3) (io := []) (m := m__law_sizes) (np := 2) (by rw [S__law_sizes]) rfl
theorem io__law_sizes : S__law_sizes.io = [] := by rw [S__law_sizes]
theorem np__law_sizes : S__law_sizes.np = 2 := by rw [S__law_sizes]
/-- kth_greatest: 0 values, 1 k, 2 integers, 3 value -/
noncomputable def m_kth_greatest : MS :=
  (sSeq (sAsg (.nm 2) (mBlt .sortedR (lCons (mLc (cFor (iEx (mNm 0 false)) [3] (.nm 3) false [0] (cIf (mIs (mNm 3 false) true) (cEnd (mNm 3 false) false)))) false lNil)) [0, 3])
    (sRet (mIte (mTb (mCmp .le (mNm 1 false) (mBlt .len (lCons (mNm 2 false) false lNil)) false)) (mIx (mNm 2 false) (mBin .sub (mNm 1 false) (mC (.int 1)) false) false) (mC .none))))
noncomputable def S_kth_greatest : FS := ⟨2, [], runDef 4 [] m_kth_greatest⟩
theorem r_kth_greatest (x0 x1 : Val) : S_kth_greatest.run [x0, x1] = (m_kth_greatest [.v x0 false, .v x1 false, .un, .un]).bind (fin []) := run_eqS (n := 4) (io := []) (m := m_kth_greatest) (np := 2) (by rw [S_kth_greatest]) rfl
theorem io_kth_greatest : S_kth_greatest.io = [] := by rw [S_kth_greatest]
theorem np_kth_greatest : S_kth_greatest.np = 2 := by rw [S_kth_greatest]
/-- value_of: 0 house, 1 table, 2 formula, 3 _, 4 k, 5 formulas, 6 lot, 7 part, 8 name, 9 number -/
noncomputable def m_value_of (Sf : FS) : MS :=
  (sSeq (sIf (mTb (mCmp .eq (mIx (mNm 2 false) (mC (.int 0)) false) (mC (.str "rank")) false)) (sSeq (sAsg (.tup [(.nm 3), (.nm 6), (.nm 4)]) (mNm 2 false) [2])
    (sRet (mCall S_kth_greatest [] (aVal (mLc (cFor (iEx (mNm 6 false)) [8, 9] (.nm 8) false [6] (cIf mYes (cFor (iEx (mIx (mNm 1 false) (mNm 8 false) false)) [9] (.nm 9) false [1, 8] (cIf mYes (cEnd (mNm 9 false) false)))))) false (aRef 4 aNil))))) sNx)
    (sSeq (sAsg (.tup [(.nm 3), (.nm 4), (.nm 5)]) (mNm 2 false) [2])
    (sRet (mCall S_kth_greatest [] (aVal (mLc (cFor (iEx (mNm 5 false)) [7] (.nm 7) false [5] (cIf mYes (cEnd (mCall Sf [] (aRef 0 (aRef 1 (aRef 7 aNil)))) false)))) false (aRef 4 aNil))))))
noncomputable def S_value_of : Nat → FS
  | 0 => ⟨3, [], fun _ => .no⟩
  | n + 1 => ⟨3, [], runDef 10 [] (m_value_of (S_value_of n))⟩
theorem r_value_of (n : Nat) (x0 x1 x2 : Val) : (S_value_of (n + 1)).run [x0, x1, x2] = (m_value_of (S_value_of n) [.v x0 false, .v x1 false, .v x2 false, .un, .un, .un, .un, .un, .un, .un]).bind (fin []) := run_eqS (n := 10) (io := []) (m := m_value_of (S_value_of n)) (np := 3) (by rw [S_value_of]) rfl
theorem io_value_of (n : Nat) : (S_value_of n).io = [] := by cases n <;> rw [S_value_of]
theorem np_value_of (n : Nat) : (S_value_of n).np = 3 := by cases n <;> rw [S_value_of]
/-- _law_table_right: 0 bag, 1 house, 2 table, 3 formulas, 4 due, 5 again, 6 number, 7 numbers, 8 said, 9 known, 10 lot, 11 formula -/
noncomputable def m__law_table_right : MS :=
  (sSeq (sPar 8 9 (lCons (mBlt .repr (lCons (mTup (lCons (mNm 1 false) false (lCons (mNm 2 false) false (lCons (mNm 3 false) false lNil)))) false lNil)) false (lCons (mCall S__law_known [] (aRef 2 aNil)) false lNil)))
    (sSeq (sAsg (.nm 4) (mLc (cFor (iEx (mNm 3 false)) [11] (.nm 11) false [3] (cIf mYes (cEnd (mCall (S__law_value 12) [] (aRef 2 (aRef 11 aNil))) false)))) [2, 3, 11])
    (sSeq (sFor (iR1 (mC (.int 2))) (.nm 5) [] (sIf (mNot (mTb (mCall S__law_alike [] (aVal (mLc (cFor (iEx (mNm 3 false)) [11] (.nm 11) false [3] (cIf mYes (cEnd (mCall (S_value_of 12) [] (aRef 1 (aRef 2 (aRef 11 aNil)))) false)))) false (aRef 4 aNil))))) (sRet (mC (.bool false))) sNx))
    (sSeq (sFor (iEx (mIte (mTb (mCmp .ne (mNm 9 false) (mLst lNil) false)) (mBin .add (mNm 9 false) (mLst (lCons (mBin .sub (mIx (mNm 9 false) (mC (.int 0)) false) (mC (.int 1)) false) false (lCons (mBin .add (mIx (mNm 9 false) (mNeg (mC (.int 1))) false) (mC (.int 1)) false) false lNil))) false) (mLst (lCons (mC (.int 0)) false (lCons (mNeg (mC (.int 5))) false lNil))))) (.nm 6) [9, 9, 9] (sSeq (sAsg (.nm 10) (mCall S__law_lot [0] (aRef 0 (aRef 1 aNil))) [0, 1])
    (sIf (mNot (mTb (mCall S__law_alike [] (aVal (mCall S_count_at_least [] (aRef 1 (aRef 2 (aRef 10 (aRef 6 aNil))))) false (aVal (mCall S__law_count [] (aRef 2 (aRef 10 (aRef 6 aNil)))) false aNil))))) (sRet (mC (.bool false))) sNx)))
    (sSeq (sAsg (.nm 7) (mCall S_all_numbers [] (aRef 2 aNil)) [2])
    (sSeq (sIf (mNot (mTb (mCall S__law_alike [] (aVal (mLst (lCons (mCall S_sizes_of [] (aRef 1 (aRef 2 aNil))) false (lCons (mNm 7 false) false lNil))) false (aVal (mLst (lCons (mCall S__law_sizes [] (aRef 1 (aRef 2 aNil))) false (lCons (mNm 9 false) false lNil))) false aNil))))) (sRet (mC (.bool false))) sNx)
    (sSeq (sApp 7 (mC .none))
    (sRet (mB (mAnd (mTb (mCall S__law_alike [] (aVal (mCall S_all_numbers [] (aRef 2 aNil)) false (aRef 9 aNil)))) (mTb (mCmp .eq (mBlt .repr (lCons (mTup (lCons (mNm 1 false) false (lCons (mNm 2 false) false (lCons (mNm 3 false) false lNil)))) false lNil)) (mNm 8 false) false))))))))))))
noncomputable def S__law_table_right : FS := ⟨4, [0], runDef 12 [0] m__law_table_right⟩
theorem r__law_table_right (x0 x1 x2 x3 : Val) : S__law_table_right.run [x0, x1, x2, x3] = (m__law_table_right [.v x0 true, .v x1 false, .v x2 false, .v x3 false, .un, .un, .un, .un, .un, .un, .un, .un]).bind (fin [0]) := run_eqS (n := 12) (io := [0]) (m := m__law_table_right) (np := 4) (by rw [S__law_table_right]) rfl
theorem io__law_table_right : S__law_table_right.io = [0] := by rw [S__law_table_right]
theorem np__law_table_right : S__law_table_right.np = 4 := by rw [S__law_table_right]
/-- law: 0 script, 1 bag, 2 more, 3 house, 4 table, 5 formulas, 6 k -/
noncomputable def m_law : MS :=
  (sSeq (sAsg (.nm 1) (mCall S__law_bag [] (aRef 0 aNil)) [0])
    (sSeq (sFor (iEx (mTup (lCons (mC (.int 2)) false (lCons (mC (.int 6)) false (lCons (mC (.int 0)) false (lCons (mCall S__law_take [1] (aRef 1 (aVal (mC (.int 7)) false aNil))) false (lCons (mC (.int 3)) false (lCons (mC (.int 6)) false (lCons (mC (.int 1)) false (lCons (mC (.int 4)) false lNil)))))))))) (.nm 2) [1] (sSeq (sAsg (.nm 3) (mCall S__law_house [1] (aRef 1 (aVal (mCall S__law_one [1] (aRef 1 (aVal (mLst (lCons (mC (.int 3)) false (lCons (mC (.int 2)) false (lCons (mC (.int 5)) false lNil)))) false aNil))) false aNil))) [1, 1])
    (sSeq (sAsg (.nm 4) (mCall S__law_table [1] (aRef 1 (aRef 3 (aVal (mCall S__law_numbers [1] (aRef 1 aNil)) false (aRef 2 aNil))))) [1, 3, 1, 2])
    (sSeq (sAsg (.nm 5) (mLc (cFor (iR1 (mC (.int 5))) [6] (.nm 6) false [] (cIf mYes (cEnd (mCall S__law_any_formula [1] (aRef 1 (aRef 3 aNil))) true)))) [1, 3])
    (sSeq (sAsg (.nm 5) (mBin .add (mNm 5 false) (mLst (lCons (mTup (lCons (mC (.str "kth")) false (lCons (mCall S__law_one [1] (aRef 1 (aVal (mLst (lCons (mC (.int 1)) false (lCons (mC (.int 5)) false (lCons (mC (.int 3)) false lNil)))) false aNil))) true (lCons (mBlt .tuple (lCons (mLc (cFor (iR1 (mC (.int 5))) [6] (.nm 6) false [] (cIf mYes (cEnd (mCall S__law_rank [1] (aRef 1 (aRef 3 (aVal (mC (.int 4)) false aNil)))) true)))) false lNil)) false lNil)))) false lNil)) false) [5, 1, 1, 3])
    (sIf (mNot (mTb (mCall S__law_table_right [1] (aRef 1 (aRef 3 (aRef 4 (aRef 5 aNil))))))) (sRet (mC (.bool false))) sNx))))))
    (sRet (mC (.bool true)))))
noncomputable def S_law : FS := ⟨1, [], runDef 7 [] m_law⟩
theorem r_law (x0 : Val) : S_law.run [x0] = (m_law [.v x0 false, .un, .un, .un, .un, .un, .un]).bind (fin []) := run_eqS (n := 7) (io := []) (m := m_law) (np := 1) (by rw [S_law]) rfl
theorem io_law : S_law.io = [] := by rw [S_law]
theorem np_law : S_law.np = 1 := by rw [S_law]
end CF.K02
/-! draws -/
namespace CF.K02
open PySem PySem.Spec PyProof.Rows L2 CF
local macro_rules | `(tactic| walk_at "ev") => `(tactic| simp only [↓mNm_ap, ↓mC_ap, ↓m2_ap, ↓m1_ap, ↓mT_ap, ↓mTb_ap, ↓mNot_ap, ↓mAnd_ap, ↓mOr_ap, ↓mB_ap, ↓mIs_ap, ↓mIte_ap, ↓lNil_ap, ↓lCons_ap, ↓mTup_ap, ↓mLst_ap, ↓mBlt_ap, ↓oNo_ap, ↓oYes_ap, ↓mSl_ap, ↓mScr_ap, ↓aNil_ap, ↓aRef_ap, ↓aVal_ap, ↓aTmp_ap, ↓mCall_ap, ↓iEx_ap, ↓iStr_ap, ↓iR1_ap, ↓iR2_ap, ↓iZip_ap, ↓iEnum_ap, ↓iKeys_ap, ↓mKeyLock_ap, ↓cEnd_ap, ↓cIf_ap, ↓cFor_ap, ↓mLc_ap, ↓mYes_ap, ↓sNx_ap, ↓sBrk_ap, ↓sCt_ap, ↓sSeq_ap, ↓sRet_ap, ↓sRetN_ap, ↓sIf_ap, ↓sExp_ap, ↓sAsg_ap, ↓sPar_ap, ↓sAug_ap, ↓sApp_ap, ↓sExt_ap, ↓sIns_ap, ↓sSetL_ap, ↓sAugL_ap, ↓sSetD_ap, ↓sFor_ap, ↓mBin_ap, ↓mCmp_ap, ↓mIx_ap, ↓mNeg_ap, ↓mRev_ap, ↓mSortSet_ap, ↓mSortC_ap, CF.getD, hold, valAt, ownB, ioSlot, okArg, isRef, setAll, ioFits, doCall, hasV, bindOne, bt_nm, bt_tup, bts_nil, bts_cons, allFr, wipeE, restE, freeSlot, itOk, unown, unowns, ownL, wrL, ownD, isScal, isn_none, isn_int, isn_str, isn_bool, isn_tup, isn_list, isn_dict, CF.fin, ioOut, CF.noEx, seqOf, ixN,
  v_add, v_sub, v_mulM, v_mulR, v_mulL, v_mod, v_fdiv, v_pow10, v_addL, v_neg, v_eqI, v_eqS, v_lt, v_le, v_gt, v_ge, v_l0, v_l1, v_l2, v_l3, v_t0, v_t1, v_t2, v_t3, v_s0, v_s1, v_s2, v_slL, v_revL, v_lenL, v_lenT, v_listL, v_listT, v_tupL, v_tupT, v_int, v_abs, v_min, v_max, v_sortI, v_sortIR, v_sortS, v_sum, v_isTop, v_isOpt, zipD, topD_none, topD_some, optD_none, optD_some, Option.isNone_none, Option.isNone_some,
  ↓bk_in, bk_o, bk_x, bk_n, gz, CF.gs, sz, ss, List.length_cons, List.length_nil, List.mapM_cons, List.mapM_nil, Option.pure_def, Option.bind_eq_bind, Option.bind_some, Option.bind_none, List.all_cons, List.all_nil, List.isEmpty_cons, List.isEmpty_nil, List.map_cons, List.map_nil, List.filter_nil, List.filter_cons, List.getD_cons_zero, List.getD_cons_succ, List.nil_append, List.cons_append,
  imm_none, imm_bool, imm_int, imm_str, imm_tup, imm_list, imm_dict, immAll_nil, immAll_cons, imm_top, imm_opt, imm_sort, imm_house, imm_ints, imm_strs, imm_nats, imm_table, imm_bag, immAll_map, implies_true, immAll_ints, immAll_strs, immAll_sorts,
  Bool.and_true, Bool.true_and, Bool.false_and, Bool.and_false, Bool.or_true, Bool.true_or, Bool.or_false, Bool.false_or, Bool.not_true, Bool.not_false, Bool.and_self, Bool.or_self, decide_true, decide_false, decide_eq_true_eq, ↓reduceIte, Bool.false_eq_true, and_self, true_and, and_true, beq_self_eq_true, eq_self, List.contains_cons, List.contains_nil, List.elem_cons, List.elem_nil, bne_self_eq_false, Bool.bne_true, Bool.bne_false, small_mil, Nat.reduceAdd, Nat.reduceSub, Nat.reduceMul, Nat.reduceLT, Nat.reduceLeDiff, Nat.reduceBEq, Nat.reduceEqDiff, Int.reduceAdd, Int.reduceNeg, Int.reduceSub, Int.reduceMul, Int.reducePow, Int.reduceLT, Int.reduceLE, Int.reduceToNat, Int.reduceEq, Int.reduceBEq, Nat.reduceEqDiff, Nat.le_refl, Int.le_refl, Nat.zero_le, Nat.zero_add, Int.cast_ofNat_Int, Nat.zero_lt_succ, Nat.reducePow, Nat.lt_irrefl, beq_iff_eq, Int.reduceNegSucc, io__law_bag, np__law_bag, io__law_take, np__law_take, io__law_one, np__law_one, io__law_sort, np__law_sort, io__law_mixed, np__law_mixed, io__law_names, np__law_names, io__law_house, np__law_house, io__law_size, np__law_size, io__law_table, np__law_table, io__law_numbers, np__law_numbers, io__law_lot, np__law_lot, io__law_rank, np__law_rank, io__law_formula, np__law_formula, io__law_any_formula, np__law_any_formula, io_all_numbers, np_all_numbers, io__law_flat, np__law_flat, io__law_known, np__law_known, io__law_key, np__law_key, io__law_value, np__law_value, io__law_alike, np__law_alike, io_count_at_least, np_count_at_least, io__law_count, np__law_count, io_sizes_of, np_sizes_of, io__law_sizes, np__law_sizes, io_kth_greatest, np_kth_greatest, io_value_of, np_value_of, io__law_table_right, np__law_table_right, io_law, np_law])
local macro_rules | `(tactic| walk_at "evh") => `(tactic| simp only [↓mNm_ap, ↓mC_ap, ↓m2_ap, ↓m1_ap, ↓mT_ap, ↓mTb_ap, ↓mNot_ap, ↓mAnd_ap, ↓mOr_ap, ↓mB_ap, ↓mIs_ap, ↓mIte_ap, ↓lNil_ap, ↓lCons_ap, ↓mTup_ap, ↓mLst_ap, ↓mBlt_ap, ↓oNo_ap, ↓oYes_ap, ↓mSl_ap, ↓mScr_ap, ↓aNil_ap, ↓aRef_ap, ↓aVal_ap, ↓aTmp_ap, ↓mCall_ap, ↓iEx_ap, ↓iStr_ap, ↓iR1_ap, ↓iR2_ap, ↓iZip_ap, ↓iEnum_ap, ↓iKeys_ap, ↓mKeyLock_ap, ↓cEnd_ap, ↓cIf_ap, ↓cFor_ap, ↓mLc_ap, ↓mYes_ap, ↓sNx_ap, ↓sBrk_ap, ↓sCt_ap, ↓sSeq_ap, ↓sRet_ap, ↓sRetN_ap, ↓sIf_ap, ↓sExp_ap, ↓sAsg_ap, ↓sPar_ap, ↓sAug_ap, ↓sApp_ap, ↓sExt_ap, ↓sIns_ap, ↓sSetL_ap, ↓sAugL_ap, ↓sSetD_ap, ↓sFor_ap, ↓mBin_ap, ↓mCmp_ap, ↓mIx_ap, ↓mNeg_ap, ↓mRev_ap, ↓mSortSet_ap, ↓mSortC_ap, CF.getD, hold, valAt, ownB, ioSlot, okArg, isRef, setAll, ioFits, doCall, hasV, bindOne, bt_nm, bt_tup, bts_nil, bts_cons, allFr, wipeE, restE, freeSlot, itOk, unown, unowns, ownL, wrL, ownD, isScal, isn_none, isn_int, isn_str, isn_bool, isn_tup, isn_list, isn_dict, CF.fin, ioOut, CF.noEx, seqOf, ixN,
  v_add, v_sub, v_mulM, v_mulR, v_mulL, v_mod, v_fdiv, v_pow10, v_addL, v_neg, v_eqI, v_eqS, v_lt, v_le, v_gt, v_ge, v_l0, v_l1, v_l2, v_l3, v_t0, v_t1, v_t2, v_t3, v_s0, v_s1, v_s2, v_slL, v_revL, v_lenL, v_lenT, v_listL, v_listT, v_tupL, v_tupT, v_int, v_abs, v_min, v_max, v_sortI, v_sortIR, v_sortS, v_sum, v_isTop, v_isOpt, zipD, topD_none, topD_some, optD_none, optD_some, Option.isNone_none, Option.isNone_some,
  ↓bk_in, bk_o, bk_x, bk_n, gz, CF.gs, sz, ss, List.length_cons, List.length_nil, List.mapM_cons, List.mapM_nil, Option.pure_def, Option.bind_eq_bind, Option.bind_some, Option.bind_none, List.all_cons, List.all_nil, List.isEmpty_cons, List.isEmpty_nil, List.map_cons, List.map_nil, List.filter_nil, List.filter_cons, List.getD_cons_zero, List.getD_cons_succ, List.nil_append, List.cons_append,
  imm_none, imm_bool, imm_int, imm_str, imm_tup, imm_list, imm_dict, immAll_nil, immAll_cons, imm_top, imm_opt, imm_sort, imm_house, imm_ints, imm_strs, imm_nats, imm_table, imm_bag, immAll_map, implies_true, immAll_ints, immAll_strs, immAll_sorts,
  Bool.and_true, Bool.true_and, Bool.false_and, Bool.and_false, Bool.or_true, Bool.true_or, Bool.or_false, Bool.false_or, Bool.not_true, Bool.not_false, Bool.and_self, Bool.or_self, decide_true, decide_false, decide_eq_true_eq, ↓reduceIte, Bool.false_eq_true, and_self, true_and, and_true, beq_self_eq_true, eq_self, List.contains_cons, List.contains_nil, List.elem_cons, List.elem_nil, bne_self_eq_false, Bool.bne_true, Bool.bne_false, small_mil, Nat.reduceAdd, Nat.reduceSub, Nat.reduceMul, Nat.reduceLT, Nat.reduceLeDiff, Nat.reduceBEq, Nat.reduceEqDiff, Int.reduceAdd, Int.reduceNeg, Int.reduceSub, Int.reduceMul, Int.reducePow, Int.reduceLT, Int.reduceLE, Int.reduceToNat, Int.reduceEq, Int.reduceBEq, Nat.reduceEqDiff, Nat.le_refl, Int.le_refl, Nat.zero_le, Nat.zero_add, Int.cast_ofNat_Int, Nat.zero_lt_succ, Nat.reducePow, Nat.lt_irrefl, beq_iff_eq, Int.reduceNegSucc, io__law_bag, np__law_bag, io__law_take, np__law_take, io__law_one, np__law_one, io__law_sort, np__law_sort, io__law_mixed, np__law_mixed, io__law_names, np__law_names, io__law_house, np__law_house, io__law_size, np__law_size, io__law_table, np__law_table, io__law_numbers, np__law_numbers, io__law_lot, np__law_lot, io__law_rank, np__law_rank, io__law_formula, np__law_formula, io__law_any_formula, np__law_any_formula, io_all_numbers, np_all_numbers, io__law_flat, np__law_flat, io__law_known, np__law_known, io__law_key, np__law_key, io__law_value, np__law_value, io__law_alike, np__law_alike, io_count_at_least, np_count_at_least, io__law_count, np__law_count, io_sizes_of, np_sizes_of, io__law_sizes, np__law_sizes, io_kth_greatest, np_kth_greatest, io_value_of, np_value_of, io__law_table_right, np__law_table_right, io_law, np_law, *])
theorem cut0 (cs : List Nat) (c : Nat) : ∃ (n : Nat) (r : List D), cut (cs.map fun n => PyData.int (n : Nat)) (some (c : Int)) none ++ [.int 0] = .int (n : Nat) :: r ∧ (cut (cs.map fun n => PyData.int (n : Nat)) (some (c : Int)) none).length ≤ cs.length := by
  have hl : (cut (cs.map fun n => PyData.int (n : Nat)) (some (c : Int)) none).length ≤ cs.length := by
    unfold cut
    rw [List.length_take, List.length_drop, List.length_map]; omega
  cases e : cut (cs.map fun n => PyData.int (n : Nat)) (some (c : Int)) none with
  | nil => exact ⟨0, [], rfl, Nat.zero_le _⟩
  | cons d r =>
    have m : d ∈ cut (cs.map fun n => PyData.int (n : Nat)) (some (c : Int)) none := by rw [e]; exact List.mem_cons_self
    unfold cut at m
    obtain ⟨n, _, rfl⟩ := List.mem_map.mp (List.drop_subset _ _ (List.take_subset _ _ m))
    refine ⟨n, r ++ [.int 0], rfl, ?_⟩
    rw [← e]; exact hl
theorem bag_mk {a b c : Int} {cs : List Nat} (h : cs.length ≤ 63) (ha : 0 ≤ a) (hb : 0 ≤ b) (hc : 0 ≤ c) : ∃ B : Bag, PyData.list [.int a, .int b, .int c, .list (cs.map fun n => .int (n : Nat))] = bagD B := by
  obtain ⟨a, rfl⟩ := Int.eq_ofNat_of_zero_le ha
  obtain ⟨b, rfl⟩ := Int.eq_ofNat_of_zero_le hb
  obtain ⟨c, rfl⟩ := Int.eq_ofNat_of_zero_le hc
  exact ⟨⟨a, b, c, cs, h⟩, rfl⟩
theorem take_ok (b : Bag) {m : Int} (h0 : 0 < m) (h1 : m < 4611686018427387904) : ∃ v b', S__law_take.run [.d (bagD b), .d (.int m)] = .ok ⟨.int v, true, [bagD b']⟩ ∧ 0 ≤ v ∧ v < m := by
  obtain ⟨n, r, e, hl⟩ := cut0 b.cs b.c
  have hs : small ((cut (b.cs.map fun n => PyData.int (n : Nat)) (some (b.c : Int)) none).length + 1) = true := small_mil (by have := b.h; omega)
  have im : immAll (b.cs.map fun n => PyData.int (n : Nat)) = true := immAll_map fun _ _ => imm_int _
  have fin : ∀ {x : D} {v : Int} {o : Out FRet}, (∃ B, x = bagD B) → o = .ok ⟨.int v, true, [x]⟩ → 0 ≤ v ∧ v < m → ∃ v b', o = .ok ⟨.int v, true, [bagD b']⟩ ∧ 0 ≤ v ∧ v < m := fun ⟨B, eB⟩ eo hv => ⟨_, B, by rw [eo, eB], hv⟩
  rw [r__law_take]
  unfold bagD m__law_take
  by_cases c0 : (b.a : Int) = 0
  · by_cases c2 : (1000000000000000000 : Int) ≤ (n : Int)
    · have c3 : (0 : Int) < (n : Int) := by omega
      walk_at "evh"
      exact fin (bag_mk b.h (Int.ediv_nonneg (by omega) (by omega)) (Int.emod_nonneg _ (show (2147483647 : Int) ≠ 0 by omega)) (by omega)) rfl ⟨Int.emod_nonneg _ (by omega), Int.emod_lt_of_pos _ h0⟩
    · walk_at "evh"
      exact fin (bag_mk b.h (by omega) (Int.emod_nonneg _ (show (2147483647 : Int) ≠ 0 by omega)) (by omega)) rfl ⟨Int.emod_nonneg _ (by omega), Int.emod_lt_of_pos _ h0⟩
  · have c1 : 0 < (b.a : Int) := by omega
    walk_at "evh"
    exact fin (bag_mk b.h (Int.ediv_nonneg (by omega) (by omega)) (by omega) (by omega)) rfl ⟨Int.emod_nonneg _ (by omega), Int.emod_lt_of_pos _ h0⟩

end CF.K02
/-! draws -/
namespace CF.K02
open PySem PySem.Spec PyProof.Rows L2 CF
local macro_rules | `(tactic| walk_at "ev") => `(tactic| simp only [↓mNm_ap, ↓mC_ap, ↓m2_ap, ↓m1_ap, ↓mT_ap, ↓mTb_ap, ↓mNot_ap, ↓mAnd_ap, ↓mOr_ap, ↓mB_ap, ↓mIs_ap, ↓mIte_ap, ↓lNil_ap, ↓lCons_ap, ↓mTup_ap, ↓mLst_ap, ↓mBlt_ap, ↓oNo_ap, ↓oYes_ap, ↓mSl_ap, ↓mScr_ap, ↓aNil_ap, ↓aRef_ap, ↓aVal_ap, ↓aTmp_ap, ↓mCall_ap, ↓iEx_ap, ↓iStr_ap, ↓iR1_ap, ↓iR2_ap, ↓iZip_ap, ↓iEnum_ap, ↓iKeys_ap, ↓mKeyLock_ap, ↓cEnd_ap, ↓cIf_ap, ↓cFor_ap, ↓mLc_ap, ↓mYes_ap, ↓sNx_ap, ↓sBrk_ap, ↓sCt_ap, ↓sSeq_ap, ↓sRet_ap, ↓sRetN_ap, ↓sIf_ap, ↓sExp_ap, ↓sAsg_ap, ↓sPar_ap, ↓sAug_ap, ↓sApp_ap, ↓sExt_ap, ↓sIns_ap, ↓sSetL_ap, ↓sAugL_ap, ↓sSetD_ap, ↓sFor_ap, ↓mBin_ap, ↓mCmp_ap, ↓mIx_ap, ↓mNeg_ap, ↓mRev_ap, ↓mSortSet_ap, ↓mSortC_ap, CF.getD, hold, valAt, ownB, ioSlot, okArg, isRef, setAll, ioFits, doCall, hasV, bindOne, bt_nm, bt_tup, bts_nil, bts_cons, allFr, wipeE, restE, freeSlot, itOk, unown, unowns, ownL, wrL, ownD, isScal, isn_none, isn_int, isn_str, isn_bool, isn_tup, isn_list, isn_dict, CF.fin, ioOut, CF.noEx, seqOf, ixN,
  v_add, v_sub, v_mulM, v_mulR, v_mulL, v_mod, v_fdiv, v_pow10, v_addL, v_neg, v_eqI, v_eqS, v_lt, v_le, v_gt, v_ge, v_l0, v_l1, v_l2, v_l3, v_t0, v_t1, v_t2, v_t3, v_s0, v_s1, v_s2, v_slL, v_revL, v_lenL, v_lenT, v_listL, v_listT, v_tupL, v_tupT, v_int, v_abs, v_min, v_max, v_sortI, v_sortIR, v_sortS, v_sum, v_isTop, v_isOpt, zipD, topD_none, topD_some, optD_none, optD_some, Option.isNone_none, Option.isNone_some,
  ↓bk_in, bk_o, bk_x, bk_n, gz, CF.gs, sz, ss, List.length_cons, List.length_nil, List.mapM_cons, List.mapM_nil, Option.pure_def, Option.bind_eq_bind, Option.bind_some, Option.bind_none, List.all_cons, List.all_nil, List.isEmpty_cons, List.isEmpty_nil, List.map_cons, List.map_nil, List.filter_nil, List.filter_cons, List.getD_cons_zero, List.getD_cons_succ, List.nil_append, List.cons_append,
  imm_none, imm_bool, imm_int, imm_str, imm_tup, imm_list, imm_dict, immAll_nil, immAll_cons, imm_top, imm_opt, imm_sort, imm_house, imm_ints, imm_strs, imm_nats, imm_table, imm_bag, immAll_map, implies_true, immAll_ints, immAll_strs, immAll_sorts,
  Bool.and_true, Bool.true_and, Bool.false_and, Bool.and_false, Bool.or_true, Bool.true_or, Bool.or_false, Bool.false_or, Bool.not_true, Bool.not_false, Bool.and_self, Bool.or_self, decide_true, decide_false, decide_eq_true_eq, ↓reduceIte, Bool.false_eq_true, and_self, true_and, and_true, beq_self_eq_true, eq_self, List.contains_cons, List.contains_nil, List.elem_cons, List.elem_nil, bne_self_eq_false, Bool.bne_true, Bool.bne_false, small_mil, Nat.reduceAdd, Nat.reduceSub, Nat.reduceMul, Nat.reduceLT, Nat.reduceLeDiff, Nat.reduceBEq, Nat.reduceEqDiff, Int.reduceAdd, Int.reduceNeg, Int.reduceSub, Int.reduceMul, Int.reducePow, Int.reduceLT, Int.reduceLE, Int.reduceToNat, Int.reduceEq, Int.reduceBEq, Nat.reduceEqDiff, Nat.le_refl, Int.le_refl, Nat.zero_le, Nat.zero_add, Int.cast_ofNat_Int, Nat.zero_lt_succ, Nat.reducePow, Nat.lt_irrefl, beq_iff_eq, Int.reduceNegSucc, io__law_bag, np__law_bag, io__law_take, np__law_take, io__law_one, np__law_one, io__law_sort, np__law_sort, io__law_mixed, np__law_mixed, io__law_names, np__law_names, io__law_house, np__law_house, io__law_size, np__law_size, io__law_table, np__law_table, io__law_numbers, np__law_numbers, io__law_lot, np__law_lot, io__law_rank, np__law_rank, io__law_formula, np__law_formula, io__law_any_formula, np__law_any_formula, io_all_numbers, np_all_numbers, io__law_flat, np__law_flat, io__law_known, np__law_known, io__law_key, np__law_key, io__law_value, np__law_value, io__law_alike, np__law_alike, io_count_at_least, np_count_at_least, io__law_count, np__law_count, io_sizes_of, np_sizes_of, io__law_sizes, np__law_sizes, io_kth_greatest, np_kth_greatest, io_value_of, np_value_of, io__law_table_right, np__law_table_right, io_law, np_law])
local macro_rules | `(tactic| walk_at "evh") => `(tactic| simp only [↓mNm_ap, ↓mC_ap, ↓m2_ap, ↓m1_ap, ↓mT_ap, ↓mTb_ap, ↓mNot_ap, ↓mAnd_ap, ↓mOr_ap, ↓mB_ap, ↓mIs_ap, ↓mIte_ap, ↓lNil_ap, ↓lCons_ap, ↓mTup_ap, ↓mLst_ap, ↓mBlt_ap, ↓oNo_ap, ↓oYes_ap, ↓mSl_ap, ↓mScr_ap, ↓aNil_ap, ↓aRef_ap, ↓aVal_ap, ↓aTmp_ap, ↓mCall_ap, ↓iEx_ap, ↓iStr_ap, ↓iR1_ap, ↓iR2_ap, ↓iZip_ap, ↓iEnum_ap, ↓iKeys_ap, ↓mKeyLock_ap, ↓cEnd_ap, ↓cIf_ap, ↓cFor_ap, ↓mLc_ap, ↓mYes_ap, ↓sNx_ap, ↓sBrk_ap, ↓sCt_ap, ↓sSeq_ap, ↓sRet_ap, ↓sRetN_ap, ↓sIf_ap, ↓sExp_ap, ↓sAsg_ap, ↓sPar_ap, ↓sAug_ap, ↓sApp_ap, ↓sExt_ap, ↓sIns_ap, ↓sSetL_ap, ↓sAugL_ap, ↓sSetD_ap, ↓sFor_ap, ↓mBin_ap, ↓mCmp_ap, ↓mIx_ap, ↓mNeg_ap, ↓mRev_ap, ↓mSortSet_ap, ↓mSortC_ap, CF.getD, hold, valAt, ownB, ioSlot, okArg, isRef, setAll, ioFits, doCall, hasV, bindOne, bt_nm, bt_tup, bts_nil, bts_cons, allFr, wipeE, restE, freeSlot, itOk, unown, unowns, ownL, wrL, ownD, isScal, isn_none, isn_int, isn_str, isn_bool, isn_tup, isn_list, isn_dict, CF.fin, ioOut, CF.noEx, seqOf, ixN,
  v_add, v_sub, v_mulM, v_mulR, v_mulL, v_mod, v_fdiv, v_pow10, v_addL, v_neg, v_eqI, v_eqS, v_lt, v_le, v_gt, v_ge, v_l0, v_l1, v_l2, v_l3, v_t0, v_t1, v_t2, v_t3, v_s0, v_s1, v_s2, v_slL, v_revL, v_lenL, v_lenT, v_listL, v_listT, v_tupL, v_tupT, v_int, v_abs, v_min, v_max, v_sortI, v_sortIR, v_sortS, v_sum, v_isTop, v_isOpt, zipD, topD_none, topD_some, optD_none, optD_some, Option.isNone_none, Option.isNone_some,
  ↓bk_in, bk_o, bk_x, bk_n, gz, CF.gs, sz, ss, List.length_cons, List.length_nil, List.mapM_cons, List.mapM_nil, Option.pure_def, Option.bind_eq_bind, Option.bind_some, Option.bind_none, List.all_cons, List.all_nil, List.isEmpty_cons, List.isEmpty_nil, List.map_cons, List.map_nil, List.filter_nil, List.filter_cons, List.getD_cons_zero, List.getD_cons_succ, List.nil_append, List.cons_append,
  imm_none, imm_bool, imm_int, imm_str, imm_tup, imm_list, imm_dict, immAll_nil, immAll_cons, imm_top, imm_opt, imm_sort, imm_house, imm_ints, imm_strs, imm_nats, imm_table, imm_bag, immAll_map, implies_true, immAll_ints, immAll_strs, immAll_sorts,
  Bool.and_true, Bool.true_and, Bool.false_and, Bool.and_false, Bool.or_true, Bool.true_or, Bool.or_false, Bool.false_or, Bool.not_true, Bool.not_false, Bool.and_self, Bool.or_self, decide_true, decide_false, decide_eq_true_eq, ↓reduceIte, Bool.false_eq_true, and_self, true_and, and_true, beq_self_eq_true, eq_self, List.contains_cons, List.contains_nil, List.elem_cons, List.elem_nil, bne_self_eq_false, Bool.bne_true, Bool.bne_false, small_mil, Nat.reduceAdd, Nat.reduceSub, Nat.reduceMul, Nat.reduceLT, Nat.reduceLeDiff, Nat.reduceBEq, Nat.reduceEqDiff, Int.reduceAdd, Int.reduceNeg, Int.reduceSub, Int.reduceMul, Int.reducePow, Int.reduceLT, Int.reduceLE, Int.reduceToNat, Int.reduceEq, Int.reduceBEq, Nat.reduceEqDiff, Nat.le_refl, Int.le_refl, Nat.zero_le, Nat.zero_add, Int.cast_ofNat_Int, Nat.zero_lt_succ, Nat.reducePow, Nat.lt_irrefl, beq_iff_eq, Int.reduceNegSucc, io__law_bag, np__law_bag, io__law_take, np__law_take, io__law_one, np__law_one, io__law_sort, np__law_sort, io__law_mixed, np__law_mixed, io__law_names, np__law_names, io__law_house, np__law_house, io__law_size, np__law_size, io__law_table, np__law_table, io__law_numbers, np__law_numbers, io__law_lot, np__law_lot, io__law_rank, np__law_rank, io__law_formula, np__law_formula, io__law_any_formula, np__law_any_formula, io_all_numbers, np_all_numbers, io__law_flat, np__law_flat, io__law_known, np__law_known, io__law_key, np__law_key, io__law_value, np__law_value, io__law_alike, np__law_alike, io_count_at_least, np_count_at_least, io__law_count, np__law_count, io_sizes_of, np_sizes_of, io__law_sizes, np__law_sizes, io_kth_greatest, np_kth_greatest, io_value_of, np_value_of, io__law_table_right, np__law_table_right, io_law, np_law, *])
theorem bag_ok (ns : List Int) : ∃ B, S__law_bag.run [.s ns] = .ok ⟨bagD B, true, []⟩ := by
  rw [r__law_bag]
  unfold m__law_bag
  have hc : (cut ns none (some 63)).length ≤ 63 := by
    unfold cut
    rw [List.length_take, List.length_drop]
    have : HT.sIx ns.length ns.length (some 63) = min 63 ns.length := HT.sIx_nat _ _ 63
    rw [this]; omega
  walk_at "ev"
  generalize hT : turns _ _ _ _ _ = T
  obtain ⟨L, rfl, e2, e3, e4⟩ := turns_map1 hT (fun n => .int (n.natAbs : Nat)) (fun n _ => by walk_at "ev"; exact ⟨_, _, rfl, rfl, rfl⟩)
  have hs : small (cut ns none (some 63)).length = true := small_mil (by omega)
  walk_at "evh"
  refine ⟨⟨0, 1234567891, 0, (cut ns none (some 63)).map Int.natAbs, by rw [List.length_map]; exact hc⟩, ?_⟩
  simp only [bagD, List.map_map, Function.comp_def]
  rfl
theorem one_ok (b : Bag) {xs : List D} (h0 : xs ≠ []) (h1 : xs.length ≤ 1000) : ∃ x b', S__law_one.run [.d (bagD b), .d (.list xs)] = .ok ⟨x, false, [bagD b']⟩ ∧ x ∈ xs := by
  have hl : 0 < xs.length := List.length_pos_iff.mpr h0
  obtain ⟨v, b', e, hv0, hv1⟩ := take_ok b (m := (xs.length : Int)) (by omega) (by omega)
  obtain ⟨x, hx⟩ : ∃ x, xs[v.toNat]? = some x := ⟨_, List.getElem?_eq_getElem (by omega)⟩
  have ei : ixD (.list xs) false (.int v) = .ok (x, false) := v_ixLi hv0 hx
  rw [r__law_one]
  unfold m__law_one
  walk_at "evh"
  exact ⟨x, b', rfl, List.mem_of_getElem? hx⟩
/-- what is mixed: a list or a tuple of things that do not change -/
theorem mixed_ok (b : Bag) {xs : List D} {d : D} (hd : d = .list xs ∨ d = .tuple xs) (hi : immAll xs = true) (hl : xs.length ≤ 1000) : ∃ ys b', S__law_mixed.run [.d (bagD b), .d d] = .ok ⟨.list ys, true, [bagD b']⟩ ∧ ys.Perm xs := by
  rw [r__law_mixed]
  unfold m__law_mixed
  have main : ∀ x1 : SlV, x1 = .v (.d d) false → ∃ s' : Bag × List D × SlV, forTurns (.nm 3) (sIns 2 (mCall S__law_take [0] (aRef 0 (aVal (mBin .add (mBlt .len (lCons (mNm 2 false) false lNil)) (mC (.int 1)) false) false aNil))) (mNm 3 false)) (xs.map id) [.v (.d (bagD b)) true, x1, .v (.d (.list [])) true, .un] = .ok (.nx [.v (.d (bagD s'.1)) true, x1, .v (.d (.list s'.2.1)) true, s'.2.2]) ∧ s'.2.1.Perm xs := by
    intro x1 hx1
    obtain ⟨s', e, h⟩ := forTurns_st (tg := .nm 3) (body := sIns 2 (mCall S__law_take [0] (aRef 0 (aVal (mBin .add (mBlt .len (lCons (mNm 2 false) false lNil)) (mC (.int 1)) false) false aNil))) (mNm 3 false)) (α := D) (S := Bag × List D × SlV) (e := id) (fun s => [.v (.d (bagD s.1)) true, x1, .v (.d (.list s.2.1)) true, s.2.2]) (fun r s => (s.2.1 ++ r).Perm xs) (fun x r s hs => by
      obtain ⟨b, fnd, s3⟩ := s
      dsimp only at hs ⊢
      have hp := hs.length_eq
      simp only [List.length_append, List.length_cons] at hp
      have ix : imm x = true := immAll_mem.mp hi x (hs.mem_iff.mp (List.mem_append_right _ List.mem_cons_self))
      obtain ⟨v, b', e, hv0, hv1⟩ := take_ok b (m := (fnd.length : Int) + 1) (by omega) (by omega)
      have hs1 : small (fnd.length + 1) = true := small_mil (by omega)
      have hv2 : v < 2 ^ 62 := by omega
      have hv3 : v < 4611686018427387904 := by omega
      refine ⟨_, (b', fnd.take v.toNat ++ [x] ++ fnd.drop v.toNat, .v (.d x) true), rfl, .inl ?_, ?_⟩
      · subst hx1
        walk_at "evh"
        simp only [id, ix, Bool.or_true]
        walk_at "evh"
      · have p1 : (fnd.take v.toNat ++ [x] ++ fnd.drop v.toNat).Perm (x :: fnd) := by
          rw [List.append_assoc]
          refine (List.perm_middle (l₁ := fnd.take v.toNat) (a := x) (l₂ := fnd.drop v.toNat)).trans ?_
          rw [List.take_append_drop]
        exact ((p1.append_right r).trans (List.perm_middle (l₁ := fnd) (a := x) (l₂ := r)).symm).trans hs) xs (b, [], .un) (by simp)
    exact ⟨s', e, by simpa using h⟩
  rw [List.map_id] at main
  rcases hd with rfl | rfl
  · obtain ⟨⟨b', ys, s3⟩, e, hp⟩ := main _ rfl
    walk_at "evh"
    exact ⟨ys, b', rfl, hp⟩
  · obtain ⟨⟨b', ys, s3⟩, e, hp⟩ := main _ rfl
    walk_at "evh"
    exact ⟨ys, b', rfl, hp⟩
def menu : List Str := ["a", "b", "c", "ab", "rank", "kth", "open", "sort", "rows", "is", "at", "count", "fact", "zzzzzz", "x", "gym", "jvl"]
theorem names_ok (b : Bag) {m : Nat} (h0 : 1 ≤ m) (h1 : m ≤ 17) : ∃ ns b', S__law_names.run [.d (bagD b), .d (.int (m : Int))] = .ok ⟨strsD ns, true, [bagD b']⟩ ∧ ns.Nodup ∧ (∀ n ∈ ns, n ∈ menu) ∧ ns.length = m := by
  rw [r__law_names]
  unfold m__law_names
  obtain ⟨ys, b', e, hp⟩ := mixed_ok b (xs := menu.map .str) (.inl rfl) (immAll_strs _) (by decide)
  obtain ⟨ns, rfl⟩ : ∃ ns : List Str, ys = ns.map .str := by
    refine ⟨ys.map fun | .str s => s | _ => "", ?_⟩
    rw [List.map_map]
    refine (List.map_id ys).symm.trans (List.map_congr_left fun y hy => ?_)
    obtain ⟨s, _, rfl⟩ := List.mem_map.mp (hp.mem_iff.mp hy)
    rfl
  have hp' : ns.Perm menu := by
    have := hp.map fun | PyData.str s => s | _ => ""
    simpa [List.map_map, Function.comp_def] using this
  have hl := hp'.length_eq
  have hc : cut (ns.map PyData.str) none (some (m : Int)) = (ns.take m).map PyData.str := by
    unfold cut
    rw [HT.sIx_none, HT.sIx_nat, List.drop_zero, List.length_map, hl, List.map_take]
    congr 1
    show min m 17 - 0 = m
    omega
  simp only [menu, List.map_cons, List.map_nil] at e
  walk_at "evh"
  refine ⟨srtS (ns.take m), b', rfl, ?_, fun n hn => hp'.mem_iff.mp (List.mem_of_mem_take ((srtS_perm _).mem_iff.mp hn)), ?_⟩
  · exact (srtS_perm _).nodup_iff.mpr ((hp'.nodup_iff.mpr (by decide +kernel)).sublist (List.take_sublist _ _))
  · rw [(srtS_perm _).length_eq, List.length_take, hl]
    show min m 17 = m
    omega

end CF.K02
/-! draws -/
namespace CF.K02
open PySem PySem.Spec PyProof.Rows L2 CF
local macro_rules | `(tactic| walk_at "ev") => `(tactic| simp only [↓mNm_ap, ↓mC_ap, ↓m2_ap, ↓m1_ap, ↓mT_ap, ↓mTb_ap, ↓mNot_ap, ↓mAnd_ap, ↓mOr_ap, ↓mB_ap, ↓mIs_ap, ↓mIte_ap, ↓lNil_ap, ↓lCons_ap, ↓mTup_ap, ↓mLst_ap, ↓mBlt_ap, ↓oNo_ap, ↓oYes_ap, ↓mSl_ap, ↓mScr_ap, ↓aNil_ap, ↓aRef_ap, ↓aVal_ap, ↓aTmp_ap, ↓mCall_ap, ↓iEx_ap, ↓iStr_ap, ↓iR1_ap, ↓iR2_ap, ↓iZip_ap, ↓iEnum_ap, ↓iKeys_ap, ↓mKeyLock_ap, ↓cEnd_ap, ↓cIf_ap, ↓cFor_ap, ↓mLc_ap, ↓mYes_ap, ↓sNx_ap, ↓sBrk_ap, ↓sCt_ap, ↓sSeq_ap, ↓sRet_ap, ↓sRetN_ap, ↓sIf_ap, ↓sExp_ap, ↓sAsg_ap, ↓sPar_ap, ↓sAug_ap, ↓sApp_ap, ↓sExt_ap, ↓sIns_ap, ↓sSetL_ap, ↓sAugL_ap, ↓sSetD_ap, ↓sFor_ap, ↓mBin_ap, ↓mCmp_ap, ↓mIx_ap, ↓mNeg_ap, ↓mRev_ap, ↓mSortSet_ap, ↓mSortC_ap, CF.getD, hold, valAt, ownB, ioSlot, okArg, isRef, setAll, ioFits, doCall, hasV, bindOne, bt_nm, bt_tup, bts_nil, bts_cons, allFr, wipeE, restE, freeSlot, itOk, unown, unowns, ownL, wrL, ownD, isScal, isn_none, isn_int, isn_str, isn_bool, isn_tup, isn_list, isn_dict, CF.fin, ioOut, CF.noEx, seqOf, ixN,
  v_add, v_sub, v_mulM, v_mulR, v_mulL, v_mod, v_fdiv, v_pow10, v_addL, v_neg, v_eqI, v_eqS, v_lt, v_le, v_gt, v_ge, v_l0, v_l1, v_l2, v_l3, v_t0, v_t1, v_t2, v_t3, v_s0, v_s1, v_s2, v_slL, v_revL, v_lenL, v_lenT, v_listL, v_listT, v_tupL, v_tupT, v_int, v_abs, v_min, v_max, v_sortI, v_sortIR, v_sortS, v_sum, v_isTop, v_isOpt, zipD, topD_none, topD_some, optD_none, optD_some, Option.isNone_none, Option.isNone_some,
  ↓bk_in, bk_o, bk_x, bk_n, gz, CF.gs, sz, ss, List.length_cons, List.length_nil, List.mapM_cons, List.mapM_nil, Option.pure_def, Option.bind_eq_bind, Option.bind_some, Option.bind_none, List.all_cons, List.all_nil, List.isEmpty_cons, List.isEmpty_nil, List.map_cons, List.map_nil, List.filter_nil, List.filter_cons, List.getD_cons_zero, List.getD_cons_succ, List.nil_append, List.cons_append,
  imm_none, imm_bool, imm_int, imm_str, imm_tup, imm_list, imm_dict, immAll_nil, immAll_cons, imm_top, imm_opt, imm_sort, imm_house, imm_ints, imm_strs, imm_nats, imm_table, imm_bag, immAll_map, implies_true, immAll_ints, immAll_strs, immAll_sorts,
  Bool.and_true, Bool.true_and, Bool.false_and, Bool.and_false, Bool.or_true, Bool.true_or, Bool.or_false, Bool.false_or, Bool.not_true, Bool.not_false, Bool.and_self, Bool.or_self, decide_true, decide_false, decide_eq_true_eq, ↓reduceIte, Bool.false_eq_true, and_self, true_and, and_true, beq_self_eq_true, eq_self, List.contains_cons, List.contains_nil, List.elem_cons, List.elem_nil, bne_self_eq_false, Bool.bne_true, Bool.bne_false, small_mil, Nat.reduceAdd, Nat.reduceSub, Nat.reduceMul, Nat.reduceLT, Nat.reduceLeDiff, Nat.reduceBEq, Nat.reduceEqDiff, Int.reduceAdd, Int.reduceNeg, Int.reduceSub, Int.reduceMul, Int.reducePow, Int.reduceLT, Int.reduceLE, Int.reduceToNat, Int.reduceEq, Int.reduceBEq, Nat.reduceEqDiff, Nat.le_refl, Int.le_refl, Nat.zero_le, Nat.zero_add, Int.cast_ofNat_Int, Nat.zero_lt_succ, Nat.reducePow, Nat.lt_irrefl, beq_iff_eq, Int.reduceNegSucc, io__law_bag, np__law_bag, io__law_take, np__law_take, io__law_one, np__law_one, io__law_sort, np__law_sort, io__law_mixed, np__law_mixed, io__law_names, np__law_names, io__law_house, np__law_house, io__law_size, np__law_size, io__law_table, np__law_table, io__law_numbers, np__law_numbers, io__law_lot, np__law_lot, io__law_rank, np__law_rank, io__law_formula, np__law_formula, io__law_any_formula, np__law_any_formula, io_all_numbers, np_all_numbers, io__law_flat, np__law_flat, io__law_known, np__law_known, io__law_key, np__law_key, io__law_value, np__law_value, io__law_alike, np__law_alike, io_count_at_least, np_count_at_least, io__law_count, np__law_count, io_sizes_of, np_sizes_of, io__law_sizes, np__law_sizes, io_kth_greatest, np_kth_greatest, io_value_of, np_value_of, io__law_table_right, np__law_table_right, io_law, np_law])
local macro_rules | `(tactic| walk_at "evh") => `(tactic| simp only [↓mNm_ap, ↓mC_ap, ↓m2_ap, ↓m1_ap, ↓mT_ap, ↓mTb_ap, ↓mNot_ap, ↓mAnd_ap, ↓mOr_ap, ↓mB_ap, ↓mIs_ap, ↓mIte_ap, ↓lNil_ap, ↓lCons_ap, ↓mTup_ap, ↓mLst_ap, ↓mBlt_ap, ↓oNo_ap, ↓oYes_ap, ↓mSl_ap, ↓mScr_ap, ↓aNil_ap, ↓aRef_ap, ↓aVal_ap, ↓aTmp_ap, ↓mCall_ap, ↓iEx_ap, ↓iStr_ap, ↓iR1_ap, ↓iR2_ap, ↓iZip_ap, ↓iEnum_ap, ↓iKeys_ap, ↓mKeyLock_ap, ↓cEnd_ap, ↓cIf_ap, ↓cFor_ap, ↓mLc_ap, ↓mYes_ap, ↓sNx_ap, ↓sBrk_ap, ↓sCt_ap, ↓sSeq_ap, ↓sRet_ap, ↓sRetN_ap, ↓sIf_ap, ↓sExp_ap, ↓sAsg_ap, ↓sPar_ap, ↓sAug_ap, ↓sApp_ap, ↓sExt_ap, ↓sIns_ap, ↓sSetL_ap, ↓sAugL_ap, ↓sSetD_ap, ↓sFor_ap, ↓mBin_ap, ↓mCmp_ap, ↓mIx_ap, ↓mNeg_ap, ↓mRev_ap, ↓mSortSet_ap, ↓mSortC_ap, CF.getD, hold, valAt, ownB, ioSlot, okArg, isRef, setAll, ioFits, doCall, hasV, bindOne, bt_nm, bt_tup, bts_nil, bts_cons, allFr, wipeE, restE, freeSlot, itOk, unown, unowns, ownL, wrL, ownD, isScal, isn_none, isn_int, isn_str, isn_bool, isn_tup, isn_list, isn_dict, CF.fin, ioOut, CF.noEx, seqOf, ixN,
  v_add, v_sub, v_mulM, v_mulR, v_mulL, v_mod, v_fdiv, v_pow10, v_addL, v_neg, v_eqI, v_eqS, v_lt, v_le, v_gt, v_ge, v_l0, v_l1, v_l2, v_l3, v_t0, v_t1, v_t2, v_t3, v_s0, v_s1, v_s2, v_slL, v_revL, v_lenL, v_lenT, v_listL, v_listT, v_tupL, v_tupT, v_int, v_abs, v_min, v_max, v_sortI, v_sortIR, v_sortS, v_sum, v_isTop, v_isOpt, zipD, topD_none, topD_some, optD_none, optD_some, Option.isNone_none, Option.isNone_some,
  ↓bk_in, bk_o, bk_x, bk_n, gz, CF.gs, sz, ss, List.length_cons, List.length_nil, List.mapM_cons, List.mapM_nil, Option.pure_def, Option.bind_eq_bind, Option.bind_some, Option.bind_none, List.all_cons, List.all_nil, List.isEmpty_cons, List.isEmpty_nil, List.map_cons, List.map_nil, List.filter_nil, List.filter_cons, List.getD_cons_zero, List.getD_cons_succ, List.nil_append, List.cons_append,
  imm_none, imm_bool, imm_int, imm_str, imm_tup, imm_list, imm_dict, immAll_nil, immAll_cons, imm_top, imm_opt, imm_sort, imm_house, imm_ints, imm_strs, imm_nats, imm_table, imm_bag, immAll_map, implies_true, immAll_ints, immAll_strs, immAll_sorts,
  Bool.and_true, Bool.true_and, Bool.false_and, Bool.and_false, Bool.or_true, Bool.true_or, Bool.or_false, Bool.false_or, Bool.not_true, Bool.not_false, Bool.and_self, Bool.or_self, decide_true, decide_false, decide_eq_true_eq, ↓reduceIte, Bool.false_eq_true, and_self, true_and, and_true, beq_self_eq_true, eq_self, List.contains_cons, List.contains_nil, List.elem_cons, List.elem_nil, bne_self_eq_false, Bool.bne_true, Bool.bne_false, small_mil, Nat.reduceAdd, Nat.reduceSub, Nat.reduceMul, Nat.reduceLT, Nat.reduceLeDiff, Nat.reduceBEq, Nat.reduceEqDiff, Int.reduceAdd, Int.reduceNeg, Int.reduceSub, Int.reduceMul, Int.reducePow, Int.reduceLT, Int.reduceLE, Int.reduceToNat, Int.reduceEq, Int.reduceBEq, Nat.reduceEqDiff, Nat.le_refl, Int.le_refl, Nat.zero_le, Nat.zero_add, Int.cast_ofNat_Int, Nat.zero_lt_succ, Nat.reducePow, Nat.lt_irrefl, beq_iff_eq, Int.reduceNegSucc, io__law_bag, np__law_bag, io__law_take, np__law_take, io__law_one, np__law_one, io__law_sort, np__law_sort, io__law_mixed, np__law_mixed, io__law_names, np__law_names, io__law_house, np__law_house, io__law_size, np__law_size, io__law_table, np__law_table, io__law_numbers, np__law_numbers, io__law_lot, np__law_lot, io__law_rank, np__law_rank, io__law_formula, np__law_formula, io__law_any_formula, np__law_any_formula, io_all_numbers, np_all_numbers, io__law_flat, np__law_flat, io__law_known, np__law_known, io__law_key, np__law_key, io__law_value, np__law_value, io__law_alike, np__law_alike, io_count_at_least, np_count_at_least, io__law_count, np__law_count, io_sizes_of, np_sizes_of, io__law_sizes, np__law_sizes, io_kth_greatest, np_kth_greatest, io_value_of, np_value_of, io__law_table_right, np__law_table_right, io_law, np_law, *])
structure SortOk (s : Srt) : Prop where
  lo : s.2.1 ≤ 3
  hi : ∀ m, s.2.2 = some m → s.2.1 ≤ m ∧ m ≤ 9
  nm : s.1 ∈ menu
theorem one_ints (b : Bag) {ns : List Int} {P : Int → Prop} (h0 : ns ≠ []) (h1 : ns.length ≤ 1000) (hP : ∀ n ∈ ns, P n) : ∃ n b', S__law_one.run [.d (bagD b), .d (.list (ns.map .int))] = .ok ⟨.int n, false, [bagD b']⟩ ∧ P n := by
  obtain ⟨x, b', e, hx⟩ := one_ok b (xs := ns.map .int) (by simpa using h0) (by simpa using h1)
  obtain ⟨n, hn, rfl⟩ := List.mem_map.mp hx
  exact ⟨n, b', e, hP n hn⟩
theorem sort_ok (b : Bag) (name : Str) (hm : name ∈ menu) : ∃ s b', S__law_sort.run [.d (bagD b), .d (.str name)] = .ok ⟨sortD s, true, [bagD b']⟩ ∧ s.1 = name ∧ SortOk s := by
  obtain ⟨w, b1, e1, w0, w1⟩ := take_ok b (m := 7) (by decide) (by decide)
  obtain ⟨f, b2, e2, f0, f1⟩ := one_ints b1 (ns := [0, 1, 2, 1, 3]) (P := fun n => 0 ≤ n ∧ n ≤ 3) (by decide) (by decide) (by decide)
  obtain ⟨f, rfl⟩ := Int.eq_ofNat_of_zero_le f0
  simp only [List.map_cons, List.map_nil] at e2
  rw [r__law_sort]
  unfold m__law_sort
  by_cases c1 : w < 3
  · walk_at "evh"
    exact ⟨(name, 1, some 1), b2, rfl, rfl, by show 1 ≤ 3; decide, fun m e => by cases e; exact ⟨by show 1 ≤ 1; decide, by decide⟩, hm⟩
  by_cases c2 : w = 3
  · subst c2
    walk_at "evh"
    exact ⟨(name, f, some f), b2, rfl, rfl, by show f ≤ 3; omega, fun m e => by cases e; exact ⟨Nat.le_refl _, by show f ≤ 9; omega⟩, hm⟩
  by_cases c3 : w = 4
  · subst c3
    obtain ⟨u, b3, e3, u0, u1⟩ := take_ok b2 (m := 3) (by decide) (by decide)
    obtain ⟨u, rfl⟩ := Int.eq_ofNat_of_zero_le u0
    walk_at "evh"
    exact ⟨(name, 0, some (1 + u)), b3, rfl, rfl, by show 0 ≤ 3; decide, fun m e => by cases e; exact ⟨Nat.zero_le _, by show 1 + u ≤ 9; omega⟩, hm⟩
  by_cases c4 : w = 5
  · subst c4
    obtain ⟨u, b3, e3, u0, u1⟩ := one_ints b2 (ns := [1, 2, 0, 6]) (P := fun n => 0 ≤ n ∧ n ≤ 6) (by decide) (by decide) (by decide)
    obtain ⟨u, rfl⟩ := Int.eq_ofNat_of_zero_le u0
    simp only [List.map_cons, List.map_nil] at e3
    walk_at "evh"
    exact ⟨(name, f, some (f + u)), b3, rfl, rfl, by show f ≤ 3; omega, fun m e => by cases e; exact ⟨Nat.le_add_right _ _, by show f + u ≤ 9; omega⟩, hm⟩
  · walk_at "evh"
    exact ⟨(name, f, none), b2, rfl, rfl, by show f ≤ 3; omega, nofun, hm⟩
structure HouseOk (h : List Srt) : Prop where
  nd : (h.map (·.1)).Nodup
  ok : ∀ s ∈ h, SortOk s
  lo : 1 ≤ h.length
  hi : h.length ≤ 5

end CF.K02
/-! draws -/
namespace CF.K02
open PySem PySem.Spec PyProof.Rows L2 CF
local macro_rules | `(tactic| walk_at "ev") => `(tactic| simp only [↓mNm_ap, ↓mC_ap, ↓m2_ap, ↓m1_ap, ↓mT_ap, ↓mTb_ap, ↓mNot_ap, ↓mAnd_ap, ↓mOr_ap, ↓mB_ap, ↓mIs_ap, ↓mIte_ap, ↓lNil_ap, ↓lCons_ap, ↓mTup_ap, ↓mLst_ap, ↓mBlt_ap, ↓oNo_ap, ↓oYes_ap, ↓mSl_ap, ↓mScr_ap, ↓aNil_ap, ↓aRef_ap, ↓aVal_ap, ↓aTmp_ap, ↓mCall_ap, ↓iEx_ap, ↓iStr_ap, ↓iR1_ap, ↓iR2_ap, ↓iZip_ap, ↓iEnum_ap, ↓iKeys_ap, ↓mKeyLock_ap, ↓cEnd_ap, ↓cIf_ap, ↓cFor_ap, ↓mLc_ap, ↓mYes_ap, ↓sNx_ap, ↓sBrk_ap, ↓sCt_ap, ↓sSeq_ap, ↓sRet_ap, ↓sRetN_ap, ↓sIf_ap, ↓sExp_ap, ↓sAsg_ap, ↓sPar_ap, ↓sAug_ap, ↓sApp_ap, ↓sExt_ap, ↓sIns_ap, ↓sSetL_ap, ↓sAugL_ap, ↓sSetD_ap, ↓sFor_ap, ↓mBin_ap, ↓mCmp_ap, ↓mIx_ap, ↓mNeg_ap, ↓mRev_ap, ↓mSortSet_ap, ↓mSortC_ap, CF.getD, hold, valAt, ownB, ioSlot, okArg, isRef, setAll, ioFits, doCall, hasV, bindOne, bt_nm, bt_tup, bts_nil, bts_cons, allFr, wipeE, restE, freeSlot, itOk, unown, unowns, ownL, wrL, ownD, isScal, isn_none, isn_int, isn_str, isn_bool, isn_tup, isn_list, isn_dict, CF.fin, ioOut, CF.noEx, seqOf, ixN,
  v_add, v_sub, v_mulM, v_mulR, v_mulL, v_mod, v_fdiv, v_pow10, v_addL, v_neg, v_eqI, v_eqS, v_lt, v_le, v_gt, v_ge, v_l0, v_l1, v_l2, v_l3, v_t0, v_t1, v_t2, v_t3, v_s0, v_s1, v_s2, v_slL, v_revL, v_lenL, v_lenT, v_listL, v_listT, v_tupL, v_tupT, v_int, v_abs, v_min, v_max, v_sortI, v_sortIR, v_sortS, v_sum, v_isTop, v_isOpt, zipD, topD_none, topD_some, optD_none, optD_some, Option.isNone_none, Option.isNone_some,
  ↓bk_in, bk_o, bk_x, bk_n, gz, CF.gs, sz, ss, List.length_cons, List.length_nil, List.mapM_cons, List.mapM_nil, Option.pure_def, Option.bind_eq_bind, Option.bind_some, Option.bind_none, List.all_cons, List.all_nil, List.isEmpty_cons, List.isEmpty_nil, List.map_cons, List.map_nil, List.filter_nil, List.filter_cons, List.getD_cons_zero, List.getD_cons_succ, List.nil_append, List.cons_append,
  imm_none, imm_bool, imm_int, imm_str, imm_tup, imm_list, imm_dict, immAll_nil, immAll_cons, imm_top, imm_opt, imm_sort, imm_house, imm_ints, imm_strs, imm_nats, imm_table, imm_bag, immAll_map, implies_true, immAll_ints, immAll_strs, immAll_sorts,
  Bool.and_true, Bool.true_and, Bool.false_and, Bool.and_false, Bool.or_true, Bool.true_or, Bool.or_false, Bool.false_or, Bool.not_true, Bool.not_false, Bool.and_self, Bool.or_self, decide_true, decide_false, decide_eq_true_eq, ↓reduceIte, Bool.false_eq_true, and_self, true_and, and_true, beq_self_eq_true, eq_self, List.contains_cons, List.contains_nil, List.elem_cons, List.elem_nil, bne_self_eq_false, Bool.bne_true, Bool.bne_false, small_mil, Nat.reduceAdd, Nat.reduceSub, Nat.reduceMul, Nat.reduceLT, Nat.reduceLeDiff, Nat.reduceBEq, Nat.reduceEqDiff, Int.reduceAdd, Int.reduceNeg, Int.reduceSub, Int.reduceMul, Int.reducePow, Int.reduceLT, Int.reduceLE, Int.reduceToNat, Int.reduceEq, Int.reduceBEq, Nat.reduceEqDiff, Nat.le_refl, Int.le_refl, Nat.zero_le, Nat.zero_add, Int.cast_ofNat_Int, Nat.zero_lt_succ, Nat.reducePow, Nat.lt_irrefl, beq_iff_eq, Int.reduceNegSucc, io__law_bag, np__law_bag, io__law_take, np__law_take, io__law_one, np__law_one, io__law_sort, np__law_sort, io__law_mixed, np__law_mixed, io__law_names, np__law_names, io__law_house, np__law_house, io__law_size, np__law_size, io__law_table, np__law_table, io__law_numbers, np__law_numbers, io__law_lot, np__law_lot, io__law_rank, np__law_rank, io__law_formula, np__law_formula, io__law_any_formula, np__law_any_formula, io_all_numbers, np_all_numbers, io__law_flat, np__law_flat, io__law_known, np__law_known, io__law_key, np__law_key, io__law_value, np__law_value, io__law_alike, np__law_alike, io_count_at_least, np_count_at_least, io__law_count, np__law_count, io_sizes_of, np_sizes_of, io__law_sizes, np__law_sizes, io_kth_greatest, np_kth_greatest, io_value_of, np_value_of, io__law_table_right, np__law_table_right, io_law, np_law])
local macro_rules | `(tactic| walk_at "evh") => `(tactic| simp only [↓mNm_ap, ↓mC_ap, ↓m2_ap, ↓m1_ap, ↓mT_ap, ↓mTb_ap, ↓mNot_ap, ↓mAnd_ap, ↓mOr_ap, ↓mB_ap, ↓mIs_ap, ↓mIte_ap, ↓lNil_ap, ↓lCons_ap, ↓mTup_ap, ↓mLst_ap, ↓mBlt_ap, ↓oNo_ap, ↓oYes_ap, ↓mSl_ap, ↓mScr_ap, ↓aNil_ap, ↓aRef_ap, ↓aVal_ap, ↓aTmp_ap, ↓mCall_ap, ↓iEx_ap, ↓iStr_ap, ↓iR1_ap, ↓iR2_ap, ↓iZip_ap, ↓iEnum_ap, ↓iKeys_ap, ↓mKeyLock_ap, ↓cEnd_ap, ↓cIf_ap, ↓cFor_ap, ↓mLc_ap, ↓mYes_ap, ↓sNx_ap, ↓sBrk_ap, ↓sCt_ap, ↓sSeq_ap, ↓sRet_ap, ↓sRetN_ap, ↓sIf_ap, ↓sExp_ap, ↓sAsg_ap, ↓sPar_ap, ↓sAug_ap, ↓sApp_ap, ↓sExt_ap, ↓sIns_ap, ↓sSetL_ap, ↓sAugL_ap, ↓sSetD_ap, ↓sFor_ap, ↓mBin_ap, ↓mCmp_ap, ↓mIx_ap, ↓mNeg_ap, ↓mRev_ap, ↓mSortSet_ap, ↓mSortC_ap, CF.getD, hold, valAt, ownB, ioSlot, okArg, isRef, setAll, ioFits, doCall, hasV, bindOne, bt_nm, bt_tup, bts_nil, bts_cons, allFr, wipeE, restE, freeSlot, itOk, unown, unowns, ownL, wrL, ownD, isScal, isn_none, isn_int, isn_str, isn_bool, isn_tup, isn_list, isn_dict, CF.fin, ioOut, CF.noEx, seqOf, ixN,
  v_add, v_sub, v_mulM, v_mulR, v_mulL, v_mod, v_fdiv, v_pow10, v_addL, v_neg, v_eqI, v_eqS, v_lt, v_le, v_gt, v_ge, v_l0, v_l1, v_l2, v_l3, v_t0, v_t1, v_t2, v_t3, v_s0, v_s1, v_s2, v_slL, v_revL, v_lenL, v_lenT, v_listL, v_listT, v_tupL, v_tupT, v_int, v_abs, v_min, v_max, v_sortI, v_sortIR, v_sortS, v_sum, v_isTop, v_isOpt, zipD, topD_none, topD_some, optD_none, optD_some, Option.isNone_none, Option.isNone_some,
  ↓bk_in, bk_o, bk_x, bk_n, gz, CF.gs, sz, ss, List.length_cons, List.length_nil, List.mapM_cons, List.mapM_nil, Option.pure_def, Option.bind_eq_bind, Option.bind_some, Option.bind_none, List.all_cons, List.all_nil, List.isEmpty_cons, List.isEmpty_nil, List.map_cons, List.map_nil, List.filter_nil, List.filter_cons, List.getD_cons_zero, List.getD_cons_succ, List.nil_append, List.cons_append,
  imm_none, imm_bool, imm_int, imm_str, imm_tup, imm_list, imm_dict, immAll_nil, immAll_cons, imm_top, imm_opt, imm_sort, imm_house, imm_ints, imm_strs, imm_nats, imm_table, imm_bag, immAll_map, implies_true, immAll_ints, immAll_strs, immAll_sorts,
  Bool.and_true, Bool.true_and, Bool.false_and, Bool.and_false, Bool.or_true, Bool.true_or, Bool.or_false, Bool.false_or, Bool.not_true, Bool.not_false, Bool.and_self, Bool.or_self, decide_true, decide_false, decide_eq_true_eq, ↓reduceIte, Bool.false_eq_true, and_self, true_and, and_true, beq_self_eq_true, eq_self, List.contains_cons, List.contains_nil, List.elem_cons, List.elem_nil, bne_self_eq_false, Bool.bne_true, Bool.bne_false, small_mil, Nat.reduceAdd, Nat.reduceSub, Nat.reduceMul, Nat.reduceLT, Nat.reduceLeDiff, Nat.reduceBEq, Nat.reduceEqDiff, Int.reduceAdd, Int.reduceNeg, Int.reduceSub, Int.reduceMul, Int.reducePow, Int.reduceLT, Int.reduceLE, Int.reduceToNat, Int.reduceEq, Int.reduceBEq, Nat.reduceEqDiff, Nat.le_refl, Int.le_refl, Nat.zero_le, Nat.zero_add, Int.cast_ofNat_Int, Nat.zero_lt_succ, Nat.reducePow, Nat.lt_irrefl, beq_iff_eq, Int.reduceNegSucc, io__law_bag, np__law_bag, io__law_take, np__law_take, io__law_one, np__law_one, io__law_sort, np__law_sort, io__law_mixed, np__law_mixed, io__law_names, np__law_names, io__law_house, np__law_house, io__law_size, np__law_size, io__law_table, np__law_table, io__law_numbers, np__law_numbers, io__law_lot, np__law_lot, io__law_rank, np__law_rank, io__law_formula, np__law_formula, io__law_any_formula, np__law_any_formula, io_all_numbers, np_all_numbers, io__law_flat, np__law_flat, io__law_known, np__law_known, io__law_key, np__law_key, io__law_value, np__law_value, io__law_alike, np__law_alike, io_count_at_least, np_count_at_least, io__law_count, np__law_count, io_sizes_of, np_sizes_of, io__law_sizes, np__law_sizes, io_kth_greatest, np_kth_greatest, io_value_of, np_value_of, io__law_table_right, np__law_table_right, io_law, np_law, *])
theorem fl (n : Nat) : (n : Int) + 1 = ((n + 1 : Nat) : Int) := by omega
theorem houseOk_of {ns : List Str} {h : List Srt} (nd : ns.Nodup) (lo : 1 ≤ ns.length) (hi : ns.length ≤ 5) (r : All2 (fun n s => s.1 = n ∧ SortOk s) ns h) : HouseOk h :=
  ⟨by rw [r.keyR (f := id) (g := (·.1)) fun a b z => z.1, List.map_id]; exact nd, r.right fun _ _ z => z.2, by rw [← r.length]; exact lo, by rw [← r.length]; exact hi⟩
theorem house_ok (b : Bag) {m : Nat} (h0 : 1 ≤ m) (h1 : m ≤ 5) : ∃ h b', S__law_house.run [.d (bagD b), .d (.int (m : Int))] = .ok ⟨houseD h, true, [bagD b']⟩ ∧ HouseOk h := by
  obtain ⟨v, b1, e1, v0, v1⟩ := take_ok b (m := (m : Int)) (by omega) (by omega)
  obtain ⟨v, rfl⟩ := Int.eq_ofNat_of_zero_le v0
  obtain ⟨ns, b2, e2, n1, n2, n3⟩ := names_ok b1 (m := 1 + v) (by omega) (by omega)
  rw [show ((1 + v : Nat) : Int) = 1 + (v : Int) from by omega] at e2
  rw [r__law_house]
  unfold m__law_house
  walk_at "evh"
  generalize hT : turns _ _ _ _ _ = T
  obtain ⟨L, ds, b3, rfl, _, q1, q2, q3, q4⟩ := turns_stT hT (S := Bag) (fun b => [.v (.d (bagD b)) true, .v (.d (.int (m : Int))) false, .un]) b2 rfl (fun _ => True) trivial (fun n d => ∃ s, d = sortD s ∧ s.1 = n ∧ SortOk s) (fun n hn b _ => by
    obtain ⟨s, b', e, s1, s2⟩ := sort_ok b n (n2 n hn)
    walk_at "evh"
    exact ⟨_, _, _, b', rfl, rfl, trivial, ⟨s, rfl, s1, s2⟩, rfl⟩)
  obtain ⟨h, rfl, hr⟩ := q3.lift fun _ _ z => z
  have hs : small (1 + v) = true := small_mil (by omega)
  walk_at "evh"
  exact ⟨h, b3, rfl, houseOk_of n1 (by omega) (by omega) hr⟩

end CF.K02
/-! draws -/
namespace CF.K02
open PySem PySem.Spec PyProof.Rows L2 CF
local macro_rules | `(tactic| walk_at "ev") => `(tactic| simp only [↓mNm_ap, ↓mC_ap, ↓m2_ap, ↓m1_ap, ↓mT_ap, ↓mTb_ap, ↓mNot_ap, ↓mAnd_ap, ↓mOr_ap, ↓mB_ap, ↓mIs_ap, ↓mIte_ap, ↓lNil_ap, ↓lCons_ap, ↓mTup_ap, ↓mLst_ap, ↓mBlt_ap, ↓oNo_ap, ↓oYes_ap, ↓mSl_ap, ↓mScr_ap, ↓aNil_ap, ↓aRef_ap, ↓aVal_ap, ↓aTmp_ap, ↓mCall_ap, ↓iEx_ap, ↓iStr_ap, ↓iR1_ap, ↓iR2_ap, ↓iZip_ap, ↓iEnum_ap, ↓iKeys_ap, ↓mKeyLock_ap, ↓cEnd_ap, ↓cIf_ap, ↓cFor_ap, ↓mLc_ap, ↓mYes_ap, ↓sNx_ap, ↓sBrk_ap, ↓sCt_ap, ↓sSeq_ap, ↓sRet_ap, ↓sRetN_ap, ↓sIf_ap, ↓sExp_ap, ↓sAsg_ap, ↓sPar_ap, ↓sAug_ap, ↓sApp_ap, ↓sExt_ap, ↓sIns_ap, ↓sSetL_ap, ↓sAugL_ap, ↓sSetD_ap, ↓sFor_ap, ↓mBin_ap, ↓mCmp_ap, ↓mIx_ap, ↓mNeg_ap, ↓mRev_ap, ↓mSortSet_ap, ↓mSortC_ap, CF.getD, hold, valAt, ownB, ioSlot, okArg, isRef, setAll, ioFits, doCall, hasV, bindOne, bt_nm, bt_tup, bts_nil, bts_cons, allFr, wipeE, restE, freeSlot, itOk, unown, unowns, ownL, wrL, ownD, isScal, isn_none, isn_int, isn_str, isn_bool, isn_tup, isn_list, isn_dict, CF.fin, ioOut, CF.noEx, seqOf, ixN,
  v_add, v_sub, v_mulM, v_mulR, v_mulL, v_mod, v_fdiv, v_pow10, v_addL, v_neg, v_eqI, v_eqS, v_lt, v_le, v_gt, v_ge, v_l0, v_l1, v_l2, v_l3, v_t0, v_t1, v_t2, v_t3, v_s0, v_s1, v_s2, v_slL, v_revL, v_lenL, v_lenT, v_listL, v_listT, v_tupL, v_tupT, v_int, v_abs, v_min, v_max, v_sortI, v_sortIR, v_sortS, v_sum, v_isTop, v_isOpt, zipD, topD_none, topD_some, optD_none, optD_some, Option.isNone_none, Option.isNone_some,
  ↓bk_in, bk_o, bk_x, bk_n, gz, CF.gs, sz, ss, List.length_cons, List.length_nil, List.mapM_cons, List.mapM_nil, Option.pure_def, Option.bind_eq_bind, Option.bind_some, Option.bind_none, List.all_cons, List.all_nil, List.isEmpty_cons, List.isEmpty_nil, List.map_cons, List.map_nil, List.filter_nil, List.filter_cons, List.getD_cons_zero, List.getD_cons_succ, List.nil_append, List.cons_append,
  imm_none, imm_bool, imm_int, imm_str, imm_tup, imm_list, imm_dict, immAll_nil, immAll_cons, imm_top, imm_opt, imm_sort, imm_house, imm_ints, imm_strs, imm_nats, imm_table, imm_bag, immAll_map, implies_true, immAll_ints, immAll_strs, immAll_sorts,
  Bool.and_true, Bool.true_and, Bool.false_and, Bool.and_false, Bool.or_true, Bool.true_or, Bool.or_false, Bool.false_or, Bool.not_true, Bool.not_false, Bool.and_self, Bool.or_self, decide_true, decide_false, decide_eq_true_eq, ↓reduceIte, Bool.false_eq_true, and_self, true_and, and_true, beq_self_eq_true, eq_self, List.contains_cons, List.contains_nil, List.elem_cons, List.elem_nil, bne_self_eq_false, Bool.bne_true, Bool.bne_false, small_mil, Nat.reduceAdd, Nat.reduceSub, Nat.reduceMul, Nat.reduceLT, Nat.reduceLeDiff, Nat.reduceBEq, Nat.reduceEqDiff, Int.reduceAdd, Int.reduceNeg, Int.reduceSub, Int.reduceMul, Int.reducePow, Int.reduceLT, Int.reduceLE, Int.reduceToNat, Int.reduceEq, Int.reduceBEq, Nat.reduceEqDiff, Nat.le_refl, Int.le_refl, Nat.zero_le, Nat.zero_add, Int.cast_ofNat_Int, Nat.zero_lt_succ, Nat.reducePow, Nat.lt_irrefl, beq_iff_eq, Int.reduceNegSucc, io__law_bag, np__law_bag, io__law_take, np__law_take, io__law_one, np__law_one, io__law_sort, np__law_sort, io__law_mixed, np__law_mixed, io__law_names, np__law_names, io__law_house, np__law_house, io__law_size, np__law_size, io__law_table, np__law_table, io__law_numbers, np__law_numbers, io__law_lot, np__law_lot, io__law_rank, np__law_rank, io__law_formula, np__law_formula, io__law_any_formula, np__law_any_formula, io_all_numbers, np_all_numbers, io__law_flat, np__law_flat, io__law_known, np__law_known, io__law_key, np__law_key, io__law_value, np__law_value, io__law_alike, np__law_alike, io_count_at_least, np_count_at_least, io__law_count, np__law_count, io_sizes_of, np_sizes_of, io__law_sizes, np__law_sizes, io_kth_greatest, np_kth_greatest, io_value_of, np_value_of, io__law_table_right, np__law_table_right, io_law, np_law])
local macro_rules | `(tactic| walk_at "evh") => `(tactic| simp only [↓mNm_ap, ↓mC_ap, ↓m2_ap, ↓m1_ap, ↓mT_ap, ↓mTb_ap, ↓mNot_ap, ↓mAnd_ap, ↓mOr_ap, ↓mB_ap, ↓mIs_ap, ↓mIte_ap, ↓lNil_ap, ↓lCons_ap, ↓mTup_ap, ↓mLst_ap, ↓mBlt_ap, ↓oNo_ap, ↓oYes_ap, ↓mSl_ap, ↓mScr_ap, ↓aNil_ap, ↓aRef_ap, ↓aVal_ap, ↓aTmp_ap, ↓mCall_ap, ↓iEx_ap, ↓iStr_ap, ↓iR1_ap, ↓iR2_ap, ↓iZip_ap, ↓iEnum_ap, ↓iKeys_ap, ↓mKeyLock_ap, ↓cEnd_ap, ↓cIf_ap, ↓cFor_ap, ↓mLc_ap, ↓mYes_ap, ↓sNx_ap, ↓sBrk_ap, ↓sCt_ap, ↓sSeq_ap, ↓sRet_ap, ↓sRetN_ap, ↓sIf_ap, ↓sExp_ap, ↓sAsg_ap, ↓sPar_ap, ↓sAug_ap, ↓sApp_ap, ↓sExt_ap, ↓sIns_ap, ↓sSetL_ap, ↓sAugL_ap, ↓sSetD_ap, ↓sFor_ap, ↓mBin_ap, ↓mCmp_ap, ↓mIx_ap, ↓mNeg_ap, ↓mRev_ap, ↓mSortSet_ap, ↓mSortC_ap, CF.getD, hold, valAt, ownB, ioSlot, okArg, isRef, setAll, ioFits, doCall, hasV, bindOne, bt_nm, bt_tup, bts_nil, bts_cons, allFr, wipeE, restE, freeSlot, itOk, unown, unowns, ownL, wrL, ownD, isScal, isn_none, isn_int, isn_str, isn_bool, isn_tup, isn_list, isn_dict, CF.fin, ioOut, CF.noEx, seqOf, ixN,
  v_add, v_sub, v_mulM, v_mulR, v_mulL, v_mod, v_fdiv, v_pow10, v_addL, v_neg, v_eqI, v_eqS, v_lt, v_le, v_gt, v_ge, v_l0, v_l1, v_l2, v_l3, v_t0, v_t1, v_t2, v_t3, v_s0, v_s1, v_s2, v_slL, v_revL, v_lenL, v_lenT, v_listL, v_listT, v_tupL, v_tupT, v_int, v_abs, v_min, v_max, v_sortI, v_sortIR, v_sortS, v_sum, v_isTop, v_isOpt, zipD, topD_none, topD_some, optD_none, optD_some, Option.isNone_none, Option.isNone_some,
  ↓bk_in, bk_o, bk_x, bk_n, gz, CF.gs, sz, ss, List.length_cons, List.length_nil, List.mapM_cons, List.mapM_nil, Option.pure_def, Option.bind_eq_bind, Option.bind_some, Option.bind_none, List.all_cons, List.all_nil, List.isEmpty_cons, List.isEmpty_nil, List.map_cons, List.map_nil, List.filter_nil, List.filter_cons, List.getD_cons_zero, List.getD_cons_succ, List.nil_append, List.cons_append,
  imm_none, imm_bool, imm_int, imm_str, imm_tup, imm_list, imm_dict, immAll_nil, immAll_cons, imm_top, imm_opt, imm_sort, imm_house, imm_ints, imm_strs, imm_nats, imm_table, imm_bag, immAll_map, implies_true, immAll_ints, immAll_strs, immAll_sorts,
  Bool.and_true, Bool.true_and, Bool.false_and, Bool.and_false, Bool.or_true, Bool.true_or, Bool.or_false, Bool.false_or, Bool.not_true, Bool.not_false, Bool.and_self, Bool.or_self, decide_true, decide_false, decide_eq_true_eq, ↓reduceIte, Bool.false_eq_true, and_self, true_and, and_true, beq_self_eq_true, eq_self, List.contains_cons, List.contains_nil, List.elem_cons, List.elem_nil, bne_self_eq_false, Bool.bne_true, Bool.bne_false, small_mil, Nat.reduceAdd, Nat.reduceSub, Nat.reduceMul, Nat.reduceLT, Nat.reduceLeDiff, Nat.reduceBEq, Nat.reduceEqDiff, Int.reduceAdd, Int.reduceNeg, Int.reduceSub, Int.reduceMul, Int.reducePow, Int.reduceLT, Int.reduceLE, Int.reduceToNat, Int.reduceEq, Int.reduceBEq, Nat.reduceEqDiff, Nat.le_refl, Int.le_refl, Nat.zero_le, Nat.zero_add, Int.cast_ofNat_Int, Nat.zero_lt_succ, Nat.reducePow, Nat.lt_irrefl, beq_iff_eq, Int.reduceNegSucc, io__law_bag, np__law_bag, io__law_take, np__law_take, io__law_one, np__law_one, io__law_sort, np__law_sort, io__law_mixed, np__law_mixed, io__law_names, np__law_names, io__law_house, np__law_house, io__law_size, np__law_size, io__law_table, np__law_table, io__law_numbers, np__law_numbers, io__law_lot, np__law_lot, io__law_rank, np__law_rank, io__law_formula, np__law_formula, io__law_any_formula, np__law_any_formula, io_all_numbers, np_all_numbers, io__law_flat, np__law_flat, io__law_known, np__law_known, io__law_key, np__law_key, io__law_value, np__law_value, io__law_alike, np__law_alike, io_count_at_least, np_count_at_least, io__law_count, np__law_count, io_sizes_of, np_sizes_of, io__law_sizes, np__law_sizes, io_kth_greatest, np_kth_greatest, io_value_of, np_value_of, io__law_table_right, np__law_table_right, io_law, np_law, *])
theorem numbers_ok (b : Bag) : ∃ (ns : List Int) (b' : Bag), S__law_numbers.run [.d (bagD b)] = .ok ⟨.list (ns.map .int), true, [bagD b']⟩ ∧ 1 ≤ ns.length ∧ ns.length ≤ 7 ∧ ∀ n ∈ ns, n.natAbs < 10 ^ 40 := by
  obtain ⟨lo, b1, e1, l1⟩ := one_ints b (ns := [0, -2, 5, 0, -999999999999999999999999999999]) (P := fun n => n.natAbs ≤ 10 ^ 30) (by simp) (by simp) (by
    intro n hn
    simp at hn
    have h30 : (10 : Nat) ^ 30 = 1000000000000000000000000000000 := by decide
    rw [h30]; omega)
  obtain ⟨st, b2, e2, s1⟩ := one_ints b1 (ns := [1, 2, 1, 3, 100000000000000000000000000000]) (P := fun n => n.natAbs ≤ 10 ^ 30) (by simp) (by simp) (by
    intro n hn
    simp at hn
    have h30 : (10 : Nat) ^ 30 = 1000000000000000000000000000000 := by decide
    rw [h30]; omega)
  obtain ⟨v, b3, e3, v0, v1⟩ := take_ok b2 (m := 7) (by decide) (by decide)
  obtain ⟨v, rfl⟩ := Int.eq_ofNat_of_zero_le v0
  simp only [List.map_cons, List.map_nil] at e1 e2
  have r1 : -(4611686018427387904 : Int) ≤ 1 + (v : Int) := by omega
  have r2 : 1 + (v : Int) < 4611686018427387904 := by omega
  rw [r__law_numbers]
  unfold m__law_numbers
  walk_at "evh"
  generalize hT : turns _ _ _ _ _ = T
  obtain ⟨L, rfl, q1, q2, q4⟩ := turns_map1 hT (fun k => .int (lo + st * (k : Nat))) (fun k hk => by
    have hk' := List.mem_range.mp hk
    have k1 : -(18446744073709551616 : Int) < (k : Int) := by omega
    have k2 : (k : Int) < 18446744073709551616 := by omega
    walk_at "evh"
    exact ⟨_, _, rfl, rfl, rfl⟩)
  have hl : (1 + (v : Int)).toNat = 1 + v := by omega
  rw [List.length_range, hl] at q2
  have hs : small (1 + v) = true := small_mil (by omega)
  walk_at "evh"
  refine ⟨(List.range (1 + v)).map fun k => lo + st * (k : Nat), b3, by rw [List.map_map]; rfl, ?_, ?_, ?_⟩
  · rw [List.length_map, List.length_range]; omega
  · rw [List.length_map, List.length_range]; omega
  · intro n hn
    obtain ⟨k, hk, rfl⟩ := List.mem_map.mp hn
    have hk' := List.mem_range.mp hk
    have h1 : (lo + st * (k : Int)).natAbs ≤ lo.natAbs + st.natAbs * k := by
      have := Int.natAbs_add_le lo (st * (k : Int))
      rw [Int.natAbs_mul, Int.natAbs_natCast] at this
      exact this
    have h2 : st.natAbs * k ≤ 10 ^ 30 * 7 := Nat.mul_le_mul s1 (by omega)
    have h3 : (10 : Nat) ^ 30 + 10 ^ 30 * 7 < 10 ^ 40 := by decide
    omega
theorem size_ok (b : Bag) (s : Srt) (hs : SortOk s) {more : Nat} (hm : more ≤ 6) : ∃ (n : Nat) (b' : Bag), S__law_size.run [.d (bagD b), .d (sortD s), .d (.int (more : Nat))] = .ok ⟨.int (n : Nat), true, [bagD b']⟩ ∧ s.2.1 ≤ n ∧ n ≤ 9 ∧ ∀ m, s.2.2 = some m → n ≤ m := by
  obtain ⟨name, lo, hi⟩ := s
  have h1 := hs.lo
  have h2 := hs.hi
  dsimp only at h1 h2
  rw [r__law_size]
  unfold m__law_size
  cases hi with
  | none =>
    obtain ⟨v, b1, e1, v0, v1⟩ := take_ok b (m := (lo : Int) + (more : Int) - (lo : Int) + 1) (by omega) (by omega)
    obtain ⟨v, rfl⟩ := Int.eq_ofNat_of_zero_le v0
    walk_at "evh"
    exact ⟨lo + v, b1, rfl, Nat.le_add_right _ _, by omega, nofun⟩
  | some m =>
    obtain ⟨h3, h4⟩ := h2 m rfl
    obtain ⟨v, b1, e1, v0, v1⟩ := take_ok b (m := (if (lo : Int) + (more : Int) < (m : Int) then (lo : Int) + (more : Int) else (m : Int)) - (lo : Int) + 1) (by split <;> omega) (by split <;> omega)
    obtain ⟨v, rfl⟩ := Int.eq_ofNat_of_zero_le v0
    have h5 : lo + v ≤ 9 ∧ lo + v ≤ m := by
      split at v1 <;> omega
    clear v1 v0 h2
    walk_at "evh"
    exact ⟨lo + v, b1, rfl, Nat.le_add_right _ _, h5.1, fun k e => by cases e; exact h5.2⟩

end CF.K02
/-! draws -/
namespace CF.K02
open PySem PySem.Spec PyProof.Rows L2 CF
local macro_rules | `(tactic| walk_at "ev") => `(tactic| simp only [↓mNm_ap, ↓mC_ap, ↓m2_ap, ↓m1_ap, ↓mT_ap, ↓mTb_ap, ↓mNot_ap, ↓mAnd_ap, ↓mOr_ap, ↓mB_ap, ↓mIs_ap, ↓mIte_ap, ↓lNil_ap, ↓lCons_ap, ↓mTup_ap, ↓mLst_ap, ↓mBlt_ap, ↓oNo_ap, ↓oYes_ap, ↓mSl_ap, ↓mScr_ap, ↓aNil_ap, ↓aRef_ap, ↓aVal_ap, ↓aTmp_ap, ↓mCall_ap, ↓iEx_ap, ↓iStr_ap, ↓iR1_ap, ↓iR2_ap, ↓iZip_ap, ↓iEnum_ap, ↓iKeys_ap, ↓mKeyLock_ap, ↓cEnd_ap, ↓cIf_ap, ↓cFor_ap, ↓mLc_ap, ↓mYes_ap, ↓sNx_ap, ↓sBrk_ap, ↓sCt_ap, ↓sSeq_ap, ↓sRet_ap, ↓sRetN_ap, ↓sIf_ap, ↓sExp_ap, ↓sAsg_ap, ↓sPar_ap, ↓sAug_ap, ↓sApp_ap, ↓sExt_ap, ↓sIns_ap, ↓sSetL_ap, ↓sAugL_ap, ↓sSetD_ap, ↓sFor_ap, ↓mBin_ap, ↓mCmp_ap, ↓mIx_ap, ↓mNeg_ap, ↓mRev_ap, ↓mSortSet_ap, ↓mSortC_ap, CF.getD, hold, valAt, ownB, ioSlot, okArg, isRef, setAll, ioFits, doCall, hasV, bindOne, bt_nm, bt_tup, bts_nil, bts_cons, allFr, wipeE, restE, freeSlot, itOk, unown, unowns, ownL, wrL, ownD, isScal, isn_none, isn_int, isn_str, isn_bool, isn_tup, isn_list, isn_dict, CF.fin, ioOut, CF.noEx, seqOf, ixN,
  v_add, v_sub, v_mulM, v_mulR, v_mulL, v_mod, v_fdiv, v_pow10, v_addL, v_neg, v_eqI, v_eqS, v_lt, v_le, v_gt, v_ge, v_l0, v_l1, v_l2, v_l3, v_t0, v_t1, v_t2, v_t3, v_s0, v_s1, v_s2, v_slL, v_revL, v_lenL, v_lenT, v_listL, v_listT, v_tupL, v_tupT, v_int, v_abs, v_min, v_max, v_sortI, v_sortIR, v_sortS, v_sum, v_isTop, v_isOpt, zipD, topD_none, topD_some, optD_none, optD_some, Option.isNone_none, Option.isNone_some,
  ↓bk_in, bk_o, bk_x, bk_n, gz, CF.gs, sz, ss, List.length_cons, List.length_nil, List.mapM_cons, List.mapM_nil, Option.pure_def, Option.bind_eq_bind, Option.bind_some, Option.bind_none, List.all_cons, List.all_nil, List.isEmpty_cons, List.isEmpty_nil, List.map_cons, List.map_nil, List.filter_nil, List.filter_cons, List.getD_cons_zero, List.getD_cons_succ, List.nil_append, List.cons_append,
  imm_none, imm_bool, imm_int, imm_str, imm_tup, imm_list, imm_dict, immAll_nil, immAll_cons, imm_top, imm_opt, imm_sort, imm_house, imm_ints, imm_strs, imm_nats, imm_table, imm_bag, immAll_map, implies_true, immAll_ints, immAll_strs, immAll_sorts,
  Bool.and_true, Bool.true_and, Bool.false_and, Bool.and_false, Bool.or_true, Bool.true_or, Bool.or_false, Bool.false_or, Bool.not_true, Bool.not_false, Bool.and_self, Bool.or_self, decide_true, decide_false, decide_eq_true_eq, ↓reduceIte, Bool.false_eq_true, and_self, true_and, and_true, beq_self_eq_true, eq_self, List.contains_cons, List.contains_nil, List.elem_cons, List.elem_nil, bne_self_eq_false, Bool.bne_true, Bool.bne_false, small_mil, Nat.reduceAdd, Nat.reduceSub, Nat.reduceMul, Nat.reduceLT, Nat.reduceLeDiff, Nat.reduceBEq, Nat.reduceEqDiff, Int.reduceAdd, Int.reduceNeg, Int.reduceSub, Int.reduceMul, Int.reducePow, Int.reduceLT, Int.reduceLE, Int.reduceToNat, Int.reduceEq, Int.reduceBEq, Nat.reduceEqDiff, Nat.le_refl, Int.le_refl, Nat.zero_le, Nat.zero_add, Int.cast_ofNat_Int, Nat.zero_lt_succ, Nat.reducePow, Nat.lt_irrefl, beq_iff_eq, Int.reduceNegSucc, io__law_bag, np__law_bag, io__law_take, np__law_take, io__law_one, np__law_one, io__law_sort, np__law_sort, io__law_mixed, np__law_mixed, io__law_names, np__law_names, io__law_house, np__law_house, io__law_size, np__law_size, io__law_table, np__law_table, io__law_numbers, np__law_numbers, io__law_lot, np__law_lot, io__law_rank, np__law_rank, io__law_formula, np__law_formula, io__law_any_formula, np__law_any_formula, io_all_numbers, np_all_numbers, io__law_flat, np__law_flat, io__law_known, np__law_known, io__law_key, np__law_key, io__law_value, np__law_value, io__law_alike, np__law_alike, io_count_at_least, np_count_at_least, io__law_count, np__law_count, io_sizes_of, np_sizes_of, io__law_sizes, np__law_sizes, io_kth_greatest, np_kth_greatest, io_value_of, np_value_of, io__law_table_right, np__law_table_right, io_law, np_law])
local macro_rules | `(tactic| walk_at "evh") => `(tactic| simp only [↓mNm_ap, ↓mC_ap, ↓m2_ap, ↓m1_ap, ↓mT_ap, ↓mTb_ap, ↓mNot_ap, ↓mAnd_ap, ↓mOr_ap, ↓mB_ap, ↓mIs_ap, ↓mIte_ap, ↓lNil_ap, ↓lCons_ap, ↓mTup_ap, ↓mLst_ap, ↓mBlt_ap, ↓oNo_ap, ↓oYes_ap, ↓mSl_ap, ↓mScr_ap, ↓aNil_ap, ↓aRef_ap, ↓aVal_ap, ↓aTmp_ap, ↓mCall_ap, ↓iEx_ap, ↓iStr_ap, ↓iR1_ap, ↓iR2_ap, ↓iZip_ap, ↓iEnum_ap, ↓iKeys_ap, ↓mKeyLock_ap, ↓cEnd_ap, ↓cIf_ap, ↓cFor_ap, ↓mLc_ap, ↓mYes_ap, ↓sNx_ap, ↓sBrk_ap, ↓sCt_ap, ↓sSeq_ap, ↓sRet_ap, ↓sRetN_ap, ↓sIf_ap, ↓sExp_ap, ↓sAsg_ap, ↓sPar_ap, ↓sAug_ap, ↓sApp_ap, ↓sExt_ap, ↓sIns_ap, ↓sSetL_ap, ↓sAugL_ap, ↓sSetD_ap, ↓sFor_ap, ↓mBin_ap, ↓mCmp_ap, ↓mIx_ap, ↓mNeg_ap, ↓mRev_ap, ↓mSortSet_ap, ↓mSortC_ap, CF.getD, hold, valAt, ownB, ioSlot, okArg, isRef, setAll, ioFits, doCall, hasV, bindOne, bt_nm, bt_tup, bts_nil, bts_cons, allFr, wipeE, restE, freeSlot, itOk, unown, unowns, ownL, wrL, ownD, isScal, isn_none, isn_int, isn_str, isn_bool, isn_tup, isn_list, isn_dict, CF.fin, ioOut, CF.noEx, seqOf, ixN,
  v_add, v_sub, v_mulM, v_mulR, v_mulL, v_mod, v_fdiv, v_pow10, v_addL, v_neg, v_eqI, v_eqS, v_lt, v_le, v_gt, v_ge, v_l0, v_l1, v_l2, v_l3, v_t0, v_t1, v_t2, v_t3, v_s0, v_s1, v_s2, v_slL, v_revL, v_lenL, v_lenT, v_listL, v_listT, v_tupL, v_tupT, v_int, v_abs, v_min, v_max, v_sortI, v_sortIR, v_sortS, v_sum, v_isTop, v_isOpt, zipD, topD_none, topD_some, optD_none, optD_some, Option.isNone_none, Option.isNone_some,
  ↓bk_in, bk_o, bk_x, bk_n, gz, CF.gs, sz, ss, List.length_cons, List.length_nil, List.mapM_cons, List.mapM_nil, Option.pure_def, Option.bind_eq_bind, Option.bind_some, Option.bind_none, List.all_cons, List.all_nil, List.isEmpty_cons, List.isEmpty_nil, List.map_cons, List.map_nil, List.filter_nil, List.filter_cons, List.getD_cons_zero, List.getD_cons_succ, List.nil_append, List.cons_append,
  imm_none, imm_bool, imm_int, imm_str, imm_tup, imm_list, imm_dict, immAll_nil, immAll_cons, imm_top, imm_opt, imm_sort, imm_house, imm_ints, imm_strs, imm_nats, imm_table, imm_bag, immAll_map, implies_true, immAll_ints, immAll_strs, immAll_sorts,
  Bool.and_true, Bool.true_and, Bool.false_and, Bool.and_false, Bool.or_true, Bool.true_or, Bool.or_false, Bool.false_or, Bool.not_true, Bool.not_false, Bool.and_self, Bool.or_self, decide_true, decide_false, decide_eq_true_eq, ↓reduceIte, Bool.false_eq_true, and_self, true_and, and_true, beq_self_eq_true, eq_self, List.contains_cons, List.contains_nil, List.elem_cons, List.elem_nil, bne_self_eq_false, Bool.bne_true, Bool.bne_false, small_mil, Nat.reduceAdd, Nat.reduceSub, Nat.reduceMul, Nat.reduceLT, Nat.reduceLeDiff, Nat.reduceBEq, Nat.reduceEqDiff, Int.reduceAdd, Int.reduceNeg, Int.reduceSub, Int.reduceMul, Int.reducePow, Int.reduceLT, Int.reduceLE, Int.reduceToNat, Int.reduceEq, Int.reduceBEq, Nat.reduceEqDiff, Nat.le_refl, Int.le_refl, Nat.zero_le, Nat.zero_add, Int.cast_ofNat_Int, Nat.zero_lt_succ, Nat.reducePow, Nat.lt_irrefl, beq_iff_eq, Int.reduceNegSucc, io__law_bag, np__law_bag, io__law_take, np__law_take, io__law_one, np__law_one, io__law_sort, np__law_sort, io__law_mixed, np__law_mixed, io__law_names, np__law_names, io__law_house, np__law_house, io__law_size, np__law_size, io__law_table, np__law_table, io__law_numbers, np__law_numbers, io__law_lot, np__law_lot, io__law_rank, np__law_rank, io__law_formula, np__law_formula, io__law_any_formula, np__law_any_formula, io_all_numbers, np_all_numbers, io__law_flat, np__law_flat, io__law_known, np__law_known, io__law_key, np__law_key, io__law_value, np__law_value, io__law_alike, np__law_alike, io_count_at_least, np_count_at_least, io__law_count, np__law_count, io_sizes_of, np_sizes_of, io__law_sizes, np__law_sizes, io_kth_greatest, np_kth_greatest, io_value_of, np_value_of, io__law_table_right, np__law_table_right, io_law, np_law, *])
def tabKv (t : Tab) : List (D × D) := t.map fun p => (.str p.1, intsD p.2)
theorem tab_fits (t : Tab) (n : Str) : keyFits (tabKv t) (.str n) = true := by
  unfold keyFits tabKv
  rw [Bool.and_eq_true]
  refine ⟨rfl, List.all_eq_true.mpr fun p hp => ?_⟩
  obtain ⟨q, _, rfl⟩ := List.mem_map.mp hp
  rfl
theorem deq_str (a b : Str) : deq (.str a) (.str b) = (a == b) := by rw [deq]
theorem tab_put {t : Tab} {n : Str} (h : n ∉ t.map (·.1)) (ns : List Int) : dput (tabKv t) (.str n) (intsD ns) = tabKv (t ++ [(n, ns)]) := by
  have e : (tabKv t).any (fun p => deq p.1 (.str n)) = false := by
    rw [List.any_eq_false]
    intro p hp
    obtain ⟨q, hq, rfl⟩ := List.mem_map.mp hp
    rw [deq_str]
    intro z
    exact h (List.mem_map.mpr ⟨q, hq, by simpa using z⟩)
  unfold dput
  rw [e, if_neg Bool.false_ne_true]
  unfold tabKv
  rw [List.map_append]; rfl
structure RowsOk (pool : List Int) (s : Srt) (ns : List Int) : Prop where
  mem : ∀ n ∈ ns, n ∈ pool
  lo : s.2.1 ≤ ns.length
  hi : ∀ m, s.2.2 = some m → ns.length ≤ m
  most : ns.length ≤ 9
structure TabOk (h : List Srt) (pool : List Int) (t : Tab) : Prop where
  keys : (t.map (·.1)).Perm (h.map (·.1))
  rows : ∀ p ∈ t, ∃ s ∈ h, p.1 = s.1 ∧ RowsOk pool s p.2
theorem table_ok (b : Bag) {h : List Srt} (hh : HouseOk h) {pool : List Int} (p0 : 1 ≤ pool.length) (p1 : pool.length ≤ 1000) {more : Nat} (hm : more ≤ 6) : ∃ t b', S__law_table.run [.d (bagD b), .d (houseD h), .d (.list (pool.map .int)), .d (.int (more : Nat))] = .ok ⟨.dict (tabKv t), true, [bagD b']⟩ ∧ TabOk h pool t := by
  have hhi := hh.hi
  obtain ⟨ys, b1, e1, hp⟩ := mixed_ok b (xs := h.map sortD) (.inr rfl) (immAll_sorts h) (by rw [List.length_map]; omega)
  obtain ⟨hs, rfl, hq⟩ := CM.perm_map_inv hp rfl
  rw [r__law_table]
  unfold m__law_table
  walk_at "evh"
  generalize hT : forTurns _ _ _ _ = T
  obtain ⟨⟨b2, t, s5⟩, rfl, t1, t2⟩ := forTurns_stT hT (S := Bag × Tab × SlV) (fun s => [.v (.d (bagD s.1)) true, .v (.d (houseD h)) false, .v (.d (.list (pool.map .int))) false, .v (.d (.int (more : Nat))) false, .v (.d (.dict (tabKv s.2.1))) true, s.2.2, .un]) (b1, [], .un) rfl
    (fun r s => ((s.2.1.map (·.1)) ++ r.map (·.1)).Perm (h.map (·.1)) ∧ (∀ z ∈ r, z ∈ h) ∧ ∀ p ∈ s.2.1, ∃ s ∈ h, p.1 = s.1 ∧ RowsOk pool s p.2) ⟨by rw [List.map_nil, List.nil_append]; exact hq.map _, fun z m => hq.mem_iff.mp m, nofun⟩ (fun z r s hI => by
      obtain ⟨b, t, s5⟩ := s
      obtain ⟨I1, I3, I2⟩ := hI
      dsimp only at I1 I2 ⊢
      have nd := (I1.nodup_iff).mpr hh.nd
      rw [List.map_cons, List.nodup_append] at nd
      have nt : z.1 ∉ t.map (·.1) := fun m => nd.2.2 _ m _ List.mem_cons_self rfl
      have hl := I1.length_eq
      simp only [List.length_append, List.length_map, List.map_cons, List.length_cons] at hl
      have zh : z ∈ h := I3 z List.mem_cons_self
      obtain ⟨n, b3, e3, n1, n2, n3⟩ := size_ok b z (hh.ok z zh) hm
      have r1 : -(4611686018427387904 : Int) ≤ (n : Int) := by omega
      have r2 : (n : Int) < 4611686018427387904 := by omega
      walk_at "evh"
      generalize hT2 : turns _ _ _ _ _ = T2
      obtain ⟨L, ds, b4, rfl, _, q1, q2, q3, q4⟩ := turns_stT hT2 (S := Bag) (fun b => [.v (.d (bagD b)) true, .v (.d (houseD h)) false, .v (.d (.list (pool.map .int))) false, .v (.d (.int (more : Nat))) false, .v (.d (.dict (tabKv t))) true, .v (.d (sortD z)) true, .un]) b3 rfl (fun _ => True) trivial (fun n d => ∃ k : Int, d = .int k ∧ k ∈ pool) (fun n hn b _ => by
        obtain ⟨k, b', e, hk⟩ := one_ints b (ns := pool) (P := fun n => n ∈ pool) (List.length_pos_iff.mp (by omega)) p1 (fun n hn => hn)
        walk_at "evh"
        exact ⟨_, _, _, b', rfl, rfl, trivial, ⟨k, rfl, hk⟩, rfl⟩)
      obtain ⟨ks, rfl, hr⟩ := q3.lift fun _ _ z => z
      have hkl : ks.length = n := by rw [← hr.length, List.length_range]; omega
      have hsm : small (List.range (n : Int).toNat).length = true := small_mil (by rw [List.length_range]; omega)
      have hsm2 : small ((tabKv t).length + 1) = true := small_mil (by rw [tabKv, List.length_map]; omega)
      have kf := tab_fits t z.1
      have tp := tab_put nt (CM.srt ks)
      walk_at "evh"
      refine ⟨(b4, t ++ [(z.1, CM.srt ks)], _), .inl rfl, ?_, fun y m => I3 y (List.mem_cons_of_mem _ m), ?_⟩
      · rw [List.map_append, List.append_assoc]
        exact I1
      · intro p hp
        rcases List.mem_append.mp hp with hp | hp
        · exact I2 p hp
        · rw [List.mem_singleton.mp hp]
          refine ⟨z, zh, rfl, fun k hk => ?_, ?_, fun m hm => ?_, ?_⟩
          · exact hr.right (fun _ _ z => z) k ((CM.srt_perm ks).mem_iff.mp hk)
          · rw [CM.srt_len, hkl]; exact n1
          · rw [CM.srt_len, hkl]; exact n3 m hm
          · rw [CM.srt_len, hkl]; exact n2)
  walk_at "evh"
  exact ⟨t, b2, rfl, by simpa using t1, t2.2⟩

end CF.K02
/-! draws -/
namespace CF.K02
open PySem PySem.Spec PyProof.Rows L2 CF
local macro_rules | `(tactic| walk_at "ev") => `(tactic| simp only [↓mNm_ap, ↓mC_ap, ↓m2_ap, ↓m1_ap, ↓mT_ap, ↓mTb_ap, ↓mNot_ap, ↓mAnd_ap, ↓mOr_ap, ↓mB_ap, ↓mIs_ap, ↓mIte_ap, ↓lNil_ap, ↓lCons_ap, ↓mTup_ap, ↓mLst_ap, ↓mBlt_ap, ↓oNo_ap, ↓oYes_ap, ↓mSl_ap, ↓mScr_ap, ↓aNil_ap, ↓aRef_ap, ↓aVal_ap, ↓aTmp_ap, ↓mCall_ap, ↓iEx_ap, ↓iStr_ap, ↓iR1_ap, ↓iR2_ap, ↓iZip_ap, ↓iEnum_ap, ↓iKeys_ap, ↓mKeyLock_ap, ↓cEnd_ap, ↓cIf_ap, ↓cFor_ap, ↓mLc_ap, ↓mYes_ap, ↓sNx_ap, ↓sBrk_ap, ↓sCt_ap, ↓sSeq_ap, ↓sRet_ap, ↓sRetN_ap, ↓sIf_ap, ↓sExp_ap, ↓sAsg_ap, ↓sPar_ap, ↓sAug_ap, ↓sApp_ap, ↓sExt_ap, ↓sIns_ap, ↓sSetL_ap, ↓sAugL_ap, ↓sSetD_ap, ↓sFor_ap, ↓mBin_ap, ↓mCmp_ap, ↓mIx_ap, ↓mNeg_ap, ↓mRev_ap, ↓mSortSet_ap, ↓mSortC_ap, CF.getD, hold, valAt, ownB, ioSlot, okArg, isRef, setAll, ioFits, doCall, hasV, bindOne, bt_nm, bt_tup, bts_nil, bts_cons, allFr, wipeE, restE, freeSlot, itOk, unown, unowns, ownL, wrL, ownD, isScal, isn_none, isn_int, isn_str, isn_bool, isn_tup, isn_list, isn_dict, CF.fin, ioOut, CF.noEx, seqOf, ixN,
  v_add, v_sub, v_mulM, v_mulR, v_mulL, v_mod, v_fdiv, v_pow10, v_addL, v_neg, v_eqI, v_eqS, v_lt, v_le, v_gt, v_ge, v_l0, v_l1, v_l2, v_l3, v_t0, v_t1, v_t2, v_t3, v_s0, v_s1, v_s2, v_slL, v_revL, v_lenL, v_lenT, v_listL, v_listT, v_tupL, v_tupT, v_int, v_abs, v_min, v_max, v_sortI, v_sortIR, v_sortS, v_sum, v_isTop, v_isOpt, zipD, topD_none, topD_some, optD_none, optD_some, Option.isNone_none, Option.isNone_some,
  ↓bk_in, bk_o, bk_x, bk_n, gz, CF.gs, sz, ss, List.length_cons, List.length_nil, List.mapM_cons, List.mapM_nil, Option.pure_def, Option.bind_eq_bind, Option.bind_some, Option.bind_none, List.all_cons, List.all_nil, List.isEmpty_cons, List.isEmpty_nil, List.map_cons, List.map_nil, List.filter_nil, List.filter_cons, List.getD_cons_zero, List.getD_cons_succ, List.nil_append, List.cons_append,
  imm_none, imm_bool, imm_int, imm_str, imm_tup, imm_list, imm_dict, immAll_nil, immAll_cons, imm_top, imm_opt, imm_sort, imm_house, imm_ints, imm_strs, imm_nats, imm_table, imm_bag, immAll_map, implies_true, immAll_ints, immAll_strs, immAll_sorts,
  Bool.and_true, Bool.true_and, Bool.false_and, Bool.and_false, Bool.or_true, Bool.true_or, Bool.or_false, Bool.false_or, Bool.not_true, Bool.not_false, Bool.and_self, Bool.or_self, decide_true, decide_false, decide_eq_true_eq, ↓reduceIte, Bool.false_eq_true, and_self, true_and, and_true, beq_self_eq_true, eq_self, List.contains_cons, List.contains_nil, List.elem_cons, List.elem_nil, bne_self_eq_false, Bool.bne_true, Bool.bne_false, small_mil, Nat.reduceAdd, Nat.reduceSub, Nat.reduceMul, Nat.reduceLT, Nat.reduceLeDiff, Nat.reduceBEq, Nat.reduceEqDiff, Int.reduceAdd, Int.reduceNeg, Int.reduceSub, Int.reduceMul, Int.reducePow, Int.reduceLT, Int.reduceLE, Int.reduceToNat, Int.reduceEq, Int.reduceBEq, Nat.reduceEqDiff, Nat.le_refl, Int.le_refl, Nat.zero_le, Nat.zero_add, Int.cast_ofNat_Int, Nat.zero_lt_succ, Nat.reducePow, Nat.lt_irrefl, beq_iff_eq, Int.reduceNegSucc, io__law_bag, np__law_bag, io__law_take, np__law_take, io__law_one, np__law_one, io__law_sort, np__law_sort, io__law_mixed, np__law_mixed, io__law_names, np__law_names, io__law_house, np__law_house, io__law_size, np__law_size, io__law_table, np__law_table, io__law_numbers, np__law_numbers, io__law_lot, np__law_lot, io__law_rank, np__law_rank, io__law_formula, np__law_formula, io__law_any_formula, np__law_any_formula, io_all_numbers, np_all_numbers, io__law_flat, np__law_flat, io__law_known, np__law_known, io__law_key, np__law_key, io__law_value, np__law_value, io__law_alike, np__law_alike, io_count_at_least, np_count_at_least, io__law_count, np__law_count, io_sizes_of, np_sizes_of, io__law_sizes, np__law_sizes, io_kth_greatest, np_kth_greatest, io_value_of, np_value_of, io__law_table_right, np__law_table_right, io_law, np_law])
local macro_rules | `(tactic| walk_at "evh") => `(tactic| simp only [↓mNm_ap, ↓mC_ap, ↓m2_ap, ↓m1_ap, ↓mT_ap, ↓mTb_ap, ↓mNot_ap, ↓mAnd_ap, ↓mOr_ap, ↓mB_ap, ↓mIs_ap, ↓mIte_ap, ↓lNil_ap, ↓lCons_ap, ↓mTup_ap, ↓mLst_ap, ↓mBlt_ap, ↓oNo_ap, ↓oYes_ap, ↓mSl_ap, ↓mScr_ap, ↓aNil_ap, ↓aRef_ap, ↓aVal_ap, ↓aTmp_ap, ↓mCall_ap, ↓iEx_ap, ↓iStr_ap, ↓iR1_ap, ↓iR2_ap, ↓iZip_ap, ↓iEnum_ap, ↓iKeys_ap, ↓mKeyLock_ap, ↓cEnd_ap, ↓cIf_ap, ↓cFor_ap, ↓mLc_ap, ↓mYes_ap, ↓sNx_ap, ↓sBrk_ap, ↓sCt_ap, ↓sSeq_ap, ↓sRet_ap, ↓sRetN_ap, ↓sIf_ap, ↓sExp_ap, ↓sAsg_ap, ↓sPar_ap, ↓sAug_ap, ↓sApp_ap, ↓sExt_ap, ↓sIns_ap, ↓sSetL_ap, ↓sAugL_ap, ↓sSetD_ap, ↓sFor_ap, ↓mBin_ap, ↓mCmp_ap, ↓mIx_ap, ↓mNeg_ap, ↓mRev_ap, ↓mSortSet_ap, ↓mSortC_ap, CF.getD, hold, valAt, ownB, ioSlot, okArg, isRef, setAll, ioFits, doCall, hasV, bindOne, bt_nm, bt_tup, bts_nil, bts_cons, allFr, wipeE, restE, freeSlot, itOk, unown, unowns, ownL, wrL, ownD, isScal, isn_none, isn_int, isn_str, isn_bool, isn_tup, isn_list, isn_dict, CF.fin, ioOut, CF.noEx, seqOf, ixN,
  v_add, v_sub, v_mulM, v_mulR, v_mulL, v_mod, v_fdiv, v_pow10, v_addL, v_neg, v_eqI, v_eqS, v_lt, v_le, v_gt, v_ge, v_l0, v_l1, v_l2, v_l3, v_t0, v_t1, v_t2, v_t3, v_s0, v_s1, v_s2, v_slL, v_revL, v_lenL, v_lenT, v_listL, v_listT, v_tupL, v_tupT, v_int, v_abs, v_min, v_max, v_sortI, v_sortIR, v_sortS, v_sum, v_isTop, v_isOpt, zipD, topD_none, topD_some, optD_none, optD_some, Option.isNone_none, Option.isNone_some,
  ↓bk_in, bk_o, bk_x, bk_n, gz, CF.gs, sz, ss, List.length_cons, List.length_nil, List.mapM_cons, List.mapM_nil, Option.pure_def, Option.bind_eq_bind, Option.bind_some, Option.bind_none, List.all_cons, List.all_nil, List.isEmpty_cons, List.isEmpty_nil, List.map_cons, List.map_nil, List.filter_nil, List.filter_cons, List.getD_cons_zero, List.getD_cons_succ, List.nil_append, List.cons_append,
  imm_none, imm_bool, imm_int, imm_str, imm_tup, imm_list, imm_dict, immAll_nil, immAll_cons, imm_top, imm_opt, imm_sort, imm_house, imm_ints, imm_strs, imm_nats, imm_table, imm_bag, immAll_map, implies_true, immAll_ints, immAll_strs, immAll_sorts,
  Bool.and_true, Bool.true_and, Bool.false_and, Bool.and_false, Bool.or_true, Bool.true_or, Bool.or_false, Bool.false_or, Bool.not_true, Bool.not_false, Bool.and_self, Bool.or_self, decide_true, decide_false, decide_eq_true_eq, ↓reduceIte, Bool.false_eq_true, and_self, true_and, and_true, beq_self_eq_true, eq_self, List.contains_cons, List.contains_nil, List.elem_cons, List.elem_nil, bne_self_eq_false, Bool.bne_true, Bool.bne_false, small_mil, Nat.reduceAdd, Nat.reduceSub, Nat.reduceMul, Nat.reduceLT, Nat.reduceLeDiff, Nat.reduceBEq, Nat.reduceEqDiff, Int.reduceAdd, Int.reduceNeg, Int.reduceSub, Int.reduceMul, Int.reducePow, Int.reduceLT, Int.reduceLE, Int.reduceToNat, Int.reduceEq, Int.reduceBEq, Nat.reduceEqDiff, Nat.le_refl, Int.le_refl, Nat.zero_le, Nat.zero_add, Int.cast_ofNat_Int, Nat.zero_lt_succ, Nat.reducePow, Nat.lt_irrefl, beq_iff_eq, Int.reduceNegSucc, io__law_bag, np__law_bag, io__law_take, np__law_take, io__law_one, np__law_one, io__law_sort, np__law_sort, io__law_mixed, np__law_mixed, io__law_names, np__law_names, io__law_house, np__law_house, io__law_size, np__law_size, io__law_table, np__law_table, io__law_numbers, np__law_numbers, io__law_lot, np__law_lot, io__law_rank, np__law_rank, io__law_formula, np__law_formula, io__law_any_formula, np__law_any_formula, io_all_numbers, np_all_numbers, io__law_flat, np__law_flat, io__law_known, np__law_known, io__law_key, np__law_key, io__law_value, np__law_value, io__law_alike, np__law_alike, io_count_at_least, np_count_at_least, io__law_count, np__law_count, io_sizes_of, np_sizes_of, io__law_sizes, np__law_sizes, io_kth_greatest, np_kth_greatest, io_value_of, np_value_of, io__law_table_right, np__law_table_right, io_law, np_law, *])
theorem lot_ok (b : Bag) {h : List Srt} (hh : HouseOk h) : ∃ (lot : List Str) (b' : Bag), S__law_lot.run [.d (bagD b), .d (houseD h)] = .ok ⟨strsD lot, true, [bagD b']⟩ ∧ lot.Nodup ∧ lot ≠ [] ∧ lot.length ≤ 5 ∧ ∀ n ∈ lot, n ∈ h.map (·.1) := by
  have hhi := hh.hi
  have hlo := hh.lo
  rw [r__law_lot]
  unfold m__law_lot
  walk_at "evh"
  generalize hT : turns _ _ _ _ _ = T
  obtain ⟨L, rfl, q1, q2, q4⟩ := turns_map1 hT (fun s => .str s.1) (fun s hs => by walk_at "ev"; exact ⟨_, _, rfl, rfl, rfl⟩)
  have hs : small h.length = true := small_mil (by omega)
  have em : h.map (fun s => PyData.str s.1) = (h.map (·.1)).map .str := by rw [List.map_map]; rfl
  rw [em] at q1
  obtain ⟨ys, b1, e1, hp⟩ := mixed_ok b (xs := (h.map (·.1)).map .str) (.inl rfl) (immAll_strs _) (by rw [List.length_map, List.length_map]; omega)
  obtain ⟨ns, rfl, hq⟩ := CM.perm_map_inv hp rfl
  obtain ⟨v, b2, e2, v0, v1⟩ := take_ok b1 (m := (h.length : Int)) (by omega) (by omega)
  obtain ⟨v, rfl⟩ := Int.eq_ofNat_of_zero_le v0
  have hnl : ns.length = h.length := by rw [hq.length_eq, List.length_map]
  have hc : cut (ns.map PyData.str) none (some (1 + (v : Int))) = (ns.take (1 + v)).map PyData.str := by
    unfold cut
    rw [show (1 + (v : Int)) = ((1 + v : Nat) : Int) from by omega, HT.sIx_none, HT.sIx_nat, List.drop_zero, List.length_map, hnl, List.map_take]
    congr 1
    omega
  have hl1 : ((h.map (fun x : Srt => x.1)).map PyData.str).length = h.length := by rw [List.length_map, List.length_map]
  clear hT
  walk_at "evh"
  refine ⟨srtS (ns.take (1 + v)), b2, rfl, ?_, ?_, ?_, fun n hn => hq.mem_iff.mp (List.mem_of_mem_take ((srtS_perm _).mem_iff.mp hn))⟩
  · exact (srtS_perm _).nodup_iff.mpr ((hq.nodup_iff.mpr hh.nd).sublist (List.take_sublist _ _))
  · intro z
    have := (srtS_perm (ns.take (1 + v))).length_eq
    rw [z, List.length_take] at this
    simp only [List.length_nil] at this
    omega
  · rw [(srtS_perm _).length_eq, List.length_take]; omega
def IsForm (names : List Str) : Nat → D → Prop
  | 0, _ => False
  | n + 1, d => (∃ (lot : List Str) (k : Nat), d = .tuple [.str "rank", strsD lot, .int (k : Nat)] ∧ lot.Nodup ∧ lot ≠ [] ∧ lot.length ≤ 5 ∧ (∀ a ∈ lot, a ∈ names) ∧ 1 ≤ k ∧ k ≤ 9) ∨
    (∃ (k : Nat) (fs : List D), d = .tuple [.str "kth", .int (k : Nat), .tuple fs] ∧ (∀ f ∈ fs, IsForm names n f) ∧ 1 ≤ k ∧ k ≤ fs.length ∧ fs.length ≤ 5)
theorem IsForm.up {names : List Str} : ∀ {n : Nat} {d : D}, IsForm names n d → IsForm names (n + 1) d
  | 0, _, h => h.elim
  | n + 1, d, h => by
    rcases h with h | ⟨k, fs, e, hf, r⟩
    · exact .inl h
    · exact .inr ⟨k, fs, e, fun f m => (hf f m).up, r⟩
theorem IsForm.le {names : List Str} {n m : Nat} {d : D} (h : IsForm names n d) (l : n ≤ m) : IsForm names m d := by
  induction l with
  | refl => exact h
  | step _ ih => exact ih.up
theorem IsForm.imm {names : List Str} : ∀ {n : Nat} {d : D}, IsForm names n d → imm d = true
  | 0, _, h => h.elim
  | n + 1, d, h => by
    rcases h with ⟨lot, k, rfl, _⟩ | ⟨k, fs, rfl, hf, _⟩
    · rw [imm_tup, immAll_cons, immAll_cons, immAll_cons, imm_str, imm_strs, imm_int, immAll_nil]; rfl
    · rw [imm_tup, immAll_cons, immAll_cons, immAll_cons, imm_str, imm_int, imm_tup, immAll_nil, immAll_mem.mpr fun f m => (hf f m).imm]; rfl
theorem rank_ok (b : Bag) {h : List Srt} (hh : HouseOk h) {most : Nat} (m0 : 1 ≤ most) (m1 : most ≤ 9) : ∃ d b', S__law_rank.run [.d (bagD b), .d (houseD h), .d (.int (most : Nat))] = .ok ⟨d, true, [bagD b']⟩ ∧ IsForm (h.map (·.1)) 1 d := by
  obtain ⟨lot, b1, e1, l1, l2, l3, l4⟩ := lot_ok b hh
  obtain ⟨v, b2, e2, v0, v1⟩ := take_ok b1 (m := (most : Int)) (by omega) (by omega)
  obtain ⟨w, b3, e3, w0⟩ := one_ints b2 (ns := [0, 0, v]) (P := fun n => 0 ≤ n ∧ n ≤ 8) (by simp) (by simp) (by intro n hn; simp at hn; omega)
  obtain ⟨w, rfl⟩ := Int.eq_ofNat_of_zero_le w0.1
  simp only [List.map_cons, List.map_nil] at e3
  rw [r__law_rank]
  unfold m__law_rank
  walk_at "evh"
  exact ⟨_, b3, rfl, .inl ⟨lot, 1 + w, by rw [show ((1 + w : Nat) : Int) = 1 + (w : Int) from by omega], l1, l2, l3, l4, by omega, by omega⟩⟩

end CF.K02
/-! draws -/
namespace CF.K02
open PySem PySem.Spec PyProof.Rows L2 CF
local macro_rules | `(tactic| walk_at "ev") => `(tactic| simp only [↓mNm_ap, ↓mC_ap, ↓m2_ap, ↓m1_ap, ↓mT_ap, ↓mTb_ap, ↓mNot_ap, ↓mAnd_ap, ↓mOr_ap, ↓mB_ap, ↓mIs_ap, ↓mIte_ap, ↓lNil_ap, ↓lCons_ap, ↓mTup_ap, ↓mLst_ap, ↓mBlt_ap, ↓oNo_ap, ↓oYes_ap, ↓mSl_ap, ↓mScr_ap, ↓aNil_ap, ↓aRef_ap, ↓aVal_ap, ↓aTmp_ap, ↓mCall_ap, ↓iEx_ap, ↓iStr_ap, ↓iR1_ap, ↓iR2_ap, ↓iZip_ap, ↓iEnum_ap, ↓iKeys_ap, ↓mKeyLock_ap, ↓cEnd_ap, ↓cIf_ap, ↓cFor_ap, ↓mLc_ap, ↓mYes_ap, ↓sNx_ap, ↓sBrk_ap, ↓sCt_ap, ↓sSeq_ap, ↓sRet_ap, ↓sRetN_ap, ↓sIf_ap, ↓sExp_ap, ↓sAsg_ap, ↓sPar_ap, ↓sAug_ap, ↓sApp_ap, ↓sExt_ap, ↓sIns_ap, ↓sSetL_ap, ↓sAugL_ap, ↓sSetD_ap, ↓sFor_ap, ↓mBin_ap, ↓mCmp_ap, ↓mIx_ap, ↓mNeg_ap, ↓mRev_ap, ↓mSortSet_ap, ↓mSortC_ap, CF.getD, hold, valAt, ownB, ioSlot, okArg, isRef, setAll, ioFits, doCall, hasV, bindOne, bt_nm, bt_tup, bts_nil, bts_cons, allFr, wipeE, restE, freeSlot, itOk, unown, unowns, ownL, wrL, ownD, isScal, isn_none, isn_int, isn_str, isn_bool, isn_tup, isn_list, isn_dict, CF.fin, ioOut, CF.noEx, seqOf, ixN,
  v_add, v_sub, v_mulM, v_mulR, v_mulL, v_mod, v_fdiv, v_pow10, v_addL, v_neg, v_eqI, v_eqS, v_lt, v_le, v_gt, v_ge, v_l0, v_l1, v_l2, v_l3, v_t0, v_t1, v_t2, v_t3, v_s0, v_s1, v_s2, v_slL, v_revL, v_lenL, v_lenT, v_listL, v_listT, v_tupL, v_tupT, v_int, v_abs, v_min, v_max, v_sortI, v_sortIR, v_sortS, v_sum, v_isTop, v_isOpt, zipD, topD_none, topD_some, optD_none, optD_some, Option.isNone_none, Option.isNone_some,
  ↓bk_in, bk_o, bk_x, bk_n, gz, CF.gs, sz, ss, List.length_cons, List.length_nil, List.mapM_cons, List.mapM_nil, Option.pure_def, Option.bind_eq_bind, Option.bind_some, Option.bind_none, List.all_cons, List.all_nil, List.isEmpty_cons, List.isEmpty_nil, List.map_cons, List.map_nil, List.filter_nil, List.filter_cons, List.getD_cons_zero, List.getD_cons_succ, List.nil_append, List.cons_append,
  imm_none, imm_bool, imm_int, imm_str, imm_tup, imm_list, imm_dict, immAll_nil, immAll_cons, imm_top, imm_opt, imm_sort, imm_house, imm_ints, imm_strs, imm_nats, imm_table, imm_bag, immAll_map, implies_true, immAll_ints, immAll_strs, immAll_sorts,
  Bool.and_true, Bool.true_and, Bool.false_and, Bool.and_false, Bool.or_true, Bool.true_or, Bool.or_false, Bool.false_or, Bool.not_true, Bool.not_false, Bool.and_self, Bool.or_self, decide_true, decide_false, decide_eq_true_eq, ↓reduceIte, Bool.false_eq_true, and_self, true_and, and_true, beq_self_eq_true, eq_self, List.contains_cons, List.contains_nil, List.elem_cons, List.elem_nil, bne_self_eq_false, Bool.bne_true, Bool.bne_false, small_mil, Nat.reduceAdd, Nat.reduceSub, Nat.reduceMul, Nat.reduceLT, Nat.reduceLeDiff, Nat.reduceBEq, Nat.reduceEqDiff, Int.reduceAdd, Int.reduceNeg, Int.reduceSub, Int.reduceMul, Int.reducePow, Int.reduceLT, Int.reduceLE, Int.reduceToNat, Int.reduceEq, Int.reduceBEq, Nat.reduceEqDiff, Nat.le_refl, Int.le_refl, Nat.zero_le, Nat.zero_add, Int.cast_ofNat_Int, Nat.zero_lt_succ, Nat.reducePow, Nat.lt_irrefl, beq_iff_eq, Int.reduceNegSucc, io__law_bag, np__law_bag, io__law_take, np__law_take, io__law_one, np__law_one, io__law_sort, np__law_sort, io__law_mixed, np__law_mixed, io__law_names, np__law_names, io__law_house, np__law_house, io__law_size, np__law_size, io__law_table, np__law_table, io__law_numbers, np__law_numbers, io__law_lot, np__law_lot, io__law_rank, np__law_rank, io__law_formula, np__law_formula, io__law_any_formula, np__law_any_formula, io_all_numbers, np_all_numbers, io__law_flat, np__law_flat, io__law_known, np__law_known, io__law_key, np__law_key, io__law_value, np__law_value, io__law_alike, np__law_alike, io_count_at_least, np_count_at_least, io__law_count, np__law_count, io_sizes_of, np_sizes_of, io__law_sizes, np__law_sizes, io_kth_greatest, np_kth_greatest, io_value_of, np_value_of, io__law_table_right, np__law_table_right, io_law, np_law])
local macro_rules | `(tactic| walk_at "evh") => `(tactic| simp only [↓mNm_ap, ↓mC_ap, ↓m2_ap, ↓m1_ap, ↓mT_ap, ↓mTb_ap, ↓mNot_ap, ↓mAnd_ap, ↓mOr_ap, ↓mB_ap, ↓mIs_ap, ↓mIte_ap, ↓lNil_ap, ↓lCons_ap, ↓mTup_ap, ↓mLst_ap, ↓mBlt_ap, ↓oNo_ap, ↓oYes_ap, ↓mSl_ap, ↓mScr_ap, ↓aNil_ap, ↓aRef_ap, ↓aVal_ap, ↓aTmp_ap, ↓mCall_ap, ↓iEx_ap, ↓iStr_ap, ↓iR1_ap, ↓iR2_ap, ↓iZip_ap, ↓iEnum_ap, ↓iKeys_ap, ↓mKeyLock_ap, ↓cEnd_ap, ↓cIf_ap, ↓cFor_ap, ↓mLc_ap, ↓mYes_ap, ↓sNx_ap, ↓sBrk_ap, ↓sCt_ap, ↓sSeq_ap, ↓sRet_ap, ↓sRetN_ap, ↓sIf_ap, ↓sExp_ap, ↓sAsg_ap, ↓sPar_ap, ↓sAug_ap, ↓sApp_ap, ↓sExt_ap, ↓sIns_ap, ↓sSetL_ap, ↓sAugL_ap, ↓sSetD_ap, ↓sFor_ap, ↓mBin_ap, ↓mCmp_ap, ↓mIx_ap, ↓mNeg_ap, ↓mRev_ap, ↓mSortSet_ap, ↓mSortC_ap, CF.getD, hold, valAt, ownB, ioSlot, okArg, isRef, setAll, ioFits, doCall, hasV, bindOne, bt_nm, bt_tup, bts_nil, bts_cons, allFr, wipeE, restE, freeSlot, itOk, unown, unowns, ownL, wrL, ownD, isScal, isn_none, isn_int, isn_str, isn_bool, isn_tup, isn_list, isn_dict, CF.fin, ioOut, CF.noEx, seqOf, ixN,
  v_add, v_sub, v_mulM, v_mulR, v_mulL, v_mod, v_fdiv, v_pow10, v_addL, v_neg, v_eqI, v_eqS, v_lt, v_le, v_gt, v_ge, v_l0, v_l1, v_l2, v_l3, v_t0, v_t1, v_t2, v_t3, v_s0, v_s1, v_s2, v_slL, v_revL, v_lenL, v_lenT, v_listL, v_listT, v_tupL, v_tupT, v_int, v_abs, v_min, v_max, v_sortI, v_sortIR, v_sortS, v_sum, v_isTop, v_isOpt, zipD, topD_none, topD_some, optD_none, optD_some, Option.isNone_none, Option.isNone_some,
  ↓bk_in, bk_o, bk_x, bk_n, gz, CF.gs, sz, ss, List.length_cons, List.length_nil, List.mapM_cons, List.mapM_nil, Option.pure_def, Option.bind_eq_bind, Option.bind_some, Option.bind_none, List.all_cons, List.all_nil, List.isEmpty_cons, List.isEmpty_nil, List.map_cons, List.map_nil, List.filter_nil, List.filter_cons, List.getD_cons_zero, List.getD_cons_succ, List.nil_append, List.cons_append,
  imm_none, imm_bool, imm_int, imm_str, imm_tup, imm_list, imm_dict, immAll_nil, immAll_cons, imm_top, imm_opt, imm_sort, imm_house, imm_ints, imm_strs, imm_nats, imm_table, imm_bag, immAll_map, implies_true, immAll_ints, immAll_strs, immAll_sorts,
  Bool.and_true, Bool.true_and, Bool.false_and, Bool.and_false, Bool.or_true, Bool.true_or, Bool.or_false, Bool.false_or, Bool.not_true, Bool.not_false, Bool.and_self, Bool.or_self, decide_true, decide_false, decide_eq_true_eq, ↓reduceIte, Bool.false_eq_true, and_self, true_and, and_true, beq_self_eq_true, eq_self, List.contains_cons, List.contains_nil, List.elem_cons, List.elem_nil, bne_self_eq_false, Bool.bne_true, Bool.bne_false, small_mil, Nat.reduceAdd, Nat.reduceSub, Nat.reduceMul, Nat.reduceLT, Nat.reduceLeDiff, Nat.reduceBEq, Nat.reduceEqDiff, Int.reduceAdd, Int.reduceNeg, Int.reduceSub, Int.reduceMul, Int.reducePow, Int.reduceLT, Int.reduceLE, Int.reduceToNat, Int.reduceEq, Int.reduceBEq, Nat.reduceEqDiff, Nat.le_refl, Int.le_refl, Nat.zero_le, Nat.zero_add, Int.cast_ofNat_Int, Nat.zero_lt_succ, Nat.reducePow, Nat.lt_irrefl, beq_iff_eq, Int.reduceNegSucc, io__law_bag, np__law_bag, io__law_take, np__law_take, io__law_one, np__law_one, io__law_sort, np__law_sort, io__law_mixed, np__law_mixed, io__law_names, np__law_names, io__law_house, np__law_house, io__law_size, np__law_size, io__law_table, np__law_table, io__law_numbers, np__law_numbers, io__law_lot, np__law_lot, io__law_rank, np__law_rank, io__law_formula, np__law_formula, io__law_any_formula, np__law_any_formula, io_all_numbers, np_all_numbers, io__law_flat, np__law_flat, io__law_known, np__law_known, io__law_key, np__law_key, io__law_value, np__law_value, io__law_alike, np__law_alike, io_count_at_least, np_count_at_least, io__law_count, np__law_count, io_sizes_of, np_sizes_of, io__law_sizes, np__law_sizes, io_kth_greatest, np_kth_greatest, io_value_of, np_value_of, io__law_table_right, np__law_table_right, io_law, np_law, *])
theorem formula_ok {h : List Srt} (hh : HouseOk h) {most : Nat} (m0 : 1 ≤ most) (m1 : most ≤ 9) : ∀ (n : Nat) (deep : Nat), 1 ≤ deep → deep ≤ n → n ≤ 100 → ∀ (b : Bag) (left : Int), ∃ d b' left', (S__law_formula n).run [.d (bagD b), .d (houseD h), .d (.int (deep : Nat)), .d (.int (most : Nat)), .d (.list [.int left])] = .ok ⟨d, true, [bagD b', .list [.int left']]⟩ ∧ IsForm (h.map (·.1)) deep d
  | 0, deep, d0, dn, _, _, _ => by omega
  | n + 1, deep, d0, dn, n100, b, left => by
    rw [r__law_formula]
    unfold m__law_formula
    obtain ⟨dr, b1, e1, h1⟩ := rank_ok b hh m0 m1
    by_cases c1 : (deep : Int) < 2
    · walk_at "evh"
      exact ⟨dr, b1, _, rfl, h1.le d0⟩
    by_cases c2 : left - 1 < 2
    · walk_at "evh"
      exact ⟨dr, b1, _, rfl, h1.le d0⟩
    obtain ⟨v, b2, e2, v0, v1⟩ := take_ok b (m := 5) (by decide) (by decide)
    obtain ⟨dr2, b3, e3, h3⟩ := rank_ok b2 hh m0 m1
    by_cases c3 : v < 2
    · clear e1
      walk_at "evh"
      exact ⟨dr2, b3, _, rfl, h3.le d0⟩
    obtain ⟨w, b4, e4, w0⟩ := one_ints b2 (ns := [1, 1, 0, 2]) (P := fun n => 0 ≤ n ∧ n ≤ 2) (by decide) (by decide) (by decide)
    obtain ⟨w, rfl⟩ := Int.eq_ofNat_of_zero_le w0.1
    simp only [List.map_cons, List.map_nil] at e4
    have r1 : -(4611686018427387904 : Int) ≤ 1 + (w : Int) := by omega
    have r2 : 1 + (w : Int) < 4611686018427387904 := by omega
    clear e1 e3 h1 h3
    walk_at "evh"
    generalize hT : forTurns _ _ _ _ = T
    have dd : ((deep : Int) - 1) = ((deep - 1 : Nat) : Int) := by omega
    obtain ⟨⟨b5, left2, parts, s6⟩, rfl, t1, t2, t3⟩ := forTurns_stT hT (S := Bag × Int × List D × SlV) (fun s => [.v (.d (bagD s.1)) true, .v (.d (houseD h)) false, .v (.d (.int (deep : Nat))) false, .v (.d (.int (most : Nat))) false, .v (.d (.list [.int s.2.1])) true, .v (.d (.list s.2.2.1)) true, s.2.2.2]) (b4, left - 1, [], .un) rfl
      (fun r s => s.2.2.1.length + r.length ≤ 3 ∧ (s.2.2.1 ≠ [] ∨ (0 < s.2.1 ∧ r ≠ [])) ∧ ∀ f ∈ s.2.2.1, IsForm (h.map (·.1)) (deep - 1) f)
      ⟨by simp only [List.length_nil, List.length_range]; omega, .inr ⟨by show 0 < left - 1; omega, fun z => by have := congrArg List.length z; simp only [List.length_range, List.length_nil] at this; omega⟩, nofun⟩ (fun x r s hI => by
        obtain ⟨b, lf, ps, s6⟩ := s
        obtain ⟨I1, I2, I3⟩ := hI
        dsimp only at I1 I2 I3 ⊢
        rw [List.length_cons] at I1
        by_cases c : 0 < lf
        · obtain ⟨d, b', lf', e, hd⟩ := formula_ok hh m0 m1 n (deep - 1) (by omega) (by omega) (by omega) b lf
          have hs : small (ps.length + 1) = true := small_mil (by omega)
          have im := hd.imm
          walk_at "evh"
          exact ⟨(b', lf', ps ++ [d], _), .inl rfl, by simp only [List.length_append, List.length_cons, List.length_nil]; omega, .inl (by simp), fun f m => (List.mem_append.mp m).elim (I3 f) fun m => by rw [List.mem_singleton.mp m]; exact hd⟩
        · walk_at "evh"
          exact ⟨(b, lf, ps, _), .inl rfl, by show ps.length + r.length ≤ 3; omega, .inl (I2.resolve_right fun z => c z.1), I3⟩)
    dsimp only at t1 t2 t3
    have hp : parts ≠ [] := t2.resolve_right fun z => z.2 rfl
    have hpl : 0 < parts.length := List.length_pos_iff.mpr hp
    rw [List.length_nil] at t1
    obtain ⟨u, b6, e6, u0, u1⟩ := take_ok b5 (m := (parts.length : Int)) (by omega) (by omega)
    obtain ⟨k, b7, e7, k0⟩ := one_ints b6 (ns := [1, (parts.length : Int), 1 + u]) (P := fun n => 1 ≤ n ∧ n ≤ parts.length) (by simp) (by simp) (by intro n hn; simp at hn; omega)
    obtain ⟨k, rfl⟩ := Int.eq_ofNat_of_zero_le (show 0 ≤ k by omega)
    simp only [List.map_cons, List.map_nil] at e7
    have im : immAll parts = true := immAll_mem.mpr fun f m => (t3 f m).imm
    clear hT
    walk_at "evh"
    refine ⟨_, b7, _, rfl, ?_⟩
    have : deep = (deep - 1) + 1 := by omega
    rw [this]
    exact .inr ⟨k, parts, rfl, t3, by omega, by omega, by omega⟩
theorem any_formula_ok (b : Bag) {h : List Srt} (hh : HouseOk h) : ∃ d b', S__law_any_formula.run [.d (bagD b), .d (houseD h)] = .ok ⟨d, true, [bagD b']⟩ ∧ IsForm (h.map (·.1)) 4 d := by
  obtain ⟨v, b1, e1, v0⟩ := one_ints b (ns := [1, 2, 2, 3, 4]) (P := fun n => 1 ≤ n ∧ n ≤ 4) (by decide) (by decide) (by decide)
  obtain ⟨w, b2, e2, w0⟩ := one_ints b1 (ns := [2, 3, 2, 9]) (P := fun n => 2 ≤ n ∧ n ≤ 9) (by decide) (by decide) (by decide)
  obtain ⟨v, rfl⟩ := Int.eq_ofNat_of_zero_le (show 0 ≤ v by omega)
  obtain ⟨w, rfl⟩ := Int.eq_ofNat_of_zero_le (show 0 ≤ w by omega)
  simp only [List.map_cons, List.map_nil] at e1 e2
  obtain ⟨d, b3, l3, e3, hd⟩ := formula_ok hh (most := w) (by omega) (by omega) 12 v (by omega) (by omega) (by omega) b2 12
  rw [r__law_any_formula]
  unfold m__law_any_formula
  walk_at "evh"
  exact ⟨d, b3, rfl, hd.le (by omega)⟩

end CF.K02
/-! draws -/
namespace CF.K02
open PySem PySem.Spec PyProof.Rows L2 CF
local macro_rules | `(tactic| walk_at "ev") => `(tactic| simp only [↓mNm_ap, ↓mC_ap, ↓m2_ap, ↓m1_ap, ↓mT_ap, ↓mTb_ap, ↓mNot_ap, ↓mAnd_ap, ↓mOr_ap, ↓mB_ap, ↓mIs_ap, ↓mIte_ap, ↓lNil_ap, ↓lCons_ap, ↓mTup_ap, ↓mLst_ap, ↓mBlt_ap, ↓oNo_ap, ↓oYes_ap, ↓mSl_ap, ↓mScr_ap, ↓aNil_ap, ↓aRef_ap, ↓aVal_ap, ↓aTmp_ap, ↓mCall_ap, ↓iEx_ap, ↓iStr_ap, ↓iR1_ap, ↓iR2_ap, ↓iZip_ap, ↓iEnum_ap, ↓iKeys_ap, ↓mKeyLock_ap, ↓cEnd_ap, ↓cIf_ap, ↓cFor_ap, ↓mLc_ap, ↓mYes_ap, ↓sNx_ap, ↓sBrk_ap, ↓sCt_ap, ↓sSeq_ap, ↓sRet_ap, ↓sRetN_ap, ↓sIf_ap, ↓sExp_ap, ↓sAsg_ap, ↓sPar_ap, ↓sAug_ap, ↓sApp_ap, ↓sExt_ap, ↓sIns_ap, ↓sSetL_ap, ↓sAugL_ap, ↓sSetD_ap, ↓sFor_ap, ↓mBin_ap, ↓mCmp_ap, ↓mIx_ap, ↓mNeg_ap, ↓mRev_ap, ↓mSortSet_ap, ↓mSortC_ap, CF.getD, hold, valAt, ownB, ioSlot, okArg, isRef, setAll, ioFits, doCall, hasV, bindOne, bt_nm, bt_tup, bts_nil, bts_cons, allFr, wipeE, restE, freeSlot, itOk, unown, unowns, ownL, wrL, ownD, isScal, isn_none, isn_int, isn_str, isn_bool, isn_tup, isn_list, isn_dict, CF.fin, ioOut, CF.noEx, seqOf, ixN,
  v_add, v_sub, v_mulM, v_mulR, v_mulL, v_mod, v_fdiv, v_pow10, v_addL, v_neg, v_eqI, v_eqS, v_lt, v_le, v_gt, v_ge, v_l0, v_l1, v_l2, v_l3, v_t0, v_t1, v_t2, v_t3, v_s0, v_s1, v_s2, v_slL, v_revL, v_lenL, v_lenT, v_listL, v_listT, v_tupL, v_tupT, v_int, v_abs, v_min, v_max, v_sortI, v_sortIR, v_sortS, v_sum, v_isTop, v_isOpt, zipD, topD_none, topD_some, optD_none, optD_some, Option.isNone_none, Option.isNone_some,
  ↓bk_in, bk_o, bk_x, bk_n, gz, CF.gs, sz, ss, List.length_cons, List.length_nil, List.mapM_cons, List.mapM_nil, Option.pure_def, Option.bind_eq_bind, Option.bind_some, Option.bind_none, List.all_cons, List.all_nil, List.isEmpty_cons, List.isEmpty_nil, List.map_cons, List.map_nil, List.filter_nil, List.filter_cons, List.getD_cons_zero, List.getD_cons_succ, List.nil_append, List.cons_append,
  imm_none, imm_bool, imm_int, imm_str, imm_tup, imm_list, imm_dict, immAll_nil, immAll_cons, imm_top, imm_opt, imm_sort, imm_house, imm_ints, imm_strs, imm_nats, imm_table, imm_bag, immAll_map, implies_true, immAll_ints, immAll_strs, immAll_sorts,
  Bool.and_true, Bool.true_and, Bool.false_and, Bool.and_false, Bool.or_true, Bool.true_or, Bool.or_false, Bool.false_or, Bool.not_true, Bool.not_false, Bool.and_self, Bool.or_self, decide_true, decide_false, decide_eq_true_eq, ↓reduceIte, Bool.false_eq_true, and_self, true_and, and_true, beq_self_eq_true, eq_self, List.contains_cons, List.contains_nil, List.elem_cons, List.elem_nil, bne_self_eq_false, Bool.bne_true, Bool.bne_false, small_mil, Nat.reduceAdd, Nat.reduceSub, Nat.reduceMul, Nat.reduceLT, Nat.reduceLeDiff, Nat.reduceBEq, Nat.reduceEqDiff, Int.reduceAdd, Int.reduceNeg, Int.reduceSub, Int.reduceMul, Int.reducePow, Int.reduceLT, Int.reduceLE, Int.reduceToNat, Int.reduceEq, Int.reduceBEq, Nat.reduceEqDiff, Nat.le_refl, Int.le_refl, Nat.zero_le, Nat.zero_add, Int.cast_ofNat_Int, Nat.zero_lt_succ, Nat.reducePow, Nat.lt_irrefl, beq_iff_eq, Int.reduceNegSucc, io__law_bag, np__law_bag, io__law_take, np__law_take, io__law_one, np__law_one, io__law_sort, np__law_sort, io__law_mixed, np__law_mixed, io__law_names, np__law_names, io__law_house, np__law_house, io__law_size, np__law_size, io__law_table, np__law_table, io__law_numbers, np__law_numbers, io__law_lot, np__law_lot, io__law_rank, np__law_rank, io__law_formula, np__law_formula, io__law_any_formula, np__law_any_formula, io_all_numbers, np_all_numbers, io__law_flat, np__law_flat, io__law_known, np__law_known, io__law_key, np__law_key, io__law_value, np__law_value, io__law_alike, np__law_alike, io_count_at_least, np_count_at_least, io__law_count, np__law_count, io_sizes_of, np_sizes_of, io__law_sizes, np__law_sizes, io_kth_greatest, np_kth_greatest, io_value_of, np_value_of, io__law_table_right, np__law_table_right, io_law, np_law])
local macro_rules | `(tactic| walk_at "evh") => `(tactic| simp only [↓mNm_ap, ↓mC_ap, ↓m2_ap, ↓m1_ap, ↓mT_ap, ↓mTb_ap, ↓mNot_ap, ↓mAnd_ap, ↓mOr_ap, ↓mB_ap, ↓mIs_ap, ↓mIte_ap, ↓lNil_ap, ↓lCons_ap, ↓mTup_ap, ↓mLst_ap, ↓mBlt_ap, ↓oNo_ap, ↓oYes_ap, ↓mSl_ap, ↓mScr_ap, ↓aNil_ap, ↓aRef_ap, ↓aVal_ap, ↓aTmp_ap, ↓mCall_ap, ↓iEx_ap, ↓iStr_ap, ↓iR1_ap, ↓iR2_ap, ↓iZip_ap, ↓iEnum_ap, ↓iKeys_ap, ↓mKeyLock_ap, ↓cEnd_ap, ↓cIf_ap, ↓cFor_ap, ↓mLc_ap, ↓mYes_ap, ↓sNx_ap, ↓sBrk_ap, ↓sCt_ap, ↓sSeq_ap, ↓sRet_ap, ↓sRetN_ap, ↓sIf_ap, ↓sExp_ap, ↓sAsg_ap, ↓sPar_ap, ↓sAug_ap, ↓sApp_ap, ↓sExt_ap, ↓sIns_ap, ↓sSetL_ap, ↓sAugL_ap, ↓sSetD_ap, ↓sFor_ap, ↓mBin_ap, ↓mCmp_ap, ↓mIx_ap, ↓mNeg_ap, ↓mRev_ap, ↓mSortSet_ap, ↓mSortC_ap, CF.getD, hold, valAt, ownB, ioSlot, okArg, isRef, setAll, ioFits, doCall, hasV, bindOne, bt_nm, bt_tup, bts_nil, bts_cons, allFr, wipeE, restE, freeSlot, itOk, unown, unowns, ownL, wrL, ownD, isScal, isn_none, isn_int, isn_str, isn_bool, isn_tup, isn_list, isn_dict, CF.fin, ioOut, CF.noEx, seqOf, ixN,
  v_add, v_sub, v_mulM, v_mulR, v_mulL, v_mod, v_fdiv, v_pow10, v_addL, v_neg, v_eqI, v_eqS, v_lt, v_le, v_gt, v_ge, v_l0, v_l1, v_l2, v_l3, v_t0, v_t1, v_t2, v_t3, v_s0, v_s1, v_s2, v_slL, v_revL, v_lenL, v_lenT, v_listL, v_listT, v_tupL, v_tupT, v_int, v_abs, v_min, v_max, v_sortI, v_sortIR, v_sortS, v_sum, v_isTop, v_isOpt, zipD, topD_none, topD_some, optD_none, optD_some, Option.isNone_none, Option.isNone_some,
  ↓bk_in, bk_o, bk_x, bk_n, gz, CF.gs, sz, ss, List.length_cons, List.length_nil, List.mapM_cons, List.mapM_nil, Option.pure_def, Option.bind_eq_bind, Option.bind_some, Option.bind_none, List.all_cons, List.all_nil, List.isEmpty_cons, List.isEmpty_nil, List.map_cons, List.map_nil, List.filter_nil, List.filter_cons, List.getD_cons_zero, List.getD_cons_succ, List.nil_append, List.cons_append,
  imm_none, imm_bool, imm_int, imm_str, imm_tup, imm_list, imm_dict, immAll_nil, immAll_cons, imm_top, imm_opt, imm_sort, imm_house, imm_ints, imm_strs, imm_nats, imm_table, imm_bag, immAll_map, implies_true, immAll_ints, immAll_strs, immAll_sorts,
  Bool.and_true, Bool.true_and, Bool.false_and, Bool.and_false, Bool.or_true, Bool.true_or, Bool.or_false, Bool.false_or, Bool.not_true, Bool.not_false, Bool.and_self, Bool.or_self, decide_true, decide_false, decide_eq_true_eq, ↓reduceIte, Bool.false_eq_true, and_self, true_and, and_true, beq_self_eq_true, eq_self, List.contains_cons, List.contains_nil, List.elem_cons, List.elem_nil, bne_self_eq_false, Bool.bne_true, Bool.bne_false, small_mil, Nat.reduceAdd, Nat.reduceSub, Nat.reduceMul, Nat.reduceLT, Nat.reduceLeDiff, Nat.reduceBEq, Nat.reduceEqDiff, Int.reduceAdd, Int.reduceNeg, Int.reduceSub, Int.reduceMul, Int.reducePow, Int.reduceLT, Int.reduceLE, Int.reduceToNat, Int.reduceEq, Int.reduceBEq, Nat.reduceEqDiff, Nat.le_refl, Int.le_refl, Nat.zero_le, Nat.zero_add, Int.cast_ofNat_Int, Nat.zero_lt_succ, Nat.reducePow, Nat.lt_irrefl, beq_iff_eq, Int.reduceNegSucc, io__law_bag, np__law_bag, io__law_take, np__law_take, io__law_one, np__law_one, io__law_sort, np__law_sort, io__law_mixed, np__law_mixed, io__law_names, np__law_names, io__law_house, np__law_house, io__law_size, np__law_size, io__law_table, np__law_table, io__law_numbers, np__law_numbers, io__law_lot, np__law_lot, io__law_rank, np__law_rank, io__law_formula, np__law_formula, io__law_any_formula, np__law_any_formula, io_all_numbers, np_all_numbers, io__law_flat, np__law_flat, io__law_known, np__law_known, io__law_key, np__law_key, io__law_value, np__law_value, io__law_alike, np__law_alike, io_count_at_least, np_count_at_least, io__law_count, np__law_count, io_sizes_of, np_sizes_of, io__law_sizes, np__law_sizes, io_kth_greatest, np_kth_greatest, io_value_of, np_value_of, io__law_table_right, np__law_table_right, io_law, np_law, *])
def rowsT (t : Tab) (n : Str) : List Int := match t.find? (fun p => p.1 == n) with
  | some p => p.2
  | none => []
theorem tab_find {t : Tab} {n : Str} (h : n ∈ t.map (·.1)) : ∃ p ∈ t, p.1 = n ∧ rowsT t n = p.2 ∧ dget (tabKv t) (.str n) = some (intsD (rowsT t n)) := by
  obtain ⟨q, hq, rfl⟩ := List.mem_map.mp h
  have e : (t.find? fun p => p.1 == q.1).isSome := List.find?_isSome.mpr ⟨q, hq, by simp⟩
  obtain ⟨p, hp⟩ := Option.isSome_iff_exists.mp e
  have h1 : p.1 = q.1 := by simpa using List.find?_some hp
  refine ⟨p, List.mem_of_find?_eq_some hp, h1, by unfold rowsT; rw [hp], ?_⟩
  unfold dget tabKv rowsT
  rw [List.find?_map]
  have : ((fun p : D × D => deq p.1 (.str q.1)) ∘ fun p : Str × List Int => (PyData.str p.1, intsD p.2)) = fun p => p.1 == q.1 := by
    funext p
    exact deq_str _ _
  rw [this, hp]
  rfl
theorem v_tab {t : Tab} {n : Str} {f : Bool} (h : n ∈ t.map (·.1)) : ixD (.dict (tabKv t)) f (.str n) = .ok (intsD (rowsT t n), f) := by
  obtain ⟨_, _, _, _, e⟩ := tab_find h
  simp only [ixD, tab_fits, if_true, e]
theorem filterMap_some (ns : List Int) : (ns.map some).filterMap id = ns := by
  rw [List.filterMap_map]
  exact List.filterMap_some
theorem filter_opt : ∀ (vs : List (Option Int)), (vs.filter (·.isSome)).map optD = (vs.filterMap id).map .int
  | [] => rfl
  | none :: vs => by simpa using filter_opt vs
  | some v :: vs => by
    rw [List.filter_cons_of_pos rfl, List.map_cons, filter_opt vs, List.filterMap_cons_some (f := id) rfl]; rfl
theorem kth_ok (vs : List (Option Int)) {k : Nat} (h1 : 1 ≤ k) (hl : vs.length ≤ 100000) (hk : k ≤ 100000) : ∃ fl, S_kth_greatest.run [.d (.list (vs.map optD)), .d (.int (k : Nat))] = .ok ⟨optD (CM.kth (vs.filterMap id) k), fl, []⟩ := by
  rw [r_kth_greatest]
  unfold m_kth_greatest
  have hf : (vs.filter (·.isSome)).length = (vs.filterMap id).length := by
    have := congrArg List.length (filter_opt vs)
    simpa using this
  have hle : (vs.filterMap id).length ≤ vs.length := List.length_filterMap_le _ _
  walk_at "ev"
  generalize hT : turns _ _ _ _ _ = T
  obtain ⟨L, rfl, q1, q2, q4⟩ := turns_fil hT optD (·.isSome) (fun v hv => by
    cases v with
    | none => walk_at "ev"; exact ⟨true, _, rfl, rfl, rfl⟩
    | some v => walk_at "ev"; exact ⟨_, _, rfl, rfl, rfl⟩)
  rw [filter_opt] at q1
  rw [hf] at q2
  have hs : small (vs.filterMap id).length = true := small_mil (by omega)
  clear hT
  walk_at "evh"
  by_cases c : k ≤ (vs.filterMap id).length
  · obtain ⟨v, ev, _⟩ := CM.kth_some h1 c
    have c2 : (k : Int) ≤ ((vs.filterMap id).length : Int) := by omega
    have ei : ixD (.list ((CM.srtD (vs.filterMap id)).map PyData.int)) false (.int ((k : Int) - 1)) = .ok (.int v, false) := by
      refine v_ixLi (by omega) ?_
      rw [List.getElem?_map, show ((k : Int) - 1).toNat = k - 1 by omega]
      unfold CM.kth at ev
      rw [ev]; rfl
    simp only [List.length_map, CM.srtD_len]
    walk_at "evh"
    exact ⟨_, rfl⟩
  · have c2 : ¬ (k : Int) ≤ ((vs.filterMap id).length : Int) := by omega
    rw [CM.kth_none (by omega)]
    simp only [List.length_map, CM.srtD_len]
    walk_at "evh"
    exact ⟨_, rfl⟩

end CF.K02
/-! draws -/
namespace CF.K02
open PySem PySem.Spec PyProof.Rows L2 CF
local macro_rules | `(tactic| walk_at "ev") => `(tactic| simp only [↓mNm_ap, ↓mC_ap, ↓m2_ap, ↓m1_ap, ↓mT_ap, ↓mTb_ap, ↓mNot_ap, ↓mAnd_ap, ↓mOr_ap, ↓mB_ap, ↓mIs_ap, ↓mIte_ap, ↓lNil_ap, ↓lCons_ap, ↓mTup_ap, ↓mLst_ap, ↓mBlt_ap, ↓oNo_ap, ↓oYes_ap, ↓mSl_ap, ↓mScr_ap, ↓aNil_ap, ↓aRef_ap, ↓aVal_ap, ↓aTmp_ap, ↓mCall_ap, ↓iEx_ap, ↓iStr_ap, ↓iR1_ap, ↓iR2_ap, ↓iZip_ap, ↓iEnum_ap, ↓iKeys_ap, ↓mKeyLock_ap, ↓cEnd_ap, ↓cIf_ap, ↓cFor_ap, ↓mLc_ap, ↓mYes_ap, ↓sNx_ap, ↓sBrk_ap, ↓sCt_ap, ↓sSeq_ap, ↓sRet_ap, ↓sRetN_ap, ↓sIf_ap, ↓sExp_ap, ↓sAsg_ap, ↓sPar_ap, ↓sAug_ap, ↓sApp_ap, ↓sExt_ap, ↓sIns_ap, ↓sSetL_ap, ↓sAugL_ap, ↓sSetD_ap, ↓sFor_ap, ↓mBin_ap, ↓mCmp_ap, ↓mIx_ap, ↓mNeg_ap, ↓mRev_ap, ↓mSortSet_ap, ↓mSortC_ap, CF.getD, hold, valAt, ownB, ioSlot, okArg, isRef, setAll, ioFits, doCall, hasV, bindOne, bt_nm, bt_tup, bts_nil, bts_cons, allFr, wipeE, restE, freeSlot, itOk, unown, unowns, ownL, wrL, ownD, isScal, isn_none, isn_int, isn_str, isn_bool, isn_tup, isn_list, isn_dict, CF.fin, ioOut, CF.noEx, seqOf, ixN,
  v_add, v_sub, v_mulM, v_mulR, v_mulL, v_mod, v_fdiv, v_pow10, v_addL, v_neg, v_eqI, v_eqS, v_lt, v_le, v_gt, v_ge, v_l0, v_l1, v_l2, v_l3, v_t0, v_t1, v_t2, v_t3, v_s0, v_s1, v_s2, v_slL, v_revL, v_lenL, v_lenT, v_listL, v_listT, v_tupL, v_tupT, v_int, v_abs, v_min, v_max, v_sortI, v_sortIR, v_sortS, v_sum, v_isTop, v_isOpt, zipD, topD_none, topD_some, optD_none, optD_some, Option.isNone_none, Option.isNone_some,
  ↓bk_in, bk_o, bk_x, bk_n, gz, CF.gs, sz, ss, List.length_cons, List.length_nil, List.mapM_cons, List.mapM_nil, Option.pure_def, Option.bind_eq_bind, Option.bind_some, Option.bind_none, List.all_cons, List.all_nil, List.isEmpty_cons, List.isEmpty_nil, List.map_cons, List.map_nil, List.filter_nil, List.filter_cons, List.getD_cons_zero, List.getD_cons_succ, List.nil_append, List.cons_append,
  imm_none, imm_bool, imm_int, imm_str, imm_tup, imm_list, imm_dict, immAll_nil, immAll_cons, imm_top, imm_opt, imm_sort, imm_house, imm_ints, imm_strs, imm_nats, imm_table, imm_bag, immAll_map, implies_true, immAll_ints, immAll_strs, immAll_sorts,
  Bool.and_true, Bool.true_and, Bool.false_and, Bool.and_false, Bool.or_true, Bool.true_or, Bool.or_false, Bool.false_or, Bool.not_true, Bool.not_false, Bool.and_self, Bool.or_self, decide_true, decide_false, decide_eq_true_eq, ↓reduceIte, Bool.false_eq_true, and_self, true_and, and_true, beq_self_eq_true, eq_self, List.contains_cons, List.contains_nil, List.elem_cons, List.elem_nil, bne_self_eq_false, Bool.bne_true, Bool.bne_false, small_mil, Nat.reduceAdd, Nat.reduceSub, Nat.reduceMul, Nat.reduceLT, Nat.reduceLeDiff, Nat.reduceBEq, Nat.reduceEqDiff, Int.reduceAdd, Int.reduceNeg, Int.reduceSub, Int.reduceMul, Int.reducePow, Int.reduceLT, Int.reduceLE, Int.reduceToNat, Int.reduceEq, Int.reduceBEq, Nat.reduceEqDiff, Nat.le_refl, Int.le_refl, Nat.zero_le, Nat.zero_add, Int.cast_ofNat_Int, Nat.zero_lt_succ, Nat.reducePow, Nat.lt_irrefl, beq_iff_eq, Int.reduceNegSucc, io__law_bag, np__law_bag, io__law_take, np__law_take, io__law_one, np__law_one, io__law_sort, np__law_sort, io__law_mixed, np__law_mixed, io__law_names, np__law_names, io__law_house, np__law_house, io__law_size, np__law_size, io__law_table, np__law_table, io__law_numbers, np__law_numbers, io__law_lot, np__law_lot, io__law_rank, np__law_rank, io__law_formula, np__law_formula, io__law_any_formula, np__law_any_formula, io_all_numbers, np_all_numbers, io__law_flat, np__law_flat, io__law_known, np__law_known, io__law_key, np__law_key, io__law_value, np__law_value, io__law_alike, np__law_alike, io_count_at_least, np_count_at_least, io__law_count, np__law_count, io_sizes_of, np_sizes_of, io__law_sizes, np__law_sizes, io_kth_greatest, np_kth_greatest, io_value_of, np_value_of, io__law_table_right, np__law_table_right, io_law, np_law])
local macro_rules | `(tactic| walk_at "evh") => `(tactic| simp only [↓mNm_ap, ↓mC_ap, ↓m2_ap, ↓m1_ap, ↓mT_ap, ↓mTb_ap, ↓mNot_ap, ↓mAnd_ap, ↓mOr_ap, ↓mB_ap, ↓mIs_ap, ↓mIte_ap, ↓lNil_ap, ↓lCons_ap, ↓mTup_ap, ↓mLst_ap, ↓mBlt_ap, ↓oNo_ap, ↓oYes_ap, ↓mSl_ap, ↓mScr_ap, ↓aNil_ap, ↓aRef_ap, ↓aVal_ap, ↓aTmp_ap, ↓mCall_ap, ↓iEx_ap, ↓iStr_ap, ↓iR1_ap, ↓iR2_ap, ↓iZip_ap, ↓iEnum_ap, ↓iKeys_ap, ↓mKeyLock_ap, ↓cEnd_ap, ↓cIf_ap, ↓cFor_ap, ↓mLc_ap, ↓mYes_ap, ↓sNx_ap, ↓sBrk_ap, ↓sCt_ap, ↓sSeq_ap, ↓sRet_ap, ↓sRetN_ap, ↓sIf_ap, ↓sExp_ap, ↓sAsg_ap, ↓sPar_ap, ↓sAug_ap, ↓sApp_ap, ↓sExt_ap, ↓sIns_ap, ↓sSetL_ap, ↓sAugL_ap, ↓sSetD_ap, ↓sFor_ap, ↓mBin_ap, ↓mCmp_ap, ↓mIx_ap, ↓mNeg_ap, ↓mRev_ap, ↓mSortSet_ap, ↓mSortC_ap, CF.getD, hold, valAt, ownB, ioSlot, okArg, isRef, setAll, ioFits, doCall, hasV, bindOne, bt_nm, bt_tup, bts_nil, bts_cons, allFr, wipeE, restE, freeSlot, itOk, unown, unowns, ownL, wrL, ownD, isScal, isn_none, isn_int, isn_str, isn_bool, isn_tup, isn_list, isn_dict, CF.fin, ioOut, CF.noEx, seqOf, ixN,
  v_add, v_sub, v_mulM, v_mulR, v_mulL, v_mod, v_fdiv, v_pow10, v_addL, v_neg, v_eqI, v_eqS, v_lt, v_le, v_gt, v_ge, v_l0, v_l1, v_l2, v_l3, v_t0, v_t1, v_t2, v_t3, v_s0, v_s1, v_s2, v_slL, v_revL, v_lenL, v_lenT, v_listL, v_listT, v_tupL, v_tupT, v_int, v_abs, v_min, v_max, v_sortI, v_sortIR, v_sortS, v_sum, v_isTop, v_isOpt, zipD, topD_none, topD_some, optD_none, optD_some, Option.isNone_none, Option.isNone_some,
  ↓bk_in, bk_o, bk_x, bk_n, gz, CF.gs, sz, ss, List.length_cons, List.length_nil, List.mapM_cons, List.mapM_nil, Option.pure_def, Option.bind_eq_bind, Option.bind_some, Option.bind_none, List.all_cons, List.all_nil, List.isEmpty_cons, List.isEmpty_nil, List.map_cons, List.map_nil, List.filter_nil, List.filter_cons, List.getD_cons_zero, List.getD_cons_succ, List.nil_append, List.cons_append,
  imm_none, imm_bool, imm_int, imm_str, imm_tup, imm_list, imm_dict, immAll_nil, immAll_cons, imm_top, imm_opt, imm_sort, imm_house, imm_ints, imm_strs, imm_nats, imm_table, imm_bag, immAll_map, implies_true, immAll_ints, immAll_strs, immAll_sorts,
  Bool.and_true, Bool.true_and, Bool.false_and, Bool.and_false, Bool.or_true, Bool.true_or, Bool.or_false, Bool.false_or, Bool.not_true, Bool.not_false, Bool.and_self, Bool.or_self, decide_true, decide_false, decide_eq_true_eq, ↓reduceIte, Bool.false_eq_true, and_self, true_and, and_true, beq_self_eq_true, eq_self, List.contains_cons, List.contains_nil, List.elem_cons, List.elem_nil, bne_self_eq_false, Bool.bne_true, Bool.bne_false, small_mil, Nat.reduceAdd, Nat.reduceSub, Nat.reduceMul, Nat.reduceLT, Nat.reduceLeDiff, Nat.reduceBEq, Nat.reduceEqDiff, Int.reduceAdd, Int.reduceNeg, Int.reduceSub, Int.reduceMul, Int.reducePow, Int.reduceLT, Int.reduceLE, Int.reduceToNat, Int.reduceEq, Int.reduceBEq, Nat.reduceEqDiff, Nat.le_refl, Int.le_refl, Nat.zero_le, Nat.zero_add, Int.cast_ofNat_Int, Nat.zero_lt_succ, Nat.reducePow, Nat.lt_irrefl, beq_iff_eq, Int.reduceNegSucc, io__law_bag, np__law_bag, io__law_take, np__law_take, io__law_one, np__law_one, io__law_sort, np__law_sort, io__law_mixed, np__law_mixed, io__law_names, np__law_names, io__law_house, np__law_house, io__law_size, np__law_size, io__law_table, np__law_table, io__law_numbers, np__law_numbers, io__law_lot, np__law_lot, io__law_rank, np__law_rank, io__law_formula, np__law_formula, io__law_any_formula, np__law_any_formula, io_all_numbers, np_all_numbers, io__law_flat, np__law_flat, io__law_known, np__law_known, io__law_key, np__law_key, io__law_value, np__law_value, io__law_alike, np__law_alike, io_count_at_least, np_count_at_least, io__law_count, np__law_count, io_sizes_of, np_sizes_of, io__law_sizes, np__law_sizes, io_kth_greatest, np_kth_greatest, io_value_of, np_value_of, io__law_table_right, np__law_table_right, io_law, np_law, *])
theorem tab_rows {h : List Srt} {pool : List Int} {t : Tab} (T : TabOk h pool t) {n : Str} (hn : n ∈ h.map (·.1)) : n ∈ t.map (·.1) ∧ (rowsT t n).length ≤ 9 ∧ ∀ k ∈ rowsT t n, k ∈ pool := by
  have m : n ∈ t.map (·.1) := T.keys.mem_iff.mpr hn
  obtain ⟨p, hp, _, e, _⟩ := tab_find m
  obtain ⟨s, _, _, r⟩ := T.rows p hp
  exact ⟨m, by rw [e]; exact r.most, by rw [e]; exact r.mem⟩
theorem flat_len {α : Type} (f : α → List Int) : ∀ (l : List α), (∀ a ∈ l, (f a).length ≤ 9) → (l.flatMap f).length ≤ l.length * 9
  | [], _ => Nat.zero_le _
  | a :: l, h => by
    have h1 := h a List.mem_cons_self
    have h2 := flat_len f l fun b m => h b (List.mem_cons_of_mem _ m)
    rw [List.flatMap_cons, List.length_append, List.length_cons]
    omega
def strOf : D → Str
  | .str s => s
  | _ => ""
theorem strOf_map (l : List Str) : (l.map PyData.str).map strOf = l := by
  rw [List.map_map]
  exact List.map_id l
noncomputable def valF (t : Tab) : Nat → D → Option Int
  | 0, _ => none
  | n + 1, .tuple [.str _, .tuple lot, .int k] => CM.kth ((lot.map strOf).flatMap (rowsT t)) k.toNat
  | n + 1, .tuple [.str _, .int k, .tuple fs] => CM.kth ((fs.map (valF t n)).filterMap id) k.toNat
  | _, _ => none
theorem valF_rank (t : Tab) (n : Nat) (s : Str) (lot : List Str) (k : Nat) : valF t (n + 1) (.tuple [.str s, strsD lot, .int (k : Nat)]) = CM.kth (lot.flatMap (rowsT t)) k := by
  rw [valF, strOf_map]; rfl
theorem valF_kth (t : Tab) (n : Nat) (s : Str) (fs : List D) (k : Nat) : valF t (n + 1) (.tuple [.str s, .int (k : Nat), .tuple fs]) = CM.kth ((fs.map (valF t n)).filterMap id) k := by
  rw [valF]; rfl
theorem kr : ¬ (("kth" : Str) = "rank") := by decide +kernel
theorem value_of_ok {h : List Srt} {pool : List Int} {t : Tab} (T : TabOk h pool t) : ∀ (m n : Nat) (d : D), m ≤ n → IsForm (h.map (·.1)) m d → ∃ fl, (S_value_of n).run [.d (houseD h), .d (.dict (tabKv t)), .d d] = .ok ⟨optD (valF t m d), fl, []⟩
  | 0, _, _, _, hd => hd.elim
  | m + 1, 0, _, hm, _ => by omega
  | m + 1, n + 1, d, hm, hd => by
    rw [r_value_of]
    unfold m_value_of
    rcases hd with ⟨lot, k, rfl, l1, l2, l3, l4, k1, k9⟩ | ⟨k, fs, rfl, hf, k1, k2, k3⟩
    · rw [valF_rank]
      have fl := flat_len (rowsT t) lot fun a m => (tab_rows T (l4 a m)).2.1
      obtain ⟨g, e⟩ := kth_ok ((lot.flatMap (rowsT t)).map some) k1 (by rw [List.length_map]; omega) (by omega)
      rw [filterMap_some, List.map_map] at e
      have em : (lot.flatMap (rowsT t)).map (optD ∘ some) = (lot.flatMap (rowsT t)).map .int := rfl
      rw [em] at e
      walk_at "ev"
      generalize hT : turns _ _ _ _ _ = T1
      obtain ⟨L, rfl, q1, q2, q4⟩ := turns_mapT hT (fun n => (rowsT t n).map .int) (fun n hn => by
        have ei := v_tab (f := false) (tab_rows T (l4 n hn)).1
        walk_at "evh"
        generalize hT2 : turns _ _ _ _ _ = T2
        obtain ⟨L, rfl, p1, p2, p4⟩ := turns_map1 hT2 PyData.int (fun n hn => by walk_at "ev"; exact ⟨_, _, rfl, rfl, rfl⟩)
        clear hT2
        walk_at "ev"
        exact ⟨_, _, rfl, rfl, p1, p4⟩)
      have q1' : L.map (·.1) = (lot.flatMap (rowsT t)).map .int := by rw [q1, List.map_flatMap]
      have q2' : L.length = (lot.flatMap (rowsT t)).length := by rw [← List.length_map (as := L) (f := (·.1)), q1', List.length_map]
      have hs : small (lot.flatMap (rowsT t)).length = true := small_mil (by omega)
      clear hT q1 q2
      walk_at "evh"
      exact ⟨_, rfl⟩
    · have kr := kr
      have hv : ∀ f ∈ fs, ∃ fl, (S_value_of n).run [.d (houseD h), .d (.dict (tabKv t)), .d f] = .ok ⟨optD (valF t m f), fl, []⟩ := fun f mf => value_of_ok T m n f (by omega) (hf f mf)
      rw [valF_kth]
      obtain ⟨g, e⟩ := kth_ok (fs.map (valF t m)) k1 (by rw [List.length_map]; omega) (by omega)
      rw [List.map_map] at e
      have im : immAll fs = true := immAll_mem.mpr fun f m => (hf f m).imm
      walk_at "evh"
      generalize hT : turns _ _ _ _ _ = T1
      obtain ⟨L, rfl, q1, q2, q4⟩ := turns_map1D hT (optD ∘ valF t m) (fun f hf => by
        obtain ⟨fl, e⟩ := hv f hf
        have im : imm (optD (valF t m f)) = true := imm_opt _
        walk_at "evh"
        exact ⟨_, _, rfl, rfl, by rw [Function.comp, im, Bool.or_true]⟩)
      have hs : small fs.length = true := small_mil (by omega)
      walk_at "evh"
      exact ⟨_, rfl⟩

end CF.K02
/-! draws -/
namespace CF.K02
open PySem PySem.Spec PyProof.Rows L2 CF
local macro_rules | `(tactic| walk_at "ev") => `(tactic| simp only [↓mNm_ap, ↓mC_ap, ↓m2_ap, ↓m1_ap, ↓mT_ap, ↓mTb_ap, ↓mNot_ap, ↓mAnd_ap, ↓mOr_ap, ↓mB_ap, ↓mIs_ap, ↓mIte_ap, ↓lNil_ap, ↓lCons_ap, ↓mTup_ap, ↓mLst_ap, ↓mBlt_ap, ↓oNo_ap, ↓oYes_ap, ↓mSl_ap, ↓mScr_ap, ↓aNil_ap, ↓aRef_ap, ↓aVal_ap, ↓aTmp_ap, ↓mCall_ap, ↓iEx_ap, ↓iStr_ap, ↓iR1_ap, ↓iR2_ap, ↓iZip_ap, ↓iEnum_ap, ↓iKeys_ap, ↓mKeyLock_ap, ↓cEnd_ap, ↓cIf_ap, ↓cFor_ap, ↓mLc_ap, ↓mYes_ap, ↓sNx_ap, ↓sBrk_ap, ↓sCt_ap, ↓sSeq_ap, ↓sRet_ap, ↓sRetN_ap, ↓sIf_ap, ↓sExp_ap, ↓sAsg_ap, ↓sPar_ap, ↓sAug_ap, ↓sApp_ap, ↓sExt_ap, ↓sIns_ap, ↓sSetL_ap, ↓sAugL_ap, ↓sSetD_ap, ↓sFor_ap, ↓mBin_ap, ↓mCmp_ap, ↓mIx_ap, ↓mNeg_ap, ↓mRev_ap, ↓mSortSet_ap, ↓mSortC_ap, CF.getD, hold, valAt, ownB, ioSlot, okArg, isRef, setAll, ioFits, doCall, hasV, bindOne, bt_nm, bt_tup, bts_nil, bts_cons, allFr, wipeE, restE, freeSlot, itOk, unown, unowns, ownL, wrL, ownD, isScal, isn_none, isn_int, isn_str, isn_bool, isn_tup, isn_list, isn_dict, CF.fin, ioOut, CF.noEx, seqOf, ixN,
  v_add, v_sub, v_mulM, v_mulR, v_mulL, v_mod, v_fdiv, v_pow10, v_addL, v_neg, v_eqI, v_eqS, v_lt, v_le, v_gt, v_ge, v_l0, v_l1, v_l2, v_l3, v_t0, v_t1, v_t2, v_t3, v_s0, v_s1, v_s2, v_slL, v_revL, v_lenL, v_lenT, v_listL, v_listT, v_tupL, v_tupT, v_int, v_abs, v_min, v_max, v_sortI, v_sortIR, v_sortS, v_sum, v_isTop, v_isOpt, zipD, topD_none, topD_some, optD_none, optD_some, Option.isNone_none, Option.isNone_some,
  ↓bk_in, bk_o, bk_x, bk_n, gz, CF.gs, sz, ss, List.length_cons, List.length_nil, List.mapM_cons, List.mapM_nil, Option.pure_def, Option.bind_eq_bind, Option.bind_some, Option.bind_none, List.all_cons, List.all_nil, List.isEmpty_cons, List.isEmpty_nil, List.map_cons, List.map_nil, List.filter_nil, List.filter_cons, List.getD_cons_zero, List.getD_cons_succ, List.nil_append, List.cons_append,
  imm_none, imm_bool, imm_int, imm_str, imm_tup, imm_list, imm_dict, immAll_nil, immAll_cons, imm_top, imm_opt, imm_sort, imm_house, imm_ints, imm_strs, imm_nats, imm_table, imm_bag, immAll_map, implies_true, immAll_ints, immAll_strs, immAll_sorts,
  Bool.and_true, Bool.true_and, Bool.false_and, Bool.and_false, Bool.or_true, Bool.true_or, Bool.or_false, Bool.false_or, Bool.not_true, Bool.not_false, Bool.and_self, Bool.or_self, decide_true, decide_false, decide_eq_true_eq, ↓reduceIte, Bool.false_eq_true, and_self, true_and, and_true, beq_self_eq_true, eq_self, List.contains_cons, List.contains_nil, List.elem_cons, List.elem_nil, bne_self_eq_false, Bool.bne_true, Bool.bne_false, small_mil, Nat.reduceAdd, Nat.reduceSub, Nat.reduceMul, Nat.reduceLT, Nat.reduceLeDiff, Nat.reduceBEq, Nat.reduceEqDiff, Int.reduceAdd, Int.reduceNeg, Int.reduceSub, Int.reduceMul, Int.reducePow, Int.reduceLT, Int.reduceLE, Int.reduceToNat, Int.reduceEq, Int.reduceBEq, Nat.reduceEqDiff, Nat.le_refl, Int.le_refl, Nat.zero_le, Nat.zero_add, Int.cast_ofNat_Int, Nat.zero_lt_succ, Nat.reducePow, Nat.lt_irrefl, beq_iff_eq, Int.reduceNegSucc, io__law_bag, np__law_bag, io__law_take, np__law_take, io__law_one, np__law_one, io__law_sort, np__law_sort, io__law_mixed, np__law_mixed, io__law_names, np__law_names, io__law_house, np__law_house, io__law_size, np__law_size, io__law_table, np__law_table, io__law_numbers, np__law_numbers, io__law_lot, np__law_lot, io__law_rank, np__law_rank, io__law_formula, np__law_formula, io__law_any_formula, np__law_any_formula, io_all_numbers, np_all_numbers, io__law_flat, np__law_flat, io__law_known, np__law_known, io__law_key, np__law_key, io__law_value, np__law_value, io__law_alike, np__law_alike, io_count_at_least, np_count_at_least, io__law_count, np__law_count, io_sizes_of, np_sizes_of, io__law_sizes, np__law_sizes, io_kth_greatest, np_kth_greatest, io_value_of, np_value_of, io__law_table_right, np__law_table_right, io_law, np_law])
local macro_rules | `(tactic| walk_at "evh") => `(tactic| simp only [↓mNm_ap, ↓mC_ap, ↓m2_ap, ↓m1_ap, ↓mT_ap, ↓mTb_ap, ↓mNot_ap, ↓mAnd_ap, ↓mOr_ap, ↓mB_ap, ↓mIs_ap, ↓mIte_ap, ↓lNil_ap, ↓lCons_ap, ↓mTup_ap, ↓mLst_ap, ↓mBlt_ap, ↓oNo_ap, ↓oYes_ap, ↓mSl_ap, ↓mScr_ap, ↓aNil_ap, ↓aRef_ap, ↓aVal_ap, ↓aTmp_ap, ↓mCall_ap, ↓iEx_ap, ↓iStr_ap, ↓iR1_ap, ↓iR2_ap, ↓iZip_ap, ↓iEnum_ap, ↓iKeys_ap, ↓mKeyLock_ap, ↓cEnd_ap, ↓cIf_ap, ↓cFor_ap, ↓mLc_ap, ↓mYes_ap, ↓sNx_ap, ↓sBrk_ap, ↓sCt_ap, ↓sSeq_ap, ↓sRet_ap, ↓sRetN_ap, ↓sIf_ap, ↓sExp_ap, ↓sAsg_ap, ↓sPar_ap, ↓sAug_ap, ↓sApp_ap, ↓sExt_ap, ↓sIns_ap, ↓sSetL_ap, ↓sAugL_ap, ↓sSetD_ap, ↓sFor_ap, ↓mBin_ap, ↓mCmp_ap, ↓mIx_ap, ↓mNeg_ap, ↓mRev_ap, ↓mSortSet_ap, ↓mSortC_ap, CF.getD, hold, valAt, ownB, ioSlot, okArg, isRef, setAll, ioFits, doCall, hasV, bindOne, bt_nm, bt_tup, bts_nil, bts_cons, allFr, wipeE, restE, freeSlot, itOk, unown, unowns, ownL, wrL, ownD, isScal, isn_none, isn_int, isn_str, isn_bool, isn_tup, isn_list, isn_dict, CF.fin, ioOut, CF.noEx, seqOf, ixN,
  v_add, v_sub, v_mulM, v_mulR, v_mulL, v_mod, v_fdiv, v_pow10, v_addL, v_neg, v_eqI, v_eqS, v_lt, v_le, v_gt, v_ge, v_l0, v_l1, v_l2, v_l3, v_t0, v_t1, v_t2, v_t3, v_s0, v_s1, v_s2, v_slL, v_revL, v_lenL, v_lenT, v_listL, v_listT, v_tupL, v_tupT, v_int, v_abs, v_min, v_max, v_sortI, v_sortIR, v_sortS, v_sum, v_isTop, v_isOpt, zipD, topD_none, topD_some, optD_none, optD_some, Option.isNone_none, Option.isNone_some,
  ↓bk_in, bk_o, bk_x, bk_n, gz, CF.gs, sz, ss, List.length_cons, List.length_nil, List.mapM_cons, List.mapM_nil, Option.pure_def, Option.bind_eq_bind, Option.bind_some, Option.bind_none, List.all_cons, List.all_nil, List.isEmpty_cons, List.isEmpty_nil, List.map_cons, List.map_nil, List.filter_nil, List.filter_cons, List.getD_cons_zero, List.getD_cons_succ, List.nil_append, List.cons_append,
  imm_none, imm_bool, imm_int, imm_str, imm_tup, imm_list, imm_dict, immAll_nil, immAll_cons, imm_top, imm_opt, imm_sort, imm_house, imm_ints, imm_strs, imm_nats, imm_table, imm_bag, immAll_map, implies_true, immAll_ints, immAll_strs, immAll_sorts,
  Bool.and_true, Bool.true_and, Bool.false_and, Bool.and_false, Bool.or_true, Bool.true_or, Bool.or_false, Bool.false_or, Bool.not_true, Bool.not_false, Bool.and_self, Bool.or_self, decide_true, decide_false, decide_eq_true_eq, ↓reduceIte, Bool.false_eq_true, and_self, true_and, and_true, beq_self_eq_true, eq_self, List.contains_cons, List.contains_nil, List.elem_cons, List.elem_nil, bne_self_eq_false, Bool.bne_true, Bool.bne_false, small_mil, Nat.reduceAdd, Nat.reduceSub, Nat.reduceMul, Nat.reduceLT, Nat.reduceLeDiff, Nat.reduceBEq, Nat.reduceEqDiff, Int.reduceAdd, Int.reduceNeg, Int.reduceSub, Int.reduceMul, Int.reducePow, Int.reduceLT, Int.reduceLE, Int.reduceToNat, Int.reduceEq, Int.reduceBEq, Nat.reduceEqDiff, Nat.le_refl, Int.le_refl, Nat.zero_le, Nat.zero_add, Int.cast_ofNat_Int, Nat.zero_lt_succ, Nat.reducePow, Nat.lt_irrefl, beq_iff_eq, Int.reduceNegSucc, io__law_bag, np__law_bag, io__law_take, np__law_take, io__law_one, np__law_one, io__law_sort, np__law_sort, io__law_mixed, np__law_mixed, io__law_names, np__law_names, io__law_house, np__law_house, io__law_size, np__law_size, io__law_table, np__law_table, io__law_numbers, np__law_numbers, io__law_lot, np__law_lot, io__law_rank, np__law_rank, io__law_formula, np__law_formula, io__law_any_formula, np__law_any_formula, io_all_numbers, np_all_numbers, io__law_flat, np__law_flat, io__law_known, np__law_known, io__law_key, np__law_key, io__law_value, np__law_value, io__law_alike, np__law_alike, io_count_at_least, np_count_at_least, io__law_count, np__law_count, io_sizes_of, np_sizes_of, io__law_sizes, np__law_sizes, io_kth_greatest, np_kth_greatest, io_value_of, np_value_of, io__law_table_right, np__law_table_right, io_law, np_law, *])
theorem flat_ok (rs : List (List Int)) (hl : rs.flatten.length ≤ 100000) (hr : rs.length ≤ 100000) : S__law_flat.run [.d (.list (rs.map fun r => .list (r.map .int)))] = .ok ⟨.list (rs.flatten.map .int), true, []⟩ := by
  rw [r__law_flat]
  unfold m__law_flat
  walk_at "ev"
  generalize hT : forTurns _ _ _ _ = T
  obtain ⟨⟨ns, s2⟩, rfl, t1⟩ := forTurns_stT hT (S := List Int × SlV) (fun s => [.v (.d (.list (rs.map fun r => .list (r.map .int)))) false, .v (.d (.list (s.1.map .int))) true, s.2]) ([], .un) rfl
    (fun r s => s.1 ++ r.flatten = rs.flatten) (List.nil_append _) (fun x r s hI => by
      obtain ⟨ns, s2⟩ := s
      dsimp only at hI ⊢
      have hlen := congrArg List.length hI
      rw [List.length_append, List.flatten_cons, List.length_append] at hlen
      have hs : small ((ns.map PyData.int).length + (x.map PyData.int).length) = true := small_mil (by rw [List.length_map, List.length_map]; omega)
      walk_at "evh"
      rw [← List.map_append]
      refine ⟨(ns ++ x, _), .inl rfl, ?_⟩
      show (ns ++ x) ++ r.flatten = _
      rw [List.append_assoc]; exact hI)
  have t1' : ns = rs.flatten := by
    have : ns ++ [] = rs.flatten := t1
    rwa [List.append_nil] at this
  subst t1'
  clear hT
  walk_at "evh"
theorem key_ok (v : Option Int) : S__law_key.run [.d (optD v)] = .ok ⟨rkD v, true, []⟩ := by
  rw [r__law_key]
  unfold m__law_key
  cases v with
  | none => walk_at "ev"; rfl
  | some v => walk_at "ev"; rfl
theorem le_pair (a b : Int × Int) : W.dataLe false id (pairD a) (pairD b) = CM.kle a b := by
  obtain ⟨a1, a2⟩ := a
  obtain ⟨b1, b2⟩ := b
  show (!W.dataLt (.tuple [.int b1, .int b2]) (.tuple [.int a1, .int a2])) = _
  rw [W.dataLt_tuple]
  simp only [W.keyToksAll, W.keyToks, List.cons_append, List.nil_append]
  rw [lex_self (O := itemOrd)]
  by_cases c : b1 = a1
  · subst c
    rw [lex_self (O := itemOrd), lex_self (O := itemOrd)]
    by_cases d : b2 = a2
    · subst d
      rw [lex_self (O := itemOrd), lex_self (O := itemOrd)]
      unfold CM.kle
      simp [PyProof.Rows.lexLt]
    · rw [lex_diff (O := itemOrd) (fun z => d (Sum.inl.inj z))]
      show (!decide (b2 < a2)) = CM.kle (b1, a2) (b1, b2)
      unfold CM.kle
      simp
      rw [Bool.eq_iff_iff]
      simp
  · rw [lex_diff (O := itemOrd) (fun z => c (Sum.inl.inj z))]
    show (!decide (b1 < a1)) = CM.kle (a1, a2) (b1, b2)
    unfold CM.kle
    simp
    rw [Bool.eq_iff_iff]
    simp
    omega
theorem v_sortK (vs : List (Option Int)) {f : Bool} : bltD .sorted [(.list (vs.map rkD), f)] = .ok (.list (((vs.map CM.keyO).mergeSort CM.kle).map pairD), true) := by
  have e : vs.map rkD = (vs.map CM.keyO).map pairD := by
    rw [List.map_map]
    exact List.map_congr_left fun v _ => rkD_eq v
  have im : immAll ((vs.map CM.keyO).map pairD) = true := immAll_map fun p _ => by rw [pairD, imm_tup, immAll_cons, immAll_cons, imm_int, imm_int, immAll_nil]; rfl
  rw [e, bltD_sorted, im, Bool.or_true]
  · rw [show ((vs.map CM.keyO).map pairD).mergeSort (W.dataLe false id) = ((vs.map CM.keyO).mergeSort CM.kle).map pairD from (List.map_mergeSort (f := pairD) fun a _ b _ => (le_pair a b).symm).symm]
  · refine ⟨fun d hd e he => ?_, .inl fun d hd => ?_, fun d hd => ?_⟩
    · obtain ⟨a, _, rfl⟩ := List.mem_map.mp hd
      obtain ⟨b, _, rfl⟩ := List.mem_map.mp he
      simp [pairD, W.alike, W.alikeAll]
    · obtain ⟨a, _, rfl⟩ := List.mem_map.mp hd
      exact ⟨_, _, rfl⟩
    · obtain ⟨a, _, rfl⟩ := List.mem_map.mp hd
      simp [pairD, PyData.depth, PyData.depthAll]

end CF.K02
/-! draws -/
namespace CF.K02
open PySem PySem.Spec PyProof.Rows L2 CF
local macro_rules | `(tactic| walk_at "ev") => `(tactic| simp only [↓mNm_ap, ↓mC_ap, ↓m2_ap, ↓m1_ap, ↓mT_ap, ↓mTb_ap, ↓mNot_ap, ↓mAnd_ap, ↓mOr_ap, ↓mB_ap, ↓mIs_ap, ↓mIte_ap, ↓lNil_ap, ↓lCons_ap, ↓mTup_ap, ↓mLst_ap, ↓mBlt_ap, ↓oNo_ap, ↓oYes_ap, ↓mSl_ap, ↓mScr_ap, ↓aNil_ap, ↓aRef_ap, ↓aVal_ap, ↓aTmp_ap, ↓mCall_ap, ↓iEx_ap, ↓iStr_ap, ↓iR1_ap, ↓iR2_ap, ↓iZip_ap, ↓iEnum_ap, ↓iKeys_ap, ↓mKeyLock_ap, ↓cEnd_ap, ↓cIf_ap, ↓cFor_ap, ↓mLc_ap, ↓mYes_ap, ↓sNx_ap, ↓sBrk_ap, ↓sCt_ap, ↓sSeq_ap, ↓sRet_ap, ↓sRetN_ap, ↓sIf_ap, ↓sExp_ap, ↓sAsg_ap, ↓sPar_ap, ↓sAug_ap, ↓sApp_ap, ↓sExt_ap, ↓sIns_ap, ↓sSetL_ap, ↓sAugL_ap, ↓sSetD_ap, ↓sFor_ap, ↓mBin_ap, ↓mCmp_ap, ↓mIx_ap, ↓mNeg_ap, ↓mRev_ap, ↓mSortSet_ap, ↓mSortC_ap, CF.getD, hold, valAt, ownB, ioSlot, okArg, isRef, setAll, ioFits, doCall, hasV, bindOne, bt_nm, bt_tup, bts_nil, bts_cons, allFr, wipeE, restE, freeSlot, itOk, unown, unowns, ownL, wrL, ownD, isScal, isn_none, isn_int, isn_str, isn_bool, isn_tup, isn_list, isn_dict, CF.fin, ioOut, CF.noEx, seqOf, ixN,
  v_add, v_sub, v_mulM, v_mulR, v_mulL, v_mod, v_fdiv, v_pow10, v_addL, v_neg, v_eqI, v_eqS, v_lt, v_le, v_gt, v_ge, v_l0, v_l1, v_l2, v_l3, v_t0, v_t1, v_t2, v_t3, v_s0, v_s1, v_s2, v_slL, v_revL, v_lenL, v_lenT, v_listL, v_listT, v_tupL, v_tupT, v_int, v_abs, v_min, v_max, v_sortI, v_sortIR, v_sortS, v_sum, v_isTop, v_isOpt, zipD, topD_none, topD_some, optD_none, optD_some, Option.isNone_none, Option.isNone_some,
  ↓bk_in, bk_o, bk_x, bk_n, gz, CF.gs, sz, ss, List.length_cons, List.length_nil, List.mapM_cons, List.mapM_nil, Option.pure_def, Option.bind_eq_bind, Option.bind_some, Option.bind_none, List.all_cons, List.all_nil, List.isEmpty_cons, List.isEmpty_nil, List.map_cons, List.map_nil, List.filter_nil, List.filter_cons, List.getD_cons_zero, List.getD_cons_succ, List.nil_append, List.cons_append,
  imm_none, imm_bool, imm_int, imm_str, imm_tup, imm_list, imm_dict, immAll_nil, immAll_cons, imm_top, imm_opt, imm_sort, imm_house, imm_ints, imm_strs, imm_nats, imm_table, imm_bag, immAll_map, implies_true, immAll_ints, immAll_strs, immAll_sorts,
  Bool.and_true, Bool.true_and, Bool.false_and, Bool.and_false, Bool.or_true, Bool.true_or, Bool.or_false, Bool.false_or, Bool.not_true, Bool.not_false, Bool.and_self, Bool.or_self, decide_true, decide_false, decide_eq_true_eq, ↓reduceIte, Bool.false_eq_true, and_self, true_and, and_true, beq_self_eq_true, eq_self, List.contains_cons, List.contains_nil, List.elem_cons, List.elem_nil, bne_self_eq_false, Bool.bne_true, Bool.bne_false, small_mil, Nat.reduceAdd, Nat.reduceSub, Nat.reduceMul, Nat.reduceLT, Nat.reduceLeDiff, Nat.reduceBEq, Nat.reduceEqDiff, Int.reduceAdd, Int.reduceNeg, Int.reduceSub, Int.reduceMul, Int.reducePow, Int.reduceLT, Int.reduceLE, Int.reduceToNat, Int.reduceEq, Int.reduceBEq, Nat.reduceEqDiff, Nat.le_refl, Int.le_refl, Nat.zero_le, Nat.zero_add, Int.cast_ofNat_Int, Nat.zero_lt_succ, Nat.reducePow, Nat.lt_irrefl, beq_iff_eq, Int.reduceNegSucc, io__law_bag, np__law_bag, io__law_take, np__law_take, io__law_one, np__law_one, io__law_sort, np__law_sort, io__law_mixed, np__law_mixed, io__law_names, np__law_names, io__law_house, np__law_house, io__law_size, np__law_size, io__law_table, np__law_table, io__law_numbers, np__law_numbers, io__law_lot, np__law_lot, io__law_rank, np__law_rank, io__law_formula, np__law_formula, io__law_any_formula, np__law_any_formula, io_all_numbers, np_all_numbers, io__law_flat, np__law_flat, io__law_known, np__law_known, io__law_key, np__law_key, io__law_value, np__law_value, io__law_alike, np__law_alike, io_count_at_least, np_count_at_least, io__law_count, np__law_count, io_sizes_of, np_sizes_of, io__law_sizes, np__law_sizes, io_kth_greatest, np_kth_greatest, io_value_of, np_value_of, io__law_table_right, np__law_table_right, io_law, np_law])
local macro_rules | `(tactic| walk_at "evh") => `(tactic| simp only [↓mNm_ap, ↓mC_ap, ↓m2_ap, ↓m1_ap, ↓mT_ap, ↓mTb_ap, ↓mNot_ap, ↓mAnd_ap, ↓mOr_ap, ↓mB_ap, ↓mIs_ap, ↓mIte_ap, ↓lNil_ap, ↓lCons_ap, ↓mTup_ap, ↓mLst_ap, ↓mBlt_ap, ↓oNo_ap, ↓oYes_ap, ↓mSl_ap, ↓mScr_ap, ↓aNil_ap, ↓aRef_ap, ↓aVal_ap, ↓aTmp_ap, ↓mCall_ap, ↓iEx_ap, ↓iStr_ap, ↓iR1_ap, ↓iR2_ap, ↓iZip_ap, ↓iEnum_ap, ↓iKeys_ap, ↓mKeyLock_ap, ↓cEnd_ap, ↓cIf_ap, ↓cFor_ap, ↓mLc_ap, ↓mYes_ap, ↓sNx_ap, ↓sBrk_ap, ↓sCt_ap, ↓sSeq_ap, ↓sRet_ap, ↓sRetN_ap, ↓sIf_ap, ↓sExp_ap, ↓sAsg_ap, ↓sPar_ap, ↓sAug_ap, ↓sApp_ap, ↓sExt_ap, ↓sIns_ap, ↓sSetL_ap, ↓sAugL_ap, ↓sSetD_ap, ↓sFor_ap, ↓mBin_ap, ↓mCmp_ap, ↓mIx_ap, ↓mNeg_ap, ↓mRev_ap, ↓mSortSet_ap, ↓mSortC_ap, CF.getD, hold, valAt, ownB, ioSlot, okArg, isRef, setAll, ioFits, doCall, hasV, bindOne, bt_nm, bt_tup, bts_nil, bts_cons, allFr, wipeE, restE, freeSlot, itOk, unown, unowns, ownL, wrL, ownD, isScal, isn_none, isn_int, isn_str, isn_bool, isn_tup, isn_list, isn_dict, CF.fin, ioOut, CF.noEx, seqOf, ixN,
  v_add, v_sub, v_mulM, v_mulR, v_mulL, v_mod, v_fdiv, v_pow10, v_addL, v_neg, v_eqI, v_eqS, v_lt, v_le, v_gt, v_ge, v_l0, v_l1, v_l2, v_l3, v_t0, v_t1, v_t2, v_t3, v_s0, v_s1, v_s2, v_slL, v_revL, v_lenL, v_lenT, v_listL, v_listT, v_tupL, v_tupT, v_int, v_abs, v_min, v_max, v_sortI, v_sortIR, v_sortS, v_sum, v_isTop, v_isOpt, zipD, topD_none, topD_some, optD_none, optD_some, Option.isNone_none, Option.isNone_some,
  ↓bk_in, bk_o, bk_x, bk_n, gz, CF.gs, sz, ss, List.length_cons, List.length_nil, List.mapM_cons, List.mapM_nil, Option.pure_def, Option.bind_eq_bind, Option.bind_some, Option.bind_none, List.all_cons, List.all_nil, List.isEmpty_cons, List.isEmpty_nil, List.map_cons, List.map_nil, List.filter_nil, List.filter_cons, List.getD_cons_zero, List.getD_cons_succ, List.nil_append, List.cons_append,
  imm_none, imm_bool, imm_int, imm_str, imm_tup, imm_list, imm_dict, immAll_nil, immAll_cons, imm_top, imm_opt, imm_sort, imm_house, imm_ints, imm_strs, imm_nats, imm_table, imm_bag, immAll_map, implies_true, immAll_ints, immAll_strs, immAll_sorts,
  Bool.and_true, Bool.true_and, Bool.false_and, Bool.and_false, Bool.or_true, Bool.true_or, Bool.or_false, Bool.false_or, Bool.not_true, Bool.not_false, Bool.and_self, Bool.or_self, decide_true, decide_false, decide_eq_true_eq, ↓reduceIte, Bool.false_eq_true, and_self, true_and, and_true, beq_self_eq_true, eq_self, List.contains_cons, List.contains_nil, List.elem_cons, List.elem_nil, bne_self_eq_false, Bool.bne_true, Bool.bne_false, small_mil, Nat.reduceAdd, Nat.reduceSub, Nat.reduceMul, Nat.reduceLT, Nat.reduceLeDiff, Nat.reduceBEq, Nat.reduceEqDiff, Int.reduceAdd, Int.reduceNeg, Int.reduceSub, Int.reduceMul, Int.reducePow, Int.reduceLT, Int.reduceLE, Int.reduceToNat, Int.reduceEq, Int.reduceBEq, Nat.reduceEqDiff, Nat.le_refl, Int.le_refl, Nat.zero_le, Nat.zero_add, Int.cast_ofNat_Int, Nat.zero_lt_succ, Nat.reducePow, Nat.lt_irrefl, beq_iff_eq, Int.reduceNegSucc, io__law_bag, np__law_bag, io__law_take, np__law_take, io__law_one, np__law_one, io__law_sort, np__law_sort, io__law_mixed, np__law_mixed, io__law_names, np__law_names, io__law_house, np__law_house, io__law_size, np__law_size, io__law_table, np__law_table, io__law_numbers, np__law_numbers, io__law_lot, np__law_lot, io__law_rank, np__law_rank, io__law_formula, np__law_formula, io__law_any_formula, np__law_any_formula, io_all_numbers, np_all_numbers, io__law_flat, np__law_flat, io__law_known, np__law_known, io__law_key, np__law_key, io__law_value, np__law_value, io__law_alike, np__law_alike, io_count_at_least, np_count_at_least, io__law_count, np__law_count, io_sizes_of, np_sizes_of, io__law_sizes, np__law_sizes, io_kth_greatest, np_kth_greatest, io_value_of, np_value_of, io__law_table_right, np__law_table_right, io_law, np_law, *])
theorem imm_rk (v : Option Int) : imm (rkD v) = true := by cases v <;> simp only [rkD, imm_tup, immAll_cons, imm_int, immAll_nil, Bool.and_self]
theorem lvalue_ok {h : List Srt} {pool : List Int} {t : Tab} (T : TabOk h pool t) : ∀ (m n : Nat) (d : D), m ≤ n → IsForm (h.map (·.1)) m d → ∃ fl, (S__law_value n).run [.d (.dict (tabKv t)), .d d] = .ok ⟨optD (valF t m d), fl, []⟩
  | 0, _, _, _, hd => hd.elim
  | m + 1, 0, _, hm, _ => by omega
  | m + 1, n + 1, d, hm, hd => by
    rw [r__law_value]
    unfold m__law_value
    rcases hd with ⟨lot, k, rfl, l1, l2, l3, l4, k1, k9⟩ | ⟨k, fs, rfl, hf, k1, k2, k3⟩
    · rw [valF_rank]
      have fl := flat_len (rowsT t) lot fun a m => (tab_rows T (l4 a m)).2.1
      have efl : (lot.map (rowsT t)).flatten = lot.flatMap (rowsT t) := by rw [List.flatMap_def]
      have e := flat_ok (lot.map (rowsT t)) (by rw [efl]; omega) (by rw [List.length_map]; omega)
      rw [efl, List.map_map] at e
      walk_at "ev"
      generalize hT : turns _ _ _ _ _ = T1
      obtain ⟨L, rfl, q1, q2, q4⟩ := turns_map1 hT ((fun r : List Int => PyData.list (r.map .int)) ∘ rowsT t) (fun n hn => by
        have ei := v_tab (f := false) (tab_rows T (l4 n hn)).1
        simp only [Function.comp]
        walk_at "evh"
        exact ⟨_, _, rfl, rfl, rfl⟩)
      have hs : small lot.length = true := small_mil (by omega)
      clear hT
      walk_at "evh"
      simp only [List.length_map, CM.srt_len]
      by_cases c : k ≤ (lot.flatMap (rowsT t)).length
      · obtain ⟨v, ev, _⟩ := CM.kth_some k1 c
        have c2 : (k : Int) ≤ ((lot.flatMap (rowsT t)).length : Int) := by omega
        have ea := CM.kth_asc k1 c
        have ei : ixD (.list ((CM.srt (lot.flatMap (rowsT t))).map PyData.int)) false (.int (((lot.flatMap (rowsT t)).length : Int) - (k : Int))) = .ok (.int v, false) := by
          refine v_ixLi (by omega) ?_
          rw [List.getElem?_map, show (((lot.flatMap (rowsT t)).length : Int) - (k : Int)).toNat = (lot.flatMap (rowsT t)).length - k by omega, ea, ev]; rfl
        walk_at "evh"
        exact ⟨_, rfl⟩
      · have c2 : ¬ (k : Int) ≤ ((lot.flatMap (rowsT t)).length : Int) := by omega
        rw [CM.kth_none (by omega)]
        walk_at "evh"
        exact ⟨_, rfl⟩
    · have kr := kr
      have hv : ∀ f ∈ fs, ∃ fl, (S__law_value n).run [.d (.dict (tabKv t)), .d f] = .ok ⟨optD (valF t m f), fl, []⟩ := fun f mf => lvalue_ok T m n f (by omega) (hf f mf)
      rw [valF_kth]
      have im : immAll fs = true := immAll_mem.mpr fun f m => (hf f m).imm
      walk_at "evh"
      generalize hT : turns _ _ _ _ _ = T1
      obtain ⟨L, rfl, q1, q2, q4⟩ := turns_map1D hT (rkD ∘ valF t m) (fun f hf => by
        obtain ⟨fl, e⟩ := hv f hf
        have ek := key_ok (valF t m f)
        walk_at "evh"
        exact ⟨_, _, rfl, rfl, by rw [Function.comp, imm_rk, Bool.or_true]⟩)
      have hs : small fs.length = true := small_mil (by omega)
      have em : fs.map (rkD ∘ valF t m) = (fs.map (valF t m)).map rkD := by rw [List.map_map]
      rw [em] at q1
      have hsk := fun f => v_sortK (fs.map (valF t m)) (f := f)
      have hkl : (((fs.map (valF t m)).map CM.keyO).mergeSort CM.kle).length = fs.length := by rw [(List.mergeSort_perm _ _).length_eq, List.length_map, List.length_map]
      have ka := CM.key_at (vs := fs.map (valF t m)) k1 (by rw [List.length_map]; exact k2)
      rw [List.length_map] at ka
      have ei : ixD (.list ((((fs.map (valF t m)).map CM.keyO).mergeSort CM.kle).map pairD)) false (.int ((fs.length : Int) - (k : Int))) = .ok (pairD (CM.keyO (CM.kth ((fs.map (valF t m)).filterMap id) k)), false) := by
        refine v_ixLi (by omega) ?_
        rw [List.getElem?_map, show ((fs.length : Int) - (k : Int)).toNat = fs.length - k by omega, ka]; rfl
      have imk : immAll ((((fs.map (valF t m)).map CM.keyO).mergeSort CM.kle).map pairD) = true := immAll_map fun p _ => by rw [pairD, imm_tup, immAll_cons, immAll_cons, imm_int, imm_int, immAll_nil]; rfl
      clear hT
      walk_at "evh"
      simp only [List.length_map, hkl]
      cases hk : CM.kth ((fs.map (valF t m)).filterMap id) k with
      | none =>
        rw [hk] at ei
        simp only [CM.keyO, pairD] at ei
        walk_at "evh"
        exact ⟨_, rfl⟩
      | some v =>
        rw [hk] at ei
        simp only [CM.keyO, pairD] at ei
        walk_at "evh"
        exact ⟨_, rfl⟩
theorem v_sset {ns : List Int} (h1 : ns.length ≤ 4000) (h2 : (sortU ns).length < 64) : sortSetD (.list (ns.map .int)) = .ok (.list ((sortU ns).map .int), true) := by
  unfold sortSetD
  simp only [allInt_map]
  exact if_pos ⟨h1, h2⟩
theorem sortU_nd (ns : List Int) : (sortU ns).Nodup := (sortU_lt ns).imp fun h => by omega
theorem sortU_le {ns ms : List Int} (h : ∀ n ∈ ns, n ∈ ms) : (sortU ns).length ≤ ms.length := nodup_le (sortU_nd ns) fun k hk => h k (mem_sortU.mp hk)
theorem tab_keys (t : Tab) : (tabKv t).map (·.1) = (t.map (·.1)).map .str := by rw [tabKv, List.map_map, List.map_map]; rfl
noncomputable def knownT (t : Tab) : List Int := sortU ((t.map (·.1)).flatMap (rowsT t))
theorem known_mem {h : List Srt} {pool : List Int} {t : Tab} (T : TabOk h pool t) : ∀ k ∈ knownT t, k ∈ pool := fun k hk => by
  obtain ⟨n, hn, hk⟩ := List.mem_flatMap.mp (mem_sortU.mp hk)
  exact (tab_rows T (T.keys.mem_iff.mp hn)).2.2 k hk
theorem known_len {h : List Srt} {pool : List Int} (hp : pool.length ≤ 7) {t : Tab} (T : TabOk h pool t) : (knownT t).length ≤ 7 := Nat.le_trans (nodup_le (sortU_nd _) (known_mem T)) hp
theorem known_ok {h : List Srt} (hh : HouseOk h) {pool : List Int} (hp : pool.length ≤ 7) {t : Tab} (T : TabOk h pool t) : S__law_known.run [.d (.dict (tabKv t))] = .ok ⟨.list ((knownT t).map .int), true, []⟩ := by
  have hhi := hh.hi
  have hlo := hh.lo
  have kl := T.keys.length_eq
  rw [List.length_map, List.length_map] at kl
  have hr : ∀ n ∈ t.map (·.1), n ∈ t.map (·.1) ∧ (rowsT t n).length ≤ 9 ∧ ∀ k ∈ rowsT t n, k ∈ pool := fun n hn => tab_rows T (T.keys.mem_iff.mp hn)
  have fl := flat_len (rowsT t) (t.map (·.1)) fun a m => (hr a m).2.1
  rw [List.length_map] at fl
  have efl : ((t.map (·.1)).map (rowsT t)).flatten = (t.map (·.1)).flatMap (rowsT t) := by rw [List.flatMap_def]
  have e := flat_ok ((t.map (·.1)).map (rowsT t)) (by rw [efl]; omega) (by rw [List.length_map, List.length_map]; omega)
  rw [efl, List.map_map] at e
  have ne : (tabKv t).isEmpty = false := by
    cases t with
    | nil => simp at kl; omega
    | cons p t => rfl
  have tk := tab_keys t
  rw [r__law_known]
  unfold m__law_known
  walk_at "evh"
  generalize hT : turns _ _ _ _ _ = T1
  obtain ⟨L, rfl, q1, q2, q4⟩ := turns_map1 hT ((fun r : List Int => PyData.list (r.map .int)) ∘ rowsT t) (fun n hn => by
    have ei := v_tab (f := false) (hr n hn).1
    simp only [Function.comp]
    clear hr
    walk_at "evh"
    exact ⟨_, _, rfl, rfl, rfl⟩)
  have hs : small h.length = true := small_mil (by omega)
  have hm : ∀ k ∈ (t.map (·.1)).flatMap (rowsT t), k ∈ pool := fun k hk => by
    obtain ⟨n, hn, hk⟩ := List.mem_flatMap.mp hk
    exact (hr n hn).2.2 k hk
  have h7 := sortU_le hm
  have ss := v_sset (ns := (t.map (·.1)).flatMap (rowsT t)) (by omega) (by omega)
  rw [List.length_map] at q2
  clear hT
  walk_at "evh"
  rfl

end CF.K02
/-! draws -/
namespace CF.K02
open PySem PySem.Spec PyProof.Rows L2 CF
local macro_rules | `(tactic| walk_at "ev") => `(tactic| simp only [↓mNm_ap, ↓mC_ap, ↓m2_ap, ↓m1_ap, ↓mT_ap, ↓mTb_ap, ↓mNot_ap, ↓mAnd_ap, ↓mOr_ap, ↓mB_ap, ↓mIs_ap, ↓mIte_ap, ↓lNil_ap, ↓lCons_ap, ↓mTup_ap, ↓mLst_ap, ↓mBlt_ap, ↓oNo_ap, ↓oYes_ap, ↓mSl_ap, ↓mScr_ap, ↓aNil_ap, ↓aRef_ap, ↓aVal_ap, ↓aTmp_ap, ↓mCall_ap, ↓iEx_ap, ↓iStr_ap, ↓iR1_ap, ↓iR2_ap, ↓iZip_ap, ↓iEnum_ap, ↓iKeys_ap, ↓mKeyLock_ap, ↓cEnd_ap, ↓cIf_ap, ↓cFor_ap, ↓mLc_ap, ↓mYes_ap, ↓sNx_ap, ↓sBrk_ap, ↓sCt_ap, ↓sSeq_ap, ↓sRet_ap, ↓sRetN_ap, ↓sIf_ap, ↓sExp_ap, ↓sAsg_ap, ↓sPar_ap, ↓sAug_ap, ↓sApp_ap, ↓sExt_ap, ↓sIns_ap, ↓sSetL_ap, ↓sAugL_ap, ↓sSetD_ap, ↓sFor_ap, ↓mBin_ap, ↓mCmp_ap, ↓mIx_ap, ↓mNeg_ap, ↓mRev_ap, ↓mSortSet_ap, ↓mSortC_ap, CF.getD, hold, valAt, ownB, ioSlot, okArg, isRef, setAll, ioFits, doCall, hasV, bindOne, bt_nm, bt_tup, bts_nil, bts_cons, allFr, wipeE, restE, freeSlot, itOk, unown, unowns, ownL, wrL, ownD, isScal, isn_none, isn_int, isn_str, isn_bool, isn_tup, isn_list, isn_dict, CF.fin, ioOut, CF.noEx, seqOf, ixN,
  v_add, v_sub, v_mulM, v_mulR, v_mulL, v_mod, v_fdiv, v_pow10, v_addL, v_neg, v_eqI, v_eqS, v_lt, v_le, v_gt, v_ge, v_l0, v_l1, v_l2, v_l3, v_t0, v_t1, v_t2, v_t3, v_s0, v_s1, v_s2, v_slL, v_revL, v_lenL, v_lenT, v_listL, v_listT, v_tupL, v_tupT, v_int, v_abs, v_min, v_max, v_sortI, v_sortIR, v_sortS, v_sum, v_isTop, v_isOpt, zipD, topD_none, topD_some, optD_none, optD_some, Option.isNone_none, Option.isNone_some,
  ↓bk_in, bk_o, bk_x, bk_n, gz, CF.gs, sz, ss, List.length_cons, List.length_nil, List.mapM_cons, List.mapM_nil, Option.pure_def, Option.bind_eq_bind, Option.bind_some, Option.bind_none, List.all_cons, List.all_nil, List.isEmpty_cons, List.isEmpty_nil, List.map_cons, List.map_nil, List.filter_nil, List.filter_cons, List.getD_cons_zero, List.getD_cons_succ, List.nil_append, List.cons_append,
  imm_none, imm_bool, imm_int, imm_str, imm_tup, imm_list, imm_dict, immAll_nil, immAll_cons, imm_top, imm_opt, imm_sort, imm_house, imm_ints, imm_strs, imm_nats, imm_table, imm_bag, immAll_map, implies_true, immAll_ints, immAll_strs, immAll_sorts,
  Bool.and_true, Bool.true_and, Bool.false_and, Bool.and_false, Bool.or_true, Bool.true_or, Bool.or_false, Bool.false_or, Bool.not_true, Bool.not_false, Bool.and_self, Bool.or_self, decide_true, decide_false, decide_eq_true_eq, ↓reduceIte, Bool.false_eq_true, and_self, true_and, and_true, beq_self_eq_true, eq_self, List.contains_cons, List.contains_nil, List.elem_cons, List.elem_nil, bne_self_eq_false, Bool.bne_true, Bool.bne_false, small_mil, Nat.reduceAdd, Nat.reduceSub, Nat.reduceMul, Nat.reduceLT, Nat.reduceLeDiff, Nat.reduceBEq, Nat.reduceEqDiff, Int.reduceAdd, Int.reduceNeg, Int.reduceSub, Int.reduceMul, Int.reducePow, Int.reduceLT, Int.reduceLE, Int.reduceToNat, Int.reduceEq, Int.reduceBEq, Nat.reduceEqDiff, Nat.le_refl, Int.le_refl, Nat.zero_le, Nat.zero_add, Int.cast_ofNat_Int, Nat.zero_lt_succ, Nat.reducePow, Nat.lt_irrefl, beq_iff_eq, Int.reduceNegSucc, io__law_bag, np__law_bag, io__law_take, np__law_take, io__law_one, np__law_one, io__law_sort, np__law_sort, io__law_mixed, np__law_mixed, io__law_names, np__law_names, io__law_house, np__law_house, io__law_size, np__law_size, io__law_table, np__law_table, io__law_numbers, np__law_numbers, io__law_lot, np__law_lot, io__law_rank, np__law_rank, io__law_formula, np__law_formula, io__law_any_formula, np__law_any_formula, io_all_numbers, np_all_numbers, io__law_flat, np__law_flat, io__law_known, np__law_known, io__law_key, np__law_key, io__law_value, np__law_value, io__law_alike, np__law_alike, io_count_at_least, np_count_at_least, io__law_count, np__law_count, io_sizes_of, np_sizes_of, io__law_sizes, np__law_sizes, io_kth_greatest, np_kth_greatest, io_value_of, np_value_of, io__law_table_right, np__law_table_right, io_law, np_law])
local macro_rules | `(tactic| walk_at "evh") => `(tactic| simp only [↓mNm_ap, ↓mC_ap, ↓m2_ap, ↓m1_ap, ↓mT_ap, ↓mTb_ap, ↓mNot_ap, ↓mAnd_ap, ↓mOr_ap, ↓mB_ap, ↓mIs_ap, ↓mIte_ap, ↓lNil_ap, ↓lCons_ap, ↓mTup_ap, ↓mLst_ap, ↓mBlt_ap, ↓oNo_ap, ↓oYes_ap, ↓mSl_ap, ↓mScr_ap, ↓aNil_ap, ↓aRef_ap, ↓aVal_ap, ↓aTmp_ap, ↓mCall_ap, ↓iEx_ap, ↓iStr_ap, ↓iR1_ap, ↓iR2_ap, ↓iZip_ap, ↓iEnum_ap, ↓iKeys_ap, ↓mKeyLock_ap, ↓cEnd_ap, ↓cIf_ap, ↓cFor_ap, ↓mLc_ap, ↓mYes_ap, ↓sNx_ap, ↓sBrk_ap, ↓sCt_ap, ↓sSeq_ap, ↓sRet_ap, ↓sRetN_ap, ↓sIf_ap, ↓sExp_ap, ↓sAsg_ap, ↓sPar_ap, ↓sAug_ap, ↓sApp_ap, ↓sExt_ap, ↓sIns_ap, ↓sSetL_ap, ↓sAugL_ap, ↓sSetD_ap, ↓sFor_ap, ↓mBin_ap, ↓mCmp_ap, ↓mIx_ap, ↓mNeg_ap, ↓mRev_ap, ↓mSortSet_ap, ↓mSortC_ap, CF.getD, hold, valAt, ownB, ioSlot, okArg, isRef, setAll, ioFits, doCall, hasV, bindOne, bt_nm, bt_tup, bts_nil, bts_cons, allFr, wipeE, restE, freeSlot, itOk, unown, unowns, ownL, wrL, ownD, isScal, isn_none, isn_int, isn_str, isn_bool, isn_tup, isn_list, isn_dict, CF.fin, ioOut, CF.noEx, seqOf, ixN,
  v_add, v_sub, v_mulM, v_mulR, v_mulL, v_mod, v_fdiv, v_pow10, v_addL, v_neg, v_eqI, v_eqS, v_lt, v_le, v_gt, v_ge, v_l0, v_l1, v_l2, v_l3, v_t0, v_t1, v_t2, v_t3, v_s0, v_s1, v_s2, v_slL, v_revL, v_lenL, v_lenT, v_listL, v_listT, v_tupL, v_tupT, v_int, v_abs, v_min, v_max, v_sortI, v_sortIR, v_sortS, v_sum, v_isTop, v_isOpt, zipD, topD_none, topD_some, optD_none, optD_some, Option.isNone_none, Option.isNone_some,
  ↓bk_in, bk_o, bk_x, bk_n, gz, CF.gs, sz, ss, List.length_cons, List.length_nil, List.mapM_cons, List.mapM_nil, Option.pure_def, Option.bind_eq_bind, Option.bind_some, Option.bind_none, List.all_cons, List.all_nil, List.isEmpty_cons, List.isEmpty_nil, List.map_cons, List.map_nil, List.filter_nil, List.filter_cons, List.getD_cons_zero, List.getD_cons_succ, List.nil_append, List.cons_append,
  imm_none, imm_bool, imm_int, imm_str, imm_tup, imm_list, imm_dict, immAll_nil, immAll_cons, imm_top, imm_opt, imm_sort, imm_house, imm_ints, imm_strs, imm_nats, imm_table, imm_bag, immAll_map, implies_true, immAll_ints, immAll_strs, immAll_sorts,
  Bool.and_true, Bool.true_and, Bool.false_and, Bool.and_false, Bool.or_true, Bool.true_or, Bool.or_false, Bool.false_or, Bool.not_true, Bool.not_false, Bool.and_self, Bool.or_self, decide_true, decide_false, decide_eq_true_eq, ↓reduceIte, Bool.false_eq_true, and_self, true_and, and_true, beq_self_eq_true, eq_self, List.contains_cons, List.contains_nil, List.elem_cons, List.elem_nil, bne_self_eq_false, Bool.bne_true, Bool.bne_false, small_mil, Nat.reduceAdd, Nat.reduceSub, Nat.reduceMul, Nat.reduceLT, Nat.reduceLeDiff, Nat.reduceBEq, Nat.reduceEqDiff, Int.reduceAdd, Int.reduceNeg, Int.reduceSub, Int.reduceMul, Int.reducePow, Int.reduceLT, Int.reduceLE, Int.reduceToNat, Int.reduceEq, Int.reduceBEq, Nat.reduceEqDiff, Nat.le_refl, Int.le_refl, Nat.zero_le, Nat.zero_add, Int.cast_ofNat_Int, Nat.zero_lt_succ, Nat.reducePow, Nat.lt_irrefl, beq_iff_eq, Int.reduceNegSucc, io__law_bag, np__law_bag, io__law_take, np__law_take, io__law_one, np__law_one, io__law_sort, np__law_sort, io__law_mixed, np__law_mixed, io__law_names, np__law_names, io__law_house, np__law_house, io__law_size, np__law_size, io__law_table, np__law_table, io__law_numbers, np__law_numbers, io__law_lot, np__law_lot, io__law_rank, np__law_rank, io__law_formula, np__law_formula, io__law_any_formula, np__law_any_formula, io_all_numbers, np_all_numbers, io__law_flat, np__law_flat, io__law_known, np__law_known, io__law_key, np__law_key, io__law_value, np__law_value, io__law_alike, np__law_alike, io_count_at_least, np_count_at_least, io__law_count, np__law_count, io_sizes_of, np_sizes_of, io__law_sizes, np__law_sizes, io_kth_greatest, np_kth_greatest, io_value_of, np_value_of, io__law_table_right, np__law_table_right, io_law, np_law, *])
noncomputable def atL (t : Tab) (lot : List Str) (c : Int) : Nat := ((lot.flatMap (rowsT t)).filter fun k => decide (c ≤ k)).length
theorem atL_eq (t : Tab) (lot : List Str) (c : Int) : (lot.flatMap fun n => (rowsT t n).filter fun k => decide (c ≤ k)).length = atL t lot c := by rw [atL, List.filter_flatMap]
theorem atL_le {h : List Srt} {pool : List Int} {t : Tab} (T : TabOk h pool t) {lot : List Str} (hn : ∀ n ∈ lot, n ∈ h.map (·.1)) (c : Int) : atL t lot c ≤ lot.length * 9 :=
  Nat.le_trans (List.length_filter_le _ _) (flat_len (rowsT t) lot fun a m => (tab_rows T (hn a m)).2.1)
theorem cal_ok {h : List Srt} {pool : List Int} {t : Tab} (T : TabOk h pool t) {lot : List Str} (hn : ∀ n ∈ lot, n ∈ h.map (·.1)) (hl : lot.length ≤ 1000) (c : Int) : S_count_at_least.run [.d (houseD h), .d (.dict (tabKv t)), .d (strsD lot), .d (.int c)] = .ok ⟨.int (atL t lot c : Nat), true, []⟩ := by
  rw [r_count_at_least]
  unfold m_count_at_least
  walk_at "ev"
  generalize hT : turns _ _ _ _ _ = T1
  obtain ⟨L, rfl, q1, q2, q4⟩ := turns_mapT (e := PyData.str) hT (fun n => ((rowsT t n).filter fun k => decide (c ≤ k)).map fun _ => .int 1) (fun n' hn' => by
    have ei := v_tab (f := false) (tab_rows T (hn n' hn')).1
    walk_at "evh"
    generalize hT2 : turns _ _ _ _ _ = T2
    obtain ⟨L, rfl, p1, p2, p4⟩ := turns_fil hT2 (fun _ => .int 1) (fun k => decide (c ≤ k)) (fun k hk => by
      by_cases cc : c ≤ k
      · walk_at "evh"; exact ⟨_, _, rfl, rfl, rfl⟩
      · walk_at "evh"; exact ⟨true, _, rfl, rfl, rfl⟩)
    clear hT2
    walk_at "ev"
    exact ⟨_, _, rfl, rfl, p1, p4⟩)
  have q2' : L.length = atL t lot c := by
    rw [← List.length_map (as := L) (f := (·.1)), q1, ← atL_eq, List.length_flatMap, List.length_flatMap]
    simp only [List.length_map]
  have hle := atL_le T hn c
  have hs : small (atL t lot c) = true := small_mil (by omega)
  have q3 : (L.map (·.1)).length = atL t lot c := by rw [List.length_map, q2']
  rw [q1] at q3
  clear hT q2
  walk_at "evh"
theorem lcount_ok {h : List Srt} {pool : List Int} {t : Tab} (T : TabOk h pool t) {lot : List Str} (hn : ∀ n ∈ lot, n ∈ h.map (·.1)) (hl : lot.length ≤ 1000) (c : Int) : S__law_count.run [.d (.dict (tabKv t)), .d (strsD lot), .d (.int c)] = .ok ⟨.int (atL t lot c : Nat), true, []⟩ := by
  have fl := flat_len (rowsT t) lot fun a m => (tab_rows T (hn a m)).2.1
  have efl : (lot.map (rowsT t)).flatten = lot.flatMap (rowsT t) := by rw [List.flatMap_def]
  have e := flat_ok (lot.map (rowsT t)) (by rw [efl]; omega) (by rw [List.length_map]; omega)
  rw [efl, List.map_map] at e
  rw [r__law_count]
  unfold m__law_count
  walk_at "ev"
  generalize hT : turns _ _ _ _ _ = T1
  obtain ⟨L, rfl, q1, q2, q4⟩ := turns_map1 hT ((fun r : List Int => PyData.list (r.map .int)) ∘ rowsT t) (fun n hm => by
    have ei := v_tab (f := false) (tab_rows T (hn n hm)).1
    simp only [Function.comp]
    clear e
    walk_at "evh"
    exact ⟨_, _, rfl, rfl, rfl⟩)
  have hs : small lot.length = true := small_mil (by omega)
  clear hT
  walk_at "evh"
  generalize hT : turns _ _ _ _ _ = T1
  obtain ⟨L2, rfl, p1, p2, p4⟩ := turns_fil hT PyData.int (fun k => decide (c ≤ k)) (fun k hk => by
    by_cases cc : c ≤ k
    · walk_at "evh"; exact ⟨_, _, rfl, rfl, rfl⟩
    · walk_at "evh"; exact ⟨true, _, rfl, rfl, rfl⟩)
  have hle := atL_le T hn c
  have q3 : (L2.map (·.1)).length = atL t lot c := by rw [p1, List.length_map, atL]
  have q2' : L2.length = atL t lot c := by rw [← q3, List.length_map]
  rw [p1] at q3
  have hs2 : small (atL t lot c) = true := small_mil (by omega)
  clear hT p2 e q1 q2
  walk_at "evh"
noncomputable def sizesT (h : List Srt) (t : Tab) : List Int := h.map fun s => ((rowsT t s.1).length : Int)
theorem sizes_ok {h : List Srt} (hl : h.length ≤ 1000) {pool : List Int} {t : Tab} (T : TabOk h pool t) : S_sizes_of.run [.d (houseD h), .d (.dict (tabKv t))] = .ok ⟨intsD (sizesT h t), true, []⟩ := by
  rw [r_sizes_of]
  unfold m_sizes_of
  walk_at "ev"
  generalize hT : turns _ _ _ _ _ = T1
  obtain ⟨L, rfl, q1, q2, q4⟩ := turns_map1 hT (fun s => .int ((rowsT t s.1).length : Nat)) (fun s hs => by
    have ei := v_tab (f := false) (tab_rows T (n := s.1) (List.mem_map.mpr ⟨s, hs, rfl⟩)).1
    walk_at "evh"
    rw [List.length_map]
    exact ⟨_, _, rfl, rfl, rfl⟩)
  have em : h.map (fun s => PyData.int ((rowsT t s.1).length : Nat)) = (sizesT h t).map .int := by rw [sizesT, List.map_map]; rfl
  rw [em] at q1
  have hs : small h.length = true := small_mil (by omega)
  clear hT
  walk_at "evh"
theorem lsizes_ok {h : List Srt} (hl : h.length ≤ 1000) {pool : List Int} {t : Tab} (T : TabOk h pool t) : S__law_sizes.run [.d (houseD h), .d (.dict (tabKv t))] = .ok ⟨intsD (sizesT h t), true, []⟩ := by
  rw [r__law_sizes]
  unfold m__law_sizes
  walk_at "ev"
  generalize hT : turns _ _ _ _ _ = T1
  obtain ⟨L, rfl, q1, q2, q4⟩ := turns_map1 hT (fun s => .int ((rowsT t s.1).length : Nat)) (fun s hs => by
    have ei := v_tab (f := false) (tab_rows T (n := s.1) (List.mem_map.mpr ⟨s, hs, rfl⟩)).1
    walk_at "evh"
    rw [List.length_map]
    exact ⟨_, _, rfl, rfl, rfl⟩)
  have em : h.map (fun s => PyData.int ((rowsT t s.1).length : Nat)) = (sizesT h t).map .int := by rw [sizesT, List.map_map]; rfl
  rw [em] at q1
  have hs : small h.length = true := small_mil (by omega)
  clear hT
  walk_at "evh"
theorem all_ok {h : List Srt} (hh : HouseOk h) {pool : List Int} (hp : pool.length ≤ 7) {t : Tab} (T : TabOk h pool t) : S_all_numbers.run [.d (.dict (tabKv t))] = .ok ⟨.list ((knownT t).map .int), true, []⟩ := by
  have hhi := hh.hi
  have hlo := hh.lo
  have kl := T.keys.length_eq
  rw [List.length_map, List.length_map] at kl
  have hr : ∀ n ∈ t.map (·.1), n ∈ t.map (·.1) ∧ (rowsT t n).length ≤ 9 ∧ ∀ k ∈ rowsT t n, k ∈ pool := fun n hn => tab_rows T (T.keys.mem_iff.mp hn)
  have fl := flat_len (rowsT t) (t.map (·.1)) fun a m => (hr a m).2.1
  rw [List.length_map] at fl
  have ne : (tabKv t).isEmpty = false := by
    cases t with
    | nil => simp at kl; omega
    | cons p t => rfl
  have tk := tab_keys t
  rw [r_all_numbers]
  unfold m_all_numbers
  walk_at "evh"
  generalize hT : turns _ _ _ _ _ = T1
  obtain ⟨L, rfl, q1, q2, q4⟩ := turns_mapT hT (fun n => (rowsT t n).map .int) (fun n hn => by
    have ei := v_tab (f := false) (hr n hn).1
    clear hr
    walk_at "evh"
    generalize hT2 : turns _ _ _ _ _ = T2
    obtain ⟨L, rfl, p1, p2, p4⟩ := turns_map1 hT2 PyData.int (fun n hn => by walk_at "ev"; exact ⟨_, _, rfl, rfl, rfl⟩)
    clear hT2
    walk_at "ev"
    exact ⟨_, _, rfl, rfl, p1, p4⟩)
  have q3 : L.map (·.1) = ((t.map (·.1)).flatMap (rowsT t)).map .int := by rw [q1, List.map_flatMap]
  have h7 := known_len hp T
  have ss := v_sset (ns := (t.map (·.1)).flatMap (rowsT t)) (by omega) (by unfold knownT at h7; omega)
  clear hT q1 q2
  walk_at "evh"
  rfl

end CF.K02
/-! draws -/
namespace CF.K02
open PySem PySem.Spec PyProof.Rows L2 CF
local macro_rules | `(tactic| walk_at "ev") => `(tactic| simp only [↓mNm_ap, ↓mC_ap, ↓m2_ap, ↓m1_ap, ↓mT_ap, ↓mTb_ap, ↓mNot_ap, ↓mAnd_ap, ↓mOr_ap, ↓mB_ap, ↓mIs_ap, ↓mIte_ap, ↓lNil_ap, ↓lCons_ap, ↓mTup_ap, ↓mLst_ap, ↓mBlt_ap, ↓oNo_ap, ↓oYes_ap, ↓mSl_ap, ↓mScr_ap, ↓aNil_ap, ↓aRef_ap, ↓aVal_ap, ↓aTmp_ap, ↓mCall_ap, ↓iEx_ap, ↓iStr_ap, ↓iR1_ap, ↓iR2_ap, ↓iZip_ap, ↓iEnum_ap, ↓iKeys_ap, ↓mKeyLock_ap, ↓cEnd_ap, ↓cIf_ap, ↓cFor_ap, ↓mLc_ap, ↓mYes_ap, ↓sNx_ap, ↓sBrk_ap, ↓sCt_ap, ↓sSeq_ap, ↓sRet_ap, ↓sRetN_ap, ↓sIf_ap, ↓sExp_ap, ↓sAsg_ap, ↓sPar_ap, ↓sAug_ap, ↓sApp_ap, ↓sExt_ap, ↓sIns_ap, ↓sSetL_ap, ↓sAugL_ap, ↓sSetD_ap, ↓sFor_ap, ↓mBin_ap, ↓mCmp_ap, ↓mIx_ap, ↓mNeg_ap, ↓mRev_ap, ↓mSortSet_ap, ↓mSortC_ap, CF.getD, hold, valAt, ownB, ioSlot, okArg, isRef, setAll, ioFits, doCall, hasV, bindOne, bt_nm, bt_tup, bts_nil, bts_cons, allFr, wipeE, restE, freeSlot, itOk, unown, unowns, ownL, wrL, ownD, isScal, isn_none, isn_int, isn_str, isn_bool, isn_tup, isn_list, isn_dict, CF.fin, ioOut, CF.noEx, seqOf, ixN,
  v_add, v_sub, v_mulM, v_mulR, v_mulL, v_mod, v_fdiv, v_pow10, v_addL, v_neg, v_eqI, v_eqS, v_lt, v_le, v_gt, v_ge, v_l0, v_l1, v_l2, v_l3, v_t0, v_t1, v_t2, v_t3, v_s0, v_s1, v_s2, v_slL, v_revL, v_lenL, v_lenT, v_listL, v_listT, v_tupL, v_tupT, v_int, v_abs, v_min, v_max, v_sortI, v_sortIR, v_sortS, v_sum, v_isTop, v_isOpt, zipD, topD_none, topD_some, optD_none, optD_some, Option.isNone_none, Option.isNone_some,
  ↓bk_in, bk_o, bk_x, bk_n, gz, CF.gs, sz, ss, List.length_cons, List.length_nil, List.mapM_cons, List.mapM_nil, Option.pure_def, Option.bind_eq_bind, Option.bind_some, Option.bind_none, List.all_cons, List.all_nil, List.isEmpty_cons, List.isEmpty_nil, List.map_cons, List.map_nil, List.filter_nil, List.filter_cons, List.getD_cons_zero, List.getD_cons_succ, List.nil_append, List.cons_append,
  imm_none, imm_bool, imm_int, imm_str, imm_tup, imm_list, imm_dict, immAll_nil, immAll_cons, imm_top, imm_opt, imm_sort, imm_house, imm_ints, imm_strs, imm_nats, imm_table, imm_bag, immAll_map, implies_true, immAll_ints, immAll_strs, immAll_sorts,
  Bool.and_true, Bool.true_and, Bool.false_and, Bool.and_false, Bool.or_true, Bool.true_or, Bool.or_false, Bool.false_or, Bool.not_true, Bool.not_false, Bool.and_self, Bool.or_self, decide_true, decide_false, decide_eq_true_eq, ↓reduceIte, Bool.false_eq_true, and_self, true_and, and_true, beq_self_eq_true, eq_self, List.contains_cons, List.contains_nil, List.elem_cons, List.elem_nil, bne_self_eq_false, Bool.bne_true, Bool.bne_false, small_mil, Nat.reduceAdd, Nat.reduceSub, Nat.reduceMul, Nat.reduceLT, Nat.reduceLeDiff, Nat.reduceBEq, Nat.reduceEqDiff, Int.reduceAdd, Int.reduceNeg, Int.reduceSub, Int.reduceMul, Int.reducePow, Int.reduceLT, Int.reduceLE, Int.reduceToNat, Int.reduceEq, Int.reduceBEq, Nat.reduceEqDiff, Nat.le_refl, Int.le_refl, Nat.zero_le, Nat.zero_add, Int.cast_ofNat_Int, Nat.zero_lt_succ, Nat.reducePow, Nat.lt_irrefl, beq_iff_eq, Int.reduceNegSucc, io__law_bag, np__law_bag, io__law_take, np__law_take, io__law_one, np__law_one, io__law_sort, np__law_sort, io__law_mixed, np__law_mixed, io__law_names, np__law_names, io__law_house, np__law_house, io__law_size, np__law_size, io__law_table, np__law_table, io__law_numbers, np__law_numbers, io__law_lot, np__law_lot, io__law_rank, np__law_rank, io__law_formula, np__law_formula, io__law_any_formula, np__law_any_formula, io_all_numbers, np_all_numbers, io__law_flat, np__law_flat, io__law_known, np__law_known, io__law_key, np__law_key, io__law_value, np__law_value, io__law_alike, np__law_alike, io_count_at_least, np_count_at_least, io__law_count, np__law_count, io_sizes_of, np_sizes_of, io__law_sizes, np__law_sizes, io_kth_greatest, np_kth_greatest, io_value_of, np_value_of, io__law_table_right, np__law_table_right, io_law, np_law])
local macro_rules | `(tactic| walk_at "evh") => `(tactic| simp only [↓mNm_ap, ↓mC_ap, ↓m2_ap, ↓m1_ap, ↓mT_ap, ↓mTb_ap, ↓mNot_ap, ↓mAnd_ap, ↓mOr_ap, ↓mB_ap, ↓mIs_ap, ↓mIte_ap, ↓lNil_ap, ↓lCons_ap, ↓mTup_ap, ↓mLst_ap, ↓mBlt_ap, ↓oNo_ap, ↓oYes_ap, ↓mSl_ap, ↓mScr_ap, ↓aNil_ap, ↓aRef_ap, ↓aVal_ap, ↓aTmp_ap, ↓mCall_ap, ↓iEx_ap, ↓iStr_ap, ↓iR1_ap, ↓iR2_ap, ↓iZip_ap, ↓iEnum_ap, ↓iKeys_ap, ↓mKeyLock_ap, ↓cEnd_ap, ↓cIf_ap, ↓cFor_ap, ↓mLc_ap, ↓mYes_ap, ↓sNx_ap, ↓sBrk_ap, ↓sCt_ap, ↓sSeq_ap, ↓sRet_ap, ↓sRetN_ap, ↓sIf_ap, ↓sExp_ap, ↓sAsg_ap, ↓sPar_ap, ↓sAug_ap, ↓sApp_ap, ↓sExt_ap, ↓sIns_ap, ↓sSetL_ap, ↓sAugL_ap, ↓sSetD_ap, ↓sFor_ap, ↓mBin_ap, ↓mCmp_ap, ↓mIx_ap, ↓mNeg_ap, ↓mRev_ap, ↓mSortSet_ap, ↓mSortC_ap, CF.getD, hold, valAt, ownB, ioSlot, okArg, isRef, setAll, ioFits, doCall, hasV, bindOne, bt_nm, bt_tup, bts_nil, bts_cons, allFr, wipeE, restE, freeSlot, itOk, unown, unowns, ownL, wrL, ownD, isScal, isn_none, isn_int, isn_str, isn_bool, isn_tup, isn_list, isn_dict, CF.fin, ioOut, CF.noEx, seqOf, ixN,
  v_add, v_sub, v_mulM, v_mulR, v_mulL, v_mod, v_fdiv, v_pow10, v_addL, v_neg, v_eqI, v_eqS, v_lt, v_le, v_gt, v_ge, v_l0, v_l1, v_l2, v_l3, v_t0, v_t1, v_t2, v_t3, v_s0, v_s1, v_s2, v_slL, v_revL, v_lenL, v_lenT, v_listL, v_listT, v_tupL, v_tupT, v_int, v_abs, v_min, v_max, v_sortI, v_sortIR, v_sortS, v_sum, v_isTop, v_isOpt, zipD, topD_none, topD_some, optD_none, optD_some, Option.isNone_none, Option.isNone_some,
  ↓bk_in, bk_o, bk_x, bk_n, gz, CF.gs, sz, ss, List.length_cons, List.length_nil, List.mapM_cons, List.mapM_nil, Option.pure_def, Option.bind_eq_bind, Option.bind_some, Option.bind_none, List.all_cons, List.all_nil, List.isEmpty_cons, List.isEmpty_nil, List.map_cons, List.map_nil, List.filter_nil, List.filter_cons, List.getD_cons_zero, List.getD_cons_succ, List.nil_append, List.cons_append,
  imm_none, imm_bool, imm_int, imm_str, imm_tup, imm_list, imm_dict, immAll_nil, immAll_cons, imm_top, imm_opt, imm_sort, imm_house, imm_ints, imm_strs, imm_nats, imm_table, imm_bag, immAll_map, implies_true, immAll_ints, immAll_strs, immAll_sorts,
  Bool.and_true, Bool.true_and, Bool.false_and, Bool.and_false, Bool.or_true, Bool.true_or, Bool.or_false, Bool.false_or, Bool.not_true, Bool.not_false, Bool.and_self, Bool.or_self, decide_true, decide_false, decide_eq_true_eq, ↓reduceIte, Bool.false_eq_true, and_self, true_and, and_true, beq_self_eq_true, eq_self, List.contains_cons, List.contains_nil, List.elem_cons, List.elem_nil, bne_self_eq_false, Bool.bne_true, Bool.bne_false, small_mil, Nat.reduceAdd, Nat.reduceSub, Nat.reduceMul, Nat.reduceLT, Nat.reduceLeDiff, Nat.reduceBEq, Nat.reduceEqDiff, Int.reduceAdd, Int.reduceNeg, Int.reduceSub, Int.reduceMul, Int.reducePow, Int.reduceLT, Int.reduceLE, Int.reduceToNat, Int.reduceEq, Int.reduceBEq, Nat.reduceEqDiff, Nat.le_refl, Int.le_refl, Nat.zero_le, Nat.zero_add, Int.cast_ofNat_Int, Nat.zero_lt_succ, Nat.reducePow, Nat.lt_irrefl, beq_iff_eq, Int.reduceNegSucc, io__law_bag, np__law_bag, io__law_take, np__law_take, io__law_one, np__law_one, io__law_sort, np__law_sort, io__law_mixed, np__law_mixed, io__law_names, np__law_names, io__law_house, np__law_house, io__law_size, np__law_size, io__law_table, np__law_table, io__law_numbers, np__law_numbers, io__law_lot, np__law_lot, io__law_rank, np__law_rank, io__law_formula, np__law_formula, io__law_any_formula, np__law_any_formula, io_all_numbers, np_all_numbers, io__law_flat, np__law_flat, io__law_known, np__law_known, io__law_key, np__law_key, io__law_value, np__law_value, io__law_alike, np__law_alike, io_count_at_least, np_count_at_least, io__law_count, np__law_count, io_sizes_of, np_sizes_of, io__law_sizes, np__law_sizes, io_kth_greatest, np_kth_greatest, io_value_of, np_value_of, io__law_table_right, np__law_table_right, io_law, np_law, *])
theorem alike_ok {x : D} {n m : Nat} (he : cmpD .eq x x = .ok true) (hn : Nice n m x) (h1 : n ≤ 16000000) (h2 : m ≤ 64) : S__law_alike.run [.d x, .d x] = .ok ⟨.bool true, true, []⟩ := by
  have hr := fun f => v_repr (f := f) hn h1 h2
  rw [r__law_alike]
  unfold m__law_alike
  walk_at "evh"
theorem val_mem {h : List Srt} {pool : List Int} {t : Tab} (T : TabOk h pool t) : ∀ (m : Nat) (d : D), IsForm (h.map (·.1)) m d → ∀ v, valF t m d = some v → v ∈ pool
  | 0, _, hd, _, _ => hd.elim
  | m + 1, d, hd, v, e => by
    rcases hd with ⟨lot, k, rfl, l1, l2, l3, l4, k1, k9⟩ | ⟨k, fs, rfl, hf, k1, k2, k3⟩
    · rw [valF_rank] at e
      by_cases c : k ≤ (lot.flatMap (rowsT t)).length
      · obtain ⟨w, ew, hw⟩ := CM.kth_some k1 c
        rw [ew] at e; cases e
        obtain ⟨n, hn, hk⟩ := List.mem_flatMap.mp hw
        exact (tab_rows T (l4 n hn)).2.2 _ hk
      · rw [CM.kth_none (by omega)] at e; cases e
    · rw [valF_kth] at e
      by_cases c : k ≤ ((fs.map (valF t m)).filterMap id).length
      · obtain ⟨w, ew, hw⟩ := CM.kth_some k1 c
        rw [ew] at e; cases e
        obtain ⟨o, ho, eo⟩ := List.mem_filterMap.mp hw
        obtain ⟨f, hf1, rfl⟩ := List.mem_map.mp ho
        exact val_mem T m f (hf f hf1) _ eo
      · rw [CM.kth_none (by omega)] at e; cases e
theorem menu_short : ∀ s ∈ menu, (reprText s).length ≤ 10 := by decide +kernel
theorem nice_word {s : Str} (h : s ∈ menu) : Nice 10 0 (.str s) := nice_str (menu_short s h)
theorem nice_nat {k : Nat} (h : k ≤ 1000) : Nice 41 0 (.int (k : Nat)) := nice_int (by rw [Int.natAbs_natCast]; exact Nat.lt_of_le_of_lt h (by decide))
theorem mem3 {α : Type} {P : α → Prop} {a b c : α} (ha : P a) (hb : P b) (hc : P c) : ∀ x ∈ [a, b, c], P x := by
  intro x hx
  rcases List.mem_cons.mp hx with rfl | hx
  · exact ha
  · rcases List.mem_cons.mp hx with rfl | hx
    · exact hb
    · rw [List.mem_singleton.mp hx]; exact hc
theorem nice_form {names : List Str} (hn : ∀ a ∈ names, a ∈ menu) : ∀ (n : Nat) (d : D), IsForm names n d → Nice (14 * 15 ^ n - 4) (2 * n) d
  | 0, _, h => h.elim
  | n + 1, d, h => by
    have p : 1 ≤ 15 ^ n := Nat.one_le_pow _ _ (by decide)
    have e : 15 ^ (n + 1) = 15 * 15 ^ n := by rw [Nat.pow_succ, Nat.mul_comm]
    rcases h with ⟨lot, k, rfl, _, _, hl, hm, _, hk⟩ | ⟨k, fs, rfl, hf, _, hk, hl⟩
    · have q := nice_tup (n := 10) (m := 0) (xs := lot.map .str) fun x hx => by
        obtain ⟨a, ha, rfl⟩ := List.mem_map.mp hx
        exact nice_word (hn a (hm a ha))
      rw [List.length_map] at q
      have q := nice_tup (n := 63) (m := 1) (xs := [.str "rank", strsD lot, .int (k : Nat)]) (mem3 ((nice_word (by decide +kernel)).le (by omega) (by omega)) (q.le (by omega) (by omega)) ((nice_nat (by omega)).le (by omega) (by omega)))
      exact q.le (by rw [e]; show 3 * (63 + 2) + 3 ≤ _; omega) (by omega)
    · have q := nice_tup (n := 14 * 15 ^ n - 4) (m := 2 * n) (xs := fs) fun f m => nice_form hn n f (hf f m)
      have q1 : fs.length * (14 * 15 ^ n - 4 + 2) ≤ 5 * (14 * 15 ^ n - 4 + 2) := Nat.mul_le_mul_right _ hl
      have q := nice_tup (n := 5 * (14 * 15 ^ n - 4 + 2) + 3) (m := 2 * n + 1) (xs := [.str "kth", .int (k : Nat), .tuple fs]) (mem3 ((nice_word (by decide +kernel)).le (by omega) (by omega)) ((nice_nat (by omega)).le (by omega) (by omega)) (q.le (by omega) (by omega)))
      exact q.le (by rw [e]; show 3 * (5 * (14 * 15 ^ n - 4 + 2) + 3 + 2) + 3 ≤ _; omega) (by omega)
theorem nice_house {h : List Srt} (hh : HouseOk h) : Nice 673 2 (houseD h) := by
  have q := nice_tup (n := 132) (m := 1) (xs := h.map sortD) fun x hx => by
    obtain ⟨s, hs, rfl⟩ := List.mem_map.mp hx
    have so := hh.ok s hs
    have lo := so.lo
    have top : Nice 41 0 (topD s.2.2) := by
      cases c : s.2.2 with
      | none => exact nice_none.le (by omega) (by omega)
      | some m => have := so.hi m c; exact nice_nat (by omega)
    exact nice_tup (mem3 ((nice_word so.nm).le (by omega) (by omega)) (nice_nat (by omega)) top)
  rw [List.length_map] at q
  have := hh.hi
  exact q.le (by omega) (by omega)
theorem nice_ints {ns : List Int} {k : Nat} (h : ∀ n ∈ ns, n.natAbs < 10 ^ 40) (hl : ns.length ≤ k) : Nice (k * 43 + 3) 1 (intsD ns) := by
  have q := nice_tup (n := 41) (m := 0) (xs := ns.map PyData.int) fun x hx => by
    obtain ⟨n, hn, rfl⟩ := List.mem_map.mp hx
    exact nice_int (h n hn)
  rw [List.length_map] at q
  have := Nat.mul_le_mul_right 43 hl
  exact q.le (by omega) (by omega)
theorem nice_intsL {ns : List Int} {k : Nat} (h : ∀ n ∈ ns, n.natAbs < 10 ^ 40) (hl : ns.length ≤ k) : Nice (k * 43 + 2) 1 (.list (ns.map .int)) := by
  have q := nice_list (n := 41) (m := 0) (xs := ns.map PyData.int) fun x hx => by
    obtain ⟨n, hn, rfl⟩ := List.mem_map.mp hx
    exact nice_int (h n hn)
  rw [List.length_map] at q
  have := Nat.mul_le_mul_right 43 hl
  exact q.le (by omega) (by omega)
theorem nice_table {h : List Srt} (hh : HouseOk h) {pool : List Int} (hp : ∀ n ∈ pool, n.natAbs < 10 ^ 40) {t : Tab} (T : TabOk h pool t) : Nice 3922 2 (.dict (tabKv t)) := by
  have q := nice_dict (n := 390) (m := 1) (kvs := tabKv t) fun p hp1 => by
    obtain ⟨a, ha, rfl⟩ := List.mem_map.mp hp1
    obtain ⟨s, hs, e, R⟩ := T.rows a ha
    refine ⟨?_, nice_ints (k := 9) (fun n hn => hp n (R.mem n hn)) R.most⟩
    dsimp only
    rw [e]
    exact (nice_word (hh.ok s hs).nm).le (by omega) (by omega)
  have l : (tabKv t).length ≤ 5 := by
    have := T.keys.length_eq
    rw [List.length_map, List.length_map] at this
    rw [tabKv, List.length_map, this]
    exact hh.hi
  exact q.le (by omega) (by omega)
theorem names_menu {h : List Srt} (hh : HouseOk h) : ∀ a ∈ h.map (·.1), a ∈ menu := fun a ha => by
  obtain ⟨s, hs, rfl⟩ := List.mem_map.mp ha
  exact (hh.ok s hs).nm
theorem nice_val {h : List Srt} {pool : List Int} {t : Tab} (T : TabOk h pool t) (hp : ∀ n ∈ pool, n.natAbs < 10 ^ 40) {m : Nat} {d : D} (hd : IsForm (h.map (·.1)) m d) : Nice 41 0 (optD (valF t m d)) := by
  cases e : valF t m d with
  | none => exact nice_none.le (by omega) (by omega)
  | some v => exact nice_int (hp v (val_mem T m d hd v e))
theorem nice_forms {names : List Str} (hn : ∀ a ∈ names, a ∈ menu) {fs : List D} (hf : ∀ f ∈ fs, IsForm names 4 f) (hl : fs.length ≤ 6) : Nice 4252490 9 (.list fs) := by
  obtain ⟨K, hK⟩ : ∃ K : Nat, K = 708746 := ⟨_, rfl⟩
  have q := nice_list (n := K) (m := 8) (xs := fs) fun f m => (nice_form hn 4 f (hf f m)).le (by rw [hK]; decide) (by decide)
  have h6 : fs.length * (K + 2) ≤ 6 * (K + 2) := Nat.mul_le_mul_right _ hl
  exact q.le (by omega) (by omega)
theorem nice_three {h : List Srt} (hh : HouseOk h) {pool : List Int} (hp : ∀ n ∈ pool, n.natAbs < 10 ^ 40) {t : Tab} (T : TabOk h pool t) {fs : List D} (hf : ∀ f ∈ fs, IsForm (h.map (·.1)) 4 f) (hl : fs.length ≤ 6) : Nice 12757479 10 (.tuple [houseD h, .dict (tabKv t), .list fs]) := by
  have q2 := nice_house hh
  have q3 := nice_table hh hp T
  have q4 := nice_forms (names_menu hh) hf hl
  have q := nice_tup (n := 4252490) (m := 9) (xs := [houseD h, .dict (tabKv t), .list fs]) (mem3 (q2.le (by omega) (by omega)) (q3.le (by omega) (by omega)) q4)
  exact q.le (by simp only [List.length_cons, List.length_nil]; omega) (by omega)

end CF.K02
/-! draws -/
namespace CF.K02
open PySem PySem.Spec PyProof.Rows L2 CF
local macro_rules | `(tactic| walk_at "ev") => `(tactic| simp only [↓mNm_ap, ↓mC_ap, ↓m2_ap, ↓m1_ap, ↓mT_ap, ↓mTb_ap, ↓mNot_ap, ↓mAnd_ap, ↓mOr_ap, ↓mB_ap, ↓mIs_ap, ↓mIte_ap, ↓lNil_ap, ↓lCons_ap, ↓mTup_ap, ↓mLst_ap, ↓mBlt_ap, ↓oNo_ap, ↓oYes_ap, ↓mSl_ap, ↓mScr_ap, ↓aNil_ap, ↓aRef_ap, ↓aVal_ap, ↓aTmp_ap, ↓mCall_ap, ↓iEx_ap, ↓iStr_ap, ↓iR1_ap, ↓iR2_ap, ↓iZip_ap, ↓iEnum_ap, ↓iKeys_ap, ↓mKeyLock_ap, ↓cEnd_ap, ↓cIf_ap, ↓cFor_ap, ↓mLc_ap, ↓mYes_ap, ↓sNx_ap, ↓sBrk_ap, ↓sCt_ap, ↓sSeq_ap, ↓sRet_ap, ↓sRetN_ap, ↓sIf_ap, ↓sExp_ap, ↓sAsg_ap, ↓sPar_ap, ↓sAug_ap, ↓sApp_ap, ↓sExt_ap, ↓sIns_ap, ↓sSetL_ap, ↓sAugL_ap, ↓sSetD_ap, ↓sFor_ap, ↓mBin_ap, ↓mCmp_ap, ↓mIx_ap, ↓mNeg_ap, ↓mRev_ap, ↓mSortSet_ap, ↓mSortC_ap, CF.getD, hold, valAt, ownB, ioSlot, okArg, isRef, setAll, ioFits, doCall, hasV, bindOne, bt_nm, bt_tup, bts_nil, bts_cons, allFr, wipeE, restE, freeSlot, itOk, unown, unowns, ownL, wrL, ownD, isScal, isn_none, isn_int, isn_str, isn_bool, isn_tup, isn_list, isn_dict, CF.fin, ioOut, CF.noEx, seqOf, ixN,
  v_add, v_sub, v_mulM, v_mulR, v_mulL, v_mod, v_fdiv, v_pow10, v_addL, v_neg, v_eqI, v_eqS, v_lt, v_le, v_gt, v_ge, v_l0, v_l1, v_l2, v_l3, v_t0, v_t1, v_t2, v_t3, v_s0, v_s1, v_s2, v_slL, v_revL, v_lenL, v_lenT, v_listL, v_listT, v_tupL, v_tupT, v_int, v_abs, v_min, v_max, v_sortI, v_sortIR, v_sortS, v_sum, v_isTop, v_isOpt, zipD, topD_none, topD_some, optD_none, optD_some, Option.isNone_none, Option.isNone_some,
  ↓bk_in, bk_o, bk_x, bk_n, gz, CF.gs, sz, ss, List.length_cons, List.length_nil, List.mapM_cons, List.mapM_nil, Option.pure_def, Option.bind_eq_bind, Option.bind_some, Option.bind_none, List.all_cons, List.all_nil, List.isEmpty_cons, List.isEmpty_nil, List.map_cons, List.map_nil, List.filter_nil, List.filter_cons, List.getD_cons_zero, List.getD_cons_succ, List.nil_append, List.cons_append,
  imm_none, imm_bool, imm_int, imm_str, imm_tup, imm_list, imm_dict, immAll_nil, immAll_cons, imm_top, imm_opt, imm_sort, imm_house, imm_ints, imm_strs, imm_nats, imm_table, imm_bag, immAll_map, implies_true, immAll_ints, immAll_strs, immAll_sorts,
  Bool.and_true, Bool.true_and, Bool.false_and, Bool.and_false, Bool.or_true, Bool.true_or, Bool.or_false, Bool.false_or, Bool.not_true, Bool.not_false, Bool.and_self, Bool.or_self, decide_true, decide_false, decide_eq_true_eq, ↓reduceIte, Bool.false_eq_true, and_self, true_and, and_true, beq_self_eq_true, eq_self, List.contains_cons, List.contains_nil, List.elem_cons, List.elem_nil, bne_self_eq_false, Bool.bne_true, Bool.bne_false, small_mil, Nat.reduceAdd, Nat.reduceSub, Nat.reduceMul, Nat.reduceLT, Nat.reduceLeDiff, Nat.reduceBEq, Nat.reduceEqDiff, Int.reduceAdd, Int.reduceNeg, Int.reduceSub, Int.reduceMul, Int.reducePow, Int.reduceLT, Int.reduceLE, Int.reduceToNat, Int.reduceEq, Int.reduceBEq, Nat.reduceEqDiff, Nat.le_refl, Int.le_refl, Nat.zero_le, Nat.zero_add, Int.cast_ofNat_Int, Nat.zero_lt_succ, Nat.reducePow, Nat.lt_irrefl, beq_iff_eq, Int.reduceNegSucc, io__law_bag, np__law_bag, io__law_take, np__law_take, io__law_one, np__law_one, io__law_sort, np__law_sort, io__law_mixed, np__law_mixed, io__law_names, np__law_names, io__law_house, np__law_house, io__law_size, np__law_size, io__law_table, np__law_table, io__law_numbers, np__law_numbers, io__law_lot, np__law_lot, io__law_rank, np__law_rank, io__law_formula, np__law_formula, io__law_any_formula, np__law_any_formula, io_all_numbers, np_all_numbers, io__law_flat, np__law_flat, io__law_known, np__law_known, io__law_key, np__law_key, io__law_value, np__law_value, io__law_alike, np__law_alike, io_count_at_least, np_count_at_least, io__law_count, np__law_count, io_sizes_of, np_sizes_of, io__law_sizes, np__law_sizes, io_kth_greatest, np_kth_greatest, io_value_of, np_value_of, io__law_table_right, np__law_table_right, io_law, np_law])
local macro_rules | `(tactic| walk_at "evh") => `(tactic| simp only [↓mNm_ap, ↓mC_ap, ↓m2_ap, ↓m1_ap, ↓mT_ap, ↓mTb_ap, ↓mNot_ap, ↓mAnd_ap, ↓mOr_ap, ↓mB_ap, ↓mIs_ap, ↓mIte_ap, ↓lNil_ap, ↓lCons_ap, ↓mTup_ap, ↓mLst_ap, ↓mBlt_ap, ↓oNo_ap, ↓oYes_ap, ↓mSl_ap, ↓mScr_ap, ↓aNil_ap, ↓aRef_ap, ↓aVal_ap, ↓aTmp_ap, ↓mCall_ap, ↓iEx_ap, ↓iStr_ap, ↓iR1_ap, ↓iR2_ap, ↓iZip_ap, ↓iEnum_ap, ↓iKeys_ap, ↓mKeyLock_ap, ↓cEnd_ap, ↓cIf_ap, ↓cFor_ap, ↓mLc_ap, ↓mYes_ap, ↓sNx_ap, ↓sBrk_ap, ↓sCt_ap, ↓sSeq_ap, ↓sRet_ap, ↓sRetN_ap, ↓sIf_ap, ↓sExp_ap, ↓sAsg_ap, ↓sPar_ap, ↓sAug_ap, ↓sApp_ap, ↓sExt_ap, ↓sIns_ap, ↓sSetL_ap, ↓sAugL_ap, ↓sSetD_ap, ↓sFor_ap, ↓mBin_ap, ↓mCmp_ap, ↓mIx_ap, ↓mNeg_ap, ↓mRev_ap, ↓mSortSet_ap, ↓mSortC_ap, CF.getD, hold, valAt, ownB, ioSlot, okArg, isRef, setAll, ioFits, doCall, hasV, bindOne, bt_nm, bt_tup, bts_nil, bts_cons, allFr, wipeE, restE, freeSlot, itOk, unown, unowns, ownL, wrL, ownD, isScal, isn_none, isn_int, isn_str, isn_bool, isn_tup, isn_list, isn_dict, CF.fin, ioOut, CF.noEx, seqOf, ixN,
  v_add, v_sub, v_mulM, v_mulR, v_mulL, v_mod, v_fdiv, v_pow10, v_addL, v_neg, v_eqI, v_eqS, v_lt, v_le, v_gt, v_ge, v_l0, v_l1, v_l2, v_l3, v_t0, v_t1, v_t2, v_t3, v_s0, v_s1, v_s2, v_slL, v_revL, v_lenL, v_lenT, v_listL, v_listT, v_tupL, v_tupT, v_int, v_abs, v_min, v_max, v_sortI, v_sortIR, v_sortS, v_sum, v_isTop, v_isOpt, zipD, topD_none, topD_some, optD_none, optD_some, Option.isNone_none, Option.isNone_some,
  ↓bk_in, bk_o, bk_x, bk_n, gz, CF.gs, sz, ss, List.length_cons, List.length_nil, List.mapM_cons, List.mapM_nil, Option.pure_def, Option.bind_eq_bind, Option.bind_some, Option.bind_none, List.all_cons, List.all_nil, List.isEmpty_cons, List.isEmpty_nil, List.map_cons, List.map_nil, List.filter_nil, List.filter_cons, List.getD_cons_zero, List.getD_cons_succ, List.nil_append, List.cons_append,
  imm_none, imm_bool, imm_int, imm_str, imm_tup, imm_list, imm_dict, immAll_nil, immAll_cons, imm_top, imm_opt, imm_sort, imm_house, imm_ints, imm_strs, imm_nats, imm_table, imm_bag, immAll_map, implies_true, immAll_ints, immAll_strs, immAll_sorts,
  Bool.and_true, Bool.true_and, Bool.false_and, Bool.and_false, Bool.or_true, Bool.true_or, Bool.or_false, Bool.false_or, Bool.not_true, Bool.not_false, Bool.and_self, Bool.or_self, decide_true, decide_false, decide_eq_true_eq, ↓reduceIte, Bool.false_eq_true, and_self, true_and, and_true, beq_self_eq_true, eq_self, List.contains_cons, List.contains_nil, List.elem_cons, List.elem_nil, bne_self_eq_false, Bool.bne_true, Bool.bne_false, small_mil, Nat.reduceAdd, Nat.reduceSub, Nat.reduceMul, Nat.reduceLT, Nat.reduceLeDiff, Nat.reduceBEq, Nat.reduceEqDiff, Int.reduceAdd, Int.reduceNeg, Int.reduceSub, Int.reduceMul, Int.reducePow, Int.reduceLT, Int.reduceLE, Int.reduceToNat, Int.reduceEq, Int.reduceBEq, Nat.reduceEqDiff, Nat.le_refl, Int.le_refl, Nat.zero_le, Nat.zero_add, Int.cast_ofNat_Int, Nat.zero_lt_succ, Nat.reducePow, Nat.lt_irrefl, beq_iff_eq, Int.reduceNegSucc, io__law_bag, np__law_bag, io__law_take, np__law_take, io__law_one, np__law_one, io__law_sort, np__law_sort, io__law_mixed, np__law_mixed, io__law_names, np__law_names, io__law_house, np__law_house, io__law_size, np__law_size, io__law_table, np__law_table, io__law_numbers, np__law_numbers, io__law_lot, np__law_lot, io__law_rank, np__law_rank, io__law_formula, np__law_formula, io__law_any_formula, np__law_any_formula, io_all_numbers, np_all_numbers, io__law_flat, np__law_flat, io__law_known, np__law_known, io__law_key, np__law_key, io__law_value, np__law_value, io__law_alike, np__law_alike, io_count_at_least, np_count_at_least, io__law_count, np__law_count, io_sizes_of, np_sizes_of, io__law_sizes, np__law_sizes, io_kth_greatest, np_kth_greatest, io_value_of, np_value_of, io__law_table_right, np__law_table_right, io_law, np_law, *])
theorem right_ok (b : Bag) {h : List Srt} (hh : HouseOk h) {pool : List Int} (pl : pool.length ≤ 7) (hp : ∀ n ∈ pool, n.natAbs < 10 ^ 40) {t : Tab} (T : TabOk h pool t) {fs : List D} (hf : ∀ f ∈ fs, IsForm (h.map (·.1)) 4 f) (hl : fs.length ≤ 6) : ∃ b', S__law_table_right.run [.d (bagD b), .d (houseD h), .d (.dict (tabKv t)), .d (.list fs)] = .ok ⟨.bool true, true, [bagD b']⟩ := by
  have hhi : h.length ≤ 1000 := by have := hh.hi; omega
  have e1 := known_ok hh pl T
  have k7 := known_len pl T
  have kp : ∀ k ∈ knownT t, k.natAbs < 10 ^ 40 := fun k hk => hp k (known_mem T k hk)
  have e2 : ∀ f, bltD .repr [(.tuple [houseD h, .dict (tabKv t), .list fs], f)] = .ok (.str (PyData.shown (.tuple [houseD h, .dict (tabKv t), .list fs])), true) := fun f => v_repr (nice_three hh hp T hf hl) (by omega) (by omega)
  have e3 : cmpD .eq (.str (PyData.shown (.tuple [houseD h, .dict (tabKv t), .list fs]))) (.str (PyData.shown (.tuple [houseD h, .dict (tabKv t), .list fs]))) = .ok true := by
    have := v_eqS (s := PyData.shown (.tuple [houseD h, .dict (tabKv t), .list fs])) (t := PyData.shown (.tuple [houseD h, .dict (tabKv t), .list fs]))
    rw [decide_eq_true rfl] at this
    exact this
  generalize PyData.shown (.tuple [houseD h, .dict (tabKv t), .list fs]) = sh at e2 e3
  have imf : immAll fs = true := immAll_mem.mpr fun f m => (hf f m).imm
  have sm : small fs.length = true := small_mil (by omega)
  have e4 : S__law_alike.run [.d (.list (fs.map (optD ∘ valF t 4))), .d (.list (fs.map (optD ∘ valF t 4)))] = .ok ⟨.bool true, true, []⟩ := by
    refine alike_ok (n := 260) (m := 1) (eq_same ((same_list (m := 0) fun x hx => ?_).le (by omega))) ?_ (by omega) (by omega)
    · obtain ⟨f, hf1, rfl⟩ := List.mem_map.mp hx
      exact same_opt _
    · have q := nice_list (n := 41) (m := 0) (xs := fs.map (optD ∘ valF t 4)) fun x hx => by
        obtain ⟨f, hf1, rfl⟩ := List.mem_map.mp hx
        exact nice_val T hp (hf f hf1)
      rw [List.length_map] at q
      have := Nat.mul_le_mul_right (41 + 2) hl
      exact q.le (by omega) (by omega)
  have e5 := v_neNil (knownT t)
  have near : ∃ ms : List Int, ∀ ε : EnvT, ε[9]? = some (.v (.d (.list ((knownT t).map .int))) true) → (mIte (mTb (mCmp .ne (mNm 9 false) (mLst lNil) false)) (mBin .add (mNm 9 false) (mLst (lCons (mBin .sub (mIx (mNm 9 false) (mC (.int 0)) false) (mC (.int 1)) false) false (lCons (mBin .add (mIx (mNm 9 false) (mNeg (mC (.int 1))) false) (mC (.int 1)) false) false lNil))) false) (mLst (lCons (mC (.int 0)) false (lCons (mNeg (mC (.int 5))) false lNil)))) ε = .ok (.list (ms.map .int), true, ε) := by
    cases ek : knownT t with
    | nil =>
      rw [ek] at e5
      refine ⟨[0, -5], fun ε e9 => ?_⟩
      have g9 : getD ε 9 = .ok (.list (([] : List Int).map .int), true) := by unfold CF.getD; rw [e9]
      clear e1 e2 e3 e4
      simp only [List.map_nil, List.isEmpty_nil, Bool.not_true] at e5 g9
      walk_at "evh"
    | cons n r =>
      rw [ek] at e5
      obtain ⟨z, _, ez⟩ := v_last (n := n) (r := r) (f := false)
      have ef := v_first (n := n) (r := r) (f := false)
      have eb : binD .add (.list (.int n :: r.map .int)) false (.list [.int (n - 1), .int (z + 1)]) true = .ok (.list (.int n :: (r.map .int ++ [.int (n - 1), .int (z + 1)])), true) := by
        rw [v_addL (small_mil (by rw [List.length_cons, List.length_map]; rw [ek, List.length_cons] at k7; simp only [List.length_cons, List.length_nil]; omega)), immAll_cons, imm_int, immAll_ints]
        rfl
      refine ⟨(n :: r) ++ [n - 1, z + 1], fun ε e9 => ?_⟩
      have g9 : getD ε 9 = .ok (.list ((n :: r).map .int), true) := by unfold CF.getD; rw [e9]
      clear e1 e2 e3 e4
      simp only [List.map_cons, List.isEmpty_cons, Bool.not_false] at e5 g9 ez ef
      have em : ((n :: r) ++ [n - 1, z + 1]).map PyData.int = PyData.int n :: (r.map PyData.int ++ [.int (n - 1), .int (z + 1)]) := by simp
      rw [em]
      walk_at "evh"
  obtain ⟨ms, near⟩ := near
  clear e5
  rw [r__law_table_right]
  unfold m__law_table_right
  generalize hM : mIte _ _ _ = M9 at near ⊢
  clear hM
  walk_at "evh"
  generalize hT : turns _ _ _ _ _ = T1
  obtain ⟨L, rfl, q1, q2, q4⟩ := turns_map1D hT (optD ∘ valF t 4) (fun f hm => by
    obtain ⟨fl, e⟩ := lvalue_ok T 4 12 f (by omega) (hf f hm)
    have im : imm (optD (valF t 4 f)) = true := imm_opt _
    clear e1 e2 e3 e4 near
    walk_at "evh"
    exact ⟨_, _, rfl, rfl, by rw [Function.comp, im, Bool.or_true]⟩)
  clear hT
  walk_at "evh"
  generalize hT : forTurns _ _ _ _ = T1
  obtain ⟨s5, rfl, _⟩ := forTurns_stT hT (S := SlV) (fun s => [.v (.d (bagD b)) true, .v (.d (houseD h)) false, .v (.d (.dict (tabKv t))) false, .v (.d (.list fs)) false, .v (.d (.list (fs.map (optD ∘ valF t 4)))) true, s, .un, .un, .v (.d (.str sh)) true, .v (.d (.list ((knownT t).map .int))) true, .un, .un]) .un rfl (fun _ _ => True) trivial (fun c r s _ => by
    clear e1 e2 e3 q1 q2 q4
    walk_at "evh"
    generalize hT : turns _ _ _ _ _ = T1
    obtain ⟨L, rfl, q1, q2, q4⟩ := turns_map1D hT (optD ∘ valF t 4) (fun f hm => by
      obtain ⟨fl, e⟩ := value_of_ok T 4 12 f (by omega) (hf f hm)
      have im : imm (optD (valF t 4 f)) = true := imm_opt _
      clear e4
      walk_at "evh"
      exact ⟨_, _, rfl, rfl, by rw [Function.comp, im, Bool.or_true]⟩)
    clear hT
    walk_at "evh"
    exact ⟨_, .inl rfl, trivial⟩)
  clear hT
  walk_at "evh"
  clear near q1 q2 q4
  generalize hT : forTurns _ _ _ _ = T1
  obtain ⟨⟨b2, s6, s10⟩, rfl, _⟩ := forTurns_stT hT (S := Bag × SlV × SlV) (fun s => [.v (.d (bagD s.1)) true, .v (.d (houseD h)) false, .v (.d (.dict (tabKv t))) false, .v (.d (.list fs)) false, .v (.d (.list (fs.map (optD ∘ valF t 4)))) true, s5, s.2.1, .un, .v (.d (.str sh)) true, .v (.d (.list ((knownT t).map .int))) true, s.2.2, .un]) (b, .un, .un) rfl (fun _ _ => True) trivial (fun c r s _ => by
    obtain ⟨b, s6, s10⟩ := s
    obtain ⟨lot, b', g1, l1, l2, l3, l4⟩ := lot_ok b hh
    have g2 := cal_ok T l4 (by omega) c
    have g3 := lcount_ok T l4 (by omega) c
    have g4 : S__law_alike.run [.d (.int (atL t lot c : Nat)), .d (.int (atL t lot c : Nat))] = .ok ⟨.bool true, true, []⟩ := alike_ok (eq_same ((same_int _).le (by omega))) (nice_nat (by have := atL_le T l4 c; omega)) (by omega) (by omega)
    clear e1 e2 e3 e4 hT
    walk_at "evh"
    exact ⟨(b', _, _), .inl rfl, trivial⟩)
  have f1 := all_ok hh pl T
  have f2 := sizes_ok hhi T
  have f3 := lsizes_ok hhi T
  have szs : ∀ n ∈ sizesT h t, n.natAbs < 10 ^ 40 := fun n hn => by
    obtain ⟨s, hs, rfl⟩ := List.mem_map.mp hn
    have := (tab_rows T (n := s.1) (List.mem_map.mpr ⟨s, hs, rfl⟩)).2.1
    rw [Int.natAbs_natCast]
    exact Nat.lt_of_le_of_lt (show _ ≤ 9 from this) (by decide)
  have f4 : S__law_alike.run [.d (.list [intsD (sizesT h t), .list ((knownT t).map .int)]), .d (.list [intsD (sizesT h t), .list ((knownT t).map .int)])] = .ok ⟨.bool true, true, []⟩ := by
    refine alike_ok (n := 1000) (m := 2) (eq_same ((same_list (m := 1) fun x hx => ?_).le (by omega))) ?_ (by omega) (by omega)
    · rcases List.mem_cons.mp hx with rfl | hx
      · exact same_intsT _
      · rw [List.mem_singleton.mp hx]; exact same_ints _
    · have q := nice_list (n := 303) (m := 1) (xs := [intsD (sizesT h t), .list ((knownT t).map .int)]) fun x hx => by
        rcases List.mem_cons.mp hx with rfl | hx
        · exact (nice_ints (k := 5) szs (by rw [sizesT, List.length_map]; exact hh.hi)).le (by omega) (by omega)
        · rw [List.mem_singleton.mp hx]; exact (nice_intsL (k := 7) kp k7).le (by omega) (by omega)
      exact q.le (by simp only [List.length_cons, List.length_nil]; omega) (by omega)
  have f5 : S__law_alike.run [.d (.list ((knownT t).map .int)), .d (.list ((knownT t).map .int))] = .ok ⟨.bool true, true, []⟩ :=
    alike_ok (eq_same ((same_ints _).le (by omega))) (nice_intsL (k := 7) kp k7) (by omega) (by omega)
  have hs : small (((knownT t).map PyData.int).length + 1) = true := small_mil (by rw [List.length_map]; omega)
  clear hT e1 e4
  walk_at "evh"
  exact ⟨b2, rfl⟩
theorem house_any (b : Bag) : ∃ h b', S__law_one.run [.d (bagD b), .d (.list [.int 3, .int 2, .int 5])] = .ok ⟨.int (h : Nat), false, [bagD b']⟩ ∧ 1 ≤ h ∧ h ≤ 5 := by
  obtain ⟨n, b', e, hn⟩ := one_ints b (ns := [3, 2, 5]) (P := fun n => 1 ≤ n ∧ n ≤ 5) (by decide) (by decide) (by decide)
  obtain ⟨n, rfl⟩ := Int.eq_ofNat_of_zero_le (show 0 ≤ n by omega)
  simp only [List.map_cons, List.map_nil] at e
  exact ⟨n, b', e, by omega, by omega⟩
theorem law_true (ns : List Int) (_ : ns.length ≤ 63) : S_law.run [.s ns] = .ok ⟨.bool true, true, []⟩ := by
  obtain ⟨B, e0⟩ := bag_ok ns
  obtain ⟨v, B1, e1, v0, v1⟩ := take_ok B (m := 7) (by decide) (by decide)
  obtain ⟨v, rfl⟩ := Int.eq_ofNat_of_zero_le v0
  rw [r_law]
  unfold m_law
  walk_at "evh"
  generalize hT : forTurns _ _ _ _ = T1
  have hT := (show forTurns _ _ (([2, 6, 0, v, 3, 6, 1, 4] : List Nat).map fun n => PyData.int (n : Nat)) _ = T1 from hT)
  obtain ⟨⟨b, s2, s3, s4, s5⟩, rfl, _⟩ := forTurns_stT hT (S := Bag × SlV × SlV × SlV × SlV) (fun s => [.v (.s ns) false, .v (.d (bagD s.1)) true, s.2.1, s.2.2.1, s.2.2.2.1, s.2.2.2.2, .un]) (B1, .un, .un, .un, .un) rfl (fun r _ => ∀ n ∈ r, n ≤ 6) (by intro n hn; simp at hn; omega) (fun more r s hI => by
    obtain ⟨b, s2, s3, s4, s5⟩ := s
    have m6 : more ≤ 6 := hI more List.mem_cons_self
    have hI' : ∀ n ∈ r, n ≤ 6 := fun n m => hI n (List.mem_cons_of_mem _ m)
    obtain ⟨most, b1, g1, m1, m5⟩ := house_any b
    obtain ⟨h, b2, g2, hh⟩ := house_ok b1 m1 m5
    obtain ⟨pool, b3, g3, p0, p1, p2⟩ := numbers_ok b2
    obtain ⟨t, b4, g4, T⟩ := table_ok b3 hh p0 (by omega) m6
    clear e0 e1 hT hI
    walk_at "evh"
    generalize hT : turns _ _ _ _ _ = T1
    obtain ⟨L, ds, b5, rfl, _, q1, q2, q3, q4⟩ := turns_stT hT (S := Bag) (fun b => [.v (.s ns) false, .v (.d (bagD b)) true, .v (.d (.int (more : Nat))) true, .v (.d (houseD h)) true, .v (.d (.dict (tabKv t))) true, s5, .un]) b4 rfl (fun _ => True) trivial (fun _ d => IsForm (h.map (·.1)) 4 d) (fun k hk b _ => by
      obtain ⟨d, b', e, hd⟩ := any_formula_ok b hh
      have im := hd.imm
      clear g1 g2 g3 g4
      walk_at "evh"
      exact ⟨_, _, _, b', rfl, rfl, trivial, hd, rfl⟩)
    have hds : ∀ d ∈ ds, IsForm (h.map (·.1)) 4 d := q3.right fun _ _ z => z
    have ids : immAll ds = true := immAll_mem.mpr fun d m => (hds d m).imm
    have lds : ds.length = 5 := by rw [← q3.length, List.length_range]
    obtain ⟨k, b6, g6, k1⟩ := one_ints b5 (ns := [1, 5, 3]) (P := fun n => 1 ≤ n ∧ n ≤ 5) (by decide) (by decide) (by decide)
    obtain ⟨k, rfl⟩ := Int.eq_ofNat_of_zero_le (show 0 ≤ k by omega)
    simp only [List.map_cons, List.map_nil] at g6
    clear hT g1 g2 g3 g4
    have sm5 : small (List.range 5).length = true := by decide
    walk_at "evh"
    generalize hT : turns _ _ _ _ _ = T1
    obtain ⟨L, rs, b7, rfl, _, u1, u2, u3, u4⟩ := turns_stT hT (S := Bag) (fun b => [.v (.s ns) false, .v (.d (bagD b)) true, .v (.d (.int (more : Nat))) true, .v (.d (houseD h)) true, .v (.d (.dict (tabKv t))) true, .v (.d (.list ds)) true, .un]) b6 rfl (fun _ => True) trivial (fun _ d => IsForm (h.map (·.1)) 1 d) (fun k hk b _ => by
      obtain ⟨d, b', e, hd⟩ := rank_ok b hh (most := 4) (by decide) (by decide)
      change S__law_rank.run [.d (bagD b), .d (houseD h), .d (.int 4)] = _ at e
      have im := hd.imm
      clear q1 q2 q4 g6
      walk_at "evh"
      exact ⟨_, _, _, b', rfl, rfl, trivial, hd, rfl⟩)
    have hrs : ∀ d ∈ rs, IsForm (h.map (·.1)) 1 d := u3.right fun _ _ z => z
    have irs : immAll rs = true := immAll_mem.mpr fun d m => (hrs d m).imm
    have lrs : rs.length = 5 := by rw [← u3.length, List.length_range]
    have last : IsForm (h.map (·.1)) 4 (.tuple [.str "kth", .int (k : Nat), .tuple rs]) := by
      refine .inr ⟨k, rs, rfl, fun f m => (hrs f m).le (m := 3) (by decide), ?_, ?_, ?_⟩ <;> omega
    obtain ⟨b8, g8⟩ := right_ok b7 hh p1 p2 T (fs := ds ++ [.tuple [.str "kth", .int (k : Nat), .tuple rs]]) (fun f m => (List.mem_append.mp m).elim (hds f) fun m => by rw [List.mem_singleton.mp m]; exact last) (by rw [List.length_append, lds, List.length_singleton]; omega)
    have sm6 : small (ds.length + 1) = true := small_mil (by omega)
    clear hT q1 q2 q4 g6
    walk_at "evh"
    exact ⟨(b8, _, _, _, _), .inl rfl, hI'⟩)
  clear hT
  walk_at "evh"

end CF.K02
/-! RK02: the rules that lead from the text to the small language. -/
namespace CF.K02
open PySem PySem.Spec PyProof.Rows L2 CF
def tp (i : Nat) : Stmt := PySem.Challenge.pw_countsfall_k02_values_of_formulas.main.body.getD i (.Pass ⟨0, 0, 0, 0⟩)
structure Facts (K : PySem.W.Frag) (mg : Str → Option Value) : Prop where
  d__law_bag : DefF K mg "_law_bag" (tp 7) ["script"]
  d__law_take : DefF K mg "_law_take" (tp 8) ["bag", "many"]
  d__law_one : DefF K mg "_law_one" (tp 9) ["bag", "things"]
  d__law_sort : DefF K mg "_law_sort" (tp 14) ["bag", "name"]
  d__law_mixed : DefF K mg "_law_mixed" (tp 10) ["bag", "things"]
  d__law_names : DefF K mg "_law_names" (tp 13) ["bag", "many"]
  d__law_house : DefF K mg "_law_house" (tp 15) ["bag", "most"]
  d__law_size : DefF K mg "_law_size" (tp 17) ["bag", "sort", "more"]
  d__law_table : DefF K mg "_law_table" (tp 18) ["bag", "house", "pool", "more"]
  d__law_numbers : DefF K mg "_law_numbers" (tp 16) ["bag"]
  d__law_lot : DefF K mg "_law_lot" (tp 21) ["bag", "house"]
  d__law_rank : DefF K mg "_law_rank" (tp 22) ["bag", "house", "most"]
  d__law_formula : DefF K mg "_law_formula" (tp 23) ["bag", "house", "deep", "most", "left"]
  d__law_any_formula : DefF K mg "_law_any_formula" (tp 24) ["bag", "house"]
  d_all_numbers : DefF K mg "all_numbers" (tp 5) ["table"]
  d__law_flat : DefF K mg "_law_flat" (tp 12) ["rows"]
  d__law_known : DefF K mg "_law_known" (tp 20) ["table"]
  d__law_key : DefF K mg "_law_key" (tp 25) ["value"]
  d__law_value : DefF K mg "_law_value" (tp 26) ["table", "formula"]
  d__law_alike : DefF K mg "_law_alike" (tp 11) ["found", "due"]
  d_count_at_least : DefF K mg "count_at_least" (tp 3) ["house", "table", "lot", "number"]
  d__law_count : DefF K mg "_law_count" (tp 27) ["table", "lot", "number"]
  d_sizes_of : DefF K mg "sizes_of" (tp 4) ["house", "table"]
  d__law_sizes : DefF K mg "_law_sizes" (tp 19) ["house", "table"]
  d_kth_greatest : DefF K mg "kth_greatest" (tp 1) ["values", "k"]
  d_value_of : DefF K mg "value_of" (tp 2) ["house", "table", "formula"]
  d__law_table_right : DefF K mg "_law_table_right" (tp 28) ["bag", "house", "table", "formulas"]
  d_law : DefF K mg "law" (tp 29) ["script"]
  z_abs : mg "abs" = none
  z_int : mg "int" = none
  z_len : mg "len" = none
  z_list : mg "list" = none
  z_min : mg "min" = none
  z_range : mg "range" = none
  z_repr : mg "repr" = none
  z_set : mg "set" = none
  z_sorted : mg "sorted" = none
  z_tuple : mg "tuple" = none
abbrev s__law_bag : Stmt := tp 7
theorem sc__law_bag : FnScope ["script", "cell"] ["script"] (defScope s__law_bag) := ⟨rfl, rfl, rfl, by decide +kernel, rfl, by decide +kernel, by decide +kernel⟩
theorem c__law_bag {P : Program} {w : World} {K : PySem.W.Frag} {mg : Str → Option Value} {base : Heap} (D : Facts K mg) : Cl P w K mg base 1 "_law_bag" ["script"] S__law_bag :=
  cl_of (N := ["script", "cell"]) (m := m__law_bag) D.d__law_bag sc__law_bag (by decide) fun f cdv A outer s H vs Gs hr gd =>
    have g := gd_of (P := P) (w := w) (K := K) (mg := mg) (base := base) (f := f) (cdv := cdv) (outer := outer) (s := s) (H := H) (io := []) (Gs := Gs) (vs := vs) sc__law_bag.nd hr gd
    have nd := sc__law_bag.nd
    (xs_one (xs_ret (xe_lst (xl_cons false xe_int (xl_cons false xe_int (xl_cons false xe_int (xl_cons false (xe_lc (own := [("cell", 1)]) g [1] [] (gs_nm (i := 1) (show (1 : Nat) ∉ ([] : List Nat) from by decide)) (blkOk_by (own := [("cell", 1)]) (N := ["script", "cell"]) (sc := defScope s__law_bag) (by decide +kernel)) ⟨by decide, by decide, by decide, by decide, by decide, (.inr (by decide)), (.inr (by decide)), by decide, (show ∀ j ∈ ([] : List Nat), j ∉ ([1] : List Nat) from by decide)⟩ (xi_seq g (xe_scr (i := 0) g rfl (by first | exact Or.inl rfl | exact Or.inr (Or.inl rfl) | exact Or.inr (Or.inr rfl)))) (fun _ _ _ _ _ => (pg_v 1 nd)) (fun _ _ _ _ _ => yes_of) (fun _ _ _ _ _ => (xe_abs g.blk (by rfl) D.z_abs (xl_cons false (xe_v 1 false) xl_nil (.inr (by decide)))))) xl_nil (.inr (by decide))) (.inr (by decide))) (.inr (by decide))) (.inr (by decide))))))
abbrev s__law_take : Stmt := tp 8
theorem sc__law_take : FnScope ["bag", "many", "begin", "second", "cell", "stirred", "value"] ["bag", "many"] (defScope s__law_take) := ⟨rfl, rfl, rfl, by decide +kernel, rfl, by decide +kernel, by decide +kernel⟩
theorem c__law_take {P : Program} {w : World} {K : PySem.W.Frag} {mg : Str → Option Value} {base : Heap} (D : Facts K mg) : Cl P w K mg base 1 "_law_take" ["bag", "many"] S__law_take :=
  cl_of (N := ["bag", "many", "begin", "second", "cell", "stirred", "value"]) (m := m__law_take) D.d__law_take sc__law_take (by decide) fun f cdv A outer s H vs Gs hr gd =>
    have g := gd_of (P := P) (w := w) (K := K) (mg := mg) (base := base) (f := f) (cdv := cdv) (outer := outer) (s := s) (H := H) (io := [0]) (Gs := Gs) (vs := vs) sc__law_take.nd hr gd
    have nd := sc__law_take.nd
    (xs_cons (xs_if (xb_cmp g .eq false (xe_ix g false (xe_v 0 false) xe_int (.inr (by decide))) xe_int (.inr (by decide)) (by first | exact nomark _ | rfl)).pt (xs_cons (xs_set (i := 4) (show (4 : Nat) ∉ ([0] : List Nat) from by decide) nd rfl (.inl rfl) (xe_ix g false (xe_bin g .add false (xe_sl g false (xe_ix g false (xe_v 0 false) xe_int (.inr (by decide))) (xo_yes (xe_ix g false (xe_v 0 false) xe_int (.inr (by decide)))) xo_no (.inr (by decide))) (xe_lst (xl_cons false xe_int xl_nil (.inr (by decide)))) (.inr (by decide))) xe_int (.inr (by decide))))
    (xs_cons (xs_augLAdd (i := 0) rfl (by first | exact Or.inl rfl | exact Or.inr (Or.inl rfl) | exact Or.inr (Or.inr rfl)) xe_int xe_int)
    (xs_cons (xs_if (xb_cmp g .ge false (xe_v 4 false) (xe_bin g .pow false xe_int xe_int (.inr (by decide))) (.inr (by decide)) (by first | exact nomark _ | rfl)).pt (xs_one (xs_setL (i := 0) rfl (by first | exact Or.inl rfl | exact Or.inr (Or.inl rfl) | exact Or.inr (Or.inr rfl)) xe_int (xe_v 4 false))) xs_nil)
    (xs_cons (xs_set (i := 5) (show (5 : Nat) ∉ ([0] : List Nat) from by decide) nd rfl (.inl rfl) (xe_bin g .add false (xe_bin g .add false (xe_bin g .mul false (xe_ix g false (xe_v 0 false) xe_int (.inr (by decide))) xe_int (.inr (by decide))) (xe_bin g .mod false (xe_intB g (by rfl) D.z_int (xl_cons false (xe_v 4 false) xl_nil (.inr (by decide)))) xe_int (.inr (by decide))) (.inr (by decide))) (xe_bin g .mul false xe_int (xe_ix g false (xe_v 0 false) xe_int (.inr (by decide))) (.inr (by decide))) (.inr (by decide))))
    (xs_one (xs_setL (i := 0) rfl (by first | exact Or.inl rfl | exact Or.inr (Or.inl rfl) | exact Or.inr (Or.inr rfl)) xe_int (xe_bin g .mod false (xe_intB g (by rfl) D.z_int (xl_cons false (xe_v 5 false) xl_nil (.inr (by decide)))) xe_int (.inr (by decide))))))))) xs_nil)
    (xs_cons (xs_if (xb_cmp g .gt false (xe_ix g false (xe_v 0 false) xe_int (.inr (by decide))) xe_int (.inr (by decide)) (by first | exact nomark _ | rfl)).pt (xs_cons (xs_set (i := 6) (show (6 : Nat) ∉ ([0] : List Nat) from by decide) nd rfl (.inl rfl) (xe_bin g .mod false (xe_intB g (by rfl) D.z_int (xl_cons false (xe_ix g false (xe_v 0 false) xe_int (.inr (by decide))) xl_nil (.inr (by decide)))) (xe_v 1 false) (.inr (by decide))))
    (xs_cons (xs_setL (i := 0) rfl (by first | exact Or.inl rfl | exact Or.inr (Or.inl rfl) | exact Or.inr (Or.inr rfl)) xe_int (xe_bin g .fdiv false (xe_intB g (by rfl) D.z_int (xl_cons false (xe_ix g false (xe_v 0 false) xe_int (.inr (by decide))) xl_nil (.inr (by decide)))) (xe_v 1 false) (.inr (by decide))))
    (xs_one (xs_ret (xe_v 6 true))))) xs_nil)
    (xs_cons (xs_set (i := 2) (show (2 : Nat) ∉ ([0] : List Nat) from by decide) nd rfl (.inl rfl) (xe_bin g .mod false (xe_intB g (by rfl) D.z_int (xl_cons false (xe_bin g .mul false (xe_bin g .add false (xe_ix g false (xe_v 0 false) xe_int (.inr (by decide))) xe_int (.inr (by decide))) xe_int (.inr (by decide))) xl_nil (.inr (by decide)))) xe_int (.inr (by decide))))
    (xs_cons (xs_set (i := 3) (show (3 : Nat) ∉ ([0] : List Nat) from by decide) nd rfl (.inl rfl) (xe_bin g .mod false (xe_intB g (by rfl) D.z_int (xl_cons false (xe_bin g .mul false (xe_bin g .mod false (xe_intB g (by rfl) D.z_int (xl_cons false (xe_bin g .mul false (xe_v 2 false) (xe_v 2 false) (.inr (by decide))) xl_nil (.inr (by decide)))) xe_int (.inr (by decide))) xe_int (.inr (by decide))) xl_nil (.inr (by decide)))) xe_int (.inr (by decide))))
    (xs_one (xs_ret (xe_bin g .mod false (xe_intB g (by rfl) D.z_int (xl_cons false (xe_bin g .fdiv false (xe_v 3 false) xe_int (.inr (by decide))) xl_nil (.inr (by decide)))) (xe_v 1 false) (.inr (by decide)))))))))
abbrev s__law_one : Stmt := tp 9
theorem sc__law_one : FnScope ["bag", "things"] ["bag", "things"] (defScope s__law_one) := ⟨rfl, rfl, rfl, by decide +kernel, rfl, by decide +kernel, by decide +kernel⟩
theorem c__law_one {P : Program} {w : World} {K : PySem.W.Frag} {mg : Str → Option Value} {base : Heap} (D : Facts K mg) (C__law_take : Cl P w K mg base 1 "_law_take" ["bag", "many"] S__law_take) : Cl P w K mg base 2 "_law_one" ["bag", "things"] S__law_one :=
  cl_of (N := ["bag", "things"]) (m := m__law_one) D.d__law_one sc__law_one (by decide) fun f cdv A outer s H vs Gs hr gd =>
    have g := gd_of (P := P) (w := w) (K := K) (mg := mg) (base := base) (f := f) (cdv := cdv) (outer := outer) (s := s) (H := H) (io := [0]) (Gs := Gs) (vs := vs) sc__law_one.nd hr gd
    have nd := sc__law_one.nd
    (xs_one (xs_ret (xe_ix g false (xe_v 1 false) (xe_cl g C__law_take hr (by decide) (by rfl) (fun _ _ h => h) [0] (by decide) (xa_r 0 (xa_val false (xe_len g (by rfl) D.z_len (xl_cons false (xe_v 1 false) xl_nil (.inr (by decide)))) xa_nil (.inr (by decide))))) (.inr (by decide)))))
abbrev s__law_sort : Stmt := tp 14
theorem sc__law_sort : FnScope ["bag", "name", "way", "few"] ["bag", "name"] (defScope s__law_sort) := ⟨rfl, rfl, rfl, by decide +kernel, rfl, by decide +kernel, by decide +kernel⟩
theorem c__law_sort {P : Program} {w : World} {K : PySem.W.Frag} {mg : Str → Option Value} {base : Heap} (D : Facts K mg) (C__law_one : Cl P w K mg base 2 "_law_one" ["bag", "things"] S__law_one) (C__law_take : Cl P w K mg base 1 "_law_take" ["bag", "many"] S__law_take) : Cl P w K mg base 3 "_law_sort" ["bag", "name"] S__law_sort :=
  cl_of (N := ["bag", "name", "way", "few"]) (m := m__law_sort) D.d__law_sort sc__law_sort (by decide) fun f cdv A outer s H vs Gs hr gd =>
    have g := gd_of (P := P) (w := w) (K := K) (mg := mg) (base := base) (f := f) (cdv := cdv) (outer := outer) (s := s) (H := H) (io := [0]) (Gs := Gs) (vs := vs) sc__law_sort.nd hr gd
    have nd := sc__law_sort.nd
    (xs_cons (xs_par (i := 2) (j := 3) (show (2 : Nat) ∉ ([0] : List Nat) from by decide) (show (3 : Nat) ∉ ([0] : List Nat) from by decide) g rfl rfl (by decide) rfl rfl (xl_cons true (xe_cl g C__law_take hr (by decide) (by rfl) (fun _ _ h => h) [0] (by decide) (xa_r 0 (xa_val false xe_int xa_nil (.inr (by decide))))) (xl_cons false (xe_cl g C__law_one hr (by decide) (by rfl) (fun _ _ h => h) [0] (by decide) (xa_r 0 (xa_val false (xe_lst (xl_cons false xe_int (xl_cons false xe_int (xl_cons false xe_int (xl_cons false xe_int (xl_cons false xe_int xl_nil (.inr (by decide))) (.inr (by decide))) (.inr (by decide))) (.inr (by decide))) (.inr (by decide)))) xa_nil (.inr (by decide))))) xl_nil (.inr (by decide))) (.inl rfl)) rfl)
    (xs_cons (xs_if (xb_cmp g .lt false (xe_v 2 false) xe_int (.inr (by decide)) (by first | exact nomark _ | rfl)).pt (xs_one (xs_ret (xe_tup (xl_cons false (xe_v 1 false) (xl_cons false xe_int (xl_cons false xe_int xl_nil (.inr (by decide))) (.inr (by decide))) (.inr (by decide)))))) xs_nil)
    (xs_cons (xs_if (xb_cmp g .eq false (xe_v 2 false) xe_int (.inr (by decide)) (by first | exact nomark _ | rfl)).pt (xs_one (xs_ret (xe_tup (xl_cons false (xe_v 1 false) (xl_cons false (xe_v 3 false) (xl_cons false (xe_v 3 false) xl_nil (.inr (by decide))) (.inr (by decide))) (.inr (by decide)))))) xs_nil)
    (xs_cons (xs_if (xb_cmp g .eq false (xe_v 2 false) xe_int (.inr (by decide)) (by first | exact nomark _ | rfl)).pt (xs_one (xs_ret (xe_tup (xl_cons false (xe_v 1 false) (xl_cons false xe_int (xl_cons false (xe_bin g .add false xe_int (xe_cl g C__law_take hr (by decide) (by rfl) (fun _ _ h => h) [0] (by decide) (xa_r 0 (xa_val false xe_int xa_nil (.inr (by decide))))) (.inr (by decide))) xl_nil (.inr (by decide))) (.inr (by decide))) (.inr (by decide)))))) xs_nil)
    (xs_cons (xs_if (xb_cmp g .eq false (xe_v 2 false) xe_int (.inr (by decide)) (by first | exact nomark _ | rfl)).pt (xs_one (xs_ret (xe_tup (xl_cons false (xe_v 1 false) (xl_cons false (xe_v 3 false) (xl_cons false (xe_bin g .add false (xe_v 3 false) (xe_cl g C__law_one hr (by decide) (by rfl) (fun _ _ h => h) [0] (by decide) (xa_r 0 (xa_val false (xe_lst (xl_cons false xe_int (xl_cons false xe_int (xl_cons false xe_int (xl_cons false xe_int xl_nil (.inr (by decide))) (.inr (by decide))) (.inr (by decide))) (.inr (by decide)))) xa_nil (.inr (by decide))))) (.inr (by decide))) xl_nil (.inr (by decide))) (.inr (by decide))) (.inr (by decide)))))) xs_nil)
    (xs_one (xs_ret (xe_tup (xl_cons false (xe_v 1 false) (xl_cons false (xe_v 3 false) (xl_cons false xe_non xl_nil (.inr (by decide))) (.inr (by decide))) (.inr (by decide)))))))))))
abbrev s__law_mixed : Stmt := tp 10
theorem sc__law_mixed : FnScope ["bag", "things", "found", "thing"] ["bag", "things"] (defScope s__law_mixed) := ⟨rfl, rfl, rfl, by decide +kernel, rfl, by decide +kernel, by decide +kernel⟩
theorem c__law_mixed {P : Program} {w : World} {K : PySem.W.Frag} {mg : Str → Option Value} {base : Heap} (D : Facts K mg) (C__law_take : Cl P w K mg base 1 "_law_take" ["bag", "many"] S__law_take) : Cl P w K mg base 2 "_law_mixed" ["bag", "things"] S__law_mixed :=
  cl_of (N := ["bag", "things", "found", "thing"]) (m := m__law_mixed) D.d__law_mixed sc__law_mixed (by decide) fun f cdv A outer s H vs Gs hr gd =>
    have g := gd_of (P := P) (w := w) (K := K) (mg := mg) (base := base) (f := f) (cdv := cdv) (outer := outer) (s := s) (H := H) (io := [0]) (Gs := Gs) (vs := vs) sc__law_mixed.nd hr gd
    have nd := sc__law_mixed.nd
    (xs_cons (xs_set (i := 2) (show (2 : Nat) ∉ ([0] : List Nat) from by decide) nd rfl (.inl rfl) (xe_lst xl_nil))
    (xs_cons (xs_for PassesOwn.never rfl (gs_nm (i := 3) (show (3 : Nat) ∉ ([0] : List Nat) from by decide)) (xi_seq g (xe_v 1 false)) (pg_v 3 nd) (xs_one (xs_ins (i := 2) g rfl (by first | exact Or.inl rfl | exact Or.inr (Or.inl rfl) | exact Or.inr (Or.inr rfl)) (xe_cl g C__law_take hr (by decide) (by rfl) (fun _ _ h => h) [0] (by decide) (xa_r 0 (xa_val false (xe_bin g .add false (xe_len g (by rfl) D.z_len (xl_cons false (xe_v 2 false) xl_nil (.inr (by decide)))) xe_int (.inr (by decide))) xa_nil (.inr (by decide))))) (xe_v 3 false))))
    (xs_one (xs_ret (xe_v 2 true)))))
abbrev s__law_names : Stmt := tp 13
theorem sc__law_names : FnScope ["bag", "many", "menu"] ["bag", "many"] (defScope s__law_names) := ⟨rfl, rfl, rfl, by decide +kernel, rfl, by decide +kernel, by decide +kernel⟩
theorem c__law_names {P : Program} {w : World} {K : PySem.W.Frag} {mg : Str → Option Value} {base : Heap} (D : Facts K mg) (C__law_mixed : Cl P w K mg base 2 "_law_mixed" ["bag", "things"] S__law_mixed) : Cl P w K mg base 3 "_law_names" ["bag", "many"] S__law_names :=
  cl_of (N := ["bag", "many", "menu"]) (m := m__law_names) D.d__law_names sc__law_names (by decide) fun f cdv A outer s H vs Gs hr gd =>
    have g := gd_of (P := P) (w := w) (K := K) (mg := mg) (base := base) (f := f) (cdv := cdv) (outer := outer) (s := s) (H := H) (io := [0]) (Gs := Gs) (vs := vs) sc__law_names.nd hr gd
    have nd := sc__law_names.nd
    (xs_cons (xs_set (i := 2) (show (2 : Nat) ∉ ([0] : List Nat) from by decide) nd rfl (.inl rfl) (xe_lst (xl_cons false xe_str (xl_cons false xe_str (xl_cons false xe_str (xl_cons false xe_str (xl_cons false xe_str (xl_cons false xe_str (xl_cons false xe_str (xl_cons false xe_str (xl_cons false xe_str (xl_cons false xe_str (xl_cons false xe_str (xl_cons false xe_str (xl_cons false xe_str xl_nil (.inr (by decide))) (.inr (by decide))) (.inr (by decide))) (.inr (by decide))) (.inr (by decide))) (.inr (by decide))) (.inr (by decide))) (.inr (by decide))) (.inr (by decide))) (.inr (by decide))) (.inr (by decide))) (.inr (by decide))) (.inr (by decide)))))
    (xs_cons (xs_set (i := 2) (show (2 : Nat) ∉ ([0] : List Nat) from by decide) nd rfl (.inl rfl) (xe_bin g .add false (xe_v 2 false) (xe_lst (xl_cons false xe_str (xl_cons false xe_str (xl_cons false xe_str (xl_cons false xe_str xl_nil (.inr (by decide))) (.inr (by decide))) (.inr (by decide))) (.inr (by decide)))) (.inr (by decide))))
    (xs_one (xs_ret (xe_tuple g (by rfl) D.z_tuple (xl_cons false (xe_sorted g (by rfl) D.z_sorted (xl_cons false (xe_sl g false (xe_cl g C__law_mixed hr (by decide) (by rfl) (fun _ _ h => h) [0] (by decide) (xa_r 0 (xa_r 2 xa_nil))) xo_no (xo_yes (xe_v 1 false)) (.inr (by decide))) xl_nil (.inr (by decide)))) xl_nil (.inr (by decide))))))))
abbrev s__law_house : Stmt := tp 15
theorem sc__law_house : FnScope ["bag", "most", "name"] ["bag", "most"] (defScope s__law_house) := ⟨rfl, rfl, rfl, by decide +kernel, rfl, by decide +kernel, by decide +kernel⟩
theorem c__law_house {P : Program} {w : World} {K : PySem.W.Frag} {mg : Str → Option Value} {base : Heap} (D : Facts K mg) (C__law_names : Cl P w K mg base 3 "_law_names" ["bag", "many"] S__law_names) (C__law_sort : Cl P w K mg base 3 "_law_sort" ["bag", "name"] S__law_sort) (C__law_take : Cl P w K mg base 1 "_law_take" ["bag", "many"] S__law_take) : Cl P w K mg base 4 "_law_house" ["bag", "most"] S__law_house :=
  cl_of (N := ["bag", "most", "name"]) (m := m__law_house) D.d__law_house sc__law_house (by decide) fun f cdv A outer s H vs Gs hr gd =>
    have g := gd_of (P := P) (w := w) (K := K) (mg := mg) (base := base) (f := f) (cdv := cdv) (outer := outer) (s := s) (H := H) (io := [0]) (Gs := Gs) (vs := vs) sc__law_house.nd hr gd
    have nd := sc__law_house.nd
    (xs_one (xs_ret (xe_tuple g (by rfl) D.z_tuple (xl_cons false (xe_lc (own := [("name", 2)]) g [0, 1, 2] [0] (gs_nm (i := 2) (show (2 : Nat) ∉ ([0] : List Nat) from by decide)) (blkOk_by (own := [("name", 2)]) (N := ["bag", "most", "name"]) (sc := defScope s__law_house) (by decide +kernel)) ⟨by decide, by decide, by decide, by decide, by decide, (.inl rfl), (.inl rfl), by decide, (show ∀ j ∈ ([0] : List Nat), j ∉ ([2] : List Nat) from by decide)⟩ (xi_seq g (xe_cl g C__law_names hr (by decide) (by rfl) (fun _ _ h => h) [0] (by decide) (xa_r 0 (xa_val false (xe_bin g .add false xe_int (xe_cl g C__law_take hr (by decide) (by rfl) (fun _ _ h => h) [0] (by decide) (xa_r 0 (xa_r 1 xa_nil))) (.inr (by decide))) xa_nil (.inr (by decide)))))) (fun _ _ _ _ _ => (pg_v 2 nd)) (fun _ _ _ _ _ => yes_of) (fun _ _ _ _ _ => (xe_cl g.blk C__law_sort hr (by decide) (by rfl) (fun _ _ h => h) [0] (by decide) (xa_r 0 (xa_r 2 xa_nil))))) xl_nil (.inr (by decide))))))
abbrev s__law_size : Stmt := tp 17
theorem sc__law_size : FnScope ["bag", "sort", "more", "top"] ["bag", "sort", "more"] (defScope s__law_size) := ⟨rfl, rfl, rfl, by decide +kernel, rfl, by decide +kernel, by decide +kernel⟩
theorem c__law_size {P : Program} {w : World} {K : PySem.W.Frag} {mg : Str → Option Value} {base : Heap} (D : Facts K mg) (C__law_take : Cl P w K mg base 1 "_law_take" ["bag", "many"] S__law_take) : Cl P w K mg base 2 "_law_size" ["bag", "sort", "more"] S__law_size :=
  cl_of (N := ["bag", "sort", "more", "top"]) (m := m__law_size) D.d__law_size sc__law_size (by decide) fun f cdv A outer s H vs Gs hr gd =>
    have g := gd_of (P := P) (w := w) (K := K) (mg := mg) (base := base) (f := f) (cdv := cdv) (outer := outer) (s := s) (H := H) (io := [0]) (Gs := Gs) (vs := vs) sc__law_size.nd hr gd
    have nd := sc__law_size.nd
    (xs_cons (xs_set (i := 3) (show (3 : Nat) ∉ ([0] : List Nat) from by decide) nd rfl (.inl rfl) (xe_ite (xb_is (xe_ix g false (xe_v 1 false) xe_int (.inr (by decide)))).pt (xe_bin g .add false (xe_ix g false (xe_v 1 false) xe_int (.inr (by decide))) (xe_v 2 false) (.inr (by decide))) (xe_min g (by rfl) D.z_min (xl_cons false (xe_ix g false (xe_v 1 false) xe_int (.inr (by decide))) (xl_cons false (xe_bin g .add false (xe_ix g false (xe_v 1 false) xe_int (.inr (by decide))) (xe_v 2 false) (.inr (by decide))) xl_nil (.inr (by decide))) (.inr (by decide))))))
    (xs_one (xs_ret (xe_bin g .add false (xe_ix g false (xe_v 1 false) xe_int (.inr (by decide))) (xe_cl g C__law_take hr (by decide) (by rfl) (fun _ _ h => h) [0] (by decide) (xa_r 0 (xa_val false (xe_bin g .add false (xe_bin g .sub false (xe_v 3 false) (xe_ix g false (xe_v 1 false) xe_int (.inr (by decide))) (.inr (by decide))) xe_int (.inr (by decide))) xa_nil (.inr (by decide))))) (.inr (by decide))))))
abbrev s__law_table : Stmt := tp 18
theorem sc__law_table : FnScope ["bag", "house", "pool", "more", "found", "sort", "row"] ["bag", "house", "pool", "more"] (defScope s__law_table) := ⟨rfl, rfl, rfl, by decide +kernel, rfl, by decide +kernel, by decide +kernel⟩
theorem c__law_table {P : Program} {w : World} {K : PySem.W.Frag} {mg : Str → Option Value} {base : Heap} (D : Facts K mg) (C__law_mixed : Cl P w K mg base 2 "_law_mixed" ["bag", "things"] S__law_mixed) (C__law_one : Cl P w K mg base 2 "_law_one" ["bag", "things"] S__law_one) (C__law_size : Cl P w K mg base 2 "_law_size" ["bag", "sort", "more"] S__law_size) : Cl P w K mg base 3 "_law_table" ["bag", "house", "pool", "more"] S__law_table :=
  cl_of (N := ["bag", "house", "pool", "more", "found", "sort", "row"]) (m := m__law_table) D.d__law_table sc__law_table (by decide) fun f cdv A outer s H vs Gs hr gd =>
    have g := gd_of (P := P) (w := w) (K := K) (mg := mg) (base := base) (f := f) (cdv := cdv) (outer := outer) (s := s) (H := H) (io := [0]) (Gs := Gs) (vs := vs) sc__law_table.nd hr gd
    have nd := sc__law_table.nd
    (xs_cons (xs_set (i := 4) (show (4 : Nat) ∉ ([0] : List Nat) from by decide) nd rfl (.inl rfl) xe_dnew)
    (xs_cons (xs_for PassesOwn.never rfl (gs_nm (i := 5) (show (5 : Nat) ∉ ([0] : List Nat) from by decide)) (xi_seq g (xe_cl g C__law_mixed hr (by decide) (by rfl) (fun _ _ h => h) [0] (by decide) (xa_r 0 (xa_r 1 xa_nil)))) (pg_v 5 nd) (xs_one (xs_setD (i := 4) g rfl (by first | exact Or.inl rfl | exact Or.inr (Or.inl rfl) | exact Or.inr (Or.inr rfl)) (xe_ix g false (xe_v 5 false) xe_int (.inr (by decide))) (xe_tuple g (by rfl) D.z_tuple (xl_cons false (xe_sorted g (by rfl) D.z_sorted (xl_cons false (xe_lc (own := [("row", 6)]) g [0, 2, 3, 5] [0] (gs_nm (i := 6) (show (6 : Nat) ∉ ([0] : List Nat) from by decide)) (blkOk_by (own := [("row", 6)]) (N := ["bag", "house", "pool", "more", "found", "sort", "row"]) (sc := defScope s__law_table) (by decide +kernel)) ⟨by decide, by decide, by decide, by decide, by decide, (.inl rfl), (.inl rfl), by decide, (show ∀ j ∈ ([0] : List Nat), j ∉ ([6] : List Nat) from by decide)⟩ (xi_rng1 (by rfl) D.z_range (xe_cl g C__law_size hr (by decide) (by rfl) (fun _ _ h => h) [0] (by decide) (xa_r 0 (xa_r 5 (xa_r 3 xa_nil))))) (fun _ _ _ _ _ => (pg_v 6 nd)) (fun _ _ _ _ _ => yes_of) (fun _ _ _ _ _ => (xe_cl g.blk C__law_one hr (by decide) (by rfl) (fun _ _ h => h) [0] (by decide) (xa_r 0 (xa_r 2 xa_nil))))) xl_nil (.inr (by decide)))) xl_nil (.inr (by decide)))))))
    (xs_one (xs_ret (xe_v 4 true)))))
abbrev s__law_numbers : Stmt := tp 16
theorem sc__law_numbers : FnScope ["bag", "low", "step", "place"] ["bag"] (defScope s__law_numbers) := ⟨rfl, rfl, rfl, by decide +kernel, rfl, by decide +kernel, by decide +kernel⟩
theorem c__law_numbers {P : Program} {w : World} {K : PySem.W.Frag} {mg : Str → Option Value} {base : Heap} (D : Facts K mg) (C__law_one : Cl P w K mg base 2 "_law_one" ["bag", "things"] S__law_one) (C__law_take : Cl P w K mg base 1 "_law_take" ["bag", "many"] S__law_take) : Cl P w K mg base 3 "_law_numbers" ["bag"] S__law_numbers :=
  cl_of (N := ["bag", "low", "step", "place"]) (m := m__law_numbers) D.d__law_numbers sc__law_numbers (by decide) fun f cdv A outer s H vs Gs hr gd =>
    have g := gd_of (P := P) (w := w) (K := K) (mg := mg) (base := base) (f := f) (cdv := cdv) (outer := outer) (s := s) (H := H) (io := [0]) (Gs := Gs) (vs := vs) sc__law_numbers.nd hr gd
    have nd := sc__law_numbers.nd
    (xs_cons (xs_asg (gs_tup rfl (gs_cons (gs_nm (i := 1) (show (1 : Nat) ∉ ([0] : List Nat) from by decide)) (gs_cons (gs_nm (i := 2) (show (2 : Nat) ∉ ([0] : List Nat) from by decide)) gs_nil)) rfl) (xe_tup (xl_cons true (xe_cl g C__law_one hr (by decide) (by rfl) (fun _ _ h => h) [0] (by decide) (xa_r 0 (xa_val false (xe_lst (xl_cons false xe_int (xl_cons false (xe_neg xe_int) (xl_cons false xe_int (xl_cons false xe_int (xl_cons false (xe_bin g .sub false xe_int (xe_bin g .pow false xe_int xe_int (.inr (by decide))) (.inr (by decide))) xl_nil (.inr (by decide))) (.inr (by decide))) (.inr (by decide))) (.inr (by decide))) (.inr (by decide)))) xa_nil (.inr (by decide))))) (xl_cons false (xe_cl g C__law_one hr (by decide) (by rfl) (fun _ _ h => h) [0] (by decide) (xa_r 0 (xa_val false (xe_lst (xl_cons false xe_int (xl_cons false xe_int (xl_cons false xe_int (xl_cons false xe_int (xl_cons false (xe_bin g .pow false xe_int xe_int (.inr (by decide))) xl_nil (.inr (by decide))) (.inr (by decide))) (.inr (by decide))) (.inr (by decide))) (.inr (by decide)))) xa_nil (.inr (by decide))))) xl_nil (.inr (by decide))) (.inl rfl))) (pg_tup rfl (pgs_cons (pg_v 1 nd) (pgs_cons (pg_v 2 nd) pgs_nil))))
    (xs_one (xs_ret (xe_lc (own := [("place", 3)]) g [0, 1, 2, 3] [0] (gs_nm (i := 3) (show (3 : Nat) ∉ ([0] : List Nat) from by decide)) (blkOk_by (own := [("place", 3)]) (N := ["bag", "low", "step", "place"]) (sc := defScope s__law_numbers) (by decide +kernel)) ⟨by decide, by decide, by decide, by decide, by decide, (.inl rfl), (.inl rfl), by decide, (show ∀ j ∈ ([0] : List Nat), j ∉ ([3] : List Nat) from by decide)⟩ (xi_rng1 (by rfl) D.z_range (xe_bin g .add false xe_int (xe_cl g C__law_take hr (by decide) (by rfl) (fun _ _ h => h) [0] (by decide) (xa_r 0 (xa_val false xe_int xa_nil (.inr (by decide))))) (.inr (by decide)))) (fun _ _ _ _ _ => (pg_v 3 nd)) (fun _ _ _ _ _ => yes_of) (fun _ _ _ _ _ => (xe_bin g.blk .add false (xe_v 1 false) (xe_bin g.blk .mul false (xe_v 2 false) (xe_v 3 false) (.inr (by decide))) (.inr (by decide))))))))
abbrev s__law_lot : Stmt := tp 21
theorem sc__law_lot : FnScope ["bag", "house", "names", "sort"] ["bag", "house"] (defScope s__law_lot) := ⟨rfl, rfl, rfl, by decide +kernel, rfl, by decide +kernel, by decide +kernel⟩
theorem c__law_lot {P : Program} {w : World} {K : PySem.W.Frag} {mg : Str → Option Value} {base : Heap} (D : Facts K mg) (C__law_mixed : Cl P w K mg base 2 "_law_mixed" ["bag", "things"] S__law_mixed) (C__law_take : Cl P w K mg base 1 "_law_take" ["bag", "many"] S__law_take) : Cl P w K mg base 3 "_law_lot" ["bag", "house"] S__law_lot :=
  cl_of (N := ["bag", "house", "names", "sort"]) (m := m__law_lot) D.d__law_lot sc__law_lot (by decide) fun f cdv A outer s H vs Gs hr gd =>
    have g := gd_of (P := P) (w := w) (K := K) (mg := mg) (base := base) (f := f) (cdv := cdv) (outer := outer) (s := s) (H := H) (io := [0]) (Gs := Gs) (vs := vs) sc__law_lot.nd hr gd
    have nd := sc__law_lot.nd
    (xs_cons (xs_setLc (i := 2) g [1, 3] [] (show (2 : Nat) ∉ ([0] : List Nat) from by decide) rfl rfl (sw_true rfl rfl rfl (by decide +kernel)) (gs_nm (i := 3) (show (3 : Nat) ∉ ([0] : List Nat) from by decide)) (blkOk_by (own := [("sort", 3)]) (N := ["bag", "house", "names", "sort"]) (sc := defScope s__law_lot) (by decide +kernel)) ⟨by decide, by decide, by decide, by decide, by decide, (.inr (by decide)), (.inr (by decide)), by decide, (show ∀ j ∈ ([0] : List Nat), j ∉ ([3] : List Nat) from by decide)⟩ (xi_seq g (xe_v 1 false)) (fun _ _ _ _ _ => (pg_v 3 nd)) (fun _ _ _ _ _ => yes_of) (fun _ _ _ _ _ => (xe_ix g.blk false (xe_v 3 false) xe_int (.inr (by decide)))))
    (xs_one (xs_ret (xe_tuple g (by rfl) D.z_tuple (xl_cons false (xe_sorted g (by rfl) D.z_sorted (xl_cons false (xe_sl g true (xe_cl g C__law_mixed hr (by decide) (by rfl) (fun _ _ h => h) [0] (by decide) (xa_r 0 (xa_r 2 xa_nil))) xo_no (xo_yes (xe_bin g .add false xe_int (xe_cl g C__law_take hr (by decide) (by rfl) (fun _ _ h => h) [0] (by decide) (xa_r 0 (xa_val false (xe_len g (by rfl) D.z_len (xl_cons false (xe_v 2 false) xl_nil (.inr (by decide)))) xa_nil (.inr (by decide))))) (.inr (by decide)))) (.inl rfl)) xl_nil (.inr (by decide)))) xl_nil (.inr (by decide)))))))
abbrev s__law_rank : Stmt := tp 22
theorem sc__law_rank : FnScope ["bag", "house", "most"] ["bag", "house", "most"] (defScope s__law_rank) := ⟨rfl, rfl, rfl, by decide +kernel, rfl, by decide +kernel, by decide +kernel⟩
theorem c__law_rank {P : Program} {w : World} {K : PySem.W.Frag} {mg : Str → Option Value} {base : Heap} (D : Facts K mg) (C__law_lot : Cl P w K mg base 3 "_law_lot" ["bag", "house"] S__law_lot) (C__law_one : Cl P w K mg base 2 "_law_one" ["bag", "things"] S__law_one) (C__law_take : Cl P w K mg base 1 "_law_take" ["bag", "many"] S__law_take) : Cl P w K mg base 4 "_law_rank" ["bag", "house", "most"] S__law_rank :=
  cl_of (N := ["bag", "house", "most"]) (m := m__law_rank) D.d__law_rank sc__law_rank (by decide) fun f cdv A outer s H vs Gs hr gd =>
    have g := gd_of (P := P) (w := w) (K := K) (mg := mg) (base := base) (f := f) (cdv := cdv) (outer := outer) (s := s) (H := H) (io := [0]) (Gs := Gs) (vs := vs) sc__law_rank.nd hr gd
    have nd := sc__law_rank.nd
    (xs_one (xs_ret (xe_tup (xl_cons false xe_str (xl_cons true (xe_cl g C__law_lot hr (by decide) (by rfl) (fun _ _ h => h) [0] (by decide) (xa_r 0 (xa_r 1 xa_nil))) (xl_cons false (xe_bin g .add false xe_int (xe_cl g C__law_one hr (by decide) (by rfl) (fun _ _ h => h) [0] (by decide) (xa_r 0 (xa_val false (xe_lst (xl_cons false xe_int (xl_cons false xe_int (xl_cons false (xe_cl g C__law_take hr (by decide) (by rfl) (fun _ _ h => h) [0] (by decide) (xa_r 0 (xa_r 2 xa_nil))) xl_nil (.inr (by decide))) (.inr (by decide))) (.inr (by decide)))) xa_nil (.inr (by decide))))) (.inr (by decide))) xl_nil (.inr (by decide))) (.inl rfl)) (.inr (by decide))))))
abbrev s__law_formula : Stmt := tp 23
theorem sc__law_formula : FnScope ["bag", "house", "deep", "most", "left", "parts", "turn"] ["bag", "house", "deep", "most", "left"] (defScope s__law_formula) := ⟨rfl, rfl, rfl, by decide +kernel, rfl, by decide +kernel, by decide +kernel⟩
theorem c__law_formula {P : Program} {w : World} {K : PySem.W.Frag} {mg : Str → Option Value} {base : Heap} (D : Facts K mg) (C__law_one : Cl P w K mg base 2 "_law_one" ["bag", "things"] S__law_one) (C__law_rank : Cl P w K mg base 4 "_law_rank" ["bag", "house", "most"] S__law_rank) (C__law_take : Cl P w K mg base 1 "_law_take" ["bag", "many"] S__law_take) : ∀ n, Cl P w K mg base (4 + n) "_law_formula" ["bag", "house", "deep", "most", "left"] (S__law_formula n)
  | 0 => cl_no D.d__law_formula (by decide)
  | n + 1 =>
    have ih : Cl P w K mg base (4 + n) "_law_formula" ["bag", "house", "deep", "most", "left"] (S__law_formula n) := c__law_formula D C__law_one C__law_rank C__law_take n
    cl_of (k := 4 + n) (N := ["bag", "house", "deep", "most", "left", "parts", "turn"]) (m := m__law_formula (S__law_formula n)) D.d__law_formula sc__law_formula (by decide) fun f cdv A outer s H vs Gs hr gd =>
    have g := gd_of (P := P) (w := w) (K := K) (mg := mg) (base := base) (f := f) (cdv := cdv) (outer := outer) (s := s) (H := H) (io := [0, 4]) (Gs := Gs) (vs := vs) sc__law_formula.nd hr gd
    have nd := sc__law_formula.nd
    (xs_cons (xs_augLSub (i := 4) rfl (by first | exact Or.inl rfl | exact Or.inr (Or.inl rfl) | exact Or.inr (Or.inr rfl)) xe_int xe_int)
    (xs_cons (xs_if (XW.b (xw_or (xb_cmp g .lt false (xe_v 2 false) xe_int (.inr (by decide)) (by first | exact nomark _ | rfl)) (xw_or (xb_cmp g .lt false (xe_ix g false (xe_v 4 false) xe_int (.inr (by decide))) xe_int (.inr (by decide)) (by first | exact nomark _ | rfl)) (xw_or1 (xb_cmp g .lt false (xe_cl g C__law_take hr (show 1 ≤ 4 + n from by omega) (by rfl) (fun _ _ h => h) [0] (by decide) (xa_r 0 (xa_val false xe_int xa_nil (.inr (by decide))))) xe_int (.inr (by decide)) (by first | exact nomark _ | rfl)))))).pt (xs_one (xs_ret (xe_cl g C__law_rank hr (show 4 ≤ 4 + n from by omega) (by rfl) (fun _ _ h => h) [0] (by decide) (xa_r 0 (xa_r 1 (xa_r 3 xa_nil)))))) xs_nil)
    (xs_cons (xs_set (i := 5) (show (5 : Nat) ∉ ([0, 4] : List Nat) from by decide) nd rfl (.inl rfl) (xe_lst xl_nil))
    (xs_cons (xs_for PassesOwn.never rfl (gs_nm (i := 6) (show (6 : Nat) ∉ ([0, 4] : List Nat) from by decide)) (xi_rng1 (by rfl) D.z_range (xe_bin g .add false xe_int (xe_cl g C__law_one hr (show 2 ≤ 4 + n from by omega) (by rfl) (fun _ _ h => h) [0] (by decide) (xa_r 0 (xa_val false (xe_lst (xl_cons false xe_int (xl_cons false xe_int (xl_cons false xe_int (xl_cons false xe_int xl_nil (.inr (by decide))) (.inr (by decide))) (.inr (by decide))) (.inr (by decide)))) xa_nil (.inr (by decide))))) (.inr (by decide)))) (pg_v 6 nd) (xs_one (xs_if (xb_cmp g .gt false (xe_ix g false (xe_v 4 false) xe_int (.inr (by decide))) xe_int (.inr (by decide)) (by first | exact nomark _ | rfl)).pt (xs_one (xs_app (i := 5) g rfl (by first | exact Or.inl rfl | exact Or.inr (Or.inl rfl) | exact Or.inr (Or.inr rfl)) (xe_cl g ih hr (Nat.le_refl _) (by rfl) (fun _ _ h => h) [0, 4] (by decide) (xa_r 0 (xa_r 1 (xa_val false (xe_bin g .sub false (xe_v 2 false) xe_int (.inr (by decide))) (xa_r 3 (xa_r 4 xa_nil)) (.inr (by decide)))))))) xs_nil)))
    (xs_one (xs_ret (xe_tup (xl_cons false xe_str (xl_cons false (xe_cl g C__law_one hr (show 2 ≤ 4 + n from by omega) (by rfl) (fun _ _ h => h) [0] (by decide) (xa_r 0 (xa_val false (xe_lst (xl_cons false xe_int (xl_cons false (xe_len g (by rfl) D.z_len (xl_cons false (xe_v 5 false) xl_nil (.inr (by decide)))) (xl_cons false (xe_bin g .add false xe_int (xe_cl g C__law_take hr (show 1 ≤ 4 + n from by omega) (by rfl) (fun _ _ h => h) [0] (by decide) (xa_r 0 (xa_val false (xe_len g (by rfl) D.z_len (xl_cons false (xe_v 5 false) xl_nil (.inr (by decide)))) xa_nil (.inr (by decide))))) (.inr (by decide))) xl_nil (.inr (by decide))) (.inr (by decide))) (.inr (by decide)))) xa_nil (.inr (by decide))))) (xl_cons false (xe_tuple g (by rfl) D.z_tuple (xl_cons false (xe_v 5 false) xl_nil (.inr (by decide)))) xl_nil (.inr (by decide))) (.inr (by decide))) (.inr (by decide))))))))))
abbrev s__law_any_formula : Stmt := tp 24
theorem sc__law_any_formula : FnScope ["bag", "house"] ["bag", "house"] (defScope s__law_any_formula) := ⟨rfl, rfl, rfl, by decide +kernel, rfl, by decide +kernel, by decide +kernel⟩
theorem c__law_any_formula {P : Program} {w : World} {K : PySem.W.Frag} {mg : Str → Option Value} {base : Heap} (D : Facts K mg) (C__law_formula : ∀ n, Cl P w K mg base (4 + n) "_law_formula" ["bag", "house", "deep", "most", "left"] (S__law_formula n)) (C__law_one : Cl P w K mg base 2 "_law_one" ["bag", "things"] S__law_one) : Cl P w K mg base 17 "_law_any_formula" ["bag", "house"] S__law_any_formula :=
  cl_of (N := ["bag", "house"]) (m := m__law_any_formula) D.d__law_any_formula sc__law_any_formula (by decide) fun f cdv A outer s H vs Gs hr gd =>
    have g := gd_of (P := P) (w := w) (K := K) (mg := mg) (base := base) (f := f) (cdv := cdv) (outer := outer) (s := s) (H := H) (io := [0]) (Gs := Gs) (vs := vs) sc__law_any_formula.nd hr gd
    have nd := sc__law_any_formula.nd
    (xs_one (xs_ret (xe_cl g (C__law_formula 12) hr (by decide) (by rfl) (fun _ _ h => h) [0] (by decide) (xa_r 0 (xa_r 1 (xa_val true (xe_cl g C__law_one hr (by decide) (by rfl) (fun _ _ h => h) [0] (by decide) (xa_r 0 (xa_val false (xe_lst (xl_cons false xe_int (xl_cons false xe_int (xl_cons false xe_int (xl_cons false xe_int (xl_cons false xe_int xl_nil (.inr (by decide))) (.inr (by decide))) (.inr (by decide))) (.inr (by decide))) (.inr (by decide)))) xa_nil (.inr (by decide))))) (xa_val false (xe_cl g C__law_one hr (by decide) (by rfl) (fun _ _ h => h) [0] (by decide) (xa_r 0 (xa_val false (xe_lst (xl_cons false xe_int (xl_cons false xe_int (xl_cons false xe_int (xl_cons false xe_int xl_nil (.inr (by decide))) (.inr (by decide))) (.inr (by decide))) (.inr (by decide)))) xa_nil (.inr (by decide))))) (xa_tmp (xl_cons false xe_int xl_nil (.inr (by decide))) xa_nil) (.inr (by decide))) (.inl rfl)))))))
abbrev s_all_numbers : Stmt := tp 5
theorem sc_all_numbers : FnScope ["table", "name", "number"] ["table"] (defScope s_all_numbers) := ⟨rfl, rfl, rfl, by decide +kernel, rfl, by decide +kernel, by decide +kernel⟩
theorem c_all_numbers {P : Program} {w : World} {K : PySem.W.Frag} {mg : Str → Option Value} {base : Heap} (D : Facts K mg) : Cl P w K mg base 1 "all_numbers" ["table"] S_all_numbers :=
  cl_of (N := ["table", "name", "number"]) (m := m_all_numbers) D.d_all_numbers sc_all_numbers (by decide) fun f cdv A outer s H vs Gs hr gd =>
    have g := gd_of (P := P) (w := w) (K := K) (mg := mg) (base := base) (f := f) (cdv := cdv) (outer := outer) (s := s) (H := H) (io := []) (Gs := Gs) (vs := vs) sc_all_numbers.nd hr gd
    have nd := sc_all_numbers.nd
    (xs_one (xs_ret (xe_keysSortSc2 (i := 0) (vs1 := [2]) g (by rfl) D.z_sorted [0, 1, 2] [] rfl (by first | exact Or.inl rfl | exact Or.inr (Or.inl rfl) | exact Or.inr (Or.inr rfl)) (gs_nm (i := 1) (show (1 : Nat) ∉ ([] : List Nat) from by decide)) (gs_nm (i := 2) (show (2 : Nat) ∉ ([] : List Nat) from by decide)) (blkOk_by (own := [("name", 1), ("number", 2)]) (N := ["table", "name", "number"]) (sc := defScope s_all_numbers) (by decide +kernel)) ⟨⟨by decide, by decide, by decide, by decide, by decide, (.inr (by decide)), (.inr (by decide)), by decide, (show ∀ j ∈ ([] : List Nat), j ∉ ([1, 2] : List Nat) from by decide)⟩, by decide, by decide, (.inr (by decide)), by decide, by decide⟩ (fun _ _ _ _ _ => (pg_v 1 nd)) (fun _ _ _ _ _ => yes_of) (fun _ _ _ _ _ => (xi_seq g.blk (xe_ix g.blk false (xe_v 0 false) (xe_v 1 false) (.inr (by decide))))) (fun _ _ _ _ _ => (pg_v 2 nd)) (fun _ _ _ _ _ => yes_of) (fun _ _ _ _ _ => (xe_v 2 false)))))
abbrev s__law_flat : Stmt := tp 12
theorem sc__law_flat : FnScope ["rows", "found", "row"] ["rows"] (defScope s__law_flat) := ⟨rfl, rfl, rfl, by decide +kernel, rfl, by decide +kernel, by decide +kernel⟩
theorem c__law_flat {P : Program} {w : World} {K : PySem.W.Frag} {mg : Str → Option Value} {base : Heap} (D : Facts K mg) : Cl P w K mg base 1 "_law_flat" ["rows"] S__law_flat :=
  cl_of (N := ["rows", "found", "row"]) (m := m__law_flat) D.d__law_flat sc__law_flat (by decide) fun f cdv A outer s H vs Gs hr gd =>
    have g := gd_of (P := P) (w := w) (K := K) (mg := mg) (base := base) (f := f) (cdv := cdv) (outer := outer) (s := s) (H := H) (io := []) (Gs := Gs) (vs := vs) sc__law_flat.nd hr gd
    have nd := sc__law_flat.nd
    (xs_cons (xs_set (i := 1) (show (1 : Nat) ∉ ([] : List Nat) from by decide) nd rfl (.inl rfl) (xe_lst xl_nil))
    (xs_cons (xs_for PassesOwn.never rfl (gs_nm (i := 2) (show (2 : Nat) ∉ ([] : List Nat) from by decide)) (xi_seq g (xe_v 0 false)) (pg_v 2 nd) (xs_one (xs_ext (i := 1) g rfl (by first | exact Or.inl rfl | exact Or.inr (Or.inl rfl) | exact Or.inr (Or.inr rfl)) (xe_v 2 false))))
    (xs_one (xs_ret (xe_v 1 true)))))
abbrev s__law_known : Stmt := tp 20
theorem sc__law_known : FnScope ["table", "name"] ["table"] (defScope s__law_known) := ⟨rfl, rfl, rfl, by decide +kernel, rfl, by decide +kernel, by decide +kernel⟩
theorem c__law_known {P : Program} {w : World} {K : PySem.W.Frag} {mg : Str → Option Value} {base : Heap} (D : Facts K mg) (C__law_flat : Cl P w K mg base 1 "_law_flat" ["rows"] S__law_flat) : Cl P w K mg base 2 "_law_known" ["table"] S__law_known :=
  cl_of (N := ["table", "name"]) (m := m__law_known) D.d__law_known sc__law_known (by decide) fun f cdv A outer s H vs Gs hr gd =>
    have g := gd_of (P := P) (w := w) (K := K) (mg := mg) (base := base) (f := f) (cdv := cdv) (outer := outer) (s := s) (H := H) (io := []) (Gs := Gs) (vs := vs) sc__law_known.nd hr gd
    have nd := sc__law_known.nd
    (xs_one (xs_ret (xe_sortSet g (by rfl) D.z_sorted (by rfl) D.z_set (xe_cl g C__law_flat hr (by decide) (by rfl) (fun _ _ h => h) [] (by decide) (xa_val false (xe_keysLc (i := 0) g [0, 1] [] rfl (by first | exact Or.inl rfl | exact Or.inr (Or.inl rfl) | exact Or.inr (Or.inr rfl)) (gs_nm (i := 1) (show (1 : Nat) ∉ ([] : List Nat) from by decide)) (blkOk_by (own := [("name", 1)]) (N := ["table", "name"]) (sc := defScope s__law_known) (by decide +kernel)) ⟨by decide, by decide, by decide, by decide, by decide, (.inr (by decide)), (.inr (by decide)), by decide, (show ∀ j ∈ ([] : List Nat), j ∉ ([1] : List Nat) from by decide)⟩ (fun _ _ _ _ _ => (pg_v 1 nd)) (fun _ _ _ _ _ => yes_of) (fun _ _ _ _ _ => (xe_list g.blk (by rfl) D.z_list (xl_cons false (xe_ix g.blk false (xe_v 0 false) (xe_v 1 false) (.inr (by decide))) xl_nil (.inr (by decide)))))) xa_nil (.inr (by decide)))))))
abbrev s__law_key : Stmt := tp 25
theorem sc__law_key : FnScope ["value"] ["value"] (defScope s__law_key) := ⟨rfl, rfl, rfl, by decide +kernel, rfl, by decide +kernel, by decide +kernel⟩
theorem c__law_key {P : Program} {w : World} {K : PySem.W.Frag} {mg : Str → Option Value} {base : Heap} (D : Facts K mg) : Cl P w K mg base 1 "_law_key" ["value"] S__law_key :=
  cl_of (N := ["value"]) (m := m__law_key) D.d__law_key sc__law_key (by decide) fun f cdv A outer s H vs Gs hr gd =>
    have g := gd_of (P := P) (w := w) (K := K) (mg := mg) (base := base) (f := f) (cdv := cdv) (outer := outer) (s := s) (H := H) (io := []) (Gs := Gs) (vs := vs) sc__law_key.nd hr gd
    have nd := sc__law_key.nd
    (xs_one (xs_ret (xe_ite (xb_is (xe_v 0 false)).pt (xe_tup (xl_cons false xe_int (xl_cons false xe_int xl_nil (.inr (by decide))) (.inr (by decide)))) (xe_tup (xl_cons false xe_int (xl_cons false (xe_v 0 false) xl_nil (.inr (by decide))) (.inr (by decide)))))))
abbrev s__law_value : Stmt := tp 26
theorem sc__law_value : FnScope ["table", "formula", "keys", "key", "rows", "part", "name"] ["table", "formula"] (defScope s__law_value) := ⟨rfl, rfl, rfl, by decide +kernel, rfl, by decide +kernel, by decide +kernel⟩
theorem c__law_value {P : Program} {w : World} {K : PySem.W.Frag} {mg : Str → Option Value} {base : Heap} (D : Facts K mg) (C__law_flat : Cl P w K mg base 1 "_law_flat" ["rows"] S__law_flat) (C__law_key : Cl P w K mg base 1 "_law_key" ["value"] S__law_key) : ∀ n, Cl P w K mg base (1 + n) "_law_value" ["table", "formula"] (S__law_value n)
  | 0 => cl_no D.d__law_value (by decide)
  | n + 1 =>
    have ih : Cl P w K mg base (1 + n) "_law_value" ["table", "formula"] (S__law_value n) := c__law_value D C__law_flat C__law_key n
    cl_of (k := 1 + n) (N := ["table", "formula", "keys", "key", "rows", "part", "name"]) (m := m__law_value (S__law_value n)) D.d__law_value sc__law_value (by decide) fun f cdv A outer s H vs Gs hr gd =>
    have g := gd_of (P := P) (w := w) (K := K) (mg := mg) (base := base) (f := f) (cdv := cdv) (outer := outer) (s := s) (H := H) (io := []) (Gs := Gs) (vs := vs) sc__law_value.nd hr gd
    have nd := sc__law_value.nd
    (xs_cons (xs_if (xb_cmp g .eq false (xe_ix g false (xe_v 1 false) xe_int (.inr (by decide))) xe_str (.inr (by decide)) (by first | exact nomark _ | rfl)).pt (xs_cons (xs_set (i := 4) (show (4 : Nat) ∉ ([] : List Nat) from by decide) nd rfl (.inl rfl) (xe_sorted g (by rfl) D.z_sorted (xl_cons false (xe_cl g C__law_flat hr (show 1 ≤ 1 + n from by omega) (by rfl) (fun _ _ h => h) [] (by decide) (xa_val false (xe_lc (own := [("name", 6)]) g [0, 1, 6] [] (gs_nm (i := 6) (show (6 : Nat) ∉ ([] : List Nat) from by decide)) (blkOk_by (own := [("name", 6)]) (N := ["table", "formula", "keys", "key", "rows", "part", "name"]) (sc := defScope s__law_value) (by decide +kernel)) ⟨by decide, by decide, by decide, by decide, by decide, (.inr (by decide)), (.inr (by decide)), by decide, (show ∀ j ∈ ([] : List Nat), j ∉ ([6] : List Nat) from by decide)⟩ (xi_seq g (xe_ix g false (xe_v 1 false) xe_int (.inr (by decide)))) (fun _ _ _ _ _ => (pg_v 6 nd)) (fun _ _ _ _ _ => yes_of) (fun _ _ _ _ _ => (xe_list g.blk (by rfl) D.z_list (xl_cons false (xe_ix g.blk false (xe_v 0 false) (xe_v 6 false) (.inr (by decide))) xl_nil (.inr (by decide)))))) xa_nil (.inr (by decide)))) xl_nil (.inr (by decide)))))
    (xs_one (xs_ret (xe_ite (xb_cmp g .ge false (xe_len g (by rfl) D.z_len (xl_cons false (xe_v 4 false) xl_nil (.inr (by decide)))) (xe_ix g false (xe_v 1 false) xe_int (.inr (by decide))) (.inr (by decide)) (by first | exact nomark _ | rfl)).pt (xe_ix g false (xe_v 4 false) (xe_bin g .sub false (xe_len g (by rfl) D.z_len (xl_cons false (xe_v 4 false) xl_nil (.inr (by decide)))) (xe_ix g false (xe_v 1 false) xe_int (.inr (by decide))) (.inr (by decide))) (.inr (by decide))) xe_non)))) xs_nil)
    (xs_cons (xs_set (i := 2) (show (2 : Nat) ∉ ([] : List Nat) from by decide) nd rfl (.inl rfl) (xe_sorted g (by rfl) D.z_sorted (xl_cons false (xe_lc (own := [("part", 5)]) g [0, 1, 5] [] (gs_nm (i := 5) (show (5 : Nat) ∉ ([] : List Nat) from by decide)) (blkOk_by (own := [("part", 5)]) (N := ["table", "formula", "keys", "key", "rows", "part", "name"]) (sc := defScope s__law_value) (by decide +kernel)) ⟨by decide, by decide, by decide, by decide, by decide, (.inr (by decide)), (.inr (by decide)), by decide, (show ∀ j ∈ ([] : List Nat), j ∉ ([5] : List Nat) from by decide)⟩ (xi_seq g (xe_ix g false (xe_v 1 false) xe_int (.inr (by decide)))) (fun _ _ _ _ _ => (pg_v 5 nd)) (fun _ _ _ _ _ => yes_of) (fun _ _ _ _ _ => (xe_cl g.blk C__law_key hr (show 1 ≤ 1 + n from by omega) (by rfl) (fun _ _ h => h) [] (by decide) (xa_val false (xe_cl g.blk ih hr (Nat.le_refl _) (by rfl) (fun _ _ h => h) [] (by decide) (xa_r 0 (xa_r 5 xa_nil))) xa_nil (.inr (by decide)))))) xl_nil (.inr (by decide)))))
    (xs_cons (xs_set (i := 3) (show (3 : Nat) ∉ ([] : List Nat) from by decide) nd rfl (.inl rfl) (xe_ix g false (xe_v 2 false) (xe_bin g .sub false (xe_len g (by rfl) D.z_len (xl_cons false (xe_v 2 false) xl_nil (.inr (by decide)))) (xe_ix g false (xe_v 1 false) xe_int (.inr (by decide))) (.inr (by decide))) (.inr (by decide))))
    (xs_one (xs_ret (xe_ite (xb_cmp g .eq false (xe_ix g false (xe_v 3 false) xe_int (.inr (by decide))) xe_int (.inr (by decide)) (by first | exact nomark _ | rfl)).pt xe_non (xe_ix g false (xe_v 3 false) xe_int (.inr (by decide)))))))))
abbrev s__law_alike : Stmt := tp 11
theorem sc__law_alike : FnScope ["found", "due"] ["found", "due"] (defScope s__law_alike) := ⟨rfl, rfl, rfl, by decide +kernel, rfl, by decide +kernel, by decide +kernel⟩
theorem c__law_alike {P : Program} {w : World} {K : PySem.W.Frag} {mg : Str → Option Value} {base : Heap} (D : Facts K mg) : Cl P w K mg base 1 "_law_alike" ["found", "due"] S__law_alike :=
  cl_of (N := ["found", "due"]) (m := m__law_alike) D.d__law_alike sc__law_alike (by decide) fun f cdv A outer s H vs Gs hr gd =>
    have g := gd_of (P := P) (w := w) (K := K) (mg := mg) (base := base) (f := f) (cdv := cdv) (outer := outer) (s := s) (H := H) (io := []) (Gs := Gs) (vs := vs) sc__law_alike.nd hr gd
    have nd := sc__law_alike.nd
    (xs_one (xs_ret (XW.b (xw_and (xb_cmp g .eq false (xe_v 0 false) (xe_v 1 false) (.inr (by decide)) (by first | exact nomark _ | rfl)) (xw_and1 (xb_cmp g .eq false (xe_repr g (by rfl) D.z_repr (xl_cons false (xe_v 0 false) xl_nil (.inr (by decide)))) (xe_repr g (by rfl) D.z_repr (xl_cons false (xe_v 1 false) xl_nil (.inr (by decide)))) (.inr (by decide)) (by first | exact nomark _ | rfl))))).pe))
abbrev s_count_at_least : Stmt := tp 3
theorem sc_count_at_least : FnScope ["house", "table", "lot", "number", "name", "told"] ["house", "table", "lot", "number"] (defScope s_count_at_least) := ⟨rfl, rfl, rfl, by decide +kernel, rfl, by decide +kernel, by decide +kernel⟩
theorem c_count_at_least {P : Program} {w : World} {K : PySem.W.Frag} {mg : Str → Option Value} {base : Heap} (D : Facts K mg) : Cl P w K mg base 1 "count_at_least" ["house", "table", "lot", "number"] S_count_at_least :=
  cl_of (N := ["house", "table", "lot", "number", "name", "told"]) (m := m_count_at_least) D.d_count_at_least sc_count_at_least (by decide) fun f cdv A outer s H vs Gs hr gd =>
    have g := gd_of (P := P) (w := w) (K := K) (mg := mg) (base := base) (f := f) (cdv := cdv) (outer := outer) (s := s) (H := H) (io := []) (Gs := Gs) (vs := vs) sc_count_at_least.nd hr gd
    have nd := sc_count_at_least.nd
    (xs_one (xs_ret (xe_len g (by rfl) D.z_len (xl_cons false (xe_lc2 (own := [("name", 4), ("told", 5)]) (vs1 := [5]) g [1, 2, 4] [] (gs_nm (i := 4) (show (4 : Nat) ∉ ([] : List Nat) from by decide)) (gs_nm (i := 5) (show (5 : Nat) ∉ ([] : List Nat) from by decide)) (blkOk_by (own := [("name", 4), ("told", 5)]) (N := ["house", "table", "lot", "number", "name", "told"]) (sc := defScope s_count_at_least) (by decide +kernel)) ⟨⟨by decide, by decide, by decide, by decide, by decide, (.inr (by decide)), (.inr (by decide)), by decide, (show ∀ j ∈ ([] : List Nat), j ∉ ([4, 5] : List Nat) from by decide)⟩, by decide, by decide, (.inr (by decide)), by decide, by decide⟩ (xi_seq g (xe_v 2 false)) (fun _ _ _ _ _ => (pg_v 4 nd)) (fun _ _ _ _ _ => yes_of) (fun _ _ _ _ _ => (xi_seq g.blk (xe_ix g.blk false (xe_v 1 false) (xe_v 4 false) (.inr (by decide))))) (fun _ _ _ _ _ => (pg_v 5 nd)) (fun _ _ _ _ _ => (pts_one (xb_cmp g.blk .ge false (xe_v 5 false) (xe_v 3 false) (.inr (by decide)) (by first | exact nomark _ | rfl)).pt)) (fun _ _ _ _ _ => xe_int)) xl_nil (.inr (by decide))))))
abbrev s__law_count : Stmt := tp 27
theorem sc__law_count : FnScope ["table", "lot", "number", "row", "name"] ["table", "lot", "number"] (defScope s__law_count) := ⟨rfl, rfl, rfl, by decide +kernel, rfl, by decide +kernel, by decide +kernel⟩
theorem c__law_count {P : Program} {w : World} {K : PySem.W.Frag} {mg : Str → Option Value} {base : Heap} (D : Facts K mg) (C__law_flat : Cl P w K mg base 1 "_law_flat" ["rows"] S__law_flat) : Cl P w K mg base 2 "_law_count" ["table", "lot", "number"] S__law_count :=
  cl_of (N := ["table", "lot", "number", "row", "name"]) (m := m__law_count) D.d__law_count sc__law_count (by decide) fun f cdv A outer s H vs Gs hr gd =>
    have g := gd_of (P := P) (w := w) (K := K) (mg := mg) (base := base) (f := f) (cdv := cdv) (outer := outer) (s := s) (H := H) (io := []) (Gs := Gs) (vs := vs) sc__law_count.nd hr gd
    have nd := sc__law_count.nd
    (xs_one (xs_ret (xe_len g (by rfl) D.z_len (xl_cons false (xe_lc (own := [("row", 3)]) g [0, 1, 3, 4] [] (gs_nm (i := 3) (show (3 : Nat) ∉ ([] : List Nat) from by decide)) (blkOk_by (own := [("row", 3)]) (N := ["table", "lot", "number", "row", "name"]) (sc := defScope s__law_count) (by decide +kernel)) ⟨by decide, by decide, by decide, by decide, by decide, (.inr (by decide)), (.inr (by decide)), by decide, (show ∀ j ∈ ([] : List Nat), j ∉ ([3] : List Nat) from by decide)⟩ (xi_seq g (xe_cl g C__law_flat hr (by decide) (by rfl) (fun _ _ h => h) [] (by decide) (xa_val false (xe_lc (own := [("name", 4)]) g [0, 1, 4] [] (gs_nm (i := 4) (show (4 : Nat) ∉ ([] : List Nat) from by decide)) (blkOk_by (own := [("name", 4)]) (N := ["table", "lot", "number", "row", "name"]) (sc := defScope s__law_count) (by decide +kernel)) ⟨by decide, by decide, by decide, by decide, by decide, (.inr (by decide)), (.inr (by decide)), by decide, (show ∀ j ∈ ([] : List Nat), j ∉ ([4] : List Nat) from by decide)⟩ (xi_seq g (xe_v 1 false)) (fun _ _ _ _ _ => (pg_v 4 nd)) (fun _ _ _ _ _ => yes_of) (fun _ _ _ _ _ => (xe_list g.blk (by rfl) D.z_list (xl_cons false (xe_ix g.blk false (xe_v 0 false) (xe_v 4 false) (.inr (by decide))) xl_nil (.inr (by decide)))))) xa_nil (.inr (by decide))))) (fun _ _ _ _ _ => (pg_v 3 nd)) (fun _ _ _ _ _ => (pts_one (xb_cmp g.blk .ge false (xe_v 3 false) (xe_v 2 false) (.inr (by decide)) (by first | exact nomark _ | rfl)).pt)) (fun _ _ _ _ _ => (xe_v 3 false))) xl_nil (.inr (by decide))))))
abbrev s_sizes_of : Stmt := tp 4
theorem sc_sizes_of : FnScope ["house", "table", "sort"] ["house", "table"] (defScope s_sizes_of) := ⟨rfl, rfl, rfl, by decide +kernel, rfl, by decide +kernel, by decide +kernel⟩
theorem c_sizes_of {P : Program} {w : World} {K : PySem.W.Frag} {mg : Str → Option Value} {base : Heap} (D : Facts K mg) : Cl P w K mg base 1 "sizes_of" ["house", "table"] S_sizes_of :=
  cl_of (N := ["house", "table", "sort"]) (m := m_sizes_of) D.d_sizes_of sc_sizes_of (by decide) fun f cdv A outer s H vs Gs hr gd =>
    have g := gd_of (P := P) (w := w) (K := K) (mg := mg) (base := base) (f := f) (cdv := cdv) (outer := outer) (s := s) (H := H) (io := []) (Gs := Gs) (vs := vs) sc_sizes_of.nd hr gd
    have nd := sc_sizes_of.nd
    (xs_one (xs_ret (xe_tuple g (by rfl) D.z_tuple (xl_cons false (xe_lc (own := [("sort", 2)]) g [0, 1, 2] [] (gs_nm (i := 2) (show (2 : Nat) ∉ ([] : List Nat) from by decide)) (blkOk_by (own := [("sort", 2)]) (N := ["house", "table", "sort"]) (sc := defScope s_sizes_of) (by decide +kernel)) ⟨by decide, by decide, by decide, by decide, by decide, (.inr (by decide)), (.inr (by decide)), by decide, (show ∀ j ∈ ([] : List Nat), j ∉ ([2] : List Nat) from by decide)⟩ (xi_seq g (xe_v 0 false)) (fun _ _ _ _ _ => (pg_v 2 nd)) (fun _ _ _ _ _ => yes_of) (fun _ _ _ _ _ => (xe_len g.blk (by rfl) D.z_len (xl_cons false (xe_ix g.blk false (xe_v 1 false) (xe_ix g.blk false (xe_v 2 false) xe_int (.inr (by decide))) (.inr (by decide))) xl_nil (.inr (by decide)))))) xl_nil (.inr (by decide))))))
abbrev s__law_sizes : Stmt := tp 19
theorem sc__law_sizes : FnScope ["house", "table", "sort"] ["house", "table"] (defScope s__law_sizes) := ⟨rfl, rfl, rfl, by decide +kernel, rfl, by decide +kernel, by decide +kernel⟩
theorem c__law_sizes {P : Program} {w : World} {K : PySem.W.Frag} {mg : Str → Option Value} {base : Heap} (D : Facts K mg) : Cl P w K mg base 1 "_law_sizes" ["house", "table"] S__law_sizes :=
  cl_of (N := ["house", "table", "sort"]) (m := m__law_sizes) D.d__law_sizes sc__law_sizes (by decide) fun f cdv A outer s H vs Gs hr gd =>
    have g := gd_of (P := P) (w := w) (K := K) (mg := mg) (base := base) (f := f) (cdv := cdv) (outer := outer) (s := s) (H := H) (io := []) (Gs := Gs) (vs := vs) sc__law_sizes.nd hr gd
    have nd := sc__law_sizes.nd
    (xs_one (xs_ret (xe_tuple g (by rfl) D.z_tuple (xl_cons false (xe_lc (own := [("sort", 2)]) g [0, 1, 2] [] (gs_nm (i := 2) (show (2 : Nat) ∉ ([] : List Nat) from by decide)) (blkOk_by (own := [("sort", 2)]) (N := ["house", "table", "sort"]) (sc := defScope s__law_sizes) (by decide +kernel)) ⟨by decide, by decide, by decide, by decide, by decide, (.inr (by decide)), (.inr (by decide)), by decide, (show ∀ j ∈ ([] : List Nat), j ∉ ([2] : List Nat) from by decide)⟩ (xi_seq g (xe_v 0 false)) (fun _ _ _ _ _ => (pg_v 2 nd)) (fun _ _ _ _ _ => yes_of) (fun _ _ _ _ _ => (xe_len g.blk (by rfl) D.z_len (xl_cons false (xe_ix g.blk false (xe_v 1 false) (xe_ix g.blk false (xe_v 2 false) xe_int (.inr (by decide))) (.inr (by decide))) xl_nil (.inr (by decide)))))) xl_nil (.inr (by decide))))))
abbrev s_kth_greatest : Stmt := tp 1
theorem sc_kth_greatest : FnScope ["values", "k", "integers", "value"] ["values", "k"] (defScope s_kth_greatest) := ⟨rfl, rfl, rfl, by decide +kernel, rfl, by decide +kernel, by decide +kernel⟩
theorem c_kth_greatest {P : Program} {w : World} {K : PySem.W.Frag} {mg : Str → Option Value} {base : Heap} (D : Facts K mg) : Cl P w K mg base 1 "kth_greatest" ["values", "k"] S_kth_greatest :=
  cl_of (N := ["values", "k", "integers", "value"]) (m := m_kth_greatest) D.d_kth_greatest sc_kth_greatest (by decide) fun f cdv A outer s H vs Gs hr gd =>
    have g := gd_of (P := P) (w := w) (K := K) (mg := mg) (base := base) (f := f) (cdv := cdv) (outer := outer) (s := s) (H := H) (io := []) (Gs := Gs) (vs := vs) sc_kth_greatest.nd hr gd
    have nd := sc_kth_greatest.nd
    (xs_cons (xs_set (i := 2) (show (2 : Nat) ∉ ([] : List Nat) from by decide) nd rfl (.inl rfl) (xe_sortedRv g (by rfl) D.z_sorted (xe_lc (own := [("value", 3)]) g [0, 3] [] (gs_nm (i := 3) (show (3 : Nat) ∉ ([] : List Nat) from by decide)) (blkOk_by (own := [("value", 3)]) (N := ["values", "k", "integers", "value"]) (sc := defScope s_kth_greatest) (by decide +kernel)) ⟨by decide, by decide, by decide, by decide, by decide, (.inr (by decide)), (.inr (by decide)), by decide, (show ∀ j ∈ ([] : List Nat), j ∉ ([3] : List Nat) from by decide)⟩ (xi_seq g (xe_v 0 false)) (fun _ _ _ _ _ => (pg_v 3 nd)) (fun _ _ _ _ _ => (pts_one (xb_isnot (xe_v 3 false)).pt)) (fun _ _ _ _ _ => (xe_v 3 false)))))
    (xs_one (xs_ret (xe_ite (xb_cmp g .le false (xe_v 1 false) (xe_len g (by rfl) D.z_len (xl_cons false (xe_v 2 false) xl_nil (.inr (by decide)))) (.inr (by decide)) (by first | exact nomark _ | rfl)).pt (xe_ix g false (xe_v 2 false) (xe_bin g .sub false (xe_v 1 false) xe_int (.inr (by decide))) (.inr (by decide))) xe_non))))
abbrev s_value_of : Stmt := tp 2
theorem sc_value_of : FnScope ["house", "table", "formula", "_", "k", "formulas", "lot", "part", "name", "number"] ["house", "table", "formula"] (defScope s_value_of) := ⟨rfl, rfl, rfl, by decide +kernel, rfl, by decide +kernel, by decide +kernel⟩
theorem c_value_of {P : Program} {w : World} {K : PySem.W.Frag} {mg : Str → Option Value} {base : Heap} (D : Facts K mg) (C_kth_greatest : Cl P w K mg base 1 "kth_greatest" ["values", "k"] S_kth_greatest) : ∀ n, Cl P w K mg base (1 + n) "value_of" ["house", "table", "formula"] (S_value_of n)
  | 0 => cl_no D.d_value_of (by decide)
  | n + 1 =>
    have ih : Cl P w K mg base (1 + n) "value_of" ["house", "table", "formula"] (S_value_of n) := c_value_of D C_kth_greatest n
    cl_of (k := 1 + n) (N := ["house", "table", "formula", "_", "k", "formulas", "lot", "part", "name", "number"]) (m := m_value_of (S_value_of n)) D.d_value_of sc_value_of (by decide) fun f cdv A outer s H vs Gs hr gd =>
    have g := gd_of (P := P) (w := w) (K := K) (mg := mg) (base := base) (f := f) (cdv := cdv) (outer := outer) (s := s) (H := H) (io := []) (Gs := Gs) (vs := vs) sc_value_of.nd hr gd
    have nd := sc_value_of.nd
    (xs_cons (xs_if (xb_cmp g .eq false (xe_ix g false (xe_v 2 false) xe_int (.inr (by decide))) xe_str (.inr (by decide)) (by first | exact nomark _ | rfl)).pt (xs_cons (xs_asg (gs_tup rfl (gs_cons (gs_nm (i := 3) (show (3 : Nat) ∉ ([] : List Nat) from by decide)) (gs_cons (gs_nm (i := 6) (show (6 : Nat) ∉ ([] : List Nat) from by decide)) (gs_cons (gs_nm (i := 4) (show (4 : Nat) ∉ ([] : List Nat) from by decide)) gs_nil))) rfl) (xe_v 2 false) (pg_tup rfl (pgs_cons (pg_v 3 nd) (pgs_cons (pg_v 6 nd) (pgs_cons (pg_v 4 nd) pgs_nil)))))
    (xs_one (xs_ret (xe_cl g C_kth_greatest hr (show 1 ≤ 1 + n from by omega) (by rfl) (fun _ _ h => h) [] (by decide) (xa_val false (xe_lc2 (own := [("name", 8), ("number", 9)]) (vs1 := [9]) g [1, 6, 8, 9] [] (gs_nm (i := 8) (show (8 : Nat) ∉ ([] : List Nat) from by decide)) (gs_nm (i := 9) (show (9 : Nat) ∉ ([] : List Nat) from by decide)) (blkOk_by (own := [("name", 8), ("number", 9)]) (N := ["house", "table", "formula", "_", "k", "formulas", "lot", "part", "name", "number"]) (sc := defScope s_value_of) (by decide +kernel)) ⟨⟨by decide, by decide, by decide, by decide, by decide, (.inr (by decide)), (.inr (by decide)), by decide, (show ∀ j ∈ ([] : List Nat), j ∉ ([8, 9] : List Nat) from by decide)⟩, by decide, by decide, (.inr (by decide)), by decide, by decide⟩ (xi_seq g (xe_v 6 false)) (fun _ _ _ _ _ => (pg_v 8 nd)) (fun _ _ _ _ _ => yes_of) (fun _ _ _ _ _ => (xi_seq g.blk (xe_ix g.blk false (xe_v 1 false) (xe_v 8 false) (.inr (by decide))))) (fun _ _ _ _ _ => (pg_v 9 nd)) (fun _ _ _ _ _ => yes_of) (fun _ _ _ _ _ => (xe_v 9 false))) (xa_r 4 xa_nil) (.inr (by decide))))))) xs_nil)
    (xs_cons (xs_asg (gs_tup rfl (gs_cons (gs_nm (i := 3) (show (3 : Nat) ∉ ([] : List Nat) from by decide)) (gs_cons (gs_nm (i := 4) (show (4 : Nat) ∉ ([] : List Nat) from by decide)) (gs_cons (gs_nm (i := 5) (show (5 : Nat) ∉ ([] : List Nat) from by decide)) gs_nil))) rfl) (xe_v 2 false) (pg_tup rfl (pgs_cons (pg_v 3 nd) (pgs_cons (pg_v 4 nd) (pgs_cons (pg_v 5 nd) pgs_nil)))))
    (xs_one (xs_ret (xe_cl g C_kth_greatest hr (show 1 ≤ 1 + n from by omega) (by rfl) (fun _ _ h => h) [] (by decide) (xa_val false (xe_lc (own := [("part", 7)]) g [0, 1, 5, 7] [] (gs_nm (i := 7) (show (7 : Nat) ∉ ([] : List Nat) from by decide)) (blkOk_by (own := [("part", 7)]) (N := ["house", "table", "formula", "_", "k", "formulas", "lot", "part", "name", "number"]) (sc := defScope s_value_of) (by decide +kernel)) ⟨by decide, by decide, by decide, by decide, by decide, (.inr (by decide)), (.inr (by decide)), by decide, (show ∀ j ∈ ([] : List Nat), j ∉ ([7] : List Nat) from by decide)⟩ (xi_seq g (xe_v 5 false)) (fun _ _ _ _ _ => (pg_v 7 nd)) (fun _ _ _ _ _ => yes_of) (fun _ _ _ _ _ => (xe_cl g.blk ih hr (Nat.le_refl _) (by rfl) (fun _ _ h => h) [] (by decide) (xa_r 0 (xa_r 1 (xa_r 7 xa_nil)))))) (xa_r 4 xa_nil) (.inr (by decide))))))))
abbrev s__law_table_right : Stmt := tp 28
theorem sc__law_table_right : FnScope ["bag", "house", "table", "formulas", "due", "again", "number", "numbers", "said", "known", "lot", "formula"] ["bag", "house", "table", "formulas"] (defScope s__law_table_right) := ⟨rfl, rfl, rfl, by decide +kernel, rfl, by decide +kernel, by decide +kernel⟩
theorem c__law_table_right {P : Program} {w : World} {K : PySem.W.Frag} {mg : Str → Option Value} {base : Heap} (D : Facts K mg) (C__law_alike : Cl P w K mg base 1 "_law_alike" ["found", "due"] S__law_alike) (C__law_count : Cl P w K mg base 2 "_law_count" ["table", "lot", "number"] S__law_count) (C__law_known : Cl P w K mg base 2 "_law_known" ["table"] S__law_known) (C__law_lot : Cl P w K mg base 3 "_law_lot" ["bag", "house"] S__law_lot) (C__law_sizes : Cl P w K mg base 1 "_law_sizes" ["house", "table"] S__law_sizes) (C__law_value : ∀ n, Cl P w K mg base (1 + n) "_law_value" ["table", "formula"] (S__law_value n)) (C_all_numbers : Cl P w K mg base 1 "all_numbers" ["table"] S_all_numbers) (C_count_at_least : Cl P w K mg base 1 "count_at_least" ["house", "table", "lot", "number"] S_count_at_least) (C_sizes_of : Cl P w K mg base 1 "sizes_of" ["house", "table"] S_sizes_of) (C_value_of : ∀ n, Cl P w K mg base (1 + n) "value_of" ["house", "table", "formula"] (S_value_of n)) : Cl P w K mg base 14 "_law_table_right" ["bag", "house", "table", "formulas"] S__law_table_right :=
  cl_of (N := ["bag", "house", "table", "formulas", "due", "again", "number", "numbers", "said", "known", "lot", "formula"]) (m := m__law_table_right) D.d__law_table_right sc__law_table_right (by decide) fun f cdv A outer s H vs Gs hr gd =>
    have g := gd_of (P := P) (w := w) (K := K) (mg := mg) (base := base) (f := f) (cdv := cdv) (outer := outer) (s := s) (H := H) (io := [0]) (Gs := Gs) (vs := vs) sc__law_table_right.nd hr gd
    have nd := sc__law_table_right.nd
    (xs_cons (xs_par (i := 8) (j := 9) (show (8 : Nat) ∉ ([0] : List Nat) from by decide) (show (9 : Nat) ∉ ([0] : List Nat) from by decide) g rfl rfl (by decide) rfl rfl (xl_cons false (xe_repr g (by rfl) D.z_repr (xl_cons false (xe_tup (xl_cons false (xe_v 1 false) (xl_cons false (xe_v 2 false) (xl_cons false (xe_v 3 false) xl_nil (.inr (by decide))) (.inr (by decide))) (.inr (by decide)))) xl_nil (.inr (by decide)))) (xl_cons false (xe_cl g C__law_known hr (by decide) (by rfl) (fun _ _ h => h) [] (by decide) (xa_r 2 xa_nil)) xl_nil (.inr (by decide))) (.inr (by decide))) rfl)
    (xs_cons (xs_setLc (i := 4) g [2, 3, 11] [] (show (4 : Nat) ∉ ([0] : List Nat) from by decide) rfl rfl (sw_true rfl rfl rfl (by decide +kernel)) (gs_nm (i := 11) (show (11 : Nat) ∉ ([0] : List Nat) from by decide)) (blkOk_by (own := [("formula", 11)]) (N := ["bag", "house", "table", "formulas", "due", "again", "number", "numbers", "said", "known", "lot", "formula"]) (sc := defScope s__law_table_right) (by decide +kernel)) ⟨by decide, by decide, by decide, by decide, by decide, (.inr (by decide)), (.inr (by decide)), by decide, (show ∀ j ∈ ([0] : List Nat), j ∉ ([11] : List Nat) from by decide)⟩ (xi_seq g (xe_v 3 false)) (fun _ _ _ _ _ => (pg_v 11 nd)) (fun _ _ _ _ _ => yes_of) (fun _ _ _ _ _ => (xe_cl g.blk (C__law_value 12) hr (by decide) (by rfl) (fun _ _ h => h) [] (by decide) (xa_r 2 (xa_r 11 xa_nil)))))
    (xs_cons (xs_for PassesOwn.never rfl (gs_nm (i := 5) (show (5 : Nat) ∉ ([0] : List Nat) from by decide)) (xi_rng1 (by rfl) D.z_range xe_int) (pg_v 5 nd) (xs_one (xs_if (xt_not (xt_tb (xe_cl g C__law_alike hr (by decide) (by rfl) (fun _ _ h => h) [] (by decide) (xa_val false (xe_lc (own := [("formula", 11)]) g [1, 2, 3, 11] [] (gs_nm (i := 11) (show (11 : Nat) ∉ ([0] : List Nat) from by decide)) (blkOk_by (own := [("formula", 11)]) (N := ["bag", "house", "table", "formulas", "due", "again", "number", "numbers", "said", "known", "lot", "formula"]) (sc := defScope s__law_table_right) (by decide +kernel)) ⟨by decide, by decide, by decide, by decide, by decide, (.inr (by decide)), (.inr (by decide)), by decide, (show ∀ j ∈ ([0] : List Nat), j ∉ ([11] : List Nat) from by decide)⟩ (xi_seq g (xe_v 3 false)) (fun _ _ _ _ _ => (pg_v 11 nd)) (fun _ _ _ _ _ => yes_of) (fun _ _ _ _ _ => (xe_cl g.blk (C_value_of 12) hr (by decide) (by rfl) (fun _ _ h => h) [] (by decide) (xa_r 1 (xa_r 2 (xa_r 11 xa_nil)))))) (xa_r 4 xa_nil) (.inr (by decide)))))) (xs_one (xs_ret xe_bl)) xs_nil)))
    (xs_cons (xs_for PassesOwn.never rfl (gs_nm (i := 6) (show (6 : Nat) ∉ ([0] : List Nat) from by decide)) (xi_seq g (xe_ite (xb_cmp g .ne false (xe_v 9 false) (xe_lst xl_nil) (.inr (by decide)) (by first | exact nomark _ | rfl)).pt (xe_bin g .add false (xe_v 9 false) (xe_lst (xl_cons false (xe_bin g .sub false (xe_ix g false (xe_v 9 false) xe_int (.inr (by decide))) xe_int (.inr (by decide))) (xl_cons false (xe_bin g .add false (xe_ix g false (xe_v 9 false) (xe_neg xe_int) (.inr (by decide))) xe_int (.inr (by decide))) xl_nil (.inr (by decide))) (.inr (by decide)))) (.inr (by decide))) (xe_lst (xl_cons false xe_int (xl_cons false (xe_neg xe_int) xl_nil (.inr (by decide))) (.inr (by decide)))))) (pg_v 6 nd) (xs_cons (xs_set (i := 10) (show (10 : Nat) ∉ ([0] : List Nat) from by decide) nd rfl (.inl rfl) (xe_cl g C__law_lot hr (by decide) (by rfl) (fun _ _ h => h) [0] (by decide) (xa_r 0 (xa_r 1 xa_nil))))
    (xs_one (xs_if (xt_not (xt_tb (xe_cl g C__law_alike hr (by decide) (by rfl) (fun _ _ h => h) [] (by decide) (xa_val false (xe_cl g C_count_at_least hr (by decide) (by rfl) (fun _ _ h => h) [] (by decide) (xa_r 1 (xa_r 2 (xa_r 10 (xa_r 6 xa_nil))))) (xa_val false (xe_cl g C__law_count hr (by decide) (by rfl) (fun _ _ h => h) [] (by decide) (xa_r 2 (xa_r 10 (xa_r 6 xa_nil)))) xa_nil (.inr (by decide))) (.inr (by decide)))))) (xs_one (xs_ret xe_bl)) xs_nil))))
    (xs_cons (xs_set (i := 7) (show (7 : Nat) ∉ ([0] : List Nat) from by decide) nd rfl (.inl rfl) (xe_cl g C_all_numbers hr (by decide) (by rfl) (fun _ _ h => h) [] (by decide) (xa_r 2 xa_nil)))
    (xs_cons (xs_if (xt_not (xt_tb (xe_cl g C__law_alike hr (by decide) (by rfl) (fun _ _ h => h) [] (by decide) (xa_val false (xe_lst (xl_cons false (xe_cl g C_sizes_of hr (by decide) (by rfl) (fun _ _ h => h) [] (by decide) (xa_r 1 (xa_r 2 xa_nil))) (xl_cons false (xe_v 7 false) xl_nil (.inr (by decide))) (.inr (by decide)))) (xa_val false (xe_lst (xl_cons false (xe_cl g C__law_sizes hr (by decide) (by rfl) (fun _ _ h => h) [] (by decide) (xa_r 1 (xa_r 2 xa_nil))) (xl_cons false (xe_v 9 false) xl_nil (.inr (by decide))) (.inr (by decide)))) xa_nil (.inr (by decide))) (.inr (by decide)))))) (xs_one (xs_ret xe_bl)) xs_nil)
    (xs_cons (xs_app (i := 7) g rfl (by first | exact Or.inl rfl | exact Or.inr (Or.inl rfl) | exact Or.inr (Or.inr rfl)) xe_non)
    (xs_one (xs_ret (XW.b (xw_and (xb_val (xe_cl g C__law_alike hr (by decide) (by rfl) (fun _ _ h => h) [] (by decide) (xa_val false (xe_cl g C_all_numbers hr (by decide) (by rfl) (fun _ _ h => h) [] (by decide) (xa_r 2 xa_nil)) (xa_r 9 xa_nil) (.inr (by decide))))) (xw_and1 (xb_cmp g .eq false (xe_repr g (by rfl) D.z_repr (xl_cons false (xe_tup (xl_cons false (xe_v 1 false) (xl_cons false (xe_v 2 false) (xl_cons false (xe_v 3 false) xl_nil (.inr (by decide))) (.inr (by decide))) (.inr (by decide)))) xl_nil (.inr (by decide)))) (xe_v 8 false) (.inr (by decide)) (by first | exact nomark _ | rfl))))).pe)))))))))
abbrev s_law : Stmt := tp 29
theorem sc_law : FnScope ["script", "bag", "more", "house", "table", "formulas", "k"] ["script"] (defScope s_law) := ⟨rfl, rfl, rfl, by decide +kernel, rfl, by decide +kernel, by decide +kernel⟩
theorem c_law {P : Program} {w : World} {K : PySem.W.Frag} {mg : Str → Option Value} {base : Heap} (D : Facts K mg) (C__law_any_formula : Cl P w K mg base 17 "_law_any_formula" ["bag", "house"] S__law_any_formula) (C__law_bag : Cl P w K mg base 1 "_law_bag" ["script"] S__law_bag) (C__law_house : Cl P w K mg base 4 "_law_house" ["bag", "most"] S__law_house) (C__law_numbers : Cl P w K mg base 3 "_law_numbers" ["bag"] S__law_numbers) (C__law_one : Cl P w K mg base 2 "_law_one" ["bag", "things"] S__law_one) (C__law_rank : Cl P w K mg base 4 "_law_rank" ["bag", "house", "most"] S__law_rank) (C__law_table : Cl P w K mg base 3 "_law_table" ["bag", "house", "pool", "more"] S__law_table) (C__law_table_right : Cl P w K mg base 14 "_law_table_right" ["bag", "house", "table", "formulas"] S__law_table_right) (C__law_take : Cl P w K mg base 1 "_law_take" ["bag", "many"] S__law_take) : Cl P w K mg base 18 "law" ["script"] S_law :=
  cl_of (N := ["script", "bag", "more", "house", "table", "formulas", "k"]) (m := m_law) D.d_law sc_law (by decide) fun f cdv A outer s H vs Gs hr gd =>
    have g := gd_of (P := P) (w := w) (K := K) (mg := mg) (base := base) (f := f) (cdv := cdv) (outer := outer) (s := s) (H := H) (io := []) (Gs := Gs) (vs := vs) sc_law.nd hr gd
    have nd := sc_law.nd
    (xs_cons (xs_set (i := 1) (show (1 : Nat) ∉ ([] : List Nat) from by decide) nd rfl (.inr rfl) (xe_cl g C__law_bag hr (by decide) (by rfl) (fun _ _ h => h) [] (by decide) (xa_r 0 xa_nil)))
    (xs_cons (xs_for PassesOwn.never rfl (gs_nm (i := 2) (show (2 : Nat) ∉ ([] : List Nat) from by decide)) (xi_seq g (xe_tup (xl_cons false xe_int (xl_cons false xe_int (xl_cons false xe_int (xl_cons false (xe_cl g C__law_take hr (by decide) (by rfl) (fun _ _ h => h) [1] (by decide) (xa_r 1 (xa_val false xe_int xa_nil (.inr (by decide))))) (xl_cons false xe_int (xl_cons false xe_int (xl_cons false xe_int (xl_cons false xe_int xl_nil (.inr (by decide))) (.inr (by decide))) (.inr (by decide))) (.inr (by decide))) (.inr (by decide))) (.inr (by decide))) (.inr (by decide))) (.inr (by decide))))) (pg_v 2 nd) (xs_cons (xs_set (i := 3) (show (3 : Nat) ∉ ([] : List Nat) from by decide) nd rfl (.inr rfl) (xe_cl g C__law_house hr (by decide) (by rfl) (fun _ _ h => h) [1] (by decide) (xa_r 1 (xa_val false (xe_cl g C__law_one hr (by decide) (by rfl) (fun _ _ h => h) [1] (by decide) (xa_r 1 (xa_val false (xe_lst (xl_cons false xe_int (xl_cons false xe_int (xl_cons false xe_int xl_nil (.inr (by decide))) (.inr (by decide))) (.inr (by decide)))) xa_nil (.inr (by decide))))) xa_nil (.inr (by decide))))))
    (xs_cons (xs_set (i := 4) (show (4 : Nat) ∉ ([] : List Nat) from by decide) nd rfl (.inl rfl) (xe_cl g C__law_table hr (by decide) (by rfl) (fun _ _ h => h) [1] (by decide) (xa_r 1 (xa_r 3 (xa_val false (xe_cl g C__law_numbers hr (by decide) (by rfl) (fun _ _ h => h) [1] (by decide) (xa_r 1 xa_nil)) (xa_r 2 xa_nil) (.inr (by decide)))))))
    (xs_cons (xs_setLc (i := 5) g [1, 3] [1] (show (5 : Nat) ∉ ([] : List Nat) from by decide) rfl rfl (sw_true rfl rfl rfl (by decide +kernel)) (gs_nm (i := 6) (show (6 : Nat) ∉ ([] : List Nat) from by decide)) (blkOk_by (own := [("k", 6)]) (N := ["script", "bag", "more", "house", "table", "formulas", "k"]) (sc := defScope s_law) (by decide +kernel)) ⟨by decide, by decide, by decide, by decide, by decide, (.inr (by decide)), (.inl rfl), by decide, (show ∀ j ∈ ([] : List Nat), j ∉ ([6] : List Nat) from by decide)⟩ (xi_rng1 (by rfl) D.z_range xe_int) (fun _ _ _ _ _ => (pg_v 6 nd)) (fun _ _ _ _ _ => yes_of) (fun _ _ _ _ _ => (xe_cl g.blk C__law_any_formula hr (by decide) (by rfl) (fun _ _ h => h) [1] (by decide) (xa_r 1 (xa_r 3 xa_nil)))))
    (xs_cons (xs_set (i := 5) (show (5 : Nat) ∉ ([] : List Nat) from by decide) nd rfl (.inl rfl) (xe_bin g .add false (xe_v 5 false) (xe_lst (xl_cons false (xe_tup (xl_cons false xe_str (xl_cons true (xe_cl g C__law_one hr (by decide) (by rfl) (fun _ _ h => h) [1] (by decide) (xa_r 1 (xa_val false (xe_lst (xl_cons false xe_int (xl_cons false xe_int (xl_cons false xe_int xl_nil (.inr (by decide))) (.inr (by decide))) (.inr (by decide)))) xa_nil (.inr (by decide))))) (xl_cons false (xe_tuple g (by rfl) D.z_tuple (xl_cons false (xe_lc (own := [("k", 6)]) g [1, 3] [1] (gs_nm (i := 6) (show (6 : Nat) ∉ ([] : List Nat) from by decide)) (blkOk_by (own := [("k", 6)]) (N := ["script", "bag", "more", "house", "table", "formulas", "k"]) (sc := defScope s_law) (by decide +kernel)) ⟨by decide, by decide, by decide, by decide, by decide, (.inr (by decide)), (.inl rfl), by decide, (show ∀ j ∈ ([] : List Nat), j ∉ ([6] : List Nat) from by decide)⟩ (xi_rng1 (by rfl) D.z_range xe_int) (fun _ _ _ _ _ => (pg_v 6 nd)) (fun _ _ _ _ _ => yes_of) (fun _ _ _ _ _ => (xe_cl g.blk C__law_rank hr (by decide) (by rfl) (fun _ _ h => h) [1] (by decide) (xa_r 1 (xa_r 3 (xa_val false xe_int xa_nil (.inr (by decide)))))))) xl_nil (.inr (by decide)))) xl_nil (.inr (by decide))) (.inl rfl)) (.inr (by decide)))) xl_nil (.inr (by decide)))) (.inr (by decide))))
    (xs_one (xs_if (xt_not (xt_tb (xe_cl g C__law_table_right hr (by decide) (by rfl) (fun _ _ h => h) [1] (by decide) (xa_r 1 (xa_r 3 (xa_r 4 (xa_r 5 xa_nil))))))) (xs_one (xs_ret xe_bl)) xs_nil)))))))
    (xs_one (xs_ret xe_bl))))
end CF.K02
/-! HK02: what the top has laid for the law. -/
namespace CF.K02
open PySem PySem.Spec PyProof.Rows L2 CF
def fns : List He.DefD := [dd "_law_bag" (tp 7), dd "_law_take" (tp 8), dd "_law_one" (tp 9), dd "_law_sort" (tp 14), dd "_law_mixed" (tp 10), dd "_law_names" (tp 13), dd "_law_house" (tp 15), dd "_law_size" (tp 17), dd "_law_table" (tp 18), dd "_law_numbers" (tp 16), dd "_law_lot" (tp 21), dd "_law_rank" (tp 22), dd "_law_formula" (tp 23), dd "_law_any_formula" (tp 24), dd "all_numbers" (tp 5), dd "_law_flat" (tp 12), dd "_law_known" (tp 20), dd "_law_key" (tp 25), dd "_law_value" (tp 26), dd "_law_alike" (tp 11), dd "count_at_least" (tp 3), dd "_law_count" (tp 27), dd "sizes_of" (tp 4), dd "_law_sizes" (tp 19), dd "kth_greatest" (tp 1), dd "value_of" (tp 2), dd "_law_table_right" (tp 28), dd "law" (tp 29)]
def fas : List He.Fa := [.glo "_law_bag", .glo "_law_take", .glo "_law_one", .glo "_law_sort", .glo "_law_mixed", .glo "_law_names", .glo "_law_house", .glo "_law_size", .glo "_law_table", .glo "_law_numbers", .glo "_law_lot", .glo "_law_rank", .glo "_law_formula", .glo "_law_any_formula", .glo "all_numbers", .glo "_law_flat", .glo "_law_known", .glo "_law_key", .glo "_law_value", .glo "_law_alike", .glo "count_at_least", .glo "_law_count", .glo "sizes_of", .glo "_law_sizes", .glo "kth_greatest", .glo "value_of", .glo "_law_table_right", .glo "law", .free "abs", .free "int", .free "len", .free "list", .free "min", .free "range", .free "repr", .free "set", .free "sorted", .free "tuple"]
theorem facts_of {K : PySem.W.Frag} {mg : Str → Option Value} {h : Heap} (X : K.In h) (G : h.Ns mainGlobals mg) (c : He.SaysD fas fns K) : Facts K mg where
  d__law_bag := defF_of X G (c.def_ 0 (d := dd "_law_bag" (tp 7)) rfl) (c.fact 0 (f := .glo "_law_bag") rfl) fun _ _ _ _ _ _ us hl => match us, hl with | [_], _ => rfl
  d__law_take := defF_of X G (c.def_ 1 (d := dd "_law_take" (tp 8)) rfl) (c.fact 1 (f := .glo "_law_take") rfl) fun _ _ _ _ _ _ us hl => match us, hl with | [_, _], _ => rfl
  d__law_one := defF_of X G (c.def_ 2 (d := dd "_law_one" (tp 9)) rfl) (c.fact 2 (f := .glo "_law_one") rfl) fun _ _ _ _ _ _ us hl => match us, hl with | [_, _], _ => rfl
  d__law_sort := defF_of X G (c.def_ 3 (d := dd "_law_sort" (tp 14)) rfl) (c.fact 3 (f := .glo "_law_sort") rfl) fun _ _ _ _ _ _ us hl => match us, hl with | [_, _], _ => rfl
  d__law_mixed := defF_of X G (c.def_ 4 (d := dd "_law_mixed" (tp 10)) rfl) (c.fact 4 (f := .glo "_law_mixed") rfl) fun _ _ _ _ _ _ us hl => match us, hl with | [_, _], _ => rfl
  d__law_names := defF_of X G (c.def_ 5 (d := dd "_law_names" (tp 13)) rfl) (c.fact 5 (f := .glo "_law_names") rfl) fun _ _ _ _ _ _ us hl => match us, hl with | [_, _], _ => rfl
  d__law_house := defF_of X G (c.def_ 6 (d := dd "_law_house" (tp 15)) rfl) (c.fact 6 (f := .glo "_law_house") rfl) fun _ _ _ _ _ _ us hl => match us, hl with | [_, _], _ => rfl
  d__law_size := defF_of X G (c.def_ 7 (d := dd "_law_size" (tp 17)) rfl) (c.fact 7 (f := .glo "_law_size") rfl) fun _ _ _ _ _ _ us hl => match us, hl with | [_, _, _], _ => rfl
  d__law_table := defF_of X G (c.def_ 8 (d := dd "_law_table" (tp 18)) rfl) (c.fact 8 (f := .glo "_law_table") rfl) fun _ _ _ _ _ _ us hl => match us, hl with | [_, _, _, _], _ => rfl
  d__law_numbers := defF_of X G (c.def_ 9 (d := dd "_law_numbers" (tp 16)) rfl) (c.fact 9 (f := .glo "_law_numbers") rfl) fun _ _ _ _ _ _ us hl => match us, hl with | [_], _ => rfl
  d__law_lot := defF_of X G (c.def_ 10 (d := dd "_law_lot" (tp 21)) rfl) (c.fact 10 (f := .glo "_law_lot") rfl) fun _ _ _ _ _ _ us hl => match us, hl with | [_, _], _ => rfl
  d__law_rank := defF_of X G (c.def_ 11 (d := dd "_law_rank" (tp 22)) rfl) (c.fact 11 (f := .glo "_law_rank") rfl) fun _ _ _ _ _ _ us hl => match us, hl with | [_, _, _], _ => rfl
  d__law_formula := defF_of X G (c.def_ 12 (d := dd "_law_formula" (tp 23)) rfl) (c.fact 12 (f := .glo "_law_formula") rfl) fun _ _ _ _ _ _ us hl => match us, hl with | [_, _, _, _, _], _ => rfl
  d__law_any_formula := defF_of X G (c.def_ 13 (d := dd "_law_any_formula" (tp 24)) rfl) (c.fact 13 (f := .glo "_law_any_formula") rfl) fun _ _ _ _ _ _ us hl => match us, hl with | [_, _], _ => rfl
  d_all_numbers := defF_of X G (c.def_ 14 (d := dd "all_numbers" (tp 5)) rfl) (c.fact 14 (f := .glo "all_numbers") rfl) fun _ _ _ _ _ _ us hl => match us, hl with | [_], _ => rfl
  d__law_flat := defF_of X G (c.def_ 15 (d := dd "_law_flat" (tp 12)) rfl) (c.fact 15 (f := .glo "_law_flat") rfl) fun _ _ _ _ _ _ us hl => match us, hl with | [_], _ => rfl
  d__law_known := defF_of X G (c.def_ 16 (d := dd "_law_known" (tp 20)) rfl) (c.fact 16 (f := .glo "_law_known") rfl) fun _ _ _ _ _ _ us hl => match us, hl with | [_], _ => rfl
  d__law_key := defF_of X G (c.def_ 17 (d := dd "_law_key" (tp 25)) rfl) (c.fact 17 (f := .glo "_law_key") rfl) fun _ _ _ _ _ _ us hl => match us, hl with | [_], _ => rfl
  d__law_value := defF_of X G (c.def_ 18 (d := dd "_law_value" (tp 26)) rfl) (c.fact 18 (f := .glo "_law_value") rfl) fun _ _ _ _ _ _ us hl => match us, hl with | [_, _], _ => rfl
  d__law_alike := defF_of X G (c.def_ 19 (d := dd "_law_alike" (tp 11)) rfl) (c.fact 19 (f := .glo "_law_alike") rfl) fun _ _ _ _ _ _ us hl => match us, hl with | [_, _], _ => rfl
  d_count_at_least := defF_of X G (c.def_ 20 (d := dd "count_at_least" (tp 3)) rfl) (c.fact 20 (f := .glo "count_at_least") rfl) fun _ _ _ _ _ _ us hl => match us, hl with | [_, _, _, _], _ => rfl
  d__law_count := defF_of X G (c.def_ 21 (d := dd "_law_count" (tp 27)) rfl) (c.fact 21 (f := .glo "_law_count") rfl) fun _ _ _ _ _ _ us hl => match us, hl with | [_, _, _], _ => rfl
  d_sizes_of := defF_of X G (c.def_ 22 (d := dd "sizes_of" (tp 4)) rfl) (c.fact 22 (f := .glo "sizes_of") rfl) fun _ _ _ _ _ _ us hl => match us, hl with | [_, _], _ => rfl
  d__law_sizes := defF_of X G (c.def_ 23 (d := dd "_law_sizes" (tp 19)) rfl) (c.fact 23 (f := .glo "_law_sizes") rfl) fun _ _ _ _ _ _ us hl => match us, hl with | [_, _], _ => rfl
  d_kth_greatest := defF_of X G (c.def_ 24 (d := dd "kth_greatest" (tp 1)) rfl) (c.fact 24 (f := .glo "kth_greatest") rfl) fun _ _ _ _ _ _ us hl => match us, hl with | [_, _], _ => rfl
  d_value_of := defF_of X G (c.def_ 25 (d := dd "value_of" (tp 2)) rfl) (c.fact 25 (f := .glo "value_of") rfl) fun _ _ _ _ _ _ us hl => match us, hl with | [_, _, _], _ => rfl
  d__law_table_right := defF_of X G (c.def_ 26 (d := dd "_law_table_right" (tp 28)) rfl) (c.fact 26 (f := .glo "_law_table_right") rfl) fun _ _ _ _ _ _ us hl => match us, hl with | [_, _, _, _], _ => rfl
  d_law := defF_of X G (c.def_ 27 (d := dd "law" (tp 29)) rfl) (c.fact 27 (f := .glo "law") rfl) fun _ _ _ _ _ _ us hl => match us, hl with | [_], _ => rfl
  z_abs := He.free_ok X G (c.fact 28 (f := .free "abs") rfl)
  z_int := He.free_ok X G (c.fact 29 (f := .free "int") rfl)
  z_len := He.free_ok X G (c.fact 30 (f := .free "len") rfl)
  z_list := He.free_ok X G (c.fact 31 (f := .free "list") rfl)
  z_min := He.free_ok X G (c.fact 32 (f := .free "min") rfl)
  z_range := He.free_ok X G (c.fact 33 (f := .free "range") rfl)
  z_repr := He.free_ok X G (c.fact 34 (f := .free "repr") rfl)
  z_set := He.free_ok X G (c.fact 35 (f := .free "set") rfl)
  z_sorted := He.free_ok X G (c.fact 36 (f := .free "sorted") rfl)
  z_tuple := He.free_ok X G (c.fact 37 (f := .free "tuple") rfl)
theorem law_all {P : Program} {w : World} {K : PySem.W.Frag} {mg : Str → Option Value} {base : Heap} (D : Facts K mg) : Cl P w K mg base 18 "law" ["script"] S_law :=
  let C__law_bag := c__law_bag (P := P) (w := w) (base := base) D
  let C__law_take := c__law_take (P := P) (w := w) (base := base) D
  let C__law_one := c__law_one (P := P) (w := w) (base := base) D C__law_take
  let C__law_sort := c__law_sort (P := P) (w := w) (base := base) D C__law_one C__law_take
  let C__law_mixed := c__law_mixed (P := P) (w := w) (base := base) D C__law_take
  let C__law_names := c__law_names (P := P) (w := w) (base := base) D C__law_mixed
  let C__law_house := c__law_house (P := P) (w := w) (base := base) D C__law_names C__law_sort C__law_take
  let C__law_size := c__law_size (P := P) (w := w) (base := base) D C__law_take
  let C__law_table := c__law_table (P := P) (w := w) (base := base) D C__law_mixed C__law_one C__law_size
  let C__law_numbers := c__law_numbers (P := P) (w := w) (base := base) D C__law_one C__law_take
  let C__law_lot := c__law_lot (P := P) (w := w) (base := base) D C__law_mixed C__law_take
  let C__law_rank := c__law_rank (P := P) (w := w) (base := base) D C__law_lot C__law_one C__law_take
  let C__law_formula := c__law_formula (P := P) (w := w) (base := base) D C__law_one C__law_rank C__law_take
  let C__law_any_formula := c__law_any_formula (P := P) (w := w) (base := base) D C__law_formula C__law_one
  let C_all_numbers := c_all_numbers (P := P) (w := w) (base := base) D
  let C__law_flat := c__law_flat (P := P) (w := w) (base := base) D
  let C__law_known := c__law_known (P := P) (w := w) (base := base) D C__law_flat
  let C__law_key := c__law_key (P := P) (w := w) (base := base) D
  let C__law_value := c__law_value (P := P) (w := w) (base := base) D C__law_flat C__law_key
  let C__law_alike := c__law_alike (P := P) (w := w) (base := base) D
  let C_count_at_least := c_count_at_least (P := P) (w := w) (base := base) D
  let C__law_count := c__law_count (P := P) (w := w) (base := base) D C__law_flat
  let C_sizes_of := c_sizes_of (P := P) (w := w) (base := base) D
  let C__law_sizes := c__law_sizes (P := P) (w := w) (base := base) D
  let C_kth_greatest := c_kth_greatest (P := P) (w := w) (base := base) D
  let C_value_of := c_value_of (P := P) (w := w) (base := base) D C_kth_greatest
  let C__law_table_right := c__law_table_right (P := P) (w := w) (base := base) D C__law_alike C__law_count C__law_known C__law_lot C__law_sizes C__law_value C_all_numbers C_count_at_least C_sizes_of C_value_of
  let C_law := c_law (P := P) (w := w) (base := base) D C__law_any_formula C__law_bag C__law_house C__law_numbers C__law_one C__law_rank C__law_table C__law_table_right C__law_take
  C_law
abbrev RW : PySem.W.OpenRow := PySem.W.OpenLaw.row PySem.Challenge.rw_countsfall_k02_values_of_formulas
abbrev hk : PySem.W.Hook := He.hookD 4 fas fns
def ob (s : PySem.W.SharedT) : He.AlD := He.obsDG 4 fas fns (HandSHeadRun.getT s)
theorem ob_eq (s : PySem.W.SharedT) : ob s = hk.obs s.abs := He.obsDG_eq (HandSHeadRun.getT_eq s)
def lo0 : List Str := ["kth_greatest", "value_of", "count_at_least", "sizes_of", "all_numbers", "_law_bag", "_law_take", "_law_one", "_law_mixed", "_law_alike", "_law_flat", "_law_names", "_law_sort", "_law_house", "_law_numbers", "_law_size", "_law_table", "_law_sizes", "_law_known", "_law_lot", "_law_rank", "_law_formula", "_law_any_formula", "_law_key", "_law_value", "_law_count", "_law_table_right"]
def loose : List Str := lo0
theorem runs (w : World) : HandSHeadRun.RunEq RW (PySem.W.view RW.prog [29]) hk ob 8000 loose w := by
  intro os
  kernel_rfl
end CF.K02
/-! TK02: the law. -/
open PySem PySem.W PySem.Calls PyProof.Rows
theorem PySem.Challenge.cw_countsfall_k02_values_of_formulas_holds : PySem.Challenge.rw_countsfall_k02_values_of_formulas.Holds := by
  w_on; o_law
  refine HandSHeadRun.head_any (r := CF.K02.RW) (q := view CF.K02.RW.prog [29]) (H := CF.K02.hk) (ob := CF.K02.ob) (M := 8000) (loose := CF.K02.loose) (d := HandSHeadRun.topDef CF.K02.RW.prog 29) (kwd := []) CF.K02.ob_eq (by kernel_rfl) (fun s => by kernel_rfl) CF.K02.runs (by kernel_rfl) (by kernel_rfl) (by kernel_rfl) (by rfl)
    (by first | assumption | decide +kernel) (by decide +kernel) ⟨rfl, rfl, rfl, rfl, rfl, by decide +kernel⟩ ?hw ?hc
  case hw => w_witness2
  case hc =>
    refine CF.walkG (l := PySem.Challenge.rw_countsfall_k02_values_of_formulas) (n := 63) (k := 18) (x := "script") (S := CF.K02.S_law) (b := fun _ => true) rfl (by decide) (by kernel_rfl) ⟨rfl, by decide, by decide⟩ ?F CF.K02.io_law (fun ns h => CF.K02.law_true ns h)
    intro w mg fa h Y G hmg0
    obtain ⟨K, KX, c⟩ := Y
    have hn : (HandSHeadRun.topDef CF.K02.RW.prog 29).name = ("law" : PySem.Str) := by kernel_rfl
    rw [hn] at hmg0
    exact ⟨K, KX, fun base _ _ => CF.law_of hmg0 (CF.K02.law_all (CF.K02.facts_of KX G c))⟩
