import PyProof.Rows.All
import Wide.All
import OpenK.AllK
import Wide.FinOn
import Lean
import PyProof.EqAt
import PyProof.EqKinds
import PyProof.TupleCall
import PyProof.NeKinds
import PyProof.SetScanFacts
import PyProof.SetKind
import PyProof.DictKinds
import PyProof.MeetsSeq2
import PySem.Builtin.Frozenset.W1All
import PyProof.SetRoads
import PyProof.CollectIter
import PyProof.FactsAll.set
import PyProof.Rows.SortShell
import PyProof.Rows.SetFrom
import PyProof.Rows.SortWalk
import PySem.Challenge.RW_lampyard_k10_shy
set_option Elab.async false
set_option linter.all false
set_option maxRecDepth 100000
set_option maxHeartbeats 4000000
noncomputable section
/-! THE HAND LAYER, for ints, bools, texts, own classes, LISTS and tuples (index, slices, in, append, pop ..), calls, loops. Paste it whole ahead of your own text; what your proof does not reach may be deleted. -/
namespace L2
open PySem PySem.Spec PyProof.Rows

abbrev Key := Sum Int Str
def keyIs : Key → Value → Bool
  | .inl k, v => Value.isInt k v
  | .inr x, v => Value.isStrOf x v
def keyH (w : World) : Key → Int
  | .inl k => hashInt k
  | .inr x => hashStr w x
theorem keyIs_shape : ∀ {k : Key} {v : Value}, keyIs k v = true → (∃ i t, k = Sum.inl i ∧ v = Value.int i t) ∨ (∃ x t, k = Sum.inr x ∧ v = Value.str x t)
  | .inl i, v, h => by
    obtain ⟨t, e⟩ := Value.isInt_shape (k := i) (v := v) h
    exact .inl ⟨i, t, rfl, e⟩
  | .inr x, v, h => by
    obtain ⟨t, e⟩ := Value.isStrOf_shape (x := x) (v := v) h
    exact .inr ⟨x, t, rfl, e⟩
theorem key_ll (a b : Int) : decide ((Sum.inl a : Key) = Sum.inl b) = (a == b) := by
  by_cases e : a = b
  · subst e; simp
  · have h : ¬ (Sum.inl a : Key) = Sum.inl b := fun q => e (Sum.inl.inj q)
    rw [decide_eq_false h]
    exact (beq_eq_false_iff_ne.mpr e).symm
theorem key_rr (a b : Str) : decide ((Sum.inr a : Key) = Sum.inr b) = decide (a = b) := by
  by_cases e : a = b
  · subst e; simp
  · have h : ¬ (Sum.inr a : Key) = Sum.inr b := fun q => e (Sum.inr.inj q)
    rw [decide_eq_false h, decide_eq_false e]
theorem key_lr (a : Int) (b : Str) : decide ((Sum.inl a : Key) = Sum.inr b) = false := decide_eq_false (fun q => nomatch q)
theorem key_rl (a : Str) (b : Int) : decide ((Sum.inr a : Key) = Sum.inl b) = false := decide_eq_false (fun q => nomatch q)

def mixKind (prog : Program) (w : World) : PySem.KeyKind prog w Key where
  is := keyIs
  hash := keyH w
  inj := fun v a b ha hb => by
    rcases keyIs_shape ha with ⟨i, t, rfl, rfl⟩ | ⟨x, t, rfl, rfl⟩
    · rcases keyIs_shape hb with ⟨j, u, rfl, e⟩ | ⟨y, u, rfl, e⟩
      · injection e with e1 _; rw [e1]
      · exact nomatch e
    · rcases keyIs_shape hb with ⟨j, u, rfl, e⟩ | ⟨y, u, rfl, e⟩
      · exact nomatch e
      · injection e with e1 _; rw [e1]
  byValue := fun k v h => by
    rcases keyIs_shape h with ⟨i, t, rfl, rfl⟩ | ⟨x, t, rfl, rfl⟩ <;> rfl
  pyHash := fun hv h => by
    rcases keyIs_shape hv with ⟨i, t, rfl, rfl⟩ | ⟨x, t, rfl, rfl⟩
    · exact wpAny_pyHash_int h
    · exact wpAny_pyHash_str h
  eqBool := fun hu hv h => by
    rcases keyIs_shape hu with ⟨i, t, rfl, rfl⟩ | ⟨x, t, rfl, rfl⟩
    · rcases keyIs_shape hv with ⟨j, u, rfl, rfl⟩ | ⟨y, u, rfl, rfl⟩
      · rw [key_ll] at h; exact wpAny_eqBool_int h
      · rw [key_lr] at h; exact SeqAt.EqAt.int_str i t y u _ _ _ _ h
    · rcases keyIs_shape hv with ⟨j, u, rfl, rfl⟩ | ⟨y, u, rfl, rfl⟩
      · rw [key_rl] at h; exact SeqAt.EqAt.str_int x t j u _ _ _ _ h
      · rw [key_rr] at h; exact wpAny_eqBool_str h
  «strs» := fun k x t v h => by
    rcases keyIs_shape h with ⟨i, u, rfl, e⟩ | ⟨y, u, rfl, e⟩
    · exact nomatch e
    · injection e with e1 _
      subst e1
      cases v <;> rfl

end L2

namespace L2
open PySem PySem.Spec PyProof.Rows

inductive V where
  | non | bl (b : Bool) | int (i : Int) | str (x : Str) | byt (b : Array UInt8) | flt (b : UInt64) | ref (a : Addr) | ty (n : String)
  deriving DecidableEq

def RelV : V → Value → Prop
  | .non, u => u = Value.none
  | .bl b, u => u = Value.bool b
  | .int i, u => ∃ t, u = Value.int i t
  | .str x, u => ∃ t, u = Value.str x t
  | .byt b, u => ∃ t, u = Value.bytes b t
  | .flt b, u => ∃ t, u = Value.float b t
  | .ref a, u => u = Value.ref a
  | .ty n, u => u = Value.type n

abbrev Vals : List V → List Value → Prop := Paired RelV
theorem Vals.length {xs : List V} {us : List Value} (r : Vals xs us) : xs.length = us.length := Paired.length r
theorem Vals.get : ∀ {xs : List V} {us : List Value} {i : Nat} {x : V}, Vals xs us → xs[i]? = some x → ∃ u, us[i]? = some u ∧ RelV x u
  | _, _, _, _, .nil, e => by simp at e
  | _, _, 0, _, .cons r _, e => by simp at e; subst e; exact ⟨_, rfl, r⟩
  | _, _, i + 1, x, .cons _ t, e => by
    obtain ⟨u, h1, h2⟩ := Vals.get (i := i) (x := x) t (by simpa using e)
    exact ⟨u, by simpa using h1, h2⟩
theorem Vals.set {x : V} {u : Value} (r : RelV x u) : ∀ {xs : List V} {us : List Value} (i : Nat), Vals xs us → Vals (xs.set i x) (us.set i u)
  | _, _, _, .nil => .nil
  | _, _, 0, .cons _ t => .cons r t
  | _, _, i + 1, .cons q t => .cons q (Vals.set r i t)
theorem Vals.append : ∀ {xs ys : List V} {us ws : List Value}, Vals xs us → Vals ys ws → Vals (xs ++ ys) (us ++ ws)
  | _, _, _, _, .nil, s => s
  | _, _, _, _, .cons r t, s => .cons r (Vals.append t s)

def RelO : Option V → Option Value → Prop
  | some v, some u => RelV v u
  | none, none => True
  | _, _ => False
def KV {κ : Type} : List (κ × V) → List (κ × Value) → Prop := Paired fun (p : κ × V) (q : κ × Value) => p.1 = q.1 ∧ RelV p.2 q.2

def kV : Key → V
  | .inl i => .int i
  | .inr x => .str x

inductive HO where
  | lst (xs : List V)
  | tup (xs : List V)
  | dK (kvs : List (Key × V)) | dT (kvs : List (List Key × V))
  | set (S : Int → Bool) (n : Nat)
  | ins (C dx : Addr) (fs : List (Str × V))
  | own (x : Addr)
  | xd (fs : List (Str × V))
  | met (f x : Addr)
  | rng (lo hi : Int)
  | frz (o : Obj) (u : HO)
  | tbl (ps : Array Value)
  | ext (φ : Heap → Prop)

abbrev Hp := Addr → Option HO
def upd (H : Hp) (a : Addr) (o : HO) : Hp := fun b => if b = a then some o else H b
theorem upd_same {H : Hp} {a : Addr} {o : HO} : upd H a o a = some o := by unfold upd; rw [if_pos rfl]
theorem upd_ne {H : Hp} {a b : Addr} {o : HO} (h : b ≠ a) : upd H a o b = H b := by unfold upd; rw [if_neg h]
theorem upd_upd {H : Hp} {a : Addr} {o u : HO} : upd (upd H a o) a u = upd H a u := by
  funext b; unfold upd; split <;> rfl
theorem ne_of {H : Hp} {a b : Addr} {o u : HO} (h : H a = some o) (h' : H b = some u) (d : o ≠ u) : a ≠ b := by
  intro e; subst e; rw [h] at h'; exact d (Option.some.inj h')
theorem ne_of_none {H : Hp} {a b : Addr} {o : HO} (h : H a = some o) (h' : H b = none) : a ≠ b := by
  intro e; subst e; rw [h] at h'; cases h'

section
variable (P : Program) (w : World)
def ObjOk (H : Hp) (h : Heap) (a : Addr) : HO → Prop
  | .lst xs => xs.length ≤ sizeLine ∧ ∃ (its : List Value) (n : Nat), Vals xs its ∧ h.get? a = some { cls := .type "list", data := .seq its.toArray n }
  | .tup xs => xs.length ≤ sizeLine ∧ ∃ its : List Value, Vals xs its ∧ IsTup h a its.toArray
  | .dK kvs => kvs.length ≤ sizeLine ∧ (a == sysModules) = false ∧ ∃ vs, KV kvs vs ∧ h.DictOf (mixKind P w) a vs
  | .dT kvs => kvs.length ≤ sizeLine ∧ (a == sysModules) = false ∧ ∃ xs : List (List Key × Addr × Value),
      Paired (fun (p : List Key × V) (q : List Key × Addr × Value) => p.1 = q.1 ∧ H q.2.1 = some (.tup (p.1.map kV)) ∧ RelV p.2 q.2.2) kvs xs ∧
      ∃ o es ep, h.get? a = some o ∧ o.ExactDict ∧ o.data = .dict es ep ∧ es.toList = xs.map (entryOfKey (tupleKind (mixKind P w))) ∧ (xs.map (·.1)).Nodup
  | .set S n => h.SetOf (intKind P w) a S n
  | .ins C dx fs => H dx = some (.own a) ∧ fs.length ≤ 1000 ∧ dx ≠ a ∧ h.get? a = some (PySem.W.instObj C dx) ∧
      ∃ mA, h.Ns1 dx mA ∧ (∀ f, RelO (fs.lookup f) (mA f)) ∧ PySem.Within mA (fs.map (·.1))
  | .own _ => ∃ o, h.get? a = some o
  | .xd fs => ∃ mA, h.Ns1 a mA ∧ ∀ f, RelO (fs.lookup f) (mA f)
  | .rng lo hi => ∃ t u v, h.get? a = some { cls := .type "range", data := .fields #[.int lo t, .int hi u, .int 1 v] }
  | .frz o u => h.get? a = some o ∧ ObjOk H h a u
  | .tbl ps => h.get? a = some { cls := .none, data := .fields ps }
  | .met f x => h.get? a = some (PySem.W.methodObj (.ref f) (.ref x))
  | .ext φ => φ h ∧ (∃ o, h.get? a = some o) ∧ ∀ h1 h2 : Heap, φ h1 → (∀ o, h1.get? a = some o → h2.get? a = some o) → φ h2
def HOk (H : Hp) (h : Heap) : Prop := ∀ a o, H a = some o → ObjOk P w H h a o
end

section
variable {P : Program} {w : World} {H H' : Hp} {h h' : Heap} {a : Addr} {o : HO}
theorem ObjOk.lt (x : ObjOk P w H h a o) : a < h.objs.size := by
  cases o with
  | lst xs => obtain ⟨_, _, _, _, e⟩ := x; exact Heap.lt_size e
  | tup xs => obtain ⟨_, _, _, p⟩ := x; exact p.lt
  | dK kvs => obtain ⟨_, _, _, _, o, _, _, e, _⟩ := x; exact Heap.lt_size e
  | dT kvs => obtain ⟨_, _, _, _, o, _, _, e, _⟩ := x; exact Heap.lt_size e
  | set S n => obtain ⟨o, _, _, _, e, _⟩ := x; exact Heap.lt_size e
  | ins C dx fs => obtain ⟨_, _, _, e, _⟩ := x; exact Heap.lt_size e
  | own y => obtain ⟨_, e⟩ := x; exact Heap.lt_size e
  | xd fs => obtain ⟨_, ⟨_, _, _, e, _⟩, _⟩ := x; exact Heap.lt_size e
  | rng lo hi => obtain ⟨_, _, _, e⟩ := x; exact Heap.lt_size e
  | frz ob u => obtain ⟨e, _⟩ := x; exact Heap.lt_size e
  | tbl ps => exact Heap.lt_size (show h.get? a = some _ from x)
  | met f y => exact Heap.lt_size (show h.get? a = some _ from x)
  | ext φ => obtain ⟨_, ⟨_, e⟩, _⟩ := x; exact Heap.lt_size e
theorem Paired.mapP {α β : Type} {F G : α → β → Prop} : ∀ {l₁ : List α} {l₂ : List β}, Paired F l₁ l₂ → (∀ a b, F a b → G a b) → Paired G l₁ l₂
  | _, _, .nil, _ => .nil
  | _, _, .cons r t, f => .cons (f _ _ r) (Paired.mapP t f)
theorem ObjOk.stay (x : ObjOk P w H h a o) (k : ∀ b u, (b = a ∨ H b = some (.own a)) → h.get? b = some u → h'.get? b = some u)
    (ho : ∀ b, H b = some (.own a) → H' b = some (.own a)) (ht : ∀ b xs, H b = some (.tup xs) → H' b = some (.tup xs)) : ObjOk P w H' h' a o := by
  induction o with
  | lst xs => obtain ⟨z, its, n, r, e⟩ := x; exact ⟨z, its, n, r, k _ _ (.inl rfl) e⟩
  | tup xs => obtain ⟨z, its, r, ob, e, c⟩ := x; exact ⟨z, its, r, ob, k _ _ (.inl rfl) e, c⟩
  | dK kvs => obtain ⟨z, y, vs, r, ob, es, ep, e, c⟩ := x; exact ⟨z, y, vs, r, ob, es, ep, k _ _ (.inl rfl) e, c⟩
  | dT kvs =>
    obtain ⟨z, y, xs, r, ob, es, ep, e, c⟩ := x
    exact ⟨z, y, xs, Paired.mapP r fun p q z => ⟨z.1, ht _ _ z.2.1, z.2.2⟩, ob, es, ep, k _ _ (.inl rfl) e, c⟩
  | set S n => obtain ⟨ob, es, ep, t, e, c⟩ := x; exact ⟨ob, es, ep, t, k _ _ (.inl rfl) e, c⟩
  | ins C dx fs =>
    obtain ⟨d, z, ne, e, mA, ⟨od, es, ep, e2, c⟩, r⟩ := x
    exact ⟨ho _ d, z, ne, k _ _ (.inl rfl) e, mA, ⟨od, es, ep, k _ _ (.inr d) e2, c⟩, r⟩
  | own y => obtain ⟨ob, e⟩ := x; exact ⟨ob, k _ _ (.inl rfl) e⟩
  | xd fs => obtain ⟨mA, ⟨od, es, ep, e, c⟩, r⟩ := x; exact ⟨mA, ⟨od, es, ep, k _ _ (.inl rfl) e, c⟩, r⟩
  | rng lo hi => obtain ⟨t, u, v, e⟩ := x; exact ⟨t, u, v, k _ _ (.inl rfl) e⟩
  | frz ob u ih => obtain ⟨e, q⟩ := x; exact ⟨k _ _ (.inl rfl) e, ih q⟩
  | tbl ps =>
    have e : h.get? a = some { cls := .none, data := .fields ps } := x
    show h'.get? a = some { cls := .none, data := .fields ps }
    exact k a _ (.inl rfl) e
  | met f y =>
    have e : h.get? a = some (PySem.W.methodObj (.ref f) (.ref y)) := x
    show h'.get? a = some (PySem.W.methodObj (.ref f) (.ref y))
    exact k a _ (.inl rfl) e
  | ext φ => obtain ⟨p, ⟨o, e⟩, st⟩ := x; exact ⟨st _ _ p fun o q => k _ _ (.inl rfl) q, ⟨o, k _ _ (.inl rfl) e⟩, st⟩
theorem HOk.lt (x : HOk P w H h) (e : H a = some o) : a < h.objs.size := (x a o e).lt
theorem HOk.fresh (x : HOk P w H h) (e : h.objs.size ≤ a) : H a = none := by
  cases q : H a with
  | none => rfl
  | some u => exact absurd (Nat.lt_of_lt_of_le (x.lt q) e) (Nat.lt_irrefl _)
theorem HOk.kept (x : HOk P w H h) (k : ∀ b u, h.get? b = some u → h'.get? b = some u) : HOk P w H h' := fun a o e =>
  (x a o e).stay (fun b u _ q => k b u q) (fun _ q => q) fun _ _ q => q
theorem HOk.laid (x : HOk P w H h) (k : ∀ b u, h.get? b = some u → h'.get? b = some u) (hp : h.objs.size ≤ a) (new : ObjOk P w (upd H a o) h' a o) : HOk P w (upd H a o) h' := fun b u e => by
  have hn := x.fresh hp
  by_cases hb : b = a
  · subst hb; rw [upd_same] at e; cases e; exact new
  · rw [upd_ne hb] at e
    exact (x b u e).stay (fun c v _ q => k c v q) (fun c q => by rw [upd_ne (ne_of_none q hn)]; exact q) fun c xs q => by rw [upd_ne (ne_of_none q hn)]; exact q
end

def Rd (H : Hp) (a : Addr) (u : HO) : Prop := H a = some u ∨ ∃ o, H a = some (.frz o u)
theorem Rd.ok {P : Program} {w : World} {H : Hp} {h : Heap} {a : Addr} {u : HO} (r : Rd H a u) (x : HOk P w H h) : ObjOk P w H h a u := by
  rcases r with r | ⟨o, r⟩
  · exact x a u r
  · obtain ⟨_, q⟩ := x a _ r
    exact q
def Mut : Option HO → Prop
  | some (.lst _) => True
  | some (.dK _) => True
  | some (.dT _) => True
  | some (.set _ _) => True
  | some (.ins _ _ _) => True
  | some (.ext _) => True
  | _ => False
section
variable {P : Program} {w : World} {H : Hp} {h h' : Heap} {x e : Addr} {o' : HO}
theorem HOk.write (ok : HOk P w H h) (mu : Mut (H x)) (he : e = x ∨ H e = some (.own x)) (k : ∀ b u, b ≠ e → h.get? b = some u → h'.get? b = some u) (heo : ∃ u, h'.get? e = some u)
    (new : ObjOk P w (upd H x o') h' x o') : HOk P w (upd H x o') h' := fun b u q => by
  have nown : ∀ c y, H c = some (.own y) → c ≠ x := fun c y r z => by subst z; rw [r] at mu; exact mu
  have ntup : ∀ c xs, H c = some (.tup xs) → c ≠ x := fun c xs r z => by subst z; rw [r] at mu; exact mu
  by_cases hb : b = x
  · subst hb; rw [upd_same] at q; cases q; exact new
  · rw [upd_ne hb] at q
    by_cases hbe : b = e
    · have q' : H b = some (.own x) := by
        rcases he with z | z
        · exact absurd (hbe.trans z) hb
        · rw [hbe]; exact z
      rw [q] at q'; cases q'
      obtain ⟨v, hv⟩ := heo
      exact ⟨v, by rw [hbe]; exact hv⟩
    · refine (ok b u q).stay (fun c v hc r => k c v ?_ r) (fun c r => by rw [upd_ne (nown c b r)]; exact r) fun c xs r => by rw [upd_ne (ntup c xs r)]; exact r
      rcases hc with rfl | hc
      · exact hbe
      · rintro rfl
        rcases he with z | z
        · exact nown c b hc z
        · rw [hc] at z; cases z; exact hb rfl
end

/-! ### kept unless tracked; of the frames at fs (the callers') the slots may change (an exception that passes writes there); of the records at ex (iterators) nothing is said -/
structure Un (fs ex : List Addr) (H H' : Hp) (h h' : Heap) : Prop where
  keep : ∀ b o, h.get? b = some o → H b = none → b ∉ fs → b ∉ ex → h'.get? b = some o
  slot : ∀ b o, h.get? b = some o → H b = none → b ∈ fs → b ∉ ex → ∃ sl, h'.get? b = some { o with slots := sl }
  free : ∀ b o, h.get? b = some o → H b = none → b ∉ ex → H' b = none
  there : ∀ b o, h.get? b = some o → b ∉ ex → ∃ o', h'.get? b = some o'
  tups : ∀ b xs, H b = some (.tup xs) → H' b = some (.tup xs)
  frzs : ∀ b o u, H b = some (.frz o u) → H' b = some (.frz o u)
  tbls : ∀ b ps, H b = some (.tbl ps) → ∃ more, H' b = some (.tbl (ps ++ more))
section
variable {fs fs' ex ex' : List Addr} {H H1 H2 : Hp} {h h1 h2 h' : Heap} {a x e : Addr} {o : HO}
theorem Un.any (u : Un fs ex H H1 h h1) {b : Addr} {ob : Obj} (q : h.get? b = some ob) (n : H b = none) (hx : b ∉ ex) : ∃ sl, h1.get? b = some { ob with slots := sl } := by
  by_cases hb : b ∈ fs
  · exact u.slot b ob q n hb hx
  · exact ⟨ob.slots, u.keep b ob q n hb hx⟩
theorem Un.kept (k : ∀ b u, h.get? b = some u → h'.get? b = some u) : Un fs ex H H h h' :=
  ⟨fun b ob q _ _ _ => k b ob q, fun b ob q _ _ _ => ⟨ob.slots, k b ob q⟩, fun _ _ _ n _ => n, fun b ob q _ => ⟨ob, k b ob q⟩, fun _ _ q => q, fun _ _ _ q => q, fun _ ps q => ⟨#[], by rw [q]; simp⟩⟩
theorem Un.refl : Un fs ex H H h h := Un.kept fun _ _ q => q
theorem Un.laid (k : ∀ b u, h.get? b = some u → h'.get? b = some u) (hp : h.objs.size ≤ a) (hn : H a = none) : Un fs ex H (upd H a o) h h' where
  keep := fun b u q _ _ _ => k b u q
  slot := fun b u q _ _ _ => ⟨u.slots, k b u q⟩
  free := fun b u q n _ => by rw [upd_ne (Nat.ne_of_lt (Nat.lt_of_lt_of_le (Heap.lt_size q) hp))]; exact n
  there := fun b u q _ => ⟨u, k b u q⟩
  tups := fun b xs q => by rw [upd_ne (ne_of_none q hn)]; exact q
  frzs := fun b u xs q => by rw [upd_ne (ne_of_none q hn)]; exact q
  tbls := fun b ps q => ⟨#[], by rw [upd_ne (ne_of_none q hn), q]; simp⟩
theorem Un.write (mu : Mut (H x)) (he : e = x ∨ H e = some (.own x)) (k : ∀ b u, b ≠ e → h.get? b = some u → h'.get? b = some u) (heo : ∃ u, h'.get? e = some u) : Un fs ex H (upd H x o) h h' := by
  have hx : ∀ b, H b = none → b ≠ x := fun b n z => by subst z; rw [n] at mu; exact mu
  have hb : ∀ b, H b = none → b ≠ e := fun b n z => by
    subst z
    rcases he with r | r
    · exact hx b n r
    · rw [n] at r; cases r
  have hm : ∀ b u, H b = some u → ¬ Mut (some u) → b ≠ x := fun b u q nm z => by subst z; rw [q] at mu; exact nm mu
  refine ⟨fun b u q n _ _ => k b u (hb b n) q, fun b u q n _ _ => ⟨u.slots, k b u (hb b n) q⟩, fun b u q n _ => by rw [upd_ne (hx b n)]; exact n, fun b u q _ => ?_,
    fun b xs q => by rw [upd_ne (hm b _ q fun z => z)]; exact q, fun b u xs q => by rw [upd_ne (hm b _ q fun z => z)]; exact q, fun b ps q => ⟨#[], by rw [upd_ne (hm b _ q fun z => z), q]; simp⟩⟩
  by_cases hbe : b = e
  · subst hbe; exact heo
  · exact ⟨u, k b u hbe q⟩
end

/-! ### the heap without what is tracked -/
def trk (h : Heap) (H : Hp) : List Addr := (List.range h.objs.size).filter fun a => (H a).isSome
def hidT (h : Heap) (H : Hp) : Heap := PySem.W.hideAll h (trk h H)
theorem hidT_size (h : Heap) (H : Hp) : (hidT h H).objs.size = h.objs.size := PySem.W.hideAll_size _ _
theorem hidT_get {h : Heap} {H : Hp} {b : Addr} {o : Obj} (e : h.get? b = some o) (n : H b = none) : (hidT h H).get? b = some o :=
  PySem.W.hideAll_get _ e fun hm => by
    have q : (H b).isSome = true := (List.mem_filter.mp hm).2
    rw [n] at q; simp at q
theorem of_hidT {h : Heap} {H : Hp} {b : Addr} {o : Obj} (e : (hidT h H).get? b = some o) : h.get? b = some o ∧ H b = none := by
  have e' : h.get? b = some o := PySem.W.of_hideAll (trk h H) e
  refine ⟨e', ?_⟩
  cases q : H b with
  | none => rfl
  | some x =>
    have hm : b ∈ trk h H := List.mem_filter.mpr ⟨List.mem_range.mpr (Heap.lt_size e'), by simp [q]⟩
    have z : (hidT h H).get? b = none := PySem.W.hideAll_none (trk h H) hm
    rw [z] at e; cases e

/-! ### OpenK's ledger, filled with every new object but one -/
end L2

namespace L2
open PySem PySem.Spec PyProof.Rows

structure Mod (K : PySem.W.Frag) (mg : Str → Option Value) (base : Heap) : Prop where
  kin : K.In base
  glob : base.Ns mainGlobals mg
  blt : ∃ mb, base.Ns builtinsNs mb ∧ ∀ x : Str, x ≠ "__name__" → mb x = bootBuiltins x
  nolimit : base.NoLimit

/-- the context: a def's body (or a comprehension's block) running. base: fixed through the whole law; s₀, H₀: the entry; outer: the frames whose slots others may change (a def's callers); stack: all frames that run;
   ex: iterators that were made ahead of the entry and are walked here (a comprehension's); fn: the names whose cells were made at the entry (a def: all; a comprehension's block: its own); calm: not within an except suite; pn: pins that every state bears; xe: what is wanted of an exception that leaves the code -/
structure Cx where
  prog : Program
  w : World
  K : PySem.W.Frag
  mg : Str → Option Value
  base : Heap
  A : Around
  N : List Str
  s₀ : Shared
  H₀ : Hp
  env : Env
  outer : List Env
  stack : List Env
  ex : List Addr
  fn : Str → Bool
  calm : Bool
  pn : List (Addr × Obj)
  xe : Value → Shared → Prop
def frs (l : List Env) : List Addr := l.filterMap (·.frame)
abbrev Cx.fs (X : Cx) : List Addr := frs X.outer

def Vis (sc : Scope) (x : Str) : Prop := sc.names.lookup x = some .local ∨ sc.names.lookup x = some .cell ∨ sc.names.lookup x = some .free
def Loc (sc : Scope) (x : Str) : Prop := sc.names.lookup x = some .local ∨ sc.names.lookup x = some .cell
def Look (env : Env) (h : Heap) (m : Str → Option Value) (x : Str) (u : Value) : Prop :=
  (env.kindOf x = some .local ∧ m x = some u) ∨ ((env.kindOf x = some .cell ∨ env.kindOf x = some .free) ∧ ∃ c, env.cells.lookup x = some c ∧ h.IsCell c (some u))

structure Cx.Ok (X : Cx) : Prop where
  mod : Mod X.K X.mg X.base
  kind : X.env.scope.kind = .function
  glob : X.env.globals = mainGlobals
  blt : X.env.builtins = builtinsNs
  above : X.s₀.heap.objs.size ≤ X.env.locals
  inj : ∀ x y c, X.env.cells.lookup x = some c → X.env.cells.lookup y = some c → x = y
  has : ∀ x, (X.env.kindOf x = some .cell ∨ X.env.kindOf x = some .free) → ∃ c, X.env.cells.lookup x = some c
  cab : ∀ x c, X.fn x = true → X.env.cells.lookup x = some c → X.s₀.heap.objs.size ≤ c
  hd : X.calm = true → X.A.handled = none
  frames : X.A.frames = some X.stack
  stk : X.stack = X.outer ∨ (X.stack = X.env :: X.outer ∧ X.env.frame = some X.env.locals)
  exf : ∀ b ∈ X.ex, b ≠ X.env.locals ∧ ∀ x c, X.env.cells.lookup x = some c → c ≠ b
  bs : ∀ b o, X.base.get? b = some o → X.s₀.heap.get? b = some o ∧ X.H₀ b = none
  bsz : X.base.objs.size ≤ X.s₀.heap.objs.size
  noex : ∀ b o, X.base.get? b = some o → b ∉ X.ex
  exfs : ∀ b ∈ X.ex, b ∉ X.fs
  funs : X.s₀.heap.FunFrames X.base X.outer
  frf : ∀ b ∈ X.fs, X.H₀ b = none

structure Inv (X : Cx) (pins : List (Addr × Obj)) (σ : List (Option V)) (H : Hp) (s : Shared) : Prop where
  ok : X.Ok
  os : s.os = X.s₀.os
  bare : AllBare s.gens
  base : Un X.fs X.ex X.H₀ H X.s₀.heap s.heap
  loc : ∃ m, s.heap.Ns X.env.locals m ∧ ∀ (i : Nat) (x : Str) (v : V), X.N[i]? = some x → σ[i]? = some (some v) → Vis X.env.scope x → ∃ u, RelV v u ∧ Look X.env s.heap m x u
  cell : ∀ x c, X.env.cells.lookup x = some c → ∃ v, s.heap.IsCell c v
  free : H X.env.locals = none
  freeC : ∀ x c, X.env.cells.lookup x = some c → H c = none
  pin : ∀ p ∈ X.pn ++ pins, s.heap.get? p.1 = some p.2 ∧ H p.1 = none ∧ p.1 ≠ X.env.locals ∧ p.1 ∉ X.fs ∧ ∀ v, p.2.data ≠ .cell v
  hok : HOk X.prog X.w H s.heap
  len : σ.length = X.N.length

section
variable {X : Cx} {pins : List (Addr × Obj)} {σ : List (Option V)} {H H' : Hp} {s : Shared} {h' : Heap}

theorem Cx.Ok.nofr (ok : X.Ok) {b : Addr} {o : Obj} (e : X.base.get? b = some o) : b ∉ X.fs := fun hb => by
  have := (ok.funs.mem hb).1
  rw [e] at this; cases this
theorem Inv.bs (I : Inv X pins σ H s) : ∀ b o, X.base.get? b = some o → s.heap.get? b = some o ∧ H b = none := fun b o e =>
  ⟨I.base.keep b o (I.ok.bs b o e).1 (I.ok.bs b o e).2 (I.ok.nofr e) (I.ok.noex b o e), I.base.free b o (I.ok.bs b o e).1 (I.ok.bs b o e).2 (I.ok.noex b o e)⟩
theorem Inv.bk (I : Inv X pins σ H s) : ∀ b o, X.base.get? b = some o → s.heap.get? b = some o := fun b o e => (I.bs b o e).1
theorem Inv.mod (I : Inv X pins σ H s) : Mod X.K X.mg X.base := I.ok.mod
theorem Inv.kIn (I : Inv X pins σ H s) : X.K.In s.heap := I.ok.mod.kin.keeps I.bk
theorem Inv.lt (I : Inv X pins σ H s) : X.env.locals < s.heap.objs.size := let ⟨_, hn, _⟩ := I.loc; hn.lt
theorem Inv.sz (I : Inv X pins σ H s) : X.s₀.heap.objs.size ≤ s.heap.objs.size := Nat.le_trans I.ok.above (Nat.le_of_lt I.lt)
theorem Inv.nofs (I : Inv X pins σ H s) {a : Addr} (h : s.heap.objs.size ≤ a) : a ∉ X.fs := fun hb => by
  obtain ⟨_, o, ho, _⟩ := I.ok.funs.mem hb
  exact absurd (Nat.lt_of_lt_of_le (Heap.lt_size ho) (Nat.le_trans I.sz h)) (Nat.lt_irrefl _)
theorem Inv.cne (I : Inv X pins σ H s) : ∀ x c, X.env.cells.lookup x = some c → c ≠ X.env.locals := fun x c e z => by
  obtain ⟨v, o, ho, hd⟩ := I.cell x c e
  obtain ⟨m, ⟨o', es, ep, ho', hd', _⟩, _⟩ := I.loc
  rw [z, ho'] at ho; cases ho; rw [hd'] at hd; cases hd
theorem Inv.funs (I : Inv X pins σ H s) : s.heap.FunFrames X.base X.outer := by
  have all : ∀ (l : List Env), (∀ b ∈ frs l, b ∈ X.fs) → X.s₀.heap.FunFrames X.base l → s.heap.FunFrames X.base l := by
    intro l
    induction l with
    | nil => intro _ _; trivial
    | cons env r ih =>
      intro hs hl
      obtain ⟨hk, ⟨L, o, hf, hn, ho, hd⟩, hr⟩ := hl
      have hL : L ∈ X.fs := hs L (by unfold frs; rw [List.filterMap_cons, hf]; exact List.mem_cons_self)
      obtain ⟨sl, e⟩ := I.base.slot L o ho (I.ok.frf L hL) hL fun z => I.ok.exfs L z hL
      exact ⟨hk, ⟨L, _, hf, hn, e, hd⟩, ih (fun b hb => hs b (by unfold frs; rw [List.filterMap_cons, hf]; exact List.mem_cons_of_mem _ hb)) hr⟩
  exact all X.outer (fun _ hb => hb) I.ok.funs

theorem Inv.stack (I : Inv X pins σ H s) : s.heap.FunFrames X.base X.stack := by
  rcases I.ok.stk with e | ⟨e, hf⟩
  · rw [e]; exact I.funs
  · rw [e]
    obtain ⟨m, hn, _⟩ := I.loc
    refine .cons (by rw [I.ok.kind]; decide) hf hn ?_ I.funs
    exact Heap.get?_none_of_le (Nat.le_trans I.ok.bsz I.ok.above)
theorem Inv.stkSub (I : Inv X pins σ H s) : ∀ b ∈ frs X.stack, b ∈ X.env.locals :: X.fs := fun b hb => by
  rcases I.ok.stk with e | ⟨e, hf⟩
  · rw [e] at hb; exact List.mem_cons_of_mem _ hb
  · rw [e] at hb
    unfold frs at hb
    rw [List.filterMap_cons, hf] at hb
    exact hb
theorem Inv.stkFree (I : Inv X pins σ H s) : ∀ b ∈ frs X.stack, H b = none := fun b hb => by
  rcases List.mem_cons.mp (I.stkSub b hb) with e | hb
  · rw [e]; exact I.free
  · obtain ⟨_, o, ho, _⟩ := I.ok.funs.mem hb
    exact I.base.free b o ho (I.ok.frf b hb) fun z => I.ok.exfs b z hb

theorem Inv.step {g' : Array GenState} {t' : Nat} {d' : Drawn} {ch : List Addr} (I : Inv X pins σ H s)
    (hch : ∀ b ∈ ch, (b ∈ X.ex ∨ X.s₀.heap.objs.size ≤ b) ∧ b ≠ X.env.locals ∧ (∀ x c, X.env.cells.lookup x = some c → c ≠ b) ∧ ∀ p ∈ X.pn ++ pins, p.1 ≠ b)
    (keep : ∀ b o, b ≠ X.env.locals → b ∉ X.fs → b ∉ ch → s.heap.get? b = some o → H b = none → h'.get? b = some o)
    (slot : ∀ b o, b ≠ X.env.locals → b ∈ X.fs → b ∉ ch → s.heap.get? b = some o → H b = none → ∃ sl, h'.get? b = some { o with slots := sl }) (free : ∀ b o, b ∉ ch → s.heap.get? b = some o → H b = none → H' b = none)
    (there : ∀ b o, b ∉ ch → s.heap.get? b = some o → ∃ o', h'.get? b = some o')
    (tups : ∀ b xs, H b = some (.tup xs) → H' b = some (.tup xs)) (frzs : ∀ b o u, H b = some (.frz o u) → H' b = some (.frz o u)) (tbls : ∀ b ps, H b = some (.tbl ps) → ∃ more, H' b = some (.tbl (ps ++ more)))
    (ns : ∀ m, s.heap.Ns X.env.locals m → h'.Ns X.env.locals m) (hok : HOk X.prog X.w H' h') (hg : AllBare g') :
    Inv X pins σ H' { s with heap := h', gens := g', drawn := d', toks := t' } := by
  have neL : ∀ b o, X.s₀.heap.get? b = some o → b ≠ X.env.locals := fun b o e => Nat.ne_of_lt (Nat.lt_of_lt_of_le (Heap.lt_size e) I.ok.above)
  have neC : ∀ b o, X.s₀.heap.get? b = some o → b ∉ X.ex → b ∉ ch := fun b o e hx hb => by
    rcases (hch b hb).1 with z | z
    · exact hx z
    · exact absurd (Nat.lt_of_lt_of_le (Heap.lt_size e) z) (Nat.lt_irrefl _)
  have cellK : ∀ x c, X.env.cells.lookup x = some c → ∀ v, s.heap.IsCell c v → h'.IsCell c v := fun x c e v ⟨o, ho, hd⟩ => by
    have nch : c ∉ ch := fun z => (hch c z).2.2.1 x c e rfl
    by_cases hc : c ∈ X.fs
    · obtain ⟨sl, q⟩ := slot c o (I.cne x c e) hc nch ho (I.freeC x c e)
      exact ⟨_, q, hd⟩
    · exact ⟨o, keep c o (I.cne x c e) hc nch ho (I.freeC x c e), hd⟩
  refine ⟨I.ok, I.os, hg, ⟨fun b o e n hb hx => ?_, fun b o e n hb hx => ?_, fun b o e n hx => ?_, fun b o e hx => ?_, fun b xs e => tups b xs (I.base.tups b xs e), fun b o xs e => frzs b o xs (I.base.frzs b o xs e), fun b ps e => ?_⟩, ?_, fun x c e => ?_, ?_, fun x c e => ?_, fun p hp => ?_, hok, I.len⟩
  · exact keep b o (neL b o e) hb (neC b o e hx) (I.base.keep b o e n hb hx) (I.base.free b o e n hx)
  · obtain ⟨sl, e1⟩ := I.base.slot b o e n hb hx
    obtain ⟨sl', e2⟩ := slot b _ (neL b o e) hb (neC b o e hx) e1 (I.base.free b o e n hx)
    exact ⟨sl', e2⟩
  · obtain ⟨o', e1⟩ := I.base.there b o e hx
    exact free b o' (neC b o e hx) e1 (I.base.free b o e n hx)
  · obtain ⟨o', e1⟩ := I.base.there b o e hx
    exact there b o' (neC b o e hx) e1
  · obtain ⟨m1, e1⟩ := I.base.tbls b ps e
    obtain ⟨m2, e2⟩ := tbls b _ e1
    exact ⟨m1 ++ m2, by rw [e2, Array.append_assoc]⟩
  · obtain ⟨m, hn, hl⟩ := I.loc
    refine ⟨m, ns m hn, fun i x v e1 e2 e3 => ?_⟩
    obtain ⟨u, r, l⟩ := hl i x v e1 e2 e3
    refine ⟨u, r, ?_⟩
    rcases l with l | ⟨k, c, e, z⟩
    · exact .inl l
    · exact .inr ⟨k, c, e, cellK x c e _ z⟩
  · obtain ⟨v, z⟩ := I.cell x c e
    exact ⟨v, cellK x c e v z⟩
  · obtain ⟨m, ⟨o, _, _, ho, _⟩, _⟩ := I.loc
    exact free _ o (fun z => (hch _ z).2.1 rfl) ho I.free
  · obtain ⟨v, o, ho, hd⟩ := I.cell x c e
    exact free c o (fun z => (hch c z).2.2.1 x c e rfl) ho (I.freeC x c e)
  · obtain ⟨e, n, ne, nf, d⟩ := I.pin p hp
    have nch : p.1 ∉ ch := fun z => (hch p.1 z).2.2.2 p hp rfl
    exact ⟨keep p.1 p.2 ne nf nch e n, free p.1 p.2 nch e n, ne, nf, d⟩
theorem Inv.un {t' : Nat} (I : Inv X pins σ H s) (u : Un X.fs [] H H' s.heap h') (hok : HOk X.prog X.w H' h') : Inv X pins σ H' { s with heap := h', toks := t' } := by
  obtain ⟨m, ⟨o, es, ep, ho, r⟩, _⟩ := id I.loc
  obtain ⟨sl, hL⟩ := u.any ho I.free (by simp)
  exact I.step (g' := s.gens) (d' := s.drawn) (ch := []) (fun _ z => nomatch z) (fun b o _ hb _ e n => u.keep b o e n hb (by simp)) (fun b o _ hb _ e n => u.slot b o e n hb (by simp)) (fun b o _ e n => u.free b o e n (by simp)) (fun b o _ e => u.there b o e (by simp)) u.tups u.frzs u.tbls (fun m' hm => by
    obtain ⟨o', es', ep', ho', r'⟩ := hm
    rw [ho] at ho'; cases ho'
    exact ⟨_, es', ep', hL, r'⟩) hok I.bare
theorem Inv.call {g' : Array GenState} {t' : Nat} {d' : Drawn} {ch : List Addr} (I : Inv X pins σ H s) (u : Un (frs X.stack) ch H H' s.heap h') (hok : HOk X.prog X.w H' h') (hg : AllBare g')
    (hch : ∀ b ∈ ch, (b ∈ X.ex ∨ X.s₀.heap.objs.size ≤ b) ∧ b ≠ X.env.locals ∧ (∀ x c, X.env.cells.lookup x = some c → c ≠ b) ∧ ∀ p ∈ X.pn ++ pins, p.1 ≠ b) :
    Inv X pins σ H' { s with heap := h', gens := g', drawn := d', toks := t' } := by
  obtain ⟨m, ⟨o, es, ep, ho, r⟩, _⟩ := id I.loc
  obtain ⟨sl, hL⟩ := u.any ho I.free fun z => (hch _ z).2.1 rfl
  exact I.step (ch := ch) hch (fun b o hL hb hc e n => u.keep b o e n (fun z => (List.mem_cons.mp (I.stkSub b z)).elim hL hb) hc) (fun b o _ _ hc e n => u.any e n hc) (fun b o hc e n => u.free b o e n hc) (fun b o hc e => u.there b o e hc) u.tups u.frzs u.tbls (fun m' hm => by
    obtain ⟨o', es', ep', ho', r'⟩ := hm
    rw [ho] at ho'; cases ho'
    exact ⟨_, es', ep', hL, r'⟩) hok hg
theorem Inv.turned {t' : Nat} {it : Addr} (I : Inv X pins σ H s) (k : ∀ b o, b ≠ it → s.heap.get? b = some o → h'.get? b = some o) (hn : H it = none) (hL : it ≠ X.env.locals)
    (h1 : it ∈ X.ex ∨ X.s₀.heap.objs.size ≤ it) (h2 : ∀ x c, X.env.cells.lookup x = some c → c ≠ it) (h3 : ∀ p ∈ X.pn ++ pins, p.1 ≠ it) : Inv X pins σ H { s with heap := h', toks := t' } := by
  have nit : ∀ b u, H b = some u → b ≠ it := fun b u e z => by rw [z, hn] at e; cases e
  refine I.step (g' := s.gens) (d' := s.drawn) (ch := [it]) (fun b hb => ?_) (fun b o _ _ hc e _ => k b o (fun z => hc (by simp [z])) e) (fun b o _ _ hc e _ => ⟨o.slots, k b o (fun z => hc (by simp [z])) e⟩) (fun _ _ _ _ n => n)
    (fun b o hc e => ⟨o, k b o (fun z => hc (by simp [z])) e⟩) (fun _ _ e => e) (fun _ _ _ e => e) (fun b ps e => ⟨#[], by rw [e]; simp⟩) (fun m hm => ?_) (fun b u e => ?_) I.bare
  · have e : b = it := by simpa using hb
    subst e
    exact ⟨h1, hL, h2, h3⟩
  · obtain ⟨o, es, ep, ho, r⟩ := hm
    exact ⟨o, es, ep, k _ o (Ne.symm hL) ho, r⟩
  · refine (I.hok b u e).stay (fun c v hc q => k c v ?_ q) (fun _ q => q) fun _ _ q => q
    rcases hc with z | z
    · rw [z]; exact nit b u e
    · exact nit c _ z
theorem Inv.tok (I : Inv X pins σ H s) (t : Nat) : Inv X pins σ H { s with toks := t } := I.un (h' := s.heap) (t' := t) Un.refl I.hok
theorem Inv.kept {t' : Nat} (I : Inv X pins σ H s) (k : ∀ b u, s.heap.get? b = some u → h'.get? b = some u) : Inv X pins σ H { s with heap := h', toks := t' } := I.un (Un.kept k) (I.hok.kept k)
theorem Inv.laid {a : Addr} {o : HO} {t' : Nat} (I : Inv X pins σ H s) (k : ∀ b u, s.heap.get? b = some u → h'.get? b = some u) (hp : s.heap.objs.size ≤ a) (new : ObjOk X.prog X.w (upd H a o) h' a o) :
    Inv X pins σ (upd H a o) { s with heap := h', toks := t' } := I.un (Un.laid k hp (I.hok.fresh hp)) (I.hok.laid k hp new)
theorem Inv.write {x e : Addr} {o : HO} {t' : Nat} (I : Inv X pins σ H s) (mu : Mut (H x)) (he : e = x ∨ H e = some (.own x)) (k : ∀ b u, b ≠ e → s.heap.get? b = some u → h'.get? b = some u) (heo : ∃ u, h'.get? e = some u)
    (new : ObjOk X.prog X.w (upd H x o) h' x o) : Inv X pins σ (upd H x o) { s with heap := h', toks := t' } := I.un (Un.write mu he k heo) (I.hok.write mu he k heo new)
theorem Inv.weak {σ' : List (Option V)} (I : Inv X pins σ H s) (hl : σ'.length = σ.length) (w : ∀ (i : Nat) v, σ'[i]? = some (some v) → σ[i]? = some (some v)) : Inv X pins σ' H s :=
  ⟨I.ok, I.os, I.bare, I.base, let ⟨m, hn, hl'⟩ := I.loc; ⟨m, hn, fun i x v e1 e2 e3 => hl' i x v e1 (w i v e2) e3⟩, I.cell, I.free, I.freeC, I.pin, I.hok, hl.trans I.len⟩
theorem Inv.pins_of {pins' : List (Addr × Obj)} (I : Inv X pins σ H s) (h : ∀ p ∈ pins', s.heap.get? p.1 = some p.2 ∧ H p.1 = none ∧ p.1 ≠ X.env.locals ∧ p.1 ∉ X.fs ∧ ∀ v, p.2.data ≠ .cell v) : Inv X pins' σ H s :=
  ⟨I.ok, I.os, I.bare, I.base, I.loc, I.cell, I.free, I.freeC, fun p hp => (List.mem_append.mp hp).elim (fun z => I.pin p (List.mem_append_left _ z)) (h p), I.hok, I.len⟩

theorem nodup_ix {N : List Str} (hN : N.Nodup) {i j : Nat} {x : Str} (a : N[i]? = some x) (b : N[j]? = some x) : i = j := by
  obtain ⟨h1, e1⟩ := List.getElem?_eq_some_iff.mp a
  obtain ⟨h2, e2⟩ := List.getElem?_eq_some_iff.mp b
  exact (List.getElem_inj hN).mp (e1.trans e2.symm)

theorem store_ok2 {M : Model} {A : Around} {E : Value → Shared → Prop} {i : Nat} {x : Str} {v : V} {u : Value} {Q : Unit → Shared → Prop} (I : Inv X pins σ H s) (hN : X.N.Nodup) (hi : X.N[i]? = some x) (hx : Loc X.env.scope x) (r : RelV v u)
    (h : ∀ s', Inv X pins (σ.set i (some v)) H s' → (∃ a, Heap.SameBut a s.heap s'.heap ∧ (a = X.env.locals ∨ X.env.cells.lookup x = some a)) → Q () s') (hf : X.fn x = true ∨ X.env.scope.names.lookup x = some .local := by first | exact .inl rfl | exact .inr rfl | assumption) : wpAny M A (storeName X.env x u) Q E s := by
  obtain ⟨m, hn, hl⟩ := id I.loc
  have hcls : (X.env.scope.kind == .class || (X.env.scope.kind == .module && X.env.locals != X.env.globals)) = false := by rw [I.ok.kind]; rfl
  have hiσ : i < σ.length := by rw [I.len]; exact (List.getElem?_eq_some_iff.mp hi).1
  have cne := I.cne
  have tracked : ∀ {a : Addr} {h' : Heap}, (∃ o, s.heap.get? a = some o ∧ H a = none) → Heap.SameBut a s.heap h' → HOk X.prog X.w H h' := fun {a h'} ha hs b ob e => by
    obtain ⟨_, _, hfree⟩ := ha
    refine (I.hok b ob e).stay (fun c w' hc q => (hs.2 c ?_).trans q) (fun _ q => q) fun _ _ q => q
    rintro rfl
    rcases hc with rfl | hc
    · rw [hfree] at e; cases e
    · rw [hfree] at hc; cases hc
  rcases hx with hk | hk
  · refine wpAny_storeName_local hk hn (fun h' hn' hs => ?_) hcls
    obtain ⟨oL, _, _, hoL, _⟩ := id hn
    refine h _ ⟨I.ok, I.os, I.bare, ⟨fun b o e n hb hx => ?_, fun b o e n hb hx => ?_, I.base.free, fun b o e hx => ?_, I.base.tups, I.base.frzs, I.base.tbls⟩, ⟨_, hn', fun j y v' e1 e2 e3 => ?_⟩, fun y c e => ?_, I.free, I.freeC, fun p hp => ?_, tracked ⟨oL, hoL, I.free⟩ hs, by simpa using I.len⟩ ⟨_, hs, .inl rfl⟩
    · exact (hs.2 b (Nat.ne_of_lt (Nat.lt_of_lt_of_le (Heap.lt_size e) I.ok.above))).trans (I.base.keep b o e n hb hx)
    · obtain ⟨sl, e1⟩ := I.base.slot b o e n hb hx
      exact ⟨sl, (hs.2 b (Nat.ne_of_lt (Nat.lt_of_lt_of_le (Heap.lt_size e) I.ok.above))).trans e1⟩
    · obtain ⟨o', e1⟩ := I.base.there b o e hx
      exact ⟨o', (hs.2 b (Nat.ne_of_lt (Nat.lt_of_lt_of_le (Heap.lt_size e) I.ok.above))).trans e1⟩
    · by_cases hj : j = i
      · subst hj
        rw [hi] at e1; cases e1
        rw [List.getElem?_set_self hiσ] at e2
        cases e2
        exact ⟨u, r, .inl ⟨hk, by simp⟩⟩
      · rw [List.getElem?_set_ne (Ne.symm hj)] at e2
        obtain ⟨u', r', q⟩ := hl j y v' e1 e2 e3
        refine ⟨u', r', ?_⟩
        rcases q with ⟨k, e⟩ | ⟨k, c, e, z⟩
        · refine .inl ⟨k, ?_⟩
          have : y ≠ x := fun e => hj (nodup_ix hN e1 (e ▸ hi))
          simp [this, e]
        · exact .inr ⟨k, c, e, z.sameBut hs (cne y c e)⟩
    · obtain ⟨w', z⟩ := I.cell y c e
      exact ⟨w', z.sameBut hs (cne y c e)⟩
    · obtain ⟨e, n, ne, nf, d⟩ := I.pin p hp
      exact ⟨(hs.2 p.1 ne).trans e, n, ne, nf, d⟩
  · have hfn : X.fn x = true := by
      rcases hf with z | z
      · exact z
      · rw [z] at hk; cases hk
    obtain ⟨c, hc⟩ := I.ok.has x (.inl hk)
    obtain ⟨w', z⟩ := I.cell x c hc
    refine wpAny_storeName_cell I.ok.kind hk hc z (fun h' hc' hs => ?_)
    obtain ⟨oc, hoc, hocd⟩ := id z
    refine h { s with heap := h' } ⟨I.ok, I.os, I.bare, ⟨fun b o e n hb hx => ?_, fun b o e n hb hx => ?_, I.base.free, fun b o e hx => ?_, I.base.tups, I.base.frzs, I.base.tbls⟩, ⟨m, hn.sameBut hs (Ne.symm (cne x c hc)), fun j y v' e1 e2 e3 => ?_⟩, fun y c' e => ?_, I.free, I.freeC, fun p hp => ?_, tracked ⟨oc, hoc, I.freeC x c hc⟩ hs, by simpa using I.len⟩ ⟨c, hs, .inr hc⟩
    · exact (hs.2 b (Nat.ne_of_lt (Nat.lt_of_lt_of_le (Heap.lt_size e) (I.ok.cab x c hfn hc)))).trans (I.base.keep b o e n hb hx)
    · obtain ⟨sl, e1⟩ := I.base.slot b o e n hb hx
      exact ⟨sl, (hs.2 b (Nat.ne_of_lt (Nat.lt_of_lt_of_le (Heap.lt_size e) (I.ok.cab x c hfn hc)))).trans e1⟩
    · obtain ⟨o', e1⟩ := I.base.there b o e hx
      exact ⟨o', (hs.2 b (Nat.ne_of_lt (Nat.lt_of_lt_of_le (Heap.lt_size e) (I.ok.cab x c hfn hc)))).trans e1⟩
    · by_cases hj : j = i
      · subst hj
        rw [hi] at e1; cases e1
        rw [List.getElem?_set_self hiσ] at e2
        cases e2
        exact ⟨u, r, .inr ⟨.inl hk, c, hc, hc'⟩⟩
      · rw [List.getElem?_set_ne (Ne.symm hj)] at e2
        obtain ⟨u', r', q⟩ := hl j y v' e1 e2 e3
        refine ⟨u', r', ?_⟩
        rcases q with q | ⟨k, c', e, z'⟩
        · exact .inl q
        · refine .inr ⟨k, c', e, z'.sameBut hs ?_⟩
          rintro rfl
          exact hj (nodup_ix hN e1 (I.ok.inj _ _ _ e hc ▸ hi))
    · by_cases hcc : c' = c
      · subst hcc; exact ⟨_, hc'⟩
      · obtain ⟨w2, z2⟩ := I.cell y c' e
        exact ⟨w2, z2.sameBut hs hcc⟩
    · obtain ⟨e, n, ne, nf, d⟩ := I.pin p hp
      refine ⟨(hs.2 p.1 ?_).trans e, n, ne, nf, d⟩
      intro q
      rw [q, hoc] at e
      have q' : oc = p.2 := Option.some.inj e
      exact d w' (by rw [← q']; exact hocd)
theorem store_ok {M : Model} {A : Around} {E : Value → Shared → Prop} {i : Nat} {x : Str} {v : V} {u : Value} {Q : Unit → Shared → Prop} (I : Inv X pins σ H s) (hN : X.N.Nodup) (hi : X.N[i]? = some x) (hx : Loc X.env.scope x) (r : RelV v u)
    (h : ∀ s', Inv X pins (σ.set i (some v)) H s' → Q () s') (hf : X.fn x = true ∨ X.env.scope.names.lookup x = some .local := by first | exact .inl rfl | exact .inr rfl | assumption) : wpAny M A (storeName X.env x u) Q E s :=
  store_ok2 I hN hi hx r (fun s' I' _ => h s' I') hf
theorem Inv.call' {s' : Shared} {ch : List Addr} (I : Inv X pins σ H s) (ho : s'.os = s.os) (u : Un (frs X.stack) ch H H' s.heap s'.heap) (hok : HOk X.prog X.w H' s'.heap) (hg : AllBare s'.gens)
    (hch : ∀ b ∈ ch, (b ∈ X.ex ∨ X.s₀.heap.objs.size ≤ b) ∧ b ≠ X.env.locals ∧ (∀ x c, X.env.cells.lookup x = some c → c ≠ b) ∧ ∀ p ∈ X.pn ++ pins, p.1 ≠ b) : Inv X pins σ H' s' := by
  obtain ⟨h', g', d', t', o'⟩ := s'
  have e : o' = s.os := ho
  subst e
  exact I.call (g' := g') (t' := t') (d' := d') u hok hg hch
end

/-! ### the judgements -/
abbrev XK := Value → Option Addr → Hp → Prop
abbrev St := List (Option V)
abbrev VK := V → Hp → Prop
abbrev TE := St → Hp → VK → Prop
abbrev TT := St → Hp → (Bool → Hp → Prop) → Prop
abbrev TA := St → Hp → (List V → Hp → Prop) → Prop
structure Ends where
  nx : St → Hp → Prop
  rt : VK
  bk : St → Hp → Prop := fun _ _ => False
  ct : St → Hp → Prop := fun _ _ => False
abbrev TS := Ends → St → Hp → Prop

def EP (X : Cx) (pins : List (Addr × Obj)) (σ : St) (Q : VK) (u : Value) (s' : Shared) : Prop := ∃ v H', Inv X pins σ H' s' ∧ RelV v u ∧ Q v H'
def TP (X : Cx) (pins : List (Addr × Obj)) (σ : St) (Q : Bool → Hp → Prop) (b : Bool) (s' : Shared) : Prop := ∃ H', Inv X pins σ H' s' ∧ Q b H'
def AP (X : Cx) (pins : List (Addr × Obj)) (σ : St) (Q : List V → Hp → Prop) (us : List Value) (s' : Shared) : Prop := ∃ vs H', Inv X pins σ H' s' ∧ Vals vs us ∧ Q vs H'
def SP (X : Cx) (pins : List (Addr × Obj)) (D : Ends) (f : Flow) (s' : Shared) : Prop :=
  match f with
  | .next => ∃ σ' H', Inv X pins σ' H' s' ∧ D.nx σ' H'
  | .brk => ∃ σ' H', Inv X pins σ' H' s' ∧ D.bk σ' H'
  | .cont => ∃ σ' H', Inv X pins σ' H' s' ∧ D.ct σ' H'
  | .ret u => ∃ v σ' H', Inv X pins σ' H' s' ∧ RelV v u ∧ D.rt v H'

def PE (X : Cx) (e : Expr) (t : TE) : Prop :=
  ∀ (pins : List (Addr × Obj)) (s : Shared) (σ : St) (H : Hp) (Q : VK), Inv X pins σ H s → t σ H Q → wpAny (model X.prog X.w) X.A (eval e X.env) (EP X pins σ Q) X.xe s
def PT (X : Cx) (e : Expr) (t : TT) : Prop :=
  ∀ (pins : List (Addr × Obj)) (s : Shared) (σ : St) (H : Hp) (Q : Bool → Hp → Prop), Inv X pins σ H s → t σ H Q → wpAny (model X.prog X.w) X.A (isTrue e X.env (eval e X.env)) (TP X pins σ Q) X.xe s
def PW (X : Cx) (e : Expr) (t : TT) : Prop :=
  ∀ (whole : Sem Value) (pins : List (Addr × Obj)) (s : Shared) (σ : St) (H : Hp) (Q : Bool → Hp → Prop), Inv X pins σ H s → t σ H Q → wpAny (model X.prog X.w) X.A (isTrue e X.env whole) (TP X pins σ Q) X.xe s
theorem PW.pt {X : Cx} {e : Expr} {t : TT} (h : PW X e t) : PT X e t := h _
def PA (X : Cx) (es : List Expr) (t : TA) : Prop :=
  ∀ (pos : Pos) (pins : List (Addr × Obj)) (s : Shared) (σ : St) (H : Hp) (Q : List V → Hp → Prop), Inv X pins σ H s → t σ H Q → wpAny (model X.prog X.w) X.A (spliced (backTo pos (starEach es X.env))) (AP X pins σ Q) X.xe s
def PS (X : Cx) (st : Stmt) (t : TS) : Prop :=
  ∀ (pins : List (Addr × Obj)) (s : Shared) (σ : St) (H : Hp) (D : Ends), Inv X pins σ H s → t D σ H → wpAny (model X.prog X.w) X.A (exec st X.env) (SP X pins D) X.xe s
def PSs (X : Cx) (st : List Stmt) (t : TS) : Prop :=
  ∀ (pins : List (Addr × Obj)) (s : Shared) (σ : St) (H : Hp) (D : Ends), Inv X pins σ H s → t D σ H → wpAny (model X.prog X.w) X.A (execs st X.env) (SP X pins D) X.xe s
theorem thn {α : Type} {t : Sem α} {Q Q' : α → Shared → Prop} {M : Model} {A : Around} {E : Value → Shared → Prop} {s : Shared} (h : wpAny M A t Q E s) (hQ : ∀ a s, Q a s → Q' a s) : wpAny M A t Q' E s := wpAny_mono h hQ fun _ _ x => x
end L2

namespace L2
open PySem PySem.Spec PyProof.Rows
section
variable {X : Cx}


/-! ### names and constants -/
def tVar (i : Nat) : TE := fun σ H Q => ∃ v, σ[i]? = some (some v) ∧ Q v H
def tC (v : V) : TE := fun _ H Q => Q v H
theorem pe_var {i : Nat} {x : Str} {pos : Pos} (hN : X.N[i]? = some x) (hv : Vis X.env.scope x) (hd : (x == ("__debug__" : Str)) = false := by decide) (hcd : (x == ("__classdict__" : Str)) = false := by decide) : PE X (.Name x pos) (tVar i) := by
  intro pins s σ H Q I h
  obtain ⟨v, e, h⟩ := h
  obtain ⟨m, hn, hl⟩ := I.loc
  obtain ⟨u, r, l⟩ := hl i x v hN e hv
  have fin : EP X pins σ Q u s := ⟨v, H, I, r, h⟩
  rcases l with ⟨hk, hm⟩ | ⟨hk, c, hc, hcell⟩
  · exact wpAny_Name (wpAny_loadName_local I.ok.kind hk hn hm fin) hd
  · rcases hk with hk | hk
    · exact wpAny_Name (wpAny_loadName_cell I.ok.kind hk hc hcell fin) hd
    · exact wpAny_Name (wpAny_loadName_free I.ok.kind hk hc hcell fin hcd) hd
theorem pe_int {i j pos} : PE X (.Constant (.int i) j pos) (tC (.int i)) := fun _ _ _ H _ I h => wpAny_Constant_int ⟨.int i, H, I.tok _, ⟨_, rfl⟩, h⟩
theorem pe_bl {b j pos} : PE X (.Constant (.bool b) j pos) (tC (.bl b)) := fun _ _ _ H _ I h => Constant_bool ⟨.bl b, H, I, rfl, h⟩
theorem pe_str {x j pos} : PE X (.Constant (.str x) j pos) (tC (.str x)) := fun _ _ _ H _ I h => Calls.Constant_str ⟨.str x, H, I.tok _, ⟨_, rfl⟩, h⟩

def Gl (X : Cx) (x : Str) : Prop := X.env.kindOf x = some .globalImplicit
theorem ld_glob {E : Value → Shared → Prop} {pins : List (Addr × Obj)} {s : Shared} {σ : St} {H : Hp} {x : Str} {u : Value} {pos : Pos} {Q : Value → Shared → Prop} (I : Inv X pins σ H s) (hg : Gl X x) (hm : X.mg x = some u) (h : Q u s)
    (hd : (x == ("__debug__" : Str)) = false := by decide) : wpAny (model X.prog X.w) X.A (eval (.Name x pos) X.env) Q E s :=
  Calls.Name_function_global I.ok.kind hg (Calls.loadGlobal_global (by rw [I.ok.glob]; exact I.mod.glob.keeps I.bk) hm h) hd
theorem ld_blt {E : Value → Shared → Prop} {pins : List (Addr × Obj)} {s : Shared} {σ : St} {H : Hp} {x : Str} {u : Value} {pos : Pos} {Q : Value → Shared → Prop} (I : Inv X pins σ H s) (hg : Gl X x) (hm : X.mg x = none) (hv : bootBuiltins x = some u) (h : Q u s)
    (hn : x ≠ "__name__" := by decide) (hd : (x == ("__debug__" : Str)) = false := by decide) : wpAny (model X.prog X.w) X.A (eval (.Name x pos) X.env) Q E s := by
  obtain ⟨mb, h1, h2⟩ := I.mod.blt
  exact Calls.Name_function_global I.ok.kind hg (Calls.loadGlobal_builtin (by rw [I.ok.glob]; exact I.mod.glob.keeps I.bk) hm (by rw [I.ok.blt]; exact h1.keeps I.bk) ((h2 x hn).trans hv) h) hd
theorem pe_glob {x : Str} {v : V} {u : Value} {pos : Pos} (hg : Gl X x) (hm : X.mg x = some u) (r : RelV v u) (hd : (x == ("__debug__" : Str)) = false := by decide) : PE X (.Name x pos) (tC v) :=
  fun _ _ _ H _ I h => ld_glob I hg hm ⟨v, H, I, r, h⟩ hd
theorem pe_bltn {x : Str} {v : V} {u : Value} {pos : Pos} (hg : Gl X x) (hm : X.mg x = none) (hv : bootBuiltins x = some u) (r : RelV v u) (hn : x ≠ "__name__" := by decide) (hd : (x == ("__debug__" : Str)) = false := by decide) : PE X (.Name x pos) (tC v) :=
  fun _ _ _ H _ I h => ld_blt I hg hm hv ⟨v, H, I, r, h⟩ hn hd

/-! ### arithmetic -/
def t2I (ta tb : TE) (k : Int → Int → Hp → Prop) : St → Hp → Prop := fun σ H => ta σ H fun x H1 => tb σ H1 fun y H2 => ∃ i j, x = .int i ∧ y = .int j ∧ k i j H2
variable {a b : Expr} {ta tb : TE} {pos : Pos}

/-! ### comparisons -/
def tCmp (p : Int → Int → Bool) (ta tb : TE) : TE := fun σ H Q => t2I ta tb (fun i j H2 => Q (.bl (p i j)) H2) σ H
abbrev tLt : TE → TE → TE := tCmp fun i j => decide (i < j)
abbrev tLe : TE → TE → TE := tCmp fun i j => decide (i ≤ j)
abbrev tGt : TE → TE → TE := tCmp fun i j => decide (j < i)
abbrev tGe : TE → TE → TE := tCmp fun i j => decide (j ≤ i)
abbrev tEqI : TE → TE → TE := tCmp fun i j => decide (i = j)
abbrev tNeI : TE → TE → TE := tCmp fun i j => !decide (i = j)
def tB (t : TE) : TT := fun σ H Q => t σ H fun x H1 => ∃ c, x = .bl c ∧ Q c H1
theorem pt_val {e : Expr} {t : TE} (h : PE X e t) (he : ∀ whole, isTrue e X.env whole = (do let v ← whole; standAt e.pos; holding [v] (truthy v)) := by intro _; rfl) : PT X e (tB t) := by
  intro pins s σ H Q I hw
  refine isTrue_plain (thn (h pins s σ H _ I hw) fun v s1 ⟨x, H1, I1, r1, q1⟩ => ?_) (he _)
  obtain ⟨d, rfl, q⟩ := q1
  cases r1
  exact wpAny_truthy_bool ⟨H1, I1, q⟩

/-! ### and, or, not -/
variable {tA tB' : TT} {rest : List Expr}
def tAnd (t u : TT) : TT := fun σ H Q => t σ H fun c H1 => if c = true then u σ H1 Q else Q false H1
def tOr (t u : TT) : TT := fun σ H Q => t σ H fun c H1 => if c = true then Q true H1 else u σ H1 Q
def tNot (t : TT) : TT := fun σ H Q => t σ H fun c H1 => Q (!c) H1
theorem pw_and1 (ha : PT X a tA) : PW X (.BoolOp .And [a] pos) tA := by
  intro wh pins s σ H Q I h
  refine isTrue_and (thn (ha pins s σ H Q I h) fun c s1 e => ?_)
  cases c with
  | true => exact isTrue_and_nil e
  | false => exact e
theorem pw_or1 (ha : PT X a tA) : PW X (.BoolOp .Or [a] pos) tA := by
  intro wh pins s σ H Q I h
  refine isTrue_or (thn (ha pins s σ H Q I h) fun c s1 e => ?_)
  cases c with
  | false => exact isTrue_or_nil e
  | true => exact e
theorem pw_and (ha : PT X a tA) (hb : PW X (.BoolOp .And (b :: rest) pos) tB') : PW X (.BoolOp .And (a :: b :: rest) pos) (tAnd tA tB') := by
  intro wh pins s σ H Q I h
  refine isTrue_and (thn (ha pins s σ H _ I h) fun c s1 hh => ?_)
  obtain ⟨H1, I1, q1⟩ := hh
  cases c with
  | true => exact hb wh pins s1 σ H1 Q I1 q1
  | false => exact ⟨H1, I1, q1⟩
theorem pw_or (ha : PT X a tA) (hb : PW X (.BoolOp .Or (b :: rest) pos) tB') : PW X (.BoolOp .Or (a :: b :: rest) pos) (tOr tA tB') := by
  intro wh pins s σ H Q I h
  refine isTrue_or (thn (ha pins s σ H _ I h) fun c s1 hh => ?_)
  obtain ⟨H1, I1, q1⟩ := hh
  cases c with
  | true => exact ⟨H1, I1, q1⟩
  | false => exact hb wh pins s1 σ H1 Q I1 q1
theorem pt_not (ha : PT X a tA) : PT X (.UnaryOp .Not a pos) (tNot tA) := by
  intro pins s σ H Q I h
  exact isTrue_not (ha pins s σ H (fun c H1 => Q (!c) H1) I h)
def tAndV (ta tb : TE) : TE := fun σ H Q => ta σ H fun x H1 => ∃ c, x = .bl c ∧ if c = true then tb σ H1 Q else Q (.bl false) H1
def tNotV (ta : TE) : TE := fun σ H Q => ta σ H fun x H1 => ∃ c, x = .bl c ∧ Q (.bl (!c)) H1
theorem pe_one {op} {t : TE} (h : PE X a t) : PE X (.BoolOp op [a] pos) t := fun pins s σ H Q I hw => BoolOp_one (h pins s σ H Q I hw)
theorem pe_and (ha : PE X a ta) (hb : PE X (.BoolOp .And (b :: rest) pos) tb) : PE X (.BoolOp .And (a :: b :: rest) pos) (tAndV ta tb) := by
  intro pins s σ H Q I h
  refine BoolOp_and (thn (ha pins s σ H _ I h) fun v s1 hh => ?_)
  obtain ⟨x, H1, I1, r1, q1⟩ := hh
  obtain ⟨c, rfl, q1⟩ := q1
  cases r1
  refine wpAny_truthy_bool ?_
  cases c with
  | true => exact hb pins s1 σ H1 Q I1 q1
  | false => exact ⟨.bl false, H1, I1, rfl, q1⟩
theorem pe_not (ha : PE X a ta) : PE X (.UnaryOp .Not a pos) (tNotV ta) := by
  intro pins s σ H Q I h
  refine UnaryOp_ (thn (ha pins s σ H _ I h) fun v s1 hh => ?_)
  obtain ⟨x, H1, I1, r1, q1⟩ := hh
  obtain ⟨c, rfl, q1⟩ := q1
  cases r1
  exact not_of (wpAny_truthy_bool ⟨.bl (!c), H1, I1, rfl, q1⟩)
end
end L2

namespace L2
open PySem PySem.Spec PyProof.Rows

/-! ### a list, a tuple that is read: tracked, frozen, or an object of the module -/
def SqL (K : PySem.W.Frag) (H : Hp) (a : Addr) (xs : List V) : Prop :=
  Rd H a (.lst xs) ∨
    ∃ (o : Obj) (its : Array Value) (n : Nat), K.lookup a = some o ∧ o.cls = .type "list" ∧ o.dict = none ∧ o.data = .seq its n ∧ its.size ≤ sizeLine ∧ Vals xs its.toList
def SqT (K : PySem.W.Frag) (H : Hp) (a : Addr) (xs : List V) : Prop :=
  Rd H a (.tup xs) ∨
    ∃ (o : Obj) (its : Array Value) (n : Nat), K.lookup a = some o ∧ o.cls = .type "tuple" ∧ o.data = .seq its n ∧ its.size ≤ sizeLine ∧ Vals xs its.toList
def absV : Value → Option V
  | .none => some .non
  | .bool b => some (.bl b)
  | .int i _ => some (.int i)
  | .str x _ => some (.str x)
  | .bytes b _ => some (.byt b)
  | .float b _ => some (.flt b)
  | .ref a => some (.ref a)
  | .type n => some (.ty n)
  | _ => none
theorem RelV.abs {x : V} {u : Value} (r : RelV x u) : absV u = some x := by
  cases x with
  | non => cases r; rfl
  | bl _ => cases r; rfl
  | int _ => obtain ⟨t, rfl⟩ := r; rfl
  | str _ => obtain ⟨t, rfl⟩ := r; rfl
  | byt _ => obtain ⟨t, rfl⟩ := r; rfl
  | flt _ => obtain ⟨t, rfl⟩ := r; rfl
  | ref _ => cases r; rfl
  | ty _ => cases r; rfl
theorem RelV.inj {x y : V} {u : Value} (r : RelV x u) (q : RelV y u) : x = y := Option.some.inj (r.abs.symm.trans q.abs)
theorem Vals.inj : ∀ {xs ys : List V} {us : List Value}, Vals xs us → Vals ys us → xs = ys
  | _, _, _, .nil, .nil => rfl
  | _, _, _, .cons r t, .cons r' t' => by rw [r.inj r', Vals.inj t t']
section
variable {X : Cx} {pins : List (Addr × Obj)} {σ : St} {H : Hp} {s : Shared} {a : Addr} {xs ys : List V}
theorem SqL.of {K : PySem.W.Frag} (h : H a = some (.lst xs)) : SqL K H a xs := .inl (.inl h)
theorem SqT.of {K : PySem.W.Frag} (h : H a = some (.tup xs)) : SqT K H a xs := .inl (.inl h)
theorem Inv.list (I : Inv X pins σ H s) (h : SqL X.K H a xs) : ∃ its : List Value, Vals xs its ∧ PlainL s.heap a its.toArray ∧ xs.length ≤ sizeLine := by
  rcases h with h | ⟨o, its, n, hk, hc, hd, hs, hz, r⟩
  · obtain ⟨z, its, n, r, e⟩ := h.ok I.hok
    exact ⟨its, r, ⟨_, n, e, rfl, rfl, rfl⟩, z⟩
  · refine ⟨its.toList, r, ⟨o, n, I.kIn a o hk, hc, hd, by simpa using hs⟩, ?_⟩
    have e := r.length
    simp only [Array.length_toList] at e
    omega
theorem Inv.tuple (I : Inv X pins σ H s) (h : SqT X.K H a xs) : ∃ its : List Value, Vals xs its ∧ IsTup s.heap a its.toArray ∧ xs.length ≤ sizeLine := by
  rcases h with h | ⟨o, its, n, hk, hc, hs, hz, r⟩
  · obtain ⟨z, its, r, p⟩ := h.ok I.hok
    exact ⟨its, r, p, z⟩
  · refine ⟨its.toList, r, ⟨o, I.kIn a o hk, hc, n, by simpa using hs⟩, ?_⟩
    have e := r.length
    simp only [Array.length_toList] at e
    omega
theorem Inv.list_inj (I : Inv X pins σ H s) (h : SqL X.K H a xs) (h' : SqL X.K H a ys) : xs = ys := by
  obtain ⟨its, r, ⟨o, n, e, _, _, d⟩, _⟩ := I.list h
  obtain ⟨its', r', ⟨o', n', e', _, _, d'⟩, _⟩ := I.list h'
  rw [e] at e'; cases e'
  rw [d] at d'
  injection d' with d1 _
  have : its = its' := by simpa using congrArg Array.toList d1
  subst this
  exact r.inj r'
theorem Inv.tuple_inj (I : Inv X pins σ H s) (h : SqT X.K H a xs) (h' : SqT X.K H a ys) : xs = ys := by
  obtain ⟨its, r, ⟨o, e, _, n, d⟩, _⟩ := I.tuple h
  obtain ⟨its', r', ⟨o', e', _, n', d'⟩, _⟩ := I.tuple h'
  rw [e] at e'; cases e'
  rw [d] at d'
  injection d' with d1 _
  have : its = its' := by simpa using congrArg Array.toList d1
  subst this
  exact r.inj r'
end

/-! ### another wish about exceptions -/
abbrev Cx.wish (X : Cx) (E : Value → Shared → Prop) : Cx := { X with xe := E }
abbrev Cx.nox (X : Cx) : Cx := X.wish fun _ _ => False
theorem Cx.Ok.wish {X : Cx} (ok : X.Ok) (E : Value → Shared → Prop) : (X.wish E).Ok :=
  ⟨ok.mod, ok.kind, ok.glob, ok.blt, ok.above, ok.inj, ok.has, ok.cab, ok.hd, ok.frames, ok.stk, ok.exf, ok.bs, ok.bsz, ok.noex, ok.exfs, ok.funs, ok.frf⟩
theorem Cx.Ok.unwish {X : Cx} {E : Value → Shared → Prop} (ok : (X.wish E).Ok) : X.Ok :=
  ⟨ok.mod, ok.kind, ok.glob, ok.blt, ok.above, ok.inj, ok.has, ok.cab, ok.hd, ok.frames, ok.stk, ok.exf, ok.bs, ok.bsz, ok.noex, ok.exfs, ok.funs, ok.frf⟩
section
variable {X : Cx} {pins : List (Addr × Obj)} {σ : St} {H : Hp} {s : Shared} {E : Value → Shared → Prop}
theorem Inv.wish (I : Inv X pins σ H s) (E : Value → Shared → Prop) : Inv (X.wish E) pins σ H s := ⟨I.ok.wish E, I.os, I.bare, I.base, I.loc, I.cell, I.free, I.freeC, I.pin, I.hok, I.len⟩
theorem Inv.unwish (I : Inv (X.wish E) pins σ H s) : Inv X pins σ H s := ⟨I.ok.unwish, I.os, I.bare, I.base, I.loc, I.cell, I.free, I.freeC, I.pin, I.hok, I.len⟩
theorem SP.unwish {D : Ends} {f : Flow} {s' : Shared} (h : SP (X.wish E) pins D f s') : SP X pins D f s' := by
  cases f with
  | next => obtain ⟨σ', H', I, q⟩ := h; exact ⟨σ', H', I.unwish, q⟩
  | brk => obtain ⟨σ', H', I, q⟩ := h; exact ⟨σ', H', I.unwish, q⟩
  | cont => obtain ⟨σ', H', I, q⟩ := h; exact ⟨σ', H', I.unwish, q⟩
  | ret u => obtain ⟨v, σ', H', I, r, q⟩ := h; exact ⟨v, σ', H', I.unwish, r, q⟩
theorem PSs.nox {st : List Stmt} {t : TS} (h : PSs X.nox st t) : PSs X st t := fun pins s σ H D I hw =>
  wpAny_mono (h pins s σ H D (I.wish _) hw) (fun _ _ q => q.unwish) fun _ _ z => False.elim z
end

/-! ### blocks and small statements -/
section
variable {X : Cx} {st : Stmt} {rest : List Stmt} {t u : TS} {e : Expr} {te : TE} {pos : Pos}
def tNext : TS := fun D σ H => D.nx σ H
def tSeq (t u : TS) : TS := fun D σ H => t { D with nx := u D } σ H
theorem pss_nil : PSs X [] tNext := fun _ _ σ H _ I h => wpAny_execs_nil ⟨σ, H, I, h⟩
theorem pss_cons (h1 : PS X st t) (h2 : PSs X rest u) : PSs X (st :: rest) (tSeq t u) := by
  intro pins s σ H D I h
  refine wpAny_execs_cons (thn (h1 pins s σ H { D with nx := u D } I h) fun f s1 q => ?_)
  cases f with
  | next =>
    obtain ⟨σ', H', I', q⟩ := q
    exact h2 pins s1 σ' H' D I' q
  | ret v => exact q
  | brk => exact q
  | cont => exact q
theorem pss_one (h1 : PS X st t) : PSs X [st] t := by
  intro pins s σ H D I h
  refine wpAny_execs_cons (thn (h1 pins s σ H D I h) fun f s1 q => ?_)
  cases f with
  | next => exact wpAny_execs_nil q
  | ret v => exact q
  | brk => exact q
  | cont => exact q
theorem Inv.quiet {pins : List (Addr × Obj)} {σ : St} {H : Hp} {s : Shared} (I : Inv X pins σ H s) : interactive X.env = false := by simp [interactive, I.ok.kind]
def tDrop (te : TE) : TS := fun D σ H => te σ H fun _ H1 => D.nx σ H1
theorem ps_expr (he : PE X e te) (hs : swapsWith e none pos.line X.env = pure false := by rfl) : PS X (.Expr e pos) (tDrop te) := by
  intro pins s σ H D I h
  exact wpAny_Expr_any (thn (he pins s σ H _ I h) fun v s1 ⟨x, H1, I1, r1, q1⟩ => ⟨σ, H1, I1, q1⟩) I.quiet hs
def tRet (te : TE) : TS := fun D σ H => te σ H D.rt
theorem ps_ret (he : PE X e te) : PS X (.Return (some e) pos) (tRet te) := by
  intro pins s σ H D I h
  exact wpAny_Return_some (thn (he pins s σ H _ I h) fun v s1 ⟨x, H1, I1, r1, q1⟩ => ⟨x, σ, H1, I1, r1, q1⟩)
def tIfS (c : TT) (t u : TS) : TS := fun D σ H => c σ H fun b H1 => if b = true then t D σ H1 else u D σ H1
theorem ps_if {c : Expr} {a b : List Stmt} {tc : TT} (hc : PT X c tc) (ha : PSs X a t) (hb : PSs X b u) : PS X (.If c a b pos) (tIfS tc t u) := by
  intro pins s σ H D I h
  refine wpAny_If (thn (hc pins s σ H _ I h) fun d s1 hh => ?_)
  obtain ⟨H1, I1, q1⟩ := hh
  cases d with
  | true => exact ha pins s1 σ H1 D I1 q1
  | false => exact hb pins s1 σ H1 D I1 q1
end

/-! ### targets -/
abbrev TG := V → St → Hp → (St → Hp → Prop) → Prop
abbrev TGs := List V → St → Hp → (St → Hp → Prop) → Prop
def PG (X : Cx) (target : Expr) (t : TG) : Prop :=
  ∀ (pins : List (Addr × Obj)) (s : Shared) (σ : St) (H : Hp) (v : V) (u : Value) (Q : St → Hp → Prop), Inv X pins σ H s → RelV v u → t v σ H Q →
    wpAny (model X.prog X.w) X.A (assign target X.env u) (fun _ s' => ∃ σ' H', Inv X pins σ' H' s' ∧ Q σ' H') X.xe s
def PGs (X : Cx) (ts : List Expr) (t : TGs) : Prop :=
  ∀ (pins : List (Addr × Obj)) (s : Shared) (σ : St) (H : Hp) (vs : List V) (us : List Value) (Q : St → Hp → Prop), Inv X pins σ H s → Vals vs us → t vs σ H Q →
    wpAny (model X.prog X.w) X.A (assignInOrder ((assignEach ts X.env).map (·.2)) us) (fun _ s' => ∃ σ' H', Inv X pins σ' H' s' ∧ Q σ' H') X.xe s
abbrev TSet := V → V → V → Hp → (Hp → Prop) → Prop
def PSet (X : Cx) (t : TSet) : Prop :=
  ∀ (pins : List (Addr × Obj)) (s : Shared) (σ : St) (H : Hp) (o i v : V) (ov iv u : Value) (Q : Hp → Prop), Inv X pins σ H s → RelV o ov → RelV i iv → RelV v u → t o i v H Q →
    wpAny (model X.prog X.w) X.A (setItem ov iv u) (fun _ s' => ∃ H', Inv X pins σ H' s' ∧ Q H') X.xe s
abbrev TIp := V → V → Hp → VK → Prop
section
variable {X : Cx} {pos : Pos}
def gName (i : Nat) : TG := fun v σ H Q => Q (σ.set i (some v)) H
theorem pg_name {i : Nat} {x : Str} (hN : X.N.Nodup) (hi : X.N[i]? = some x) (hx : Loc X.env.scope x) (hf : X.fn x = true ∨ X.env.scope.names.lookup x = some .local := by first | exact .inl rfl | exact .inr rfl | assumption) : PG X (.Name x pos) (gName i) := by
  intro pins s σ H v u Q I r h
  exact wpAny_assign_Name (store_ok I hN hi hx r (fun s' I' => ⟨_, H, I', h⟩) hf)
def gNil : TGs := fun vs σ H Q => vs = [] ∧ Q σ H
def gCons (t : TG) (u : TGs) : TGs := fun vs σ H Q => ∃ v r, vs = v :: r ∧ t v σ H fun σ' H' => u r σ' H' Q
theorem pgs_nil : PGs X [] gNil := by
  intro pins s σ H vs us Q I r h
  obtain ⟨e, h⟩ := h
  subst e
  cases r
  exact assignInOrder_nil ⟨σ, H, I, h⟩
theorem pgs_cons {e : Expr} {es : List Expr} {t : TG} {u : TGs} (h1 : PG X e t) (h2 : PGs X es u)
    (hs : (assignEach (e :: es) X.env).map (·.2) = assign e X.env :: (assignEach es X.env).map (·.2) := by rfl) : PGs X (e :: es) (gCons t u) := by
  intro pins s σ H vs us Q I r h
  obtain ⟨v, vr, e1, h⟩ := h
  subst e1
  cases r with
  | cons r rr =>
    rw [hs]
    refine assignInOrder_cons (thn (h1 pins s σ H _ _ _ I r h) fun _ s1 hh => ?_)
    obtain ⟨σ1, H1, I1, q1⟩ := hh
    exact h2 pins s1 σ1 H1 _ _ Q I1 rr q1
def gTup (K : PySem.W.Frag) (n : Nat) (t : TGs) : TG := fun v σ H Q => ∃ a xs, v = .ref a ∧ SqT K H a xs ∧ xs.length = n ∧ t xs σ H Q
theorem pg_tup {es : List Expr} {k : Nat} {t : TGs} {n : Nat} (hc : X.calm = true) (h : PGs X es t)
    (hn : (assignEach es X.env).length = n := by rfl) (hst : (assignEach es X.env).findIdx? (·.1) = none := by rfl) : PG X (.Tuple es k pos) (gTup X.K n t) := by
  intro pins s σ H v u Q I r hw
  obtain ⟨a, xs, e1, hq, hl, hw⟩ := hw
  subst e1
  cases r
  obtain ⟨its, rv, ht, hz⟩ := I.tuple hq
  refine assign_Tuple_tuple (I.ok.hd hc) ht (by simp [hn, ← hl, rv.length]) hst fun h' hx => ?_
  have I1 : Inv X pins σ H { s with heap := h' } := I.kept (t' := s.toks) fun b o e => hx b o (Nat.ne_of_lt (Heap.lt_size e)) e
  exact h pins _ σ H xs _ Q I1 (by simpa using rv) hw
def gSub (to ti : TE) (t : TSet) : TG := fun v σ H Q => to σ H fun o H1 => ti σ H1 fun i H2 => t o i v H2 fun H3 => Q σ H3
theorem pg_sub {o i : Expr} {to ti : TE} {t : TSet} (ho : PE X o to) (hi : PE X i ti) (hs : PSet X t)
    (ha : ∀ v, assign (.Subscript o i pos) X.env v = (do
      let ov ← holding [v] (eval o X.env)
      let iv ← holding [v, ov] (eval i X.env)
      standAt pos
      holding [v, ov, iv] (setItem ov iv v)
      release [v, ov, iv] []) := by intro _; rfl) : PG X (.Subscript o i pos) (gSub to ti t) := by
  intro pins s σ H v u Q I r h
  rw [ha]
  refine wpAny_bind (wpAny_holding (thn (ho pins s σ H _ I h) fun ov s1 hh => ?_))
  obtain ⟨x, H1, I1, r1, q1⟩ := hh
  refine wpAny_bind (wpAny_holding (thn (hi pins s1 σ H1 _ I1 q1) fun iv s2 hh => ?_))
  obtain ⟨y, H2, I2, r2, q2⟩ := hh
  refine wpAny_bind (wpAny_standAt (wpAny_bind (wpAny_holding (thn (hs pins s2 σ H2 x y v ov iv u _ I2 r1 r2 r q2) fun _ s3 hh => ?_))))
  obtain ⟨H3, I3, q3⟩ := hh
  exact wpAny_release ⟨σ, H3, I3, q3⟩
def tAsg (te : TE) (g : TG) : TS := fun D σ H => te σ H fun x H1 => g x σ H1 D.nx
theorem ps_asg {tg e : Expr} {te : TE} {g : TG} (he : PE X e te) (hg : PG X tg g) (hs : swapsWithSole [tg] e pos.line X.env = pure false := by rfl) (hw : swappedStores [tg] e X.env = pure none := by rfl)
    (h1 : (assignEach [tg] X.env).map (·.2) = [assign tg X.env] := by rfl) : PS X (.Assign [tg] e pos) (tAsg te g) := by
  intro pins s σ H D I h
  refine wpAny_Assign_stores (thn (he pins s σ H _ I h) fun v s1 ⟨x, H1, I1, r1, q1⟩ => ?_) hs hw
  rw [h1]
  exact thn (hg pins s1 σ H1 x v _ I1 r1 q1) fun _ s2 q => q
theorem ps_set {i : Nat} {x : Str} {e : Expr} {te : TE} {pos' : Pos} (hN : X.N.Nodup) (hi : X.N[i]? = some x) (hx : Loc X.env.scope x) (he : PE X e te) (hs : swapsWith e (some (.Name x pos')) pos.line X.env = pure false := by rfl) (hf : X.fn x = true ∨ X.env.scope.names.lookup x = some .local := by first | exact .inl rfl | exact .inr rfl | assumption) :
    PS X (.Assign [.Name x pos'] e pos) (tAsg te (gName i)) := by
  intro pins s σ H D I h
  refine wpAny_Assign_Name (thn (he pins s σ H _ I h) fun v s1 hh => ?_) hs
  obtain ⟨y, H1, I1, r1, q1⟩ := hh
  exact store_ok I1 hN hi hx r1 (fun s2 I2 => ⟨_, H1, I2, q1⟩) hf
end

/-! ### while -/
section
variable {X : Cx} {pos : Pos}
end

/-! ### what a loop or a comprehension walks -/
structure It where
  go : Nat → Hp → Prop
  yld : Nat → Hp → V → Hp → Prop
  stop : Nat → Hp → Prop
def FpOk (X : Cx) (pins : List (Addr × Obj)) (H : Hp) (b : Addr) : Prop :=
  H b = none ∧ b ≠ X.env.locals ∧ b ∉ X.fs ∧ (b ∈ X.ex ∨ X.s₀.heap.objs.size ≤ b) ∧ (∀ x c, X.env.cells.lookup x = some c → c ≠ b) ∧ ∀ p ∈ X.pn ++ pins, p.1 ≠ b
theorem Inv.fpOk {X : Cx} {pins : List (Addr × Obj)} {σ : St} {H H' : Hp} {s : Shared} {b : Addr} (I : Inv X pins σ H s) (hb : s.heap.objs.size ≤ b) (hn : H' b = none) : FpOk X pins H' b := by
  refine ⟨hn, Nat.ne_of_gt (Nat.lt_of_lt_of_le I.lt hb), I.nofs hb, .inr (Nat.le_trans I.sz hb), fun x c e z => ?_, fun p hp z => ?_⟩
  · obtain ⟨v, q⟩ := I.cell x c e
    exact absurd (Nat.lt_of_lt_of_le q.lt (by rw [z]; exact hb)) (Nat.lt_irrefl _)
  · exact absurd (Nat.lt_of_lt_of_le (Heap.lt_size (I.pin p hp).1) (by rw [z]; exact hb)) (Nat.lt_irrefl _)
structure Turn (P : Program) (w : World) (K : PySem.W.Frag) (tg : Expr) (J : It) (fp : List Addr) (it : Addr) (tn : Nat → Heap → Prop) : Prop where
  mem : it ∈ fp
  obj : ∀ i h, tn i h → ∀ b ∈ fp, ∃ o, h.get? b = some o ∧ ∀ v, o.data ≠ .cell v
  keep : ∀ i h h', tn i h → (∀ b ∈ fp, ∀ o, h.get? b = some o → h'.get? b = some o) → tn i h'
  item : ∀ (X : Cx), X.prog = P → X.w = w → X.K = K → X.calm = true → ∀ (i : Nat) (pins : List (Addr × Obj)) (s : Shared) (σ : St) (H : Hp) (E : Value → Shared → Prop), Inv X pins σ H s → (∀ b ∈ fp, FpOk X pins H b) → tn i s.heap → J.go i H →
    wpAny (model P w) X.A (pyNext (.ref it)) (fun r s1 => ∃ u, r = some u ∧
      wpAny (model P w) X.A (letOwnedTupleGo tg (.ref it) u) (fun _ s2 => ∃ x H', Inv X pins σ H' s2 ∧ RelV x u ∧ J.yld i H x H' ∧ tn (i + 1) s2.heap ∧ ∀ b ∈ fp, H' b = none) E s1) E s
  done : ∀ (X : Cx), X.prog = P → X.w = w → X.K = K → X.calm = true → ∀ (i : Nat) (pins : List (Addr × Obj)) (s : Shared) (σ : St) (H : Hp) (E : Value → Shared → Prop), Inv X pins σ H s → (∀ b ∈ fp, FpOk X pins H b) → tn i s.heap → J.stop i H →
    wpAny (model P w) X.A (pyNext (.ref it)) (fun r s1 => r = none ∧ Inv X pins σ H s1) E s
  self : ∀ (A : Around) (i : Nat) (s : Shared) (Q : Value → Shared → Prop) (E : Value → Shared → Prop), tn i s.heap → Q (.ref it) s → wpAny (model P w) A (pyIter (.ref it)) Q E s
abbrev TI := St → Hp → (It → Hp → Prop) → Prop
def PIE (X : Cx) (pins : List (Addr × Obj)) (σ : St) (tg : Expr) (R : It → Hp → Prop) (itv : Value) (s2 : Shared) : Prop :=
  ∃ (it : Addr) (fp : List Addr) (tn : Nat → Heap → Prop) (J : It) (H' : Hp), itv = .ref it ∧ Inv X pins σ H' s2 ∧ Turn X.prog X.w X.K tg J fp it tn ∧ tn 0 s2.heap ∧ (∀ b ∈ fp, FpOk X pins H' b) ∧ R J H'
def PI (X : Cx) (tg iter : Expr) (wi : TI) : Prop :=
  ∀ (pins : List (Addr × Obj)) (s : Shared) (σ : St) (H : Hp) (R : It → Hp → Prop), Inv X pins σ H s → wi σ H R →
    wpAny (model X.prog X.w) X.A (eval iter X.env) (fun v s1 => wpAny (model X.prog X.w) X.A (pyIter v) (PIE X pins σ tg R) X.xe s1) X.xe s

theorem go_of {M : Model} {A : Around} {E : Value → Shared → Prop} {s : Shared} {tg : Expr} {it : Addr} {u : Value} {o : Obj} {n : String} {vs : Array Value} {Q : Unit → Shared → Prop} (ho : s.heap.get? it = some o) (hc : o.cls = .type n) (hd : o.data = .fields vs)
    (hn : ["enumerate", "zip", "dict_itemiterator", "dict_reverseitemiterator", "odict_iterator", "itertools.zip_longest", "itertools.pairwise"].contains n = false) (hQ : Q () s) : wpAny M A (letOwnedTupleGo tg (.ref it) u) Q E s := by
  unfold letOwnedTupleGo
  cases tg <;> first
    | exact wpAny_pure hQ
    | (cases u <;> first
        | exact wpAny_pure hQ
        | (refine wpAny_bind (wpAny_load ho ?_)
           rw [hc, hd]
           show wpAny M A (if (["enumerate", "zip", "dict_itemiterator", "dict_reverseitemiterator", "odict_iterator", "itertools.zip_longest", "itertools.pairwise"].contains n && vs[0]? == some (rawInt _)) = true then _ else _) Q E s
           rw [if_neg (by intro h; rw [hn, Bool.false_and] at h; cases h)]
           exact wpAny_pure hQ))

def Itl (K : PySem.W.Frag) (a : Addr) : It :=
  ⟨fun i H => ∃ xs x, SqL K H a xs ∧ xs[i]? = some x, fun i H x H' => H' = H ∧ ∀ xs, SqL K H a xs → xs[i]? = some x, fun i H => ∃ xs, SqL K H a xs ∧ xs.length ≤ i⟩
def Itr (lo : Int) (n : Nat) : It := ⟨fun i _ => i < n, fun i H x H' => H' = H ∧ x = .int (lo + i), fun i _ => n ≤ i⟩
theorem turn_list {P : Program} {w : World} {K : PySem.W.Frag} {tg : Expr} (a it : Addr) : Turn P w K tg (Itl K a) [it] it (fun i h => h.IsListIter it a i) where
  mem := by simp
  obj := fun i h st b hb => by
    have e : b = it := by simpa using hb
    subst e
    obtain ⟨o, e, c, d⟩ := st
    exact ⟨o, e, fun v z => by rw [d] at z; cases z⟩
  keep := fun i h h' st k => st.at fun o e => k it (by simp) o e
  item := by
    intro X hP hw hK hc i pins s σ H E I hf st hg
    subst hP hw hK
    obtain ⟨xs, x, hq, hx⟩ := hg
    obtain ⟨its, rv, p, hz⟩ := I.list hq
    obtain ⟨u, hu, ru⟩ := rv.get hx
    obtain ⟨f0, f1, f2, f3, f4, f5⟩ := hf it (by simp)
    refine wpAny_pyNext_list_item st p.isList (x := u) (by simpa using hu) fun h' st' sb => ?_
    have I1 : Inv X pins σ H { s with heap := h' } := I.turned (t' := s.toks) (fun b o hb e => (sb.2 b hb).trans e) f0 f1 f3 f4 f5
    obtain ⟨o, e, c, d⟩ := id st'
    exact ⟨u, rfl, go_of (s := { s with heap := h' }) e c d (by decide) ⟨x, H, I1, ru, ⟨rfl, fun ys hy => by rw [I.list_inj hy hq]; exact hx⟩, st', fun b hb => (hf b hb).1⟩⟩
  done := by
    intro X hP hw hK hc i pins s σ H E I hf st hg
    subst hP hw hK
    obtain ⟨xs, hq, hx⟩ := hg
    obtain ⟨its, rv, p, hz⟩ := I.list hq
    obtain ⟨f0, f1, f2, f3, f4, f5⟩ := hf it (by simp)
    have hl := rv.length
    exact wpAny_pyNext_list_end (I.ok.hd hc) st p.isList (by simp; omega) fun h' eb => ⟨rfl, I.turned (t' := s.toks) (fun b o hb e => eb b o hb e) f0 f1 f3 f4 f5⟩
  self := fun _ _ _ _ _ st h => wpAny_pyIter_listiter st h
theorem turn_range {P : Program} {w : World} {K : PySem.W.Frag} {tg : Expr} (it : Addr) (lo : Int) (n : Nat) : Turn P w K tg (Itr lo n) [it] it (fun i h => IsRangeIter h it (lo + (i : Nat) * 1) ((n : Int) - (i : Nat)) 1) where
  mem := by simp
  obj := fun i h st b hb => by
    have e : b = it := by simpa using hb
    subst e
    exact ⟨_, st, fun v z => by
      have z' : Data.fields _ = Data.cell v := z
      cases z'⟩
  keep := fun i h h' st k => k it (by simp) _ st
  item := by
    intro X hP hw hK hc i pins s σ H E I hf st hg
    subst hP hw hK
    obtain ⟨f0, f1, f2, f3, f4, f5⟩ := hf it (by simp)
    have W := Walks.range (prog := X.prog) (w := X.w) (I.ok.hd hc) it lo 1 n
    refine W.item i s _ _ hg st fun v h' tk hv st' kk => ?_
    obtain ⟨t, rfl⟩ := hv
    have I1 : Inv X pins σ H { s with heap := h', toks := tk } := I.turned (fun b o hb e => kk b o (by simpa using hb) e) f0 f1 f3 f4 f5
    refine ⟨_, rfl, go_of (s := { s with heap := h', toks := tk }) (n := "range_iterator") st' rfl rfl (by decide) ⟨.int (lo + i), H, I1, ⟨t, ?_⟩, ⟨rfl, rfl⟩, st', fun b hb => (hf b hb).1⟩⟩
    rw [Int.mul_one]
  done := by
    intro X hP hw hK hc i pins s σ H E I hf st hg
    subst hP hw hK
    obtain ⟨f0, f1, f2, f3, f4, f5⟩ := hf it (by simp)
    exact wpAny_pyNext_range_end (I.ok.hd hc) st (by have : n ≤ i := hg; omega) fun h' eb => ⟨rfl, I.turned (t' := s.toks) (fun b o hb e => eb b o hb e) f0 f1 f3 f4 f5⟩
  self := fun _ _ _ _ _ st h => wpAny_pyIter_rangeiter st h
end L2

namespace L2
open PySem PySem.Spec PyProof.Rows
section
variable {X : Cx} {tg : Expr}
def iList (K : PySem.W.Frag) (tl : TE) : TI := fun σ H R => tl σ H fun x H1 => ∃ a, x = .ref a ∧ (∃ xs, SqL K H1 a xs) ∧ R (Itl K a) H1
theorem pi_list {l : Expr} {tl : TE} (hl : PE X l tl) : PI X tg l (iList X.K tl) := by
  intro pins s σ H R I h
  refine thn (hl pins s σ H _ I h) fun v s1 ⟨x, H1, I1, r1, q1⟩ => ?_
  obtain ⟨a, e, ⟨xs, hq⟩, q⟩ := q1
  subst e
  cases r1
  obtain ⟨its, rv, p, hz⟩ := I1.list hq
  refine wpAny_pyIter_list p.isList ?_
  refine ⟨s1.heap.objs.size, [s1.heap.objs.size], _, _, H1, rfl, I1.kept (t' := s1.toks) fun b o e => Heap.get?_push_of_some _ e, turn_list a _, ⟨_, Heap.get?_push_size _ rfl, rfl, rfl⟩, fun b hb => ?_, q⟩
  have e : b = s1.heap.objs.size := by simpa using hb
  subst e
  exact I1.fpOk (Nat.le_refl _) (I1.hok.fresh (Nat.le_refl _))
theorem range_it {pins : List (Addr × Obj)} {σ : St} {H : Hp} {s : Shared} {R : It → Hp → Prop} {E : Value → Shared → Prop} {lo hi : Int} {t u v : Tok} {tk : Nat} (I : Inv X pins σ H s) (h1 : -(2 ^ 62) ≤ lo) (h2 : lo < 2 ^ 62) (h3 : -(2 ^ 62) ≤ hi) (h4 : hi < 2 ^ 62)
    (q : R (Itr lo (hi - lo).toNat) H) : wpAny (model X.prog X.w) X.A (pyIter (.ref s.heap.objs.size)) (PIE X pins σ tg R) E { s with heap := s.heap.push { cls := .type "range", data := .fields #[.int lo t, .int hi u, .int 1 v] }, toks := tk } := by
  refine wpAny_pyIter_range (IsRange.new ..) (small_one h1 h2 h3 h4) ?_
  have I1 : Inv X pins σ H { s with heap := s.heap.push { cls := .type "range", data := .fields #[.int lo t, .int hi u, .int 1 v] }, toks := tk } := I.kept fun b o e => Heap.get?_push_of_some _ e
  refine ⟨(s.heap.push { cls := .type "range", data := .fields #[.int lo t, .int hi u, .int 1 v] }).objs.size, [(s.heap.push { cls := .type "range", data := .fields #[.int lo t, .int hi u, .int 1 v] }).objs.size], _, _, H, rfl,
    I1.kept (t' := tk) fun b o e => Heap.get?_push_of_some _ e, turn_range _ lo (hi - lo).toNat, ?_, fun b hb => ?_, q⟩
  · have e1 : lo + ((0 : Nat) : Int) * 1 = lo := by simp
    have e2 : (((hi - lo).toNat : Nat) : Int) - ((0 : Nat) : Int) = Builtin.Range.rangeSize lo hi 1 := by rw [rangeSize_one]; split <;> omega
    show IsRangeIter _ _ (lo + ((0 : Nat) : Int) * 1) ((((hi - lo).toNat : Nat) : Int) - ((0 : Nat) : Int)) 1
    rw [e1, e2]
    exact Heap.get?_push_size _ rfl
  · have e : b = (s.heap.push { cls := .type "range", data := .fields #[.int lo t, .int hi u, .int 1 v] }).objs.size := by simpa using hb
    subst e
    exact I1.fpOk (Nat.le_refl _) (I1.hok.fresh (Nat.le_refl _))
def iRng1 (ta : TA) : TI := fun σ H R => ta σ H fun vs H1 => ∃ j : Int, vs = [.int j] ∧ -(2 ^ 62) ≤ j ∧ j < 2 ^ 62 ∧ R (Itr 0 j.toNat) H1
theorem pi_range1 {a : Expr} {ta : TA} {p pos : Pos} (hg : Gl X "range") (hm : X.mg "range" = none) (ha : PA X [a] ta) (hs : starEach [a] X.env = [(false, eval a X.env)] := by rfl) : PI X tg (.Call (.Name "range" p) [a] [] pos) (iRng1 ta) := by
  intro pins s σ H R I h
  refine Call_ (ld_blt I hg hm boot_range (PyProof.Rows.callWith_type1 (thn (ha pos pins s σ H _ I h) fun us s1 ⟨vs, H1, I1, r1, q1⟩ => ?_) hs rfl))
  obtain ⟨j, e, q1, q2, q⟩ := q1
  subst e
  cases r1 with
  | cons r rr =>
    cases rr
    obtain ⟨t, rfl⟩ := r
    exact call_range_1 (range_it I1 (by omega) (by omega) q1 q2 (by simpa using q))

/-! ### for -/
def tFor (wi : TI) (g : TG) (tb : TS) : TS := fun D σ H => wi σ H fun J H1 => ∃ W : Nat → Nat → St → Hp → Prop, (∃ m, W 0 m σ H1) ∧ ∀ i m σ H, W i m σ H →
  (J.stop i H ∧ D.nx σ H) ∨ (J.go i H ∧ ∃ N : St → Hp → Prop, (∀ σ' H', N σ' H' → ∃ m', m' < m ∧ W (i + 1) m' σ' H') ∧ ∀ x H', J.yld i H x H' → g x σ H' fun σ2 H2 => tb { D with nx := N, ct := N, bk := D.nx } σ2 H2)
def pinsAt (fp : List Addr) (h : Heap) : List (Addr × Obj) := fp.filterMap fun b => (h.get? b).map fun o => (b, o)
theorem mem_pinsAt {fp : List Addr} {h : Heap} {b : Addr} {o : Obj} (hb : b ∈ fp) (e : h.get? b = some o) : (b, o) ∈ pinsAt fp h := List.mem_filterMap.mpr ⟨b, hb, by rw [e]; rfl⟩
theorem of_pinsAt {fp : List Addr} {h : Heap} {p : Addr × Obj} (hp : p ∈ pinsAt fp h) : p.1 ∈ fp ∧ h.get? p.1 = some p.2 := by
  obtain ⟨b, hb, e⟩ := List.mem_filterMap.mp hp
  cases q : h.get? b with
  | none => rw [q] at e; cases e
  | some o =>
    rw [q] at e
    have e' : (b, o) = p := Option.some.inj e
    subst e'
    exact ⟨hb, q⟩
theorem Inv.pinned {pins : List (Addr × Obj)} {σ : St} {H : Hp} {s : Shared} {fp : List Addr} (I : Inv X pins σ H s) (hf : ∀ b ∈ fp, FpOk X pins H b) (ho : ∀ b ∈ fp, ∃ o, s.heap.get? b = some o ∧ ∀ v, o.data ≠ .cell v) : Inv X (pins ++ pinsAt fp s.heap) σ H s :=
  I.pins_of fun p hp => (List.mem_append.mp hp).elim (fun z => I.pin p (List.mem_append_right _ z)) fun z => by
    obtain ⟨hb, e⟩ := of_pinsAt z
    obtain ⟨f0, f1, f2, _⟩ := hf p.1 hb
    obtain ⟨o, e', d⟩ := ho p.1 hb
    rw [e] at e'; cases e'
    exact ⟨e, f0, f1, f2, d⟩
theorem Inv.unpinned {pins pl : List (Addr × Obj)} {σ : St} {H : Hp} {s : Shared} (I : Inv X (pins ++ pl) σ H s) : Inv X pins σ H s := I.pins_of fun p hp => I.pin p (List.mem_append_right _ (List.mem_append_left _ hp))
theorem ps_for {iter : Expr} {body : List Stmt} {wi : TI} {g : TG} {tb : TS} {pos : Pos} (hp : PassesOwn (model X.prog X.w) X.A X.env X.xe) (hc : X.calm = true) (hi : PI X tg iter wi) (hg : PG X tg g) (hb : PSs X body tb)
    (hs : ∀ x, foldedSetIterable iter X.env x = pure x := by intro _; rfl) : PS X (.For tg iter body [] pos) (tFor wi g tb) := by
  intro pins s σ H D I h
  refine wpAny_For (thn (hi pins s σ H _ I h) fun v s1 h1 => thn h1 fun itv s2 h2 => ?_) hs
  obtain ⟨it, fp, tn, J, H2, e, I2, T, st2, f2, W, ⟨m0, w0⟩, turn⟩ := h2
  subst e
  -- what stays true of the iterator's objects through the loop
  have stat : ∀ {H' : Hp}, (∀ b ∈ fp, H' b = none) → ∀ b ∈ fp, FpOk X pins H' b := fun hn b hb => ⟨hn b hb, (f2 b hb).2⟩
  refine codeAny_forLoop_any (fun n s' => ∃ i σ' H', Inv X pins σ' H' s' ∧ tn i s'.heap ∧ (∀ b ∈ fp, H' b = none) ∧ W i n σ' H') ?_ m0 ⟨0, σ, H2, I2, st2, fun b hb => (f2 b hb).1, w0⟩
  rintro n s3 ⟨i, σ3, H3, I3, st3, fr3, w3⟩
  rcases turn i n σ3 H3 w3 with ⟨stop, qn⟩ | ⟨go, N, hN, step⟩
  · refine wpAny_passesOwn hp (thn (T.done X rfl rfl rfl hc i pins s3 σ3 H3 X.xe I3 (stat fr3) st3 stop) fun r s4 ⟨hr, I4⟩ => ?_)
    subst hr
    exact wpAny_execs_nil ⟨σ3, H3, I4, qn⟩
  · refine wpAny_passesOwn hp (thn (T.item X rfl rfl rfl hc i pins s3 σ3 H3 X.xe I3 (stat fr3) st3 go) fun r s4 ⟨u, hr, h4⟩ => ?_)
    subst hr
    refine wpAny_passesOwn hp (thn h4 fun _ s5 hh => ?_)
    obtain ⟨x, H5, I5, r5, y5, st5, fr5⟩ := hh
    have I5' := I5.pinned (stat fr5) (T.obj _ _ st5)
    refine wpAny_passesOwn hp (thn (hg _ s5 σ3 H5 x u _ I5' r5 (step x H5 y5)) fun _ s6 hh => ?_)
    obtain ⟨σ6, H6, I6, q6⟩ := hh
    refine wpAny_passesOwn hp (thn (hb _ s6 σ6 H6 _ I6 q6) fun f s7 q7 => ?_)
    have again : ∀ {σ7 : St} {H7 : Hp}, Inv X (pins ++ pinsAt fp s5.heap) σ7 H7 s7 → N σ7 H7 → ∃ m, m < n ∧ ∃ i σ' H', Inv X pins σ' H' s7 ∧ tn i s7.heap ∧ (∀ b ∈ fp, H' b = none) ∧ W i m σ' H' := fun {σ7 H7} I7 n7 => by
      obtain ⟨m', hm, w7⟩ := hN σ7 H7 n7
      refine ⟨m', hm, i + 1, σ7, H7, I7.unpinned, T.keep _ _ _ st5 fun b hb o e => (I7.pin (b, o) (List.mem_append_right _ (List.mem_append_right _ (mem_pinsAt hb e)))).1, fun b hb => ?_, w7⟩
      obtain ⟨o, e, d⟩ := T.obj _ _ st5 b hb
      exact (I7.pin (b, o) (List.mem_append_right _ (List.mem_append_right _ (mem_pinsAt hb e)))).2.1
    cases f with
    | next => obtain ⟨σ7, H7, I7, n7⟩ := q7; exact again I7 n7
    | cont => obtain ⟨σ7, H7, I7, n7⟩ := q7; exact again I7 n7
    | brk => obtain ⟨σ7, H7, I7, q7⟩ := q7; exact ⟨σ7, H7, I7.unpinned, q7⟩
    | ret v => obtain ⟨x7, σ7, H7, I7, r7, q7⟩ := q7; exact ⟨x7, σ7, H7, I7.unpinned, r7, q7⟩
end

/-! ### the forms one uses -/
theorem for_list {K : PySem.W.Frag} {a : Addr} {xs : List V} {g : TG} {tb : TS} {D : Ends} {σ : St} {H : Hp} (Pv : Nat → St → Hp → Prop) (h0 : Pv 0 σ H) (hl : ∀ i σ H, i ≤ xs.length → Pv i σ H → SqL K H a xs)
    (hs : ∀ i x σ H, xs[i]? = some x → Pv i σ H → g x σ H fun σ2 H2 => tb { D with nx := Pv (i + 1), ct := Pv (i + 1), bk := D.nx } σ2 H2) (hd : ∀ σ H, Pv xs.length σ H → D.nx σ H) :
    ∃ W : Nat → Nat → St → Hp → Prop, (∃ m, W 0 m σ H) ∧ ∀ i m σ H, W i m σ H →
      ((Itl K a).stop i H ∧ D.nx σ H) ∨ ((Itl K a).go i H ∧ ∃ N : St → Hp → Prop, (∀ σ' H', N σ' H' → ∃ m', m' < m ∧ W (i + 1) m' σ' H') ∧ ∀ x H', (Itl K a).yld i H x H' → g x σ H' fun σ2 H2 => tb { D with nx := N, ct := N, bk := D.nx } σ2 H2) := by
  refine ⟨fun i m σ H => m = xs.length - i ∧ i ≤ xs.length ∧ Pv i σ H, ⟨xs.length, by simp, Nat.zero_le _, h0⟩, ?_⟩
  rintro i m σ H ⟨rfl, hi, p⟩
  have q := hl i σ H hi p
  by_cases hlt : i < xs.length
  · refine .inr ⟨⟨xs, xs[i], q, by simp [hlt]⟩, Pv (i + 1), fun σ' H' p' => ⟨xs.length - (i + 1), by omega, rfl, hlt, p'⟩, fun x H' y => ?_⟩
    obtain ⟨e, y⟩ := y
    subst e
    exact hs i x σ _ (y xs q) p
  · have e : i = xs.length := by omega
    subst e
    exact .inl ⟨⟨xs, q, Nat.le_refl _⟩, hd σ H p⟩
theorem for_range {lo : Int} {n : Nat} {g : TG} {tb : TS} {D : Ends} {σ : St} {H : Hp} (Pv : Nat → St → Hp → Prop) (h0 : Pv 0 σ H)
    (hs : ∀ i σ H, i < n → Pv i σ H → g (.int (lo + i)) σ H fun σ2 H2 => tb { D with nx := Pv (i + 1), ct := Pv (i + 1), bk := D.nx } σ2 H2) (hd : ∀ σ H, Pv n σ H → D.nx σ H) :
    ∃ W : Nat → Nat → St → Hp → Prop, (∃ m, W 0 m σ H) ∧ ∀ i m σ H, W i m σ H →
      ((Itr lo n).stop i H ∧ D.nx σ H) ∨ ((Itr lo n).go i H ∧ ∃ N : St → Hp → Prop, (∀ σ' H', N σ' H' → ∃ m', m' < m ∧ W (i + 1) m' σ' H') ∧ ∀ x H', (Itr lo n).yld i H x H' → g x σ H' fun σ2 H2 => tb { D with nx := N, ct := N, bk := D.nx } σ2 H2) := by
  refine ⟨fun i m σ H => m = n - i ∧ i ≤ n ∧ Pv i σ H, ⟨n, by simp, Nat.zero_le _, h0⟩, ?_⟩
  rintro i m σ H ⟨rfl, hi, p⟩
  by_cases hlt : i < n
  · refine .inr ⟨hlt, Pv (i + 1), fun σ' H' p' => ⟨n - (i + 1), by omega, rfl, hlt, p'⟩, fun x H' y => ?_⟩
    obtain ⟨e, y⟩ := y
    subst e y
    exact hs i σ _ hlt p
  · have e : i = n := by omega
    subst e
    exact .inl ⟨Nat.le_refl _, hd σ H p⟩
end L2

namespace L2
open PySem PySem.Spec PyProof.Rows

abbrev R2 := V → V → Hp → VK → Prop
def OpR (X : Cx) (f : Value → Value → Sem Value) (r : R2) : Prop :=
  ∀ (pins : List (Addr × Obj)) (s : Shared) (σ : St) (H : Hp) (x y : V) (v u : Value) (Q : VK), Inv X pins σ H s → RelV x v → RelV y u → r x y H Q →
    wpAny (model X.prog X.w) X.A (f v u) (EP X pins σ Q) X.xe s
def CallR (X : Cx) (f : Value) (r : List V → Hp → VK → Prop) : Prop :=
  ∀ (pins : List (Addr × Obj)) (s : Shared) (σ : St) (H : Hp) (xs : List V) (us : List Value) (Q : VK), Inv X pins σ H s → Vals xs us → r xs H Q →
    wpAny (model X.prog X.w) X.A (call f us) (EP X pins σ Q) X.xe s

def tOp (r : R2) (ta tb : TE) : TE := fun σ H Q => ta σ H fun x H1 => tb σ H1 fun y H2 => r x y H2 Q
def rI (C : Int → Int → Prop) (g : Int → Int → V) : R2 := fun x y H Q => ∃ i j, x = .int i ∧ y = .int j ∧ C i j ∧ Q (g i j) H
def rI0 (g : Int → Int → V) : R2 := fun x y H Q => ∃ i j, x = .int i ∧ y = .int j ∧ Q (g i j) H

section
variable {X : Cx} {a b c : Expr} {ta tb tc : TE} {pos : Pos}

theorem binT (ha : PE X a ta) (hb : PE X b tb) {pins : List (Addr × Obj)} {s : Shared} {σ : St} {H : Hp} {R : V → V → Hp → Prop} (I : Inv X pins σ H s)
    (h : ta σ H fun x H1 => tb σ H1 fun y H2 => R x y H2) {Q : Value → Shared → Prop} {f : Value → Value → Sem Value}
    (hf : ∀ v u s2 x y H2, Inv X pins σ H2 s2 → RelV x v → RelV y u → R x y H2 → wpAny (model X.prog X.w) X.A (f v u) Q X.xe s2) :
    wpAny (model X.prog X.w) X.A (eval a X.env) (fun v s₁ => wpAny (model X.prog X.w) X.A (eval b X.env) (fun u s₂ => wpAny (model X.prog X.w) X.A (f v u) Q X.xe s₂) X.xe s₁) X.xe s := by
  refine thn (ha pins s σ H _ I h) fun v s1 ⟨x, H1, I1, r1, q1⟩ => ?_
  refine thn (hb pins s1 σ H1 _ I1 q1) fun u s2 ⟨y, H2, I2, r2, q2⟩ => ?_
  exact hf v u s2 x y H2 I2 r1 r2 q2

theorem pe_op {op : Operator} {r : R2} (ho : OpR X (binaryOp op) r) (ha : PE X a ta) (hb : PE X b tb) : PE X (.BinOp a op b pos) (tOp r ta tb) := by
  intro pins s σ H Q I h
  exact wpAny_BinOp (binT ha hb I h fun v u s2 x y H2 I2 rx ry q => ho pins s2 σ H2 x y v u Q I2 rx ry q)

/-! ### ints -/
theorem opI {f : Value → Value → Sem Value} {C : Int → Int → Prop} {g : Int → Int → Int}
    (rule : ∀ (i j : Int) (t u : Tok) (s : Shared) (Q : Value → Shared → Prop) (E : Value → Shared → Prop), C i j → Q (.int (g i j) s.toks) { s with toks := s.toks + 1 } → wpAny (model X.prog X.w) X.A (f (.int i t) (.int j u)) Q E s) :
    OpR X f (rI C fun i j => .int (g i j)) := by
  intro pins s σ H x y v u Q I rx ry h
  obtain ⟨i, j, rfl, rfl, hc, q⟩ := h
  obtain ⟨t, rfl⟩ := rx
  obtain ⟨t', rfl⟩ := ry
  exact rule i j t t' s _ _ hc ⟨.int (g i j), H, I.tok _, ⟨_, rfl⟩, q⟩
theorem opI0 {f : Value → Value → Sem Value} {g : Int → Int → Int}
    (rule : ∀ (i j : Int) (t u : Tok) (s : Shared) (Q : Value → Shared → Prop) (E : Value → Shared → Prop), Q (.int (g i j) s.toks) { s with toks := s.toks + 1 } → wpAny (model X.prog X.w) X.A (f (.int i t) (.int j u)) Q E s) :
    OpR X f (rI0 fun i j => .int (g i j)) := by
  intro pins s σ H x y v u Q I rx ry h
  obtain ⟨i, j, rfl, rfl, q⟩ := h
  obtain ⟨t, rfl⟩ := rx
  obtain ⟨t', rfl⟩ := ry
  exact rule i j t t' s _ _ ⟨.int (g i j), H, I.tok _, ⟨_, rfl⟩, q⟩
theorem opB0 {f : Value → Value → Sem Value} {g : Int → Int → Bool}
    (rule : ∀ (i j : Int) (t u : Tok) (s : Shared) (Q : Value → Shared → Prop) (E : Value → Shared → Prop), Q (.bool (g i j)) s → wpAny (model X.prog X.w) X.A (f (.int i t) (.int j u)) Q E s) :
    OpR X f (rI0 fun i j => .bl (g i j)) := by
  intro pins s σ H x y v u Q I rx ry h
  obtain ⟨i, j, rfl, rfl, q⟩ := h
  obtain ⟨t, rfl⟩ := rx
  obtain ⟨t', rfl⟩ := ry
  exact rule i j t t' s _ _ ⟨.bl (g i j), H, I, rfl, q⟩

def CDiv (i j : Int) : Prop := 0 < j ∧ j < 1073741824
def CMul (i j : Int) : Prop := (-(2 ^ 64) < i ∧ i < 2 ^ 64) ∨ (-(2 ^ 64) < j ∧ j < 2 ^ 64)
theorem CMul.ok {i j : Int} (h : CMul i j) : IntMulOk i j := by
  rcases h with ⟨h1, h2⟩ | ⟨h1, h2⟩
  · exact .of_left (intBits_le_64 h1 h2)
  · exact .of_right (intBits_le_64 h1 h2)

theorem op_add : OpR X (binaryOp .Add) (rI0 fun i j => .int (i + j)) := opI0 fun _ _ _ _ _ _ _ q => add_int q
theorem op_sub : OpR X (binaryOp .Sub) (rI0 fun i j => .int (i - j)) := opI0 fun _ _ _ _ _ _ _ q => sub_int q
theorem op_mul : OpR X (binaryOp .Mult) (rI CMul fun i j => .int (i * j)) := opI fun _ _ _ _ _ _ _ hc q => mul_int q hc.ok
theorem op_fdiv : OpR X (binaryOp .FloorDiv) (rI CDiv fun i j => .int (i / j)) := opI fun i j _ _ _ _ _ hc q => by
  have h1 : (0 : Int) < j := hc.1
  have h2 : j < 1073741824 := hc.2
  exact floordiv_int (by omega) (by rw [Int.fdiv_eq_ediv_of_nonneg i (by omega)]; exact q) (.inl (PyProof.noPylong_small (by omega)))
theorem op_mod : OpR X (binaryOp .Mod) (rI (fun _ j => 0 < j) fun i j => .int (i % j)) := opI fun i j _ _ _ _ _ hc q => by
  have h1 : (0 : Int) < j := hc
  exact mod_int' (by omega) (by rw [Int.fmod_eq_emod_of_nonneg i (by omega)]; exact q)



/-! ### bools among ints: n += (a < b) -/
end

/-! ### comparisons -/
def scal : V → V → Bool
  | .non, .non => true | .non, .int _ => true | .int _, .non => true | .non, .bl _ => true | .bl _, .non => true | .non, .str _ => true | .str _, .non => true
  | .int _, .int _ => true | .bl _, .bl _ => true | .str _, .str _ => true | .byt _, .byt _ => true
  | .int _, .str _ => true | .str _, .int _ => true | .bl _, .str _ => true | .str _, .bl _ => true
  | _, _ => false
def rEq : R2 := fun x y H Q => scal x y = true ∧ Q (.bl (decide (x = y))) H
def rNe : R2 := fun x y H Q => scal x y = true ∧ Q (.bl (!decide (x = y))) H

theorem dec_int {i j : Int} : decide (V.int i = V.int j) = (i == j) := by
  rw [Bool.eq_iff_iff]
  simp
theorem dec_bl {i j : Bool} : decide (V.bl i = V.bl j) = (i == j) := by
  rw [Bool.eq_iff_iff]
  simp
theorem dec_str {i j : Str} : decide (V.str i = V.str j) = (i == j) := by
  rw [Bool.eq_iff_iff]
  simp
theorem dec_byt {i j : Array UInt8} : decide (V.byt i = V.byt j) = (i.toList == j.toList) := by
  rw [Bool.eq_iff_iff]
  cases i
  cases j
  simp

section
variable {X : Cx} {a b c : Expr} {ta tb tc : TE} {pos : Pos}
theorem fin_bl {pins : List (Addr × Obj)} {σ : St} {H : Hp} {s : Shared} {Q : VK} {k k' : Bool} (I : Inv X pins σ H s) (q : Q (.bl k) H) (e : k = k') : EP X pins σ Q (.bool k') s := by
  subst e
  exact ⟨.bl k, H, I, rfl, q⟩
theorem op_eq : OpR X (compareOp .Eq) rEq := by
  intro pins s σ H x y v u Q I rx ry h
  obtain ⟨hs, q⟩ := h
  cases x with
  | non =>
    cases rx
    cases y with
    | non => cases ry; exact PySem.EqNone.eq_none_none (fin_bl I q (by simp))
    | bl j => cases ry; exact PySem.EqNone.eq_none_bool (fin_bl I q (by simp))
    | int j => obtain ⟨t', rfl⟩ := ry; exact PySem.EqNone.eq_none_int (fin_bl I q (by simp))
    | str j => obtain ⟨t', rfl⟩ := ry; exact PySem.EqNone.eq_none_str (fin_bl I q (by simp))
    | _ => exact absurd (show false = true from hs) Bool.false_ne_true
  | bl i =>
    cases rx
    cases y with
    | non => cases ry; exact PySem.EqNone.eq_bool_none (fin_bl I q (by simp))
    | bl j => cases ry; exact eq_bool (fin_bl I q dec_bl)
    | str j => obtain ⟨t', rfl⟩ := ry; exact PySem.EqMixed.eq_bool_str (fin_bl I q (by simp))
    | _ => exact absurd (show false = true from hs) Bool.false_ne_true
  | int i =>
    obtain ⟨t, rfl⟩ := rx
    cases y with
    | non => cases ry; exact PySem.EqNone.eq_int_none (fin_bl I q (by simp))
    | int j => obtain ⟨t', rfl⟩ := ry; exact eq_int (fin_bl I q dec_int)
    | str j => obtain ⟨t', rfl⟩ := ry; exact PySem.EqMixed.eq_int_str (fin_bl I q (by simp))
    | _ => exact absurd (show false = true from hs) Bool.false_ne_true
  | str i =>
    obtain ⟨t, rfl⟩ := rx
    cases y with
    | non => cases ry; exact PySem.EqNone.eq_str_none (fin_bl I q (by simp))
    | bl j => cases ry; exact PySem.EqMixed.eq_str_bool (fin_bl I q (by simp))
    | int j => obtain ⟨t', rfl⟩ := ry; exact PySem.EqMixed.eq_str_int (fin_bl I q (by simp))
    | str j => obtain ⟨t', rfl⟩ := ry; exact eq_str (fin_bl I q dec_str)
    | _ => exact absurd (show false = true from hs) Bool.false_ne_true
  | byt i =>
    obtain ⟨t, rfl⟩ := rx
    cases y with
    | byt j => obtain ⟨t', rfl⟩ := ry; exact PySem.W.eq_bytes (fin_bl I q dec_byt)
    | _ => exact absurd (show false = true from hs) Bool.false_ne_true
  | _ => cases y <;> exact absurd (show false = true from hs) Bool.false_ne_true
theorem op_ne : OpR X (compareOp .NotEq) rNe := by
  intro pins s σ H x y v u Q I rx ry h
  obtain ⟨hs, q⟩ := h
  cases x with
  | non =>
    cases rx
    cases y with
    | non => cases ry; exact PySem.EqNone.ne_none_none (fin_bl I q (by simp))
    | bl j => cases ry; exact PySem.EqNone.ne_none_bool (fin_bl I q (by simp))
    | int j => obtain ⟨t', rfl⟩ := ry; exact PySem.EqNone.ne_none_int (fin_bl I q (by simp))
    | str j => obtain ⟨t', rfl⟩ := ry; exact PySem.EqNone.ne_none_str (fin_bl I q (by simp))
    | _ => exact absurd (show false = true from hs) Bool.false_ne_true
  | bl i =>
    cases rx
    cases y with
    | non => cases ry; exact PySem.EqNone.ne_bool_none (fin_bl I q (by simp))
    | bl j => cases ry; exact ne_bool (fin_bl I q (congrArg not dec_bl))
    | str j => obtain ⟨t', rfl⟩ := ry; exact PySem.EqMixed.ne_bool_str (fin_bl I q (by simp))
    | _ => exact absurd (show false = true from hs) Bool.false_ne_true
  | int i =>
    obtain ⟨t, rfl⟩ := rx
    cases y with
    | non => cases ry; exact PySem.EqNone.ne_int_none (fin_bl I q (by simp))
    | int j => obtain ⟨t', rfl⟩ := ry; exact ne_int (fin_bl I q (congrArg not dec_int))
    | str j => obtain ⟨t', rfl⟩ := ry; exact PySem.EqMixed.ne_int_str (fin_bl I q (by simp))
    | _ => exact absurd (show false = true from hs) Bool.false_ne_true
  | str i =>
    obtain ⟨t, rfl⟩ := rx
    cases y with
    | non => cases ry; exact PySem.EqNone.ne_str_none (fin_bl I q (by simp))
    | bl j => cases ry; exact PySem.EqMixed.ne_str_bool (fin_bl I q (by simp))
    | int j => obtain ⟨t', rfl⟩ := ry; exact PySem.EqMixed.ne_str_int (fin_bl I q (by simp))
    | str j => obtain ⟨t', rfl⟩ := ry; exact ne_str (fin_bl I q (congrArg not dec_str))
    | _ => exact absurd (show false = true from hs) Bool.false_ne_true
  | byt i =>
    obtain ⟨t, rfl⟩ := rx
    cases y with
    | byt j => obtain ⟨t', rfl⟩ := ry; exact PySem.W.ne_bytes (fin_bl I q (congrArg not dec_byt))
    | _ => exact absurd (show false = true from hs) Bool.false_ne_true
  | _ => cases y <;> exact absurd (show false = true from hs) Bool.false_ne_true

theorem op_lt : OpR X (compareOp .Lt) (rI0 fun i j => .bl (decide (i < j))) := opB0 fun _ _ _ _ _ _ _ q => lt_int q
theorem op_le : OpR X (compareOp .LtE) (rI0 fun i j => .bl (decide (i ≤ j))) := opB0 fun _ _ _ _ _ _ _ q => le_int q
theorem op_gt : OpR X (compareOp .Gt) (rI0 fun i j => .bl (decide (j < i))) := opB0 fun _ _ _ _ _ _ _ q => gt_int q
theorem op_ge : OpR X (compareOp .GtE) (rI0 fun i j => .bl (decide (j ≤ i))) := opB0 fun _ _ _ _ _ _ _ q => ge_int q




theorem nomark (b : Expr) {op : CmpOp} (h : op ≠ .In := by decide) (h2 : op ≠ .NotIn := by decide) : behindInMarks op b = false := by
  have e1 : (op == CmpOp.In) = false := by cases op <;> first | rfl | exact absurd rfl h
  have e2 : (op == CmpOp.NotIn) = false := by cases op <;> first | rfl | exact absurd rfl h2
  cases b <;> simp [behindInMarks, e1, e2]
theorem pe_cmpR {op : CmpOp} {r : R2} (ho : OpR X (compareOp op) r) (ha : PE X a ta) (hb : PE X b tb) (hm : behindInMarks op b = false) : PE X (.Compare a [op] [b] pos) (tOp r ta tb) := by
  intro pins s σ H Q I h
  exact wpAny_Compare1 (binT ha hb I h fun v u s2 x y H2 I2 rx ry q => ho pins s2 σ H2 x y v u Q I2 rx ry q) hm
def tTest (t : TE) : TT := fun σ H Q => t σ H fun x H' => ∃ k, x = .bl k ∧ Q k H'
theorem pt_cmpR {op : CmpOp} {r : R2} (ho : OpR X (compareOp op) r) (ha : PE X a ta) (hb : PE X b tb) (hm : behindInMarks op b = false) : PT X (.Compare a [op] [b] pos) (tTest (tOp r ta tb)) := by
  intro pins s σ H Q I h
  refine wpAny_isTrue_Compare1 (thn (ha pins s σ H _ I h) fun v s1 ⟨x, H1, I1, r1, q1⟩ => thn (hb pins s1 σ H1 _ I1 q1) fun u s2 ⟨y, H2, I2, r2, q2⟩ =>
    thn (ho pins s2 σ H2 x y v u _ I2 r1 r2 q2) fun c s3 ⟨z, H3, I3, r3, k, e, q3⟩ => ?_) hm
  subst e
  cases r3
  exact wpAny_truthy_bool ⟨H3, I3, q3⟩
def tChain (r r' : R2) (ta tb tc : TE) : TE := fun σ H Q => ta σ H fun x H1 => tb σ H1 fun y H2 => r x y H2 fun z H3 => ∃ k, z = .bl k ∧
  (if k = true then tc σ H3 fun w' H4 => r' y w' H4 Q else Q (.bl false) H3)
theorem pt_chain {op op' : CmpOp} {r r' : R2} (ho : OpR X (compareOp op) r) (ho' : OpR X (compareOp op') r') (ha : PE X a ta) (hb : PE X b tb) (hc : PE X c tc)
    (hm : lastMarks [op, op'] [b, c] = false := by with_unfolding_all rfl) : PT X (.Compare a [op, op'] [b, c] pos) (tTest (tChain r r' ta tb tc)) := by
  intro pins s σ H Q I h
  refine isTrue_chain (thn (ha pins s σ H _ I h) fun v s1 ⟨x, H1, I1, r1, q1⟩ => test_link (thn (hb pins s1 σ H1 _ I1 q1) fun u s2 ⟨y, H2, I2, r2, q2⟩ =>
    thn (ho pins s2 σ H2 x y v u _ I2 r1 r2 q2) fun d s3 ⟨z, H3, I3, r3, k, e, q3⟩ => ?_)) hm
  subst e
  cases r3
  refine wpAny_truthy_bool ?_
  cases k with
  | false =>
    obtain ⟨k', e', q'⟩ := q3
    cases e'
    exact ite_ff ⟨H3, I3, q'⟩
  | true =>
    refine ite_tt (test_last (thn (hc pins s3 σ H3 _ I3 q3) fun w' s4 ⟨z', H4, I4, r4, q4⟩ => thn (ho' pins s4 σ H4 y z' u w' _ I4 r2 r4 q4) fun d' s5 ⟨z2, H5, I5, r5, k2, e2, q5⟩ => ?_))
    subst e2
    cases r5
    exact wpAny_truthy_bool ⟨H5, I5, q5⟩

/-! ### truth -/
theorem line63 : (sizeLine : Nat) < 2 ^ 63 := by rw [sizeLine_eq]; decide

/-! ### strs and bytes -/


/-! ### scalar builtins, by CallR -/
theorem vals1 {x : V} {us : List Value} (r : Vals [x] us) : ∃ u, us = [u] ∧ RelV x u := by
  cases r with
  | cons r1 r2 => cases r2; exact ⟨_, rfl, r1⟩
theorem vals2 {x y : V} {us : List Value} (r : Vals [x, y] us) : ∃ u w', us = [u, w'] ∧ RelV x u ∧ RelV y w' := by
  cases r with
  | cons r1 r2 =>
    cases r2 with
    | cons r3 r4 => cases r4; exact ⟨_, _, rfl, r1, r3⟩
end
end L2

namespace L2
open PySem PySem.Spec PyProof.Rows

/-! ### an instance, its attributes a map -/
structure ObjM (h : Heap) (x dx C : Addr) (mA : Str → Option Value) : Prop where
  obj : h.get? x = some (PySem.W.instObj C dx)
  ns : h.Ns1 dx mA
  ne : dx ≠ x

theorem lookIn_ns {h : Heap} {dx : Addr} {mA : Str → Option Value} (n : h.Ns1 dx mA) : ∃ od, h.get? dx = some od ∧ ∀ name, PySem.W.lookIn name od = some (mA name) := by
  obtain ⟨o, es, ep, ho, hd, hk, _, hm⟩ := n
  refine ⟨o, ho, fun name => ?_⟩
  have e := hm name
  unfold nsFind findBy at e
  rw [← Array.find?_toList] at e
  unfold PySem.W.lookIn
  rw [hd]
  dsimp only
  split
  · rename_i y q
    rw [q] at e
    exact congrArg some e
  · rename_i q
    rw [q] at e
    have a : es.toList.any (·.refKey) = false := by
      rw [List.any_eq_false]
      intro y hy
      obtain ⟨z, t, hkey⟩ := hk y (Array.mem_toList_iff.mp hy)
      simp [DictEntry.refKey, hkey]
    have a' : ¬ es.toList.any (·.refKey) = true := by rw [a]; exact Bool.false_ne_true
    rw [if_neg a']
    exact congrArg some e

theorem ObjM.look {h : Heap} {x dx C : Addr} {mA : Str → Option Value} (I : ObjM h x dx C mA) : ∃ od, PySem.W.InstAt h x (PySem.W.instObj C dx) C (some od) ∧ ∀ name, PySem.W.lookIn name od = some (mA name) :=
  let ⟨od, ho, hl⟩ := lookIn_ns I.ns
  ⟨od, ⟨I.obj, rfl, rfl, ho⟩, hl⟩

section
variable {prog : Program} {w : World} {A : Around} {E : Value → Shared → Prop} {s : Shared} {K : PySem.W.Frag} {x dx C f : Addr} {mA : Str → Option Value} {name : Str} {v : Value}

theorem get_map {expr : Bool} {Q : Value → Shared → Prop} (X : K.In s.heap) (I : ObjM s.heap x dx C mA) (hg : PySem.W.plainGet K C name = true) (hh : PySem.W.hasDictIn K C = true)
    (ha : PySem.W.findIn K (.ref C) name = some none) (hv : mA name = some v) (hv' : PySem.W.handedIn v = true) (h : Q v { s with toks := s.toks + 1 }) :
    wpAny (model prog w) A (getAttr (.ref x) name expr) Q E s := by
  obtain ⟨od, J, hl⟩ := I.look
  exact PySem.W.get_value X J (PySem.W.plainGet_of hg).1 (PySem.W.findObj_own hh ha rfl (by rw [hl, hv])) hv' h


theorem get_meth {pl : Sem Bool} {Q : Value × List Value → Shared → Prop} (X : K.In s.heap) (I : ObjM s.heap x dx C mA) (hg : PySem.W.plainGet K C name = true)
    (hf : PySem.W.findIn K (.ref C) name = some (some (.ref f))) (ht : PySem.W.isFn K (.ref f) = true) (hv : mA name = none) (h : Q (.ref f, [.ref x]) s) :
    wpAny (model prog w) A (getMethod (.ref x) name pl) Q E s := by
  obtain ⟨od, J, hl⟩ := I.look
  exact PySem.W.method_fn X J (PySem.W.plainGet_of hg).1 (PySem.W.plainGet_of hg).2 hf (beq_iff_eq.mp ht) (by show (PySem.W.lookIn name od).map (·.isSome) = some false; rw [hl, hv]; rfl) h

theorem set_map {ns : List Str} {Q : Unit → Shared → Prop} (X : K.In s.heap) (I : ObjM s.heap x dx C mA)
    (hs : PySem.W.findIn K (.ref C) "__setattr__" = some (some (.builtin "object.__setattr__"))) (hp : PySem.W.plainOver K C = true) (ht : PySem.W.takerIn K C name = some none) (hh : PySem.W.hasDictIn K C = true)
    (hw : PySem.Within mA ns) (hsz : ns.length ≤ sizeLine)
    (h : ∀ h', ObjM h' x dx C (fun y => if y = name then some v else mA y) → Heap.SameBut dx s.heap h' → Q () { s with heap := h', toks := s.toks + 2 }) :
    wpAny (model prog w) A (setAttr (.ref x) name v) Q E s := by
  obtain ⟨od, J, hl⟩ := I.look
  refine PySem.W.set_plain X J hs (PySem.W.osa_open (s := { s with toks := s.toks + 1 }) (r := none) X J hp ht fun b => ?_)
  obtain ⟨cd, hc, hd'⟩ := PySem.W.any_some hh
  have hx : s.heap.get? x = some ⟨.ref C, some dx, .plain, #[]⟩ := I.obj
  refine wpAny_bind (wpAny_pure (wpAny_bind (wpAny_bind (wpAny_loadPart hx (wpAny_bind (PySem.W.Looks.here (s := { s with toks := s.toks + 1 }) (PySem.W.looks_clsIn X hc) ?_))))))
  rw [hd']
  refine wpAny_pure (a := some dx) (wpAny_bind (wpAny_pure (wpAny_bind ?_)))
  refine wpAny_nsSet1 (s := { s with toks := s.toks + 1 }) I.ns fun h' hn2 hs2 => ?_
  obtain ⟨oD, esD, epD, hoD, hdD, hcD⟩ := hn2.count (PySem.Within.cons name v hw)
  refine wpAny_bind (wpAny_lookBehind hoD (by rw [hdD]; exact pastItsLine_dict (Nat.le_trans hcD (by rw [List.length_cons]; omega))) ?_)
  exact wpAny_pure (h _ ⟨(hs2.2 _ (Ne.symm I.ne)).trans I.obj, hn2, I.ne⟩ hs2)

theorem make_map {R : Result → Shared → Prop} {vs : List Value} {kw : List (Str × Value)} (X : K.In s.heap) (hm : PySem.W.makesIn K C = true)
    (hi : PySem.W.findIn K (.ref C) "__init__" = some (some (.ref f))) (hf : PySem.W.typeIn K (.ref f) = some (.type "function"))
    (h : codeAny (model prog w) (A.under (.builtin "type.__call__" ⟨.ref C :: vs, kw⟩)) (.call (.ref f) ⟨.ref (s.heap.objs.size + 1) :: vs, kw⟩) (PySem.W.InitBack (s.heap.objs.size + 1) R)
      { s with heap := (s.heap.push PySem.W.emptyDict).push (PySem.W.instObj C s.heap.objs.size) }) :
    codeAny (model prog w) A (.call (.ref C) ⟨vs, kw⟩) R s := by
  obtain ⟨hh, g, d, t, os⟩ := s
  exact PySem.W.make_core (PySem.W.makes_of X hm) (PySem.W.looks_findIn X hi) (fun self => PySem.W.bind_fn X self hf) (.inl rfl) h
end

/-! ### the attributes as a list of pairs -/
def putF (f : Str) (v : V) : List (Str × V) → List (Str × V)
  | [] => [(f, v)]
  | (g, x) :: r => if g = f then (g, v) :: r else (g, x) :: putF f v r
theorem lookup_putF (f g : Str) (v : V) : ∀ fs : List (Str × V), (putF f v fs).lookup g = if g = f then some v else fs.lookup g
  | [] => by
    show List.lookup g [(f, v)] = _
    by_cases h : g = f
    · have hb : (g == f) = true := beq_iff_eq.mpr h
      simp only [List.lookup, hb, if_pos h]
    · have hb : (g == f) = false := beq_eq_false_iff_ne.mpr h
      simp only [List.lookup, hb, if_neg h]
  | (k, x) :: r => by
    have ih := lookup_putF f g v r
    rw [show putF f v ((k, x) :: r) = (if k = f then (k, v) :: r else (k, x) :: putF f v r) from rfl]
    by_cases hk : k = f
    · rw [if_pos hk]
      by_cases h : g = k
      · have hb : (g == k) = true := beq_iff_eq.mpr h
        simp only [List.lookup, hb, if_pos (h.trans hk)]
      · have hb : (g == k) = false := beq_eq_false_iff_ne.mpr h
        simp only [List.lookup, hb, if_neg (fun e : g = f => h (e.trans hk.symm))]
    · rw [if_neg hk]
      by_cases h : g = k
      · have hb : (g == k) = true := beq_iff_eq.mpr h
        simp only [List.lookup, hb, if_neg (fun e : g = f => hk (h.symm.trans e))]
      · have hb : (g == k) = false := beq_eq_false_iff_ne.mpr h
        simp only [List.lookup, hb]
        exact ih
theorem keys_putF (f : Str) (v : V) : ∀ fs : List (Str × V), f ∈ (putF f v fs).map (·.1) ∧ ∀ g, g ∈ fs.map (·.1) → g ∈ (putF f v fs).map (·.1)
  | [] => ⟨by simp [putF], fun g h => by simp at h⟩
  | (k, x) :: r => by
    obtain ⟨i1, i2⟩ := keys_putF f v r
    rw [show putF f v ((k, x) :: r) = (if k = f then (k, v) :: r else (k, x) :: putF f v r) from rfl]
    by_cases hk : k = f
    · rw [if_pos hk]
      subst hk
      exact ⟨by simp, fun g h => by simpa using h⟩
    · rw [if_neg hk]
      refine ⟨?_, fun g h => ?_⟩
      · rw [List.map_cons]
        exact List.mem_cons_of_mem _ i1
      · rw [List.map_cons] at h ⊢
        rcases List.mem_cons.mp h with e | e
        · exact List.mem_cons.mpr (.inl e)
        · exact List.mem_cons_of_mem _ (i2 g e)
theorem length_putF (f : Str) (v : V) : ∀ fs : List (Str × V), (putF f v fs).length ≤ fs.length + 1
  | [] => by simp [putF]
  | (k, x) :: r => by
    have ih := length_putF f v r
    rw [show putF f v ((k, x) :: r) = (if k = f then (k, v) :: r else (k, x) :: putF f v r) from rfl]
    by_cases hk : k = f
    · rw [if_pos hk, List.length_cons, List.length_cons]; omega
    · rw [if_neg hk, List.length_cons, List.length_cons]; omega

theorem RelO.some_of {v : V} {o : Option Value} (r : RelO (some v) o) : ∃ u, o = some u ∧ RelV v u := by
  cases o with
  | none => exact (show False from r).elim
  | some u => exact ⟨u, rfl, r⟩
theorem RelO.none_of {o : Option Value} (r : RelO none o) : o = none := by
  cases o with
  | none => rfl
  | some u => exact (show False from r).elim
theorem handed_of {v : V} {u : Value} (r : RelV v u) : PySem.W.handedIn u = true := by
  cases v with
  | non => cases (show u = Value.none from r); rfl
  | bl b => cases (show u = Value.bool b from r); rfl
  | int i => obtain ⟨t, e⟩ := (show ∃ t, u = Value.int i t from r); cases e; rfl
  | str x => obtain ⟨t, e⟩ := (show ∃ t, u = Value.str x t from r); cases e; rfl
  | byt b => obtain ⟨t, e⟩ := (show ∃ t, u = Value.bytes b t from r); cases e; rfl
  | flt b => obtain ⟨t, e⟩ := (show ∃ t, u = Value.float b t from r); cases e; rfl
  | ref a => cases (show u = Value.ref a from r); rfl
  | ty n => cases (show u = Value.type n from r); rfl

section
variable {P : Program} {w : World} {H H' : Hp} {h h' : Heap} {a C dx : Addr} {fs fs' : List (Str × V)}
theorem ins_get (hok : HOk P w H h) (e : H a = some (.ins C dx fs)) : ∃ mA, ObjM h a dx C mA ∧ (∀ f, RelO (fs.lookup f) (mA f)) ∧ PySem.Within mA (fs.map (·.1)) ∧ fs.length ≤ 1000 ∧ H dx = some (.own a) := by
  obtain ⟨d, z, ne, ob, mA, n, r, q⟩ := (show ObjOk P w H h a (.ins C dx fs) from hok a _ e)
  exact ⟨mA, ⟨ob, n, ne⟩, r, q, z, d⟩
end

/-! ### what of the text a class must have -/
structure Cls (K : PySem.W.Frag) (C : Addr) : Prop where
  pg : PySem.W.plainGet K C Str.empty = true
  hd : PySem.W.hasDictIn K C = true
  po : PySem.W.plainOver K C = true
  sa : PySem.W.findIn K (.ref C) "__setattr__" = some (some (.builtin "object.__setattr__"))
theorem Cls.get {K : PySem.W.Frag} {C : Addr} (c : Cls K C) (f : Str) : PySem.W.plainGet K C f = true := c.pg
def NoAttr (K : PySem.W.Frag) (C : Addr) (f : Str) : Prop := PySem.W.findIn K (.ref C) f = some none
theorem NoAttr.taker {K : PySem.W.Frag} {C : Addr} {f : Str} (n : NoAttr K C f) : PySem.W.takerIn K C f = some none := by
  unfold PySem.W.takerIn
  rw [show PySem.W.findIn K (.ref C) f = some none from n]
  rfl
structure Con (K : PySem.W.Frag) (C : Addr) (f : Str) (v : V) (u : Value) : Prop where
  at_ : PySem.W.findIn K (.ref C) f = some (some u)
  rel : RelV v u
  get : PySem.W.specialIn K u "__get__" = some none
  cp : PySem.W.copiedNames.contains f = false
structure Meth (K : PySem.W.Frag) (C : Addr) (m : Str) (f : Addr) : Prop where
  at_ : PySem.W.findIn K (.ref C) m = some (some (.ref f))
  fn : PySem.W.isFn K (.ref f) = true
  kp : PySem.W.keepIn K (.ref f) = true

section
variable {X : Cx} {pins : List (Addr × Obj)} {σ : St} {H : Hp} {s : Shared} {a C dx : Addr} {fs : List (Str × V)} {f : Str} {v : V} {A : Around} {E : Value → Shared → Prop}

theorem getattr_ok {b : Bool} {Q : Value → Shared → Prop} (I : Inv X pins σ H s) (e : H a = some (.ins C dx fs)) (c : Cls X.K C) (n : NoAttr X.K C f) (l : fs.lookup f = some v)
    (h : ∀ u s', Inv X pins σ H s' → RelV v u → Q u s') : wpAny (model X.prog X.w) A (getAttr (.ref a) f b) Q E s := by
  obtain ⟨mA, O, r, _, _, _⟩ := ins_get I.hok e
  obtain ⟨u, hu, ru⟩ := RelO.some_of (v := v) (o := mA f) (by rw [← l]; exact r f)
  exact get_map I.kIn O (c.get f) c.hd n hu (handed_of ru) (h u _ (I.tok _) ru)


theorem getmeth_ok {m : Str} {g : Addr} {pl : Sem Bool} {Q : Value × List Value → Shared → Prop} (I : Inv X pins σ H s) (e : H a = some (.ins C dx fs)) (c : Cls X.K C) (k : Meth X.K C m g) (l : fs.lookup m = none)
    (h : Q (.ref g, [.ref a]) s) : wpAny (model X.prog X.w) A (getMethod (.ref a) m pl) Q E s := by
  obtain ⟨mA, O, r, _, _, _⟩ := ins_get I.hok e
  have hn : mA m = none := RelO.none_of (by rw [← l]; exact r m)
  exact get_meth I.kIn O (c.get m) k.at_ k.fn hn h

theorem setattr_ok {y : V} {u : Value} {Q : Unit → Shared → Prop} (I : Inv X pins σ H s) (e : H a = some (.ins C dx fs)) (c : Cls X.K C) (n : NoAttr X.K C f) (hl : fs.length < 1000) (ry : RelV y u)
    (h : ∀ s', Inv X pins σ (upd H a (.ins C dx (putF f y fs))) s' → Q () s') : wpAny (model X.prog X.w) A (setAttr (.ref a) f u) Q E s := by
  obtain ⟨mA, O, r, wi, _, ho⟩ := ins_get I.hok e
  have hz : (fs.map (·.1)).length ≤ sizeLine := by rw [List.length_map, sizeLine_eq]; omega
  refine set_map I.kIn O c.sa c.po n.taker c.hd wi hz fun h' O' sb => h _ ?_
  have hd : ∃ o, h'.get? dx = some o := let ⟨o, _, _, e', _⟩ := O'.ns; ⟨o, e'⟩
  refine I.write (x := a) (e := dx) (by rw [e]; exact True.intro) (.inr ho) (fun b q hb z => (sb.2 b hb).trans z) hd ?_
  refine ⟨by rw [upd_ne O.ne]; exact ho, ?_, O.ne, O'.obj, _, O'.ns, fun g => ?_, fun g hg => ?_⟩
  · have := length_putF f y fs; omega
  · show RelO ((putF f y fs).lookup g) (if g = f then some u else mA g)
    rw [lookup_putF]
    by_cases q : g = f
    · rw [if_pos q, if_pos q]; exact ry
    · rw [if_neg q, if_neg q]; exact r g
  · by_cases q : g = f
    · rw [q]; exact (keys_putF f y fs).1
    · refine (keys_putF f y fs).2 g (wi g fun z => hg ?_)
      show (if g = f then some u else mA g) = none
      rw [if_neg q]; exact z

theorem Inv.made (I : Inv X pins σ H s) : Inv X pins σ (upd (upd H s.heap.objs.size (.own (s.heap.objs.size + 1))) (s.heap.objs.size + 1) (.ins C s.heap.objs.size []))
    { s with heap := (s.heap.push PySem.W.emptyDict).push (PySem.W.instObj C s.heap.objs.size) } := by
  have e1 : (s.heap.push PySem.W.emptyDict).get? s.heap.objs.size = some PySem.W.emptyDict := Heap.get?_push_size s.heap rfl
  have e2 : ((s.heap.push PySem.W.emptyDict).push (PySem.W.instObj C s.heap.objs.size)).get? (s.heap.objs.size + 1) = some (PySem.W.instObj C s.heap.objs.size) := by
    have := Heap.get?_push_size (s.heap.push PySem.W.emptyDict) (o := PySem.W.instObj C s.heap.objs.size) rfl
    rwa [Heap.size_push] at this
  have e3 : (s.heap.push PySem.W.emptyDict).Ns s.heap.objs.size (fun _ => none) := ⟨PySem.W.emptyDict, #[], _, e1, rfl, (fun e he => absurd he (by simp)), fun _ => rfl⟩
  have I1 := I.laid (a := s.heap.objs.size) (o := .own (s.heap.objs.size + 1)) (h' := s.heap.push PySem.W.emptyDict) (t' := s.toks) (fun b u q => Heap.get?_push_of_some _ q) (Nat.le_refl _) ⟨_, e1⟩
  refine I1.laid (a := s.heap.objs.size + 1) (o := .ins C s.heap.objs.size []) (t' := s.toks) (fun b u q => Heap.get?_push_of_some _ q) (Nat.le_of_eq (Heap.size_push _ _)) ?_
  have ne : s.heap.objs.size ≠ s.heap.objs.size + 1 := Nat.ne_of_lt (Nat.lt_succ_self _)
  refine ⟨by rw [upd_ne ne, upd_same], Nat.zero_le _, ne, e2, fun _ => none, (Heap.Ns1.of_empty e3).at fun o q => Heap.get?_push_of_some _ q, fun _ => True.intro, fun y hy => absurd rfl hy⟩

theorem attr_of {prog : Program} {w : World} {env : Env} {e : Expr} {f : Str} {pos : Pos} {s : Shared} {Q : Value → Shared → Prop} (hb : attributeBase e f env (eval e env) = eval e env)
    (h : wpAny (model prog w) A (eval e env) (fun o s₁ => wpAny (model prog w) A (getAttr o f true) Q E s₁) E s) : wpAny (model prog w) A (eval (.Attribute e f pos) env) Q E s :=
  Attribute_any_ h (by rw [arm_eval_Attribute, hb])
end

/-! ### readings and rules -/
def tFld (K : PySem.W.Frag) (ta : TE) (f : Str) : TE := fun σ H Q => ta σ H fun x H1 => ∃ a C dx fs v, x = .ref a ∧ H1 a = some (.ins C dx fs) ∧ Cls K C ∧ NoAttr K C f ∧ fs.lookup f = some v ∧ Q v H1
def sFld (K : PySem.W.Frag) (ta tv : TE) (f : Str) : TS := fun D σ H => tv σ H fun y H1 => ta σ H1 fun x H2 => ∃ a C dx fs, x = .ref a ∧ H2 a = some (.ins C dx fs) ∧ Cls K C ∧ NoAttr K C f ∧ fs.length < 1000 ∧
  D.nx σ (upd H2 a (.ins C dx (putF f y fs)))

section
variable {X : Cx} {o e value : Expr} {f : Str} {pos pos' tpos : Pos} {ta tv : TE}
theorem pe_fld (he : PE X e ta) (hb : attributeBase e f X.env (eval e X.env) = eval e X.env) : PE X (.Attribute e f pos) (tFld X.K ta f) := by
  intro pins s σ H Q I h
  refine attr_of hb (thn (he pins s σ H _ I h) fun u s1 hh => ?_)
  obtain ⟨x, H1, I1, rx, a, C, dx, fs, v, ex, ea, c, n, l, q⟩ := hh
  subst ex
  obtain rfl : u = Value.ref a := rx
  exact getattr_ok I1 ea c n l fun u' s2 I2 ru => ⟨v, H1, I2, ru, q⟩
theorem ps_fld (ha : PE X o ta) (hv : PE X value tv) (hs : swapsWith value (some (.Attribute o f pos')) pos.line X.env = pure false) : PS X (.Assign [.Attribute o f pos'] value pos) (sFld X.K ta tv f) := by
  intro pins s σ H D I h
  refine plainObj_wpAny_Assign_Attribute (thn (hv pins s σ H _ I h) fun u s1 ⟨y, H1, I1, ry, q⟩ => thn (ha pins s1 σ H1 _ I1 q) fun ov s2 hh => ?_) hs
  obtain ⟨x, H2, I2, rx, a, C, dx, fs, ex, ea, c, n, l, q2⟩ := hh
  subst ex
  obtain rfl : ov = Value.ref a := rx
  exact setattr_ok I2 ea c n l ry fun s3 I3 => ⟨σ, _, I3, q2⟩

end

/-! ### isinstance -/
section
variable {X : Cx} {pins : List (Addr × Obj)} {σ : St} {H : Hp} {s : Shared} {A : Around} {E : Value → Shared → Prop} {Q : Value → Shared → Prop} {c : Value} {b : Bool}
inductive TyOf (K : PySem.W.Frag) (H : Hp) : V → Value → Prop where
  | non : TyOf K H .non (.type "NoneType")
  | bl (x : Bool) : TyOf K H (.bl x) (.type "bool")
  | int (i : Int) : TyOf K H (.int i) (.type "int")
  | str (x : Str) : TyOf K H (.str x) (.type "str")
  | flt (x : UInt64) : TyOf K H (.flt x) (.type "float")
  | lst {a : Addr} {xs : List V} (e : H a = some (.lst xs)) : TyOf K H (.ref a) (.type "list")
  | frz {a : Addr} {o : Obj} {xs : List V} (e : H a = some (.frz o (.lst xs))) : TyOf K H (.ref a) (.type "list")
  | tup {a : Addr} {xs : List V} (e : H a = some (.tup xs)) : TyOf K H (.ref a) (.type "tuple")
  | dK {a : Addr} {kvs : List (Key × V)} (e : H a = some (.dK kvs)) : TyOf K H (.ref a) (.type "dict")
  | dT {a : Addr} {kvs : List (List Key × V)} (e : H a = some (.dT kvs)) : TyOf K H (.ref a) (.type "dict")
  | ins {a C dx : Addr} {fs : List (Str × V)} (e : H a = some (.ins C dx fs)) (cl : Cls K C) (ha : PySem.W.findIn K (.ref C) "__class__" = some (some (.builtin "object.__class__")))
      (hn : PySem.W.specialIn K (.builtin "object.__class__") "__get__" = some (some (.builtin "getset_descriptor.__get__"))) (htk : PySem.W.takesIn K (.builtin "object.__class__") = some true)
      (hm : PySem.W.mroIn K C (.type "object") = some true) : TyOf K H (.ref a) (.ref C)
theorem isinst_ok {x : V} {u t : Value} (I : Inv X pins σ H s) (rx : RelV x u) (ty : TyOf X.K H x t) (e : PySem.W.kitOne X.K t c = some b) (h : ∀ tk, Q (.bool b) { s with toks := tk }) :
    wpAny (model X.prog X.w) A (call (.builtin "isinstance") [u, c]) Q E s := by
  cases ty with
  | non => cases (show u = Value.none from rx); exact PySem.W.kia_one PySem.W.kitx_none I.kIn True.intro e (fun z => nomatch z) h
  | bl y => cases (show u = Value.bool y from rx); exact PySem.W.kia_one PySem.W.kitx_bool I.kIn True.intro e (fun z => nomatch z) h
  | int i => obtain ⟨t, q⟩ := (show ∃ t, u = Value.int i t from rx); cases q; exact PySem.W.kia_one PySem.W.kitx_int I.kIn True.intro e (fun z => nomatch z) h
  | str y => obtain ⟨t, q⟩ := (show ∃ t, u = Value.str y t from rx); cases q; exact PySem.W.kia_one PySem.W.kitx_str I.kIn True.intro e (fun z => nomatch z) h
  | flt y => obtain ⟨t, q⟩ := (show ∃ t, u = Value.float y t from rx); cases q; exact PySem.W.kia_one PySem.W.kitx_float I.kIn True.intro e (fun z => nomatch z) h
  | @lst a xs ea =>
    cases (show u = Value.ref a from rx)
    obtain ⟨_, _, n, _, h1⟩ := (show ObjOk X.prog X.w H s.heap a (.lst xs) from I.hok a _ ea)
    exact PySem.W.kia_one PySem.W.kitx_list I.kIn ⟨_, h1, rfl⟩ e (fun z => nomatch z) h
  | @frz a ob xs ea =>
    cases (show u = Value.ref a from rx)
    obtain ⟨_, _, _, n, _, h1⟩ := (show ObjOk X.prog X.w H s.heap a (.frz ob (.lst xs)) from I.hok a _ ea)
    exact PySem.W.kia_one PySem.W.kitx_list I.kIn ⟨_, h1, rfl⟩ e (fun z => nomatch z) h
  | @tup a xs ea =>
    cases (show u = Value.ref a from rx)
    obtain ⟨_, _, _, p⟩ := (show ObjOk X.prog X.w H s.heap a (.tup xs) from I.hok a _ ea)
    obtain ⟨o, h1, h2, _⟩ := p
    exact PySem.W.kia_one PySem.W.kitx_tuple I.kIn ⟨o, h1, h2⟩ e (fun z => nomatch z) h
  | @dK a kvs ea =>
    cases (show u = Value.ref a from rx)
    obtain ⟨_, _, vs, _, p⟩ := (show ObjOk X.prog X.w H s.heap a (.dK kvs) from I.hok a _ ea)
    obtain ⟨o, es, ep, h1, h2, _⟩ := p
    exact PySem.W.kia_one PySem.W.kitx_dict I.kIn ⟨o, h1, h2.1⟩ e (fun z => nomatch z) h
  | @dT a kvs ea =>
    cases (show u = Value.ref a from rx)
    obtain ⟨_, _, xs, _, o, es, ep, h1, h2, _⟩ := (show ObjOk X.prog X.w H s.heap a (.dT kvs) from I.hok a _ ea)
    exact PySem.W.kia_one PySem.W.kitx_dict I.kIn ⟨o, h1, h2.1⟩ e (fun z => nomatch z) h
  | @ins a C dx fs ea cl ha hn htk hm =>
    cases (show u = Value.ref a from rx)
    obtain ⟨mA, O, _⟩ := ins_get I.hok ea
    obtain ⟨od, J, _⟩ := O.look
    exact PySem.W.kia_one (PySem.W.kitx_own (cl.get _) cl.hd ha hn htk hm) I.kIn J e (fun z => nomatch z) h
end
end L2

namespace L2
open PySem PySem.Spec PyProof.Rows

/-! ### room -/
structure Room (k : Nat) (A : Around) : Prop where
  hd : A.handled = none
  dp : A.depth + 3 * k + 5 < recursionLimit
  un : A.units + 16 * k + 200 < cLine
theorem Room.mono {j k : Nat} {A : Around} (r : Room k A) (h : j ≤ k) : Room j A := ⟨r.hd, by have := r.dp; omega, by have := r.un; omega⟩
theorem Room.deeper {k : Nat} {A : Around} (r : Room (k + 1) A) (env : Env) : Room k (A.deeper env) :=
  ⟨r.hd, by have := r.dp; show A.depth + 1 + 3 * k + 5 < _; omega, by have := r.un; show A.units + 3 + 16 * k + 200 < _; omega⟩
theorem Room.in1 {k : Nat} {A : Around} (r : Room (k + 1) A) : Room k A.in1 :=
  ⟨r.hd, by have := r.dp; show A.depth + 3 * k + 5 < _; omega, by have := r.un; show A.units + 1 + 16 * k + 200 < _; omega⟩
theorem make_depth {A : Around} {C : Addr} {us : List Value} {kw : List (Str × Value)} : (A.under (.builtin "type.__call__" ⟨.ref C :: us, kw⟩)).depth = A.depth + 1 := by
  first | rfl | simp [Around.under, Code.weight, Code.isCreation, Code.isGuard, Code.isCaller, Code.frames, Code.isFrame, guardIds]
theorem make_units {A : Around} {C : Addr} {us : List Value} {kw : List (Str × Value)} : (A.under (.builtin "type.__call__" ⟨.ref C :: us, kw⟩)).units = A.units + 1 := by
  first | rfl | simp [Around.under, Code.cUnits, Code.frames, Code.isFrame]
theorem Room.make {k : Nat} {A : Around} (r : Room (k + 1) A) (C : Addr) (us : List Value) (kw : List (Str × Value)) : Room k (A.under (.builtin "type.__call__" ⟨.ref C :: us, kw⟩)) :=
  ⟨r.hd, by have := r.dp; rw [make_depth]; omega, by have := r.un; rw [make_units]; omega⟩
theorem Room.depth {k : Nat} {A : Around} (r : Room k A) : A.depth < recursionLimit := by have := r.dp; omega
theorem Room.units0 {k : Nat} {A : Around} (r : Room k A) : A.units < cLine := by have := r.un; omega

/-! ### argument lists and displays -/
def tNil : TA := fun _ H Q => Q [] H
def tCons (ta : TE) (tr : TA) : TA := fun σ H Q => ta σ H fun x H1 => tr σ H1 fun xs H2 => Q (x :: xs) H2
section
variable {X : Cx} {e : Expr} {es : List Expr} {te : TE} {t : TA} {pos : Pos}
theorem pa_nil : PA X [] tNil := fun _ _ _ _ H Q I h => Calls.spliced_nil ⟨[], H, I, .nil, h⟩
theorem pa_cons (ha : PE X e te) (hr : PA X es t) (hs : starEach (e :: es) X.env = (false, eval e X.env) :: starEach es X.env := by rfl) : PA X (e :: es) (tCons te t) := by
  intro pos pins s σ H Q I h
  rw [hs]
  show wpAny _ _ (spliced ((false, eval e X.env) :: backTo pos (starEach es X.env))) _ _ s
  refine Calls.spliced_cons (thn (ha pins s σ H _ I h) fun u s1 hh => ?_)
  obtain ⟨x, H1, I1, r1, q1⟩ := hh
  exact thn (hr pos pins s1 σ H1 _ I1 q1) fun us s2 ⟨xs, H2, I2, r2, q2⟩ => ⟨x :: xs, H2, I2, .cons r1 r2, q2⟩

def tTup (t : TA) : TE := fun σ H Q => t σ H fun xs H1 => xs.length ≤ sizeLine ∧ ∀ p, H1 p = none → Q (.ref p) (upd H1 p (.tup xs))
def tLst (t : TA) : TE := fun σ H Q => t σ H fun xs H1 => xs.length ≤ sizeLine ∧ ∀ p, H1 p = none → Q (.ref p) (upd H1 p (.lst xs))
theorem pe_tup {x1} (h : PA X es t) : PE X (.Tuple es x1 pos) (tTup t) := by
  intro pins s σ H Q I hq
  refine wpAny_Tuple_spliced (thn (h pos pins s σ H _ I hq) fun us s1 ⟨xs, H1, I1, r, z, q⟩ => ⟨by rw [← r.length]; exact z, ?_⟩)
  have hf : H1 s1.heap.objs.size = none := I1.hok.fresh (Nat.le_refl _)
  refine ⟨.ref s1.heap.objs.size, upd H1 s1.heap.objs.size (.tup xs), I1.laid (t' := s1.toks) (fun b u e => Heap.get?_push_of_some _ e) (Nat.le_refl _) ?_, rfl, q _ hf⟩
  exact ⟨z, us, r, ⟨_, Heap.get?_push_size _ rfl, rfl, _, rfl⟩⟩
theorem pe_lst (h : PA X es t) : PE X (.List es pos) (tLst t) := by
  intro pins s σ H Q I hq
  refine wpAny_List_spliced (thn (h pos pins s σ H _ I hq) fun us s1 ⟨xs, H1, I1, r, z, q⟩ => ⟨by rw [← r.length]; exact z, ?_⟩)
  have hf : H1 s1.heap.objs.size = none := I1.hok.fresh (Nat.le_refl _)
  refine ⟨.ref s1.heap.objs.size, upd H1 s1.heap.objs.size (.lst xs), I1.laid (t' := s1.toks) (fun b u e => Heap.get?_push_of_some _ e) (Nat.le_refl _) ?_, rfl, q _ hf⟩
  exact ⟨z, us, 0, r, Heap.get?_push_size _ rfl⟩
end

/-! ### what a def promises -/
abbrev Sp := List V → Hp → VK → XK → Prop
abbrev CXT := List Env → Hp → Shared → XK → Value → Shared → Prop

structure Env0 (P : Program) (w : World) (K : PySem.W.Frag) (mg : Str → Option Value) (base : Heap) (A : Around) (outer : List Env) (s : Shared) (H : Hp) : Prop where
  frames : A.frames = some outer
  mod : Mod K mg base
  bs : ∀ b o, base.get? b = some o → s.heap.get? b = some o ∧ H b = none
  bsz : base.objs.size ≤ s.heap.objs.size
  funs : s.heap.FunFrames base outer
  frf : ∀ b ∈ frs outer, H b = none
  hok : HOk P w H s.heap
  bare : AllBare s.gens
def CE (outer : List Env) (P : Program) (w : World) (H : Hp) (s : Shared) (Q : VK) (u : Value) (s' : Shared) : Prop :=
  ∃ v H', s'.os = s.os ∧ AllBare s'.gens ∧ Un (frs outer) [] H H' s.heap s'.heap ∧ HOk P w H' s'.heap ∧ RelV v u ∧ Q v H'
def CR (CX : CXT) (outer : List Env) (P : Program) (w : World) (H : Hp) (s : Shared) (Q : VK) (E : XK) (r : Result) (s' : Shared) : Prop :=
  match r with
  | .ok (.ret u) => CE outer P w H s Q u s'
  | .ok _ => False
  | .error e => CX outer H s E e s'
structure FnOk (P : Program) (w : World) (K : PySem.W.Frag) (mg : Str → Option Value) (base : Heap) (CX : CXT) (k : Nat) (f : Addr) (fd : FuncData) (ps : List Str) (sp : Sp) : Prop where
  len : ∀ vs H Q E, sp vs H Q E → vs.length = ps.length
  run : ∀ (A : Around) (outer : List Env) (s : Shared) (H : Hp) (args : Args) (us : List Value) (vs : List V) (Q : VK) (E : XK), Room k A → Env0 P w K mg base A outer s H → BindsTo s fd args (ps.zip us) → Vals vs us → sp vs H Q E →
    codeAny (model P w) A (.call (.ref f) args) (CR CX outer P w H s Q E) s

theorem Env0.make {P : Program} {w : World} {K : PySem.W.Frag} {mg : Str → Option Value} {base : Heap} {A : Around} {outer : List Env} {s : Shared} {H : Hp} (e : Env0 P w K mg base A outer s H) (C : Addr) (us : List Value) (kw : List (Str × Value)) :
    Env0 P w K mg base (A.under (.builtin "type.__call__" ⟨.ref C :: us, kw⟩)) outer s H := ⟨by first | exact e.frames | (simpa [Around.under, Code.envs, Code.isFrame, pushEnvs] using e.frames), e.mod, e.bs, e.bsz, e.funs, e.frf, e.hok, e.bare⟩

section
variable {X : Cx} {pins : List (Addr × Obj)} {σ : St} {H : Hp} {s s' : Shared}
theorem Inv.env0 (I : Inv X pins σ H s) : Env0 X.prog X.w X.K X.mg X.base X.A X.stack s H :=
  ⟨I.ok.frames, I.ok.mod, I.bs, Nat.le_trans I.ok.bsz I.sz, I.stack, I.stkFree, I.hok, I.bare⟩
theorem Inv.after {Q : VK} {u : Value} (I : Inv X pins σ H s) (h : CE X.stack X.prog X.w H s Q u s') : EP X pins σ Q u s' := by
  obtain ⟨v, H', os, bare, un, hok, r, q⟩ := h
  obtain ⟨hh, g, d, t, os'⟩ := s'
  obtain rfl : os' = s.os := os
  exact ⟨v, H', I.call (h' := hh) (g' := g) (d' := d) (t' := t) (ch := []) un hok bare (fun b z => absurd z (by simp)), r, q⟩
end

/-! ### calls -/
def tCall (sp : Sp) (dvs : List V) (E : XK) (t : TA) : TE := fun σ H Q => t σ H fun vs H1 => sp (vs ++ dvs) H1 Q E
def tMeth (C : Addr) (m : Str) (sp : Sp) (dvs : List V) (E : XK) (ta : TE) (t : TA) : TE := fun σ H Q => ta σ H fun x H1 => ∃ a dx fs, x = .ref a ∧ H1 a = some (.ins C dx fs) ∧ fs.lookup m = none ∧
  t σ H1 fun vs H2 => sp (x :: (vs ++ dvs)) H2 Q E

def Binds (K : PySem.W.Frag) (fd : FuncData) (ps : List Str) (ds : List Value) : Prop :=
  ∀ (s : Shared) (us : List Value), K.In s.heap → (us ++ ds).length = ps.length → BindsTo s fd ⟨us, []⟩ (ps.zip (us ++ ds))
theorem Binds.all {K : PySem.W.Frag} {fd : FuncData} {ps : List Str} (h : ∀ us : List Value, us.length = ps.length → bindArgs fd ⟨us, []⟩ = pure (ps.zip us)) : Binds K fd ps [] := fun s us _ hl => by
  rw [List.append_nil] at hl ⊢
  exact .of_eq (h us hl)

def Passes (CX : CXT) (X : Cx) (E : XK) : Prop := ∀ (pins : List (Addr × Obj)) (σ : St) (H : Hp) (s : Shared) (e : Value) (s' : Shared), Inv X pins σ H s → CX X.stack H s E e s' → X.xe e s'

section
variable {X : Cx} {CX : CXT} {k : Nat} {f C : Addr} {fd : FuncData} {ps : List Str} {sp : Sp} {dvs : List V} {ds : List Value} {E : XK} {x m : Str} {p pos apos : Pos} {e o : Expr} {es : List Expr} {ta : TE} {t : TA}

theorem run_fn {pins : List (Addr × Obj)} {σ : St} {H : Hp} {s : Shared} {Q : VK} {us : List Value} {vs : List V} (F : FnOk X.prog X.w X.K X.mg X.base CX k f fd ps sp) (hr : Room k X.A) (hb : Binds X.K fd ps ds) (hd : Vals dvs ds) (hx : Passes CX X E)
    (I : Inv X pins σ H s) (r : Vals vs us) (h : sp (vs ++ dvs) H Q E) : wpAny (model X.prog X.w) X.A (call (.ref f) us) (EP X pins σ Q) X.xe s := by
  have r2 : Vals (vs ++ dvs) (us ++ ds) := r.append hd
  have hl : (us ++ ds).length = ps.length := by rw [← r2.length]; exact F.len _ _ _ _ h
  refine wpAny_call (codeAny_mono (F.run X.A X.stack s H ⟨us, []⟩ (us ++ ds) (vs ++ dvs) Q E hr I.env0 (hb s us I.kIn hl) r2 h) fun r s' hq => ?_)
  cases r with
  | error e => exact hx pins σ H s e s' I hq
  | ok fl =>
    cases fl with
    | ret u => exact I.after hq
    | next => exact False.elim hq
    | brk => exact False.elim hq
    | cont => exact False.elim hq

theorem pe_call (F : FnOk X.prog X.w X.K X.mg X.base CX k f fd ps sp) (hr : Room k X.A) (hg : Gl X x) (hm : X.mg x = some (.ref f)) (hk : PySem.W.keepIn X.K (.ref f) = true) (hb : Binds X.K fd ps ds) (hd : Vals dvs ds) (hx : Passes CX X E)
    (ha : PA X (e :: es) t) (hdb : (x == ("__debug__" : Str)) = false := by decide) (he : starEach (e :: es) X.env = (false, eval e X.env) :: starEach es X.env := by rfl) (hpl : (backTo pos (starEach es X.env)).any (·.1) = false := by rfl) :
    PE X (.Call (.Name x p) (e :: es) [] pos) (tCall sp dvs E t) := by
  intro pins s σ H Q I h
  refine wpAny_Call_Name_kw (ld_glob I hg hm ?_ hdb)
  refine PySem.W.callWith_K (h₀ := X.base) I.ok.mod.kin hk (thn (ha pos pins s σ H _ I h) fun us s1 ⟨vs, H1, I1, r, q⟩ => ⟨I1.kIn, ?_⟩) he hpl
  exact run_fn F hr hb hd hx I1 r q

theorem pe_meth {pl : Sem Bool} (he : PE X o ta) (c : Cls X.K C) (hm : Meth X.K C m f) (F : FnOk X.prog X.w X.K X.mg X.base CX k f fd ps sp) (hr : Room k X.A) (hb : Binds X.K fd ps ds) (hd : Vals dvs ds) (hx : Passes CX X E) (ha : PA X (e :: es) t)
    (hst : starEach (e :: es) X.env = (false, eval e X.env) :: starEach es X.env := by rfl) (hpl : (backTo pos (starEach es X.env)).any (·.1) = false := by rfl)
    (ht : eval (.Call (.Attribute o m apos) (e :: es) [] pos) X.env = (do
      let ov ← eval o X.env
      standAt apos.atName
      let (f, first) ← holding [ov] (getMethod ov m pl)
      callWith pos f first (backTo pos (starEach (e :: es) X.env)) (backToKw pos (keywordEach [] X.env))) := by rfl) :
    PE X (.Call (.Attribute o m apos) (e :: es) [] pos) (tMeth C m sp dvs E ta t) := by
  intro pins s σ H Q I h
  refine PySem.W.methodCall_KW (pl := pl) (thn (he pins s σ H _ I h) fun u s1 hh => ?_) ht
  obtain ⟨x, H1, I1, rx, a, dx, fs, ex, ea, l, q⟩ := hh
  subst ex
  obtain rfl : u = Value.ref a := rx
  refine getmeth_ok I1 ea c hm l ?_
  refine PySem.W.callWith_K (first := [.ref a]) (h₀ := X.base) I.ok.mod.kin hm.kp (thn (ha pos pins s1 σ H1 _ I1 q) fun us s2 ⟨vs, H2, I2, r, q2⟩ => ⟨I2.kIn, ?_⟩) hst hpl
  exact run_fn (us := .ref a :: us) (vs := .ref a :: vs) F hr hb hd hx I2 (.cons rfl r) q2

structure Mk (K : PySem.W.Frag) (C f : Addr) : Prop where
  makes : PySem.W.makesIn K C = true
  init : PySem.W.findIn K (.ref C) "__init__" = some (some (.ref f))
  fn : PySem.W.isFn K (.ref f) = true
  kp : PySem.W.keepIn K (.ref C) = true

end

/-! ### keywords -/
section
variable {X : Cx} {CX : CXT} {k : Nat} {f C : Addr} {fd : FuncData} {ps ks : List Str} {sp : Sp} {E : XK} {x m : Str} {p pos apos kpos : Pos} {e o : Expr} {es : List Expr} {kws : List Keyword} {te ta : TE} {t tk : TA} {nm : Option Str}

structure KBinds (K : PySem.W.Frag) (fd : FuncData) (ps ks : List Str) (g : List Value → List Value → List Value) (gV : List V → List V → List V) : Prop where
  to : ∀ (s : Shared) (us ws : List Value), K.In s.heap → (g us ws).length = ps.length → BindsTo s fd ⟨us, ks.zip ws⟩ (ps.zip (g us ws))
  rel : ∀ {vs : List V} {us : List Value} {zs : List V} {ws : List Value}, Vals vs us → Vals zs ws → Vals (gV vs zs) (g us ws)
variable {g : List Value → List Value → List Value} {gV : List V → List V → List V}
end

/-! ### a def's body keeps its promise -/
structure FnScope (N P : List Str) (sc : Scope) : Prop where
  kind : sc.kind = .function
  co : sc.isCoroutine = false
  gen : sc.isGenerator = false
  nd : N.Nodup
  pre : N.take P.length = P
  par : ∀ x ∈ P, sc.names.lookup x = some .local ∨ sc.names.lookup x = some .cell
  nofree : ∀ y ∈ sc.names, y.2 ≠ .free

theorem bindL_out {kindOf : Str → Option NameKind} {x : Str} : ∀ {binds : List (Str × Value)} {m : Str → Option Value}, (∀ v, (x, v) ∉ binds) → bindL kindOf binds m x = m x
  | [], _, _ => rfl
  | (n, v) :: r, m, h => by
    unfold bindL
    rw [bindL_out fun w hw => h w (List.mem_cons_of_mem _ hw)]
    split
    · have : x ≠ n := by rintro rfl; exact h v List.mem_cons_self
      simp [this]
    · rfl
theorem bindC_out {kindOf : Str → Option NameKind} {x : Str} : ∀ {binds : List (Str × Value)} {m : Str → Option Value}, (∀ v, (x, v) ∉ binds) → bindC kindOf binds m x = m x
  | [], _, _ => rfl
  | (n, v) :: r, m, h => by
    unfold bindC
    rw [bindC_out fun w hw => h w (List.mem_cons_of_mem _ hw)]
    split
    · rfl
    · have : x ≠ n := by rintro rfl; exact h v List.mem_cons_self
      simp [this]
theorem bindL_get {kindOf : Str → Option NameKind} {x : Str} {v : Value} : ∀ {P : List Str} {vs : List Value} {i : Nat} {m : Str → Option Value}, P.Nodup → P[i]? = some x → vs[i]? = some v → kindOf x = some .local →
    bindL kindOf (P.zip vs) m x = some v
  | [], _, _, _, _, h, _, _ => by simp at h
  | _ :: _, [], _, _, _, _, h, _ => by simp at h
  | p :: P, w :: vs, 0, m, nd, h1, h2, hk => by
    simp at h1 h2; subst h1; subst h2
    show bindL kindOf ((p, w) :: P.zip vs) m p = _
    unfold bindL
    rw [bindL_out fun v hv => (List.nodup_cons.mp nd).1 (List.of_mem_zip hv).1, if_pos hk]
    simp
  | p :: P, w :: vs, i + 1, m, nd, h1, h2, hk => by
    show bindL kindOf ((p, w) :: P.zip vs) m x = _
    unfold bindL
    exact bindL_get (i := i) (List.nodup_cons.mp nd).2 (by simpa using h1) (by simpa using h2) hk
theorem bindC_get {kindOf : Str → Option NameKind} {x : Str} {v : Value} : ∀ {P : List Str} {vs : List Value} {i : Nat} {m : Str → Option Value}, P.Nodup → P[i]? = some x → vs[i]? = some v → kindOf x ≠ some .local →
    bindC kindOf (P.zip vs) m x = some v
  | [], _, _, _, _, h, _, _ => by simp at h
  | _ :: _, [], _, _, _, _, h, _ => by simp at h
  | p :: P, w :: vs, 0, m, nd, h1, h2, hk => by
    simp at h1 h2; subst h1; subst h2
    show bindC kindOf ((p, w) :: P.zip vs) m p = _
    unfold bindC
    rw [bindC_out fun v hv => (List.nodup_cons.mp nd).1 (List.of_mem_zip hv).1, if_neg hk]
    simp
  | p :: P, w :: vs, i + 1, m, nd, h1, h2, hk => by
    show bindC kindOf ((p, w) :: P.zip vs) m x = _
    unfold bindC
    exact bindC_get (i := i) (List.nodup_cons.mp nd).2 (by simpa using h1) (by simpa using h2) hk

def start (N : List Str) (vs : List V) : St := vs.map some ++ List.replicate (N.length - vs.length) none

def cxOf (CX : CXT) (P : Program) (w : World) (K : PySem.W.Frag) (mg : Str → Option Value) (base : Heap) (N : List Str) (qual : Str) (scope : Scope) (f : Addr) (cd : Value) (A : Around) (outer : List Env) (s : Shared) (H : Hp) (E : XK) : Cx where
  prog := P
  w := w
  K := K
  mg := mg
  base := base
  A := A.deeper (envOfC qual scope s.heap.objs.size f cd)
  N := N
  s₀ := s
  H₀ := H
  env := envOfC qual scope s.heap.objs.size f cd
  outer := outer
  stack := envOfC qual scope s.heap.objs.size f cd :: outer
  ex := []
  calm := true
  fn := fun _ => true
  pn := []
  xe := fun e s' => wpAny (model P w) (A.deeper (envOfC qual scope s.heap.objs.size f cd)) (leaving (envOfC qual scope s.heap.objs.size f cd) e) (fun _ s'' => CX outer H s E e s'') (fun e' s'' => CX outer H s E e' s'') s'

theorem cell_has {sc : Scope} {n : Nat} {x : Str} (h : sc.names.lookup x = some .cell) : ∃ c, (cellsFrom n sc.names []).lookup x = some c := by
  have q := PySem.W.cellsFrom_some sc.names n [] (.inl h)
  exact Option.isSome_iff_exists.mp q

theorem inv_start {CX : CXT} {P : Program} {w : World} {K : PySem.W.Frag} {mg : Str → Option Value} {base : Heap} {N ps : List Str} {qual : Str} {scope : Scope} {f : Addr} {cd : Value} {A : Around} {outer : List Env} {s s1 : Shared} {H : Hp} {E : XK} {us : List Value} {vs : List V}
    (S : FnScope N ps scope) (hd : A.handled = none) (e0 : Env0 P w K mg base A outer s H) (hl : vs.length = ps.length) (r : Vals vs us)
    (x : InCallC s s.heap.objs.size (bindL (envOfC qual scope s.heap.objs.size f cd).kindOf (ps.zip us) fun _ => none) (cellsFrom (s.heap.objs.size + 1) scope.names []) (bindC (envOfC qual scope s.heap.objs.size f cd).kindOf (ps.zip us) fun _ => none) s1) :
    Inv (cxOf CX P w K mg base N qual scope f cd A outer s H E) [] (start N vs) H s1 := by
  have hpl : ps.length ≤ N.length := by have := congrArg List.length S.pre; rw [List.length_take] at this; omega
  obtain ⟨h1, tk, rfl, hk⟩ := x.done
  have noA : ∀ b : Addr, b ∉ (cxOf CX P w K mg base N qual scope f cd A outer s H E).ex := fun b z => absurd (show b ∈ ([] : List Addr) from z) (by simp)
  refine ⟨⟨e0.mod, S.kind, rfl, rfl, Nat.le_refl _, fun y z c h1 h2 => ?_, fun y hy => ?_, fun y c _ h => ?_, fun _ => hd, Around.frames_deeper e0.frames, .inr ⟨rfl, rfl⟩, fun b z => absurd z (noA b), e0.bs, e0.bsz, fun b _ _ => noA b, fun b z => absurd z (noA b), e0.funs, e0.frf⟩,
    rfl, e0.bare, Un.kept hk, ⟨_, x.toInCall.ns, fun i y v h1 h2 h3 => ?_⟩, fun y c h => ⟨_, x.cell y c h⟩, e0.hok.fresh (Nat.le_refl _), fun y c h => ?_, fun p hp => absurd (show p ∈ ([] : List (Addr × Obj)) from hp) (by simp), e0.hok.kept hk, ?_⟩
  · exact name_of_addr x.apart (PySem.mem_of_lookup h1) (PySem.mem_of_lookup h2)
  · have hy : scope.names.lookup y = some .cell ∨ scope.names.lookup y = some .free := hy
    rcases hy with hy | hy
    · exact cell_has hy
    · exact absurd rfl (S.nofree _ (PySem.mem_of_lookup hy))
  · exact Nat.le_of_lt (x.above y c (PySem.mem_of_lookup h))
  · have hi : i < vs.length := by
      unfold start at h2
      by_cases hi : i < vs.length
      · exact hi
      · rw [List.getElem?_append_right (by simpa using hi)] at h2
        rw [List.getElem?_replicate] at h2
        split at h2 <;> cases h2
    have ha : vs[i]? = some v := by
      unfold start at h2
      rw [List.getElem?_append_left (by simpa using hi), List.getElem?_map] at h2
      cases e : vs[i]? with
      | none => rw [e] at h2; cases h2
      | some a => rw [e] at h2; cases h2; rfl
    obtain ⟨u, hu, rv⟩ := r.get ha
    have hp : ps[i]? = some y := by
      rw [← S.pre, List.getElem?_take_of_lt (by omega)]; exact h1
    have ndP : ps.Nodup := by rw [← S.pre]; exact S.nd.sublist (List.take_sublist _ _)
    refine ⟨u, rv, ?_⟩
    rcases S.par y (List.mem_of_getElem? hp) with k | k
    · exact .inl ⟨k, bindL_get ndP hp hu k⟩
    · obtain ⟨c, e⟩ := cell_has (n := s.heap.objs.size + 1) k
      refine .inr ⟨.inl k, c, e, ?_⟩
      have q := x.cell y c e
      rw [bindC_get ndP hp hu (by show scope.names.lookup y ≠ _; rw [k]; decide)] at q
      exact q
  · exact e0.hok.fresh (Nat.le_of_lt (x.above y c (PySem.mem_of_lookup h)))
  · unfold start
    show _ = N.length
    rw [List.length_append, List.length_map, List.length_replicate]
    omega

theorem fn_of {CX : CXT} {P : Program} {w : World} {K : PySem.W.Frag} {mg : Str → Option Value} {base : Heap} {k : Nat} {f : Addr} {name qual : Str} {params : Arguments} {body : List Stmt} {scope : Scope} {dV kV doc pm cdv ct oc : Value} {an od : Option Addr}
    {osl : Array (Option Value)} {N ps : List Str} {sp : Sp} (lk : K.lookup f = some ⟨oc, od, .func (PySem.W.fnOf name qual params body scope dV kV doc pm an cdv ct), osl⟩) (hcd : PySem.W.codeIn K cdv qual = true) (S : FnScope N ps scope)
    (len : ∀ vs H Q E, sp vs H Q E → vs.length = ps.length)
    (hbody : ∀ (A : Around) (outer : List Env) (s : Shared) (H : Hp) (vs : List V) (Q : VK) (E : XK), Room k (A.deeper (envOfC qual scope s.heap.objs.size f cdv)) → sp vs H Q E →
      ∃ t, PSs (cxOf CX P w K mg base N qual scope f cdv A outer s H E) body t ∧ t { nx := fun _ H' => Q .non H', rt := Q } (start N vs) H) :
    FnOk P w K mg base CX (k + 1) f (PySem.W.fnOf name qual params body scope dV kV doc pm an cdv ct) ps sp := by
  refine ⟨len, fun A outer s H args us vs Q E hr e0 hb r hsp => ?_⟩
  have hl := len _ _ _ _ hsp
  have KX : K.In s.heap := e0.mod.kin.keeps fun b o e => (e0.bs b o e).1
  have lim : s.heap.NoLimit := e0.mod.nolimit.keeps fun b o e => (e0.bs b o e).1
  have hkind : ∀ y ∈ ps.zip us, scope.names.lookup y.1 = some .local ∨ (scope.names.lookup y.1 = some .cell ∧ ((cellsFrom (s.heap.objs.size + 1) scope.names []).lookup y.1).isSome = true) := fun ⟨n, v⟩ hy => by
    rcases S.par n (List.of_mem_zip hy).1 with q | q
    · exact .inl q
    · exact .inr ⟨q, PySem.W.cellsFrom_some _ _ _ (.inl q)⟩
  refine codeAny_call_function hr.depth (KX _ _ lk) rfl S.co S.gen rfl (PySem.W.codeRec_of KX hcd) (hb _ _ _ _ ?_)
  refine wpAny_newFunctionEnv_cells S.kind hkind fun env he s1 x => ?_
  subst he
  refine ⟨lim.keeps x.toInCall.keep, codeAny_func ?_⟩
  obtain ⟨t, ht, hq⟩ := hbody A outer s H vs Q E (hr.deeper _) hsp
  have I : Inv (cxOf CX P w K mg base N qual scope f cdv A outer s H E) [] (start N vs) H s1 := inv_start S hr.hd e0 hl r x
  refine wpAny_mono (ht [] s1 (start N vs) H _ I hq) (fun fl s' hs => ?_) fun e s' hs => hs
  have fin : ∀ {σ' : St} {H' : Hp} {v : V} {u : Value}, Inv (cxOf CX P w K mg base N qual scope f cdv A outer s H E) [] σ' H' s' → RelV v u → Q v H' → CE outer P w H s Q u s' :=
    fun {σ' H' v u} J rv q => ⟨v, H', J.os, J.bare, J.base, J.hok, rv, q⟩
  cases fl with
  | ret u =>
    obtain ⟨v, σ', H', J, rv, q⟩ := hs
    exact fin J rv q
  | next =>
    obtain ⟨σ', H', J, q⟩ := hs
    exact fin (v := V.non) (u := Value.none) J rfl q
  | brk =>
    obtain ⟨_, _, _, q⟩ := hs
    exact False.elim q
  | cont =>
    obtain ⟨_, _, _, q⟩ := hs
    exact False.elim q
end L2

namespace L2
open PySem PySem.Spec PyProof.Rows
section
variable {X : Cx} {x : Str} {p pos : Pos} {e : Expr} {es : List Expr} {t : TA} {id T : String} {r : List V → Hp → VK → Prop}

def tCB (r : List V → Hp → VK → Prop) (t : TA) : TE := fun σ H Q => t σ H fun vs H1 => r vs H1 Q
theorem pe_callB (hc : CallR X (.builtin id) r) (hg : Gl X x) (hm : X.mg x = none) (hv : bootBuiltins x = some (.builtin id)) (ha : PA X (e :: es) t) (hn : x ≠ "__name__" := by decide) (hdb : (x == ("__debug__" : Str)) = false := by decide)
    (he : starEach (e :: es) X.env = (false, eval e X.env) :: starEach es X.env := by rfl) (hpl : (backTo pos (starEach es X.env)).any (·.1) = false := by rfl) : PE X (.Call (.Name x p) (e :: es) [] pos) (tCB r t) := by
  intro pins s σ H Q I h
  refine wpAny_Call_Name_kw (ld_blt I hg hm hv ?_ hn hdb)
  exact PyProof.Rows.callWith_builtin1 (thn (ha pos pins s σ H _ I h) fun us s1 ⟨vs, H1, I1, r1, q1⟩ => hc pins s1 σ H1 vs us Q I1 r1 q1) he hpl
theorem pe_callTy (hc : CallR X (.type T) r) (hg : Gl X x) (hm : X.mg x = none) (hv : bootBuiltins x = some (.type T)) (ha : PA X (e :: es) t) (hn : x ≠ "__name__" := by decide) (hdb : (x == ("__debug__" : Str)) = false := by decide)
    (he : starEach (e :: es) X.env = (false, eval e X.env) :: starEach es X.env := by rfl) (hpl : (backTo pos (starEach es X.env)).any (·.1) = false := by rfl) : PE X (.Call (.Name x p) (e :: es) [] pos) (tCB r t) := by
  intro pins s σ H Q I h
  refine wpAny_Call_Name_kw (ld_blt I hg hm hv ?_ hn hdb)
  exact PyProof.Rows.callWith_type1 (thn (ha pos pins s σ H _ I h) fun us s1 ⟨vs, H1, I1, r1, q1⟩ => hc pins s1 σ H1 vs us Q I1 r1 q1) he hpl
end
end L2

namespace HT
open PySem PyProof.Rows



section
open PySem.SeqAt
open PySem.AutoSeq1 (wpAny_loadPart')
open PySem.MeetsSeq PySem.MeetsSeq2 PySem.MeetsSeq3

end

section
variable {prog : Program} {w : World} {A : Around} {E : Value → Shared → Prop} {s : Shared}



/-! ### t[a:b], not the whole -/

end
end HT

namespace L2
open PySem PySem.Spec PyProof.Rows

/-! ### the parts of a slice -/
abbrev TO := St → Hp → (Option Int → Hp → Prop) → Prop


section
variable {X : Cx} {e : Expr} {te : TE} {lo hi : Option Expr} {tl th : TO} {pos p2 : Pos}




/-! ### t < u, t + u -/
end
end L2

namespace L2
open PySem PySem.Spec PyProof.Rows

/-! ### places -/
def ixN (n : Nat) (i : Int) : Option Nat := if 0 ≤ i then (if i < n then some i.toNat else none) else if -(n : Int) ≤ i then some (i + n).toNat else none
def atI {α : Type} (xs : List α) (i : Int) : Option α := (ixN xs.length i).bind fun j => xs[j]?
theorem ixN_seq {n : Nat} {i : Int} {j : Nat} (h : ixN n i = some j) : seqIndex? i n = some j ∧ j < n ∧ -(n : Int) ≤ i ∧ i < n := by
  unfold ixN at h
  by_cases h0 : 0 ≤ i
  · rw [if_pos h0] at h
    by_cases h1 : i < n
    · rw [if_pos h1] at h
      have e : i.toNat = j := Option.some.inj h
      exact ⟨by rw [seqIndex_of h0 h1, e], by omega, by omega, h1⟩
    · rw [if_neg h1] at h; cases h
  · rw [if_neg h0] at h
    by_cases h1 : -(n : Int) ≤ i
    · rw [if_pos h1] at h
      have e : (i + n).toNat = j := Option.some.inj h
      exact ⟨by rw [seqIndex_neg (by omega) h1, e], by omega, h1, by omega⟩
    · rw [if_neg h1] at h; cases h
theorem atI_get {α : Type} {xs : List α} {i : Int} {v : α} (h : atI xs i = some v) : ∃ j, seqIndex? i xs.length = some j ∧ xs[j]? = some v ∧ j < xs.length ∧ -(xs.length : Int) ≤ i ∧ i < xs.length := by
  unfold atI at h
  cases e : ixN xs.length i with
  | none => rw [e] at h; cases h
  | some j =>
    rw [e] at h
    obtain ⟨h1, h2, h3, h4⟩ := ixN_seq e
    exact ⟨j, h1, h, h2, h3, h4⟩
theorem atI_nat {α : Type} {xs : List α} {j : Nat} {v : α} (h : xs[j]? = some v) : atI xs (j : Int) = some v := by
  have hj : j < xs.length := (List.getElem?_eq_some_iff.mp h).1
  have e : ixN xs.length (j : Int) = some j := by
    unfold ixN
    rw [if_pos (by omega), if_pos (by omega)]; simp
  unfold atI; rw [e]; exact h

/-! ### what may be subscripted -/
def PlainIx (b : Expr) : Prop := ∀ o i, subscripted b false o i = operate [o, i] (getItem o i)
def IxR (X : Cx) (r : R2) : Prop :=
  ∀ (value slice : Expr) (pins : List (Addr × Obj)) (s : Shared) (σ : St) (H : Hp) (x y : V) (v u : Value) (Q : VK), Inv X pins σ H s → RelV x v → RelV y u → r x y H Q →
    subscripted slice false v u = operate [v, u] (getItem v u) → wpAny (model X.prog X.w) X.A (subscriptTail value slice v u) (EP X pins σ Q) X.xe s
def MtR (X : Cx) (id : String) (r : V → List V → Hp → VK → Prop) : Prop :=
  ∀ (pins : List (Addr × Obj)) (s : Shared) (σ : St) (H : Hp) (x : V) (xs : List V) (v : Value) (us : List Value) (Q : VK), Inv X pins σ H s → RelV x v → Vals xs us → r x xs H Q →
    wpAny (model X.prog X.w) X.A (call (.builtin id) (v :: us)) (EP X pins σ Q) X.xe s
section
variable {X : Cx} {a b : Expr} {ta tb : TE} {pos : Pos}
theorem pe_ix {r : R2} (hr : IxR X r) (ha : PE X a ta) (hb : PE X b tb) (hs : PlainIx b) : PE X (.Subscript a b pos) (tOp r ta tb) := by
  intro pins s σ H Q I h
  exact Subscript_ (binT ha hb I h fun v u s2 x y H2 I2 rx ry q => hr a b pins s2 σ H2 x y v u Q I2 rx ry q (hs _ _))

def rIxL (K : PySem.W.Frag) : R2 := fun x y H Q => ∃ p xs i v, x = .ref p ∧ y = .int i ∧ SqL K H p xs ∧ atI xs i = some v ∧ Q v H
def rIxT (K : PySem.W.Frag) : R2 := fun x y H Q => ∃ p xs i v, x = .ref p ∧ y = .int i ∧ SqT K H p xs ∧ atI xs i = some v ∧ Q v H
theorem ix_list : IxR X (rIxL X.K) := by
  intro value slice pins s σ H x y v u Q I rx ry h hs
  obtain ⟨p, xs, i, z, rfl, rfl, hq, he, q⟩ := h
  cases rx
  obtain ⟨t, rfl⟩ := ry
  obtain ⟨its, r, pl, hz⟩ := I.list hq
  obtain ⟨j, h1, h2, h3, h4, h5⟩ := atI_get he
  obtain ⟨w, ew, rw'⟩ := r.get h2
  have hl := r.length
  have hn := line63
  have fin : EP X pins σ Q w s := ⟨z, H, I, rw', q⟩
  by_cases h0 : 0 ≤ i
  · have hj : i.toNat = j := by
      rw [seqIndex_of h0 h5] at h1
      exact Option.some.inj h1
    exact item_listR pl.isList h0 (by omega) (by rw [hj]; simpa using ew) fin hs
  · have hj : (i + (its.toArray.size : Int)).toNat = j := by
      rw [seqIndex_neg (by omega) h4] at h1
      rw [List.size_toArray, ← hl]
      exact Option.some.inj h1
    exact subscriptTail_builtinR (x := w) pl.isList.typeIs slot_list_getitem.lookup
      (wpAny_getItem_list_neg (Q := fun r s' => r = w ∧ EP X pins σ Q r s') pl.isList (by omega) (by rw [List.size_toArray] <;> omega) (by omega) (by rw [hj]; simpa using ew) ⟨rfl, fin⟩) hs
theorem ix_tup : IxR X (rIxT X.K) := by
  intro value slice pins s σ H x y v u Q I rx ry h hs
  obtain ⟨p, xs, i, z, rfl, rfl, hq, he, q⟩ := h
  cases rx
  obtain ⟨t, rfl⟩ := ry
  obtain ⟨its, r, pl, hz⟩ := I.tuple hq
  obtain ⟨j, h1, h2, h3, h4, h5⟩ := atI_get he
  obtain ⟨w, ew, rw'⟩ := r.get h2
  have hl := r.length
  have hn := line63
  have fin : EP X pins σ Q w s := ⟨z, H, I, rw', q⟩
  exact subscriptTail_builtinR (x := w) pl.typeIs slot_tuple_getitem.lookup
    (getItem_tuple (j := j) (Q := fun r s' => r = w ∧ EP X pins σ Q r s') pl (by omega) (by omega) (by rw [List.size_toArray, ← hl]; exact h1) (by simpa using ew) ⟨rfl, fin⟩) hs

/-! ### xs[i] = v, any sign -/
theorem mapSeq_set (its : List Value) (n j : Nat) (u : Value) : Obj.mapSeq (·.setIfInBounds j u) { cls := .type "list", data := .seq its.toArray n } = { cls := .type "list", data := .seq (its.set j u).toArray n } := by
  simp [Obj.mapSeq]
theorem Inv.lst {pins : List (Addr × Obj)} {σ : St} {H : Hp} {s : Shared} {p : Addr} {xs : List V} (I : Inv X pins σ H s) (h : H p = some (.lst xs)) :
    ∃ (its : List Value) (n : Nat), Vals xs its ∧ s.heap.get? p = some { cls := .type "list", data := .seq its.toArray n } ∧ xs.length ≤ sizeLine := by
  obtain ⟨z, its, n, r, e⟩ := I.hok p _ h
  exact ⟨its, n, r, e, z⟩
theorem Inv.lstUpd {pins : List (Addr × Obj)} {σ : St} {H : Hp} {s : Shared} {p : Addr} {xs ys : List V} {its its' : List Value} {n n' : Nat} {f : Obj → Obj} (I : Inv X pins σ H s) (h : H p = some (.lst xs))
    (ho : s.heap.get? p = some { cls := .type "list", data := .seq its.toArray n }) (hf : f { cls := .type "list", data := .seq its.toArray n } = { cls := .type "list", data := .seq its'.toArray n' }) (r : Vals ys its') (hz : ys.length ≤ sizeLine) (t : Nat) :
    Inv X pins σ (upd H p (.lst ys)) { s with heap := s.heap.update p f, toks := t } := by
  have e : (s.heap.update p f).get? p = some { cls := .type "list", data := .seq its'.toArray n' } := by
    rw [Heap.get?_update_self f ho (by rw [hf] <;> rfl), hf]
  refine I.write (x := p) (e := p) (by rw [h]; trivial) (.inl rfl) (fun b u hb q => (Heap.get?_update_other _ _ (Ne.symm hb)).trans q) ⟨_, e⟩ ?_
  exact ⟨hz, its', n', r, e⟩
def rSetL : V → V → V → Hp → (Hp → Prop) → Prop := fun o i v H Q => ∃ p xs k j, o = .ref p ∧ i = .int k ∧ H p = some (.lst xs) ∧ ixN xs.length k = some j ∧ Q (upd H p (.lst (xs.set j v)))
theorem set_list : PSet X rSetL := by
  intro pins s σ H o i v ov iv u Q I ro ri rv h
  obtain ⟨p, xs, k, j, rfl, rfl, hp, hj, q⟩ := h
  cases ro
  obtain ⟨t, rfl⟩ := ri
  obtain ⟨its, n, r, ho, hz⟩ := I.lst hp
  obtain ⟨h1, h2, h3, h4⟩ := ixN_seq hj
  have hl := r.length
  have hn := line63
  have I' : Inv X pins σ (upd H p (.lst (xs.set j v))) { s with heap := s.heap.update p (Obj.mapSeq (·.setIfInBounds j u)) } :=
    I.lstUpd hp ho (mapSeq_set its n j u) (r.set rv j) (by rw [List.length_set]; exact hz) s.toks
  by_cases h0 : 0 ≤ k
  · have hk : k.toNat = j := by
      rw [seqIndex_of h0 h4] at h1
      exact Option.some.inj h1
    exact PySem.W.ki_setAt ho h0 (by omega) (by rw [List.size_toArray, ← hl]; exact h4) (by rw [hk]; exact ⟨_, I', q⟩)
  · have hk : (k + (its.toArray.size : Int)).toNat = j := by
      rw [seqIndex_neg (by omega) h3] at h1
      rw [List.size_toArray, ← hl]
      exact Option.some.inj h1
    exact PySem.W.ki_setBack ho (by omega) (by rw [List.size_toArray, ← hl]; exact h3) (by omega) (by rw [hk]; exact ⟨_, I', q⟩)

/-! ### slices -/

/-! ### in, not in: flat items -/
def flatV : V → Bool
  | .non => true
  | .bl _ => true
  | .int _ => true
  | .str _ => true
  | _ => false
def eqV : V → V → Bool
  | .non, .non => true
  | .bl a, .bl b => a == b
  | .bl a, .int b => (if a then 1 else 0) == b
  | .int a, .bl b => a == (if b then 1 else 0)
  | .int a, .int b => a == b
  | .str a, .str b => a == b
  | _, _ => false
theorem eqAt_V {A : Around} {s : Shared} {y x : V} {u v : Value} (ry : RelV y u) (rx : RelV x v) (fy : flatV y = true) (fx : flatV x = true) : SeqAt.EqAt A s u v (eqV y x) := by
  cases y with
  | non =>
    cases ry
    cases x with
    | non => cases rx; exact SeqAt.EqAt.same _
    | bl b => cases rx; exact SeqAt.EqAt.none_bool b
    | int b => obtain ⟨t, rfl⟩ := rx; exact SeqAt.EqAt.none_int b t
    | str b => obtain ⟨t, rfl⟩ := rx; exact SeqAt.EqAt.none_str b t
    | _ => exact absurd (show false = true from fx) Bool.false_ne_true
  | bl a =>
    cases ry
    cases x with
    | non => cases rx; exact SeqAt.EqAt.bool_none a
    | bl b => cases rx; exact SeqAt.EqAt.bool_bool a b
    | int b => obtain ⟨t, rfl⟩ := rx; exact SeqAt.EqAt.bool_int a b t
    | str b => obtain ⟨t, rfl⟩ := rx; exact SeqAt.EqAt.bool_str a b t
    | _ => exact absurd (show false = true from fx) Bool.false_ne_true
  | int a =>
    obtain ⟨t', rfl⟩ := ry
    cases x with
    | non => cases rx; exact SeqAt.EqAt.int_none a t'
    | bl b => cases rx; exact SeqAt.EqAt.int_bool a t' b
    | int b => obtain ⟨t, rfl⟩ := rx; exact SeqAt.EqAt.int_int a t' b t
    | str b => obtain ⟨t, rfl⟩ := rx; exact SeqAt.EqAt.int_str a t' b t
    | _ => exact absurd (show false = true from fx) Bool.false_ne_true
  | str a =>
    obtain ⟨t', rfl⟩ := ry
    cases x with
    | non => cases rx; exact SeqAt.EqAt.str_none a t'
    | bl b => cases rx; exact SeqAt.EqAt.str_bool a t' b
    | int b => obtain ⟨t, rfl⟩ := rx; exact SeqAt.EqAt.str_int a t' b t
    | str b => obtain ⟨t, rfl⟩ := rx; exact SeqAt.EqAt.str_str a t' b t
    | _ => exact absurd (show false = true from fx) Bool.false_ne_true
  | _ => exact absurd (show false = true from fy) Bool.false_ne_true
def eqU (x : V) (u : Value) : Bool := match u with
  | .none => eqV .non x
  | .bool b => eqV (.bl b) x
  | .int i _ => eqV (.int i) x
  | .str z _ => eqV (.str z) x
  | _ => false
theorem eqU_of {x y : V} {u : Value} (r : RelV y u) (f : flatV y = true) : eqU x u = eqV y x := by
  cases y with
  | non => cases r; rfl
  | bl b => cases r; rfl
  | int i => obtain ⟨t, rfl⟩ := r; rfl
  | str z => obtain ⟨t, rfl⟩ := r; rfl
  | _ => exact absurd (show false = true from f) Bool.false_ne_true
theorem any_eqU {x : V} : ∀ {xs : List V} {us : List Value}, Vals xs us → xs.all flatV = true → us.any (eqU x) = xs.any fun y => eqV y x
  | _, _, .nil, _ => rfl
  | y :: xs, u :: us, .cons r t, f => by
    rw [List.all_cons, Bool.and_eq_true] at f
    rw [List.any_cons, List.any_cons, eqU_of r f.1, any_eqU t f.2]
theorem mem_eqAt {A : Around} {s : Shared} {x : V} {v : Value} (rx : RelV x v) (fx : flatV x = true) : ∀ {xs : List V} {us : List Value}, Vals xs us → xs.all flatV = true → ∀ u ∈ us, SeqAt.EqAt A s u v (eqU x u)
  | _, _, .nil, _ => fun u hu => by cases hu
  | y :: xs, u :: us, .cons r t, f => fun u' hu => by
    rw [List.all_cons, Bool.and_eq_true] at f
    rcases List.mem_cons.mp hu with rfl | hu
    · rw [eqU_of r f.1]; exact eqAt_V r rx f.1 fx
    · exact mem_eqAt rx fx t f.2 u' hu
def inV (x : V) (xs : List V) : Bool := xs.any fun y => eqV y x
def rIn (K : PySem.W.Frag) (neg : Bool) : R2 := fun x y H Q => ∃ p xs, y = .ref p ∧ (SqL K H p xs ∨ SqT K H p xs) ∧ flatV x = true ∧ xs.all flatV = true ∧ Q (.bl (if neg then !inV x xs else inV x xs)) H
theorem op_in_seq : OpR X (compareOp .In) (rIn X.K false) := by
  intro pins s σ H x y v u Q I rx ry h
  obtain ⟨p, xs, rfl, hq, fx, fs, q⟩ := h
  cases ry
  rcases hq with hq | hq
  · obtain ⟨its, r, pl, hz⟩ := I.list hq
    refine SeqAt.in_listAt (eqU x) pl.isList (fun w hw => mem_eqAt rx fx r fs w (by simpa using hw)) ⟨.bl _, H, I, rfl, ?_⟩
    rw [show its.toArray.any (eqU x) = its.any (eqU x) by simp, any_eqU r fs]
    exact q
  · obtain ⟨its, r, pl, hz⟩ := I.tuple hq
    refine SeqAt.in_tupleAt (eqU x) pl (fun w hw => mem_eqAt rx fx r fs w (by simpa using hw)) ⟨.bl _, H, I, rfl, ?_⟩
    rw [show its.toArray.any (eqU x) = its.any (eqU x) by simp, any_eqU r fs]
    exact q

/-! ### len, list(x), tuple(x) of any list or tuple that is read -/
theorem call_len_seq : CallR X (.builtin "len") (fun xs H Q => ∃ p ys, xs = [.ref p] ∧ (SqL X.K H p ys ∨ SqT X.K H p ys) ∧ Q (.int ys.length) H) := by
  intro pins s σ H xs us Q I r h
  obtain ⟨p, ys, rfl, hq, q⟩ := h
  obtain ⟨u, rfl, rx⟩ := vals1 r
  cases rx
  have hn := line63
  rcases hq with hq | hq
  · obtain ⟨its, r', pl, hz⟩ := I.list hq
    have hlen := r'.length
    exact Calls.call_len_list pl.isList (by simp only [List.size_toArray] <;> omega) ⟨.int ys.length, H, I.tok _, ⟨s.toks + 1, by rw [List.size_toArray, hlen]⟩, q⟩
  · obtain ⟨its, r', pl, hz⟩ := I.tuple hq
    have hlen := r'.length
    exact len_tuple pl (by simp only [List.size_toArray] <;> omega) ⟨.int ys.length, H, I.tok _, ⟨s.toks + 1, by rw [List.size_toArray, hlen]⟩, q⟩
theorem call_list_of : CallR X (.type "list") (fun xs H Q => ∃ p ys, xs = [.ref p] ∧ (SqL X.K H p ys ∨ SqT X.K H p ys) ∧ ∀ l, H l = none → Q (.ref l) (upd H l (.lst ys))) := by
  intro pins s σ H xs us Q I r h
  obtain ⟨p, ys, rfl, hq, q⟩ := h
  obtain ⟨u, rfl, rx⟩ := vals1 r
  cases rx
  have fin : ∀ (its : List Value), Vals ys its → ys.length ≤ sizeLine → ∀ (h' : Heap) (c' : Nat), (∀ b o', s.heap.get? b = some o' → h'.get? b = some o') →
      h'.get? s.heap.objs.size = some { cls := .type "list", dict := none, data := .seq its.toArray c', slots := #[] } → EP X pins σ Q (.ref s.heap.objs.size) { s with heap := h' } := fun its r' hz h' c' kp e =>
    ⟨.ref s.heap.objs.size, _, I.laid (t' := s.toks) kp (Nat.le_refl _) (show ObjOk X.prog X.w _ h' _ (.lst ys) from ⟨hz, its, c', r', e⟩), rfl, q _ (I.hok.fresh (Nat.le_refl _))⟩
  rcases hq with hq | hq
  · obtain ⟨its, r', pl, hz⟩ := I.list hq
    have hlen := r'.length
    obtain ⟨o, ho, hc, n, hd⟩ := pl.isList
    exact call_list_seq p (.inl rfl) ho hc hd (fun h' c' kp e => fin its r' hz h' c' kp e) (by simp only [List.size_toArray] <;> omega)
  · obtain ⟨its, r', pl, hz⟩ := I.tuple hq
    have hlen := r'.length
    obtain ⟨o, ho, hc, n, hd⟩ := pl
    exact call_list_seq p (.inr rfl) ho hc hd (fun h' c' kp e => fin its r' hz h' c' kp e) (by simp only [List.size_toArray] <;> omega)

/-! ### the call of a builtin's method: o.m(..) -/
def tyV (K : PySem.W.Frag) (T : String) (x : V) (H : Hp) : Prop := match x with
  | .str _ => T = "str"
  | .int _ => T = "int"
  | .ref p => (T = "list" ∧ ∃ xs, SqL K H p xs) ∨ (T = "tuple" ∧ ∃ o, K.lookup p = some o ∧ o.cls = .type "tuple" ∧ o.dict = none) ∨
      (T = "dict" ∧ ((∃ kvs, H p = some (.dK kvs)) ∨ ∃ kvs, H p = some (.dT kvs))) ∨ (T = "set" ∧ ∃ S n, H p = some (.set S n))
  | _ => False
theorem tyV_is {pins : List (Addr × Obj)} {σ : St} {H : Hp} {s : Shared} {T : String} {x : V} {v : Value} (I : Inv X pins σ H s) (r : RelV x v) (ty : tyV X.K T x H) :
    s.TypeIs v T ∧ ∀ a, v = .ref a → ∃ ob, s.heap.get? a = some ob ∧ ob.dict = none := by
  cases x with
  | str z =>
    obtain ⟨t, rfl⟩ := r
    cases (show T = "str" from ty)
    exact ⟨typeIs_str s z t, fun _ e => nomatch e⟩
  | int i =>
    obtain ⟨t, rfl⟩ := r
    cases (show T = "int" from ty)
    exact ⟨typeIs_int s i t, fun _ e => nomatch e⟩
  | ref p =>
    cases r
    rcases ty with ⟨rfl, xs, hq⟩ | ⟨rfl, o, hk, hc, hd⟩ | ⟨rfl, hk⟩ | ⟨rfl, S, n, hk⟩
    · obtain ⟨its, _, pl, _⟩ := I.list hq
      refine ⟨pl.isList.typeIs, fun a e => ?_⟩
      cases e
      obtain ⟨o, n, e, c, hd, _⟩ := pl
      exact ⟨o, e, hd⟩
    · refine ⟨⟨o, I.kIn p o hk, hc⟩, fun a e => ?_⟩
      cases e
      exact ⟨o, I.kIn _ o hk, hd⟩
    · have z : ∃ o, s.heap.get? p = some o ∧ o.ExactDict := by
        rcases hk with ⟨kvs, hk⟩ | ⟨kvs, hk⟩
        · obtain ⟨_, _, _, _, o, _, _, e, ex, _⟩ := I.hok p _ hk
          exact ⟨o, e, ex⟩
        · obtain ⟨_, _, _, _, o, _, _, e, ex, _⟩ := I.hok p _ hk
          exact ⟨o, e, ex⟩
      obtain ⟨o, e, ex⟩ := z
      refine ⟨⟨o, e, ex.1⟩, fun a e2 => ?_⟩
      cases e2
      exact ⟨o, e, ex.2.1⟩
    · obtain ⟨o, _, _, _, e, ex, _⟩ := I.hok p _ hk
      refine ⟨⟨o, e, ex.1⟩, fun a e2 => ?_⟩
      cases e2
      exact ⟨o, e, ex.2.1⟩
  | _ => exact False.elim ty
def tBM (K : PySem.W.Frag) (T : String) (r : V → List V → Hp → VK → Prop) (to : TE) (t : TA) : TE := fun σ H Q => to σ H fun x H1 => tyV K T x H1 ∧ t σ H1 fun xs H2 => r x xs H2 Q
variable {o e : Expr} {es : List Expr} {to : TE} {t : TA} {name : Str} {apos cpos : Pos} {T id : String} {r : V → List V → Hp → VK → Prop}
theorem pe_bm (pa : PlainAttrs T) (slot : Slot T name id) (hty : typeOf (.builtin id) = pure (.type "method_descriptor")) (hm : MtR X id r) (ho : PE X o to) (ha : PA X (e :: es) t)
    (hbase : attributeBase o name X.env (eval o X.env) = eval o X.env := by rfl)
    (hfew : ((backTo cpos (starEach (e :: es) X.env)).all (fun x => !x.1) && (backToKw cpos (keywordEach [] X.env)).all (fun x => x.1.isSome)
      && decide ((e :: es).length + ([] : List Keyword).length + (if ([] : List Keyword).isEmpty then 0 else 1) < 30)) = true := by rfl)
    (hline : (apos.endLine == cpos.line) = true := by rfl) (hs : starEach (e :: es) X.env = (false, eval e X.env) :: starEach es X.env := by rfl) (hplain : (backTo cpos (starEach es X.env)).any (·.1) = false := by rfl) :
    PE X (.Call (.Attribute o name apos) (e :: es) [] cpos) (tBM X.K T r to t) := by
  intro pins s σ H Q I h
  refine wpAny_Call_method_late hbase hfew hline rfl (thn (ho pins s σ H _ I h) fun v s1 hh => ?_)
  obtain ⟨x, H1, I1, r1, ty, q1⟩ := hh
  obtain ⟨h1, h2⟩ := tyV_is I1 r1 ty
  refine ⟨T, id, pa, slot, hty, h1, h2, ?_⟩
  have hA := ha cpos pins s1 σ H1 _ I1 q1
  rw [hs] at hA ⊢
  refine Calls.callWith_builtin (by show (false || (backTo cpos (starEach es X.env)).any (·.1)) = false; rw [hplain] <;> rfl) (Calls.evalArgs_plain ?_)
  exact thn hA fun us s2 ⟨vs, H2, I2, r2, q2⟩ => hm pins s2 σ H2 x vs v us Q I2 r1 r2 q2
/- xs.append(e), list.index on a module's tuple .. are MtR facts of 06m -/
end
end L2

namespace L2
open PySem PySem.Spec PyProof.Rows

def MtM (X : Cx) (id : String) (r : V → List V → Hp → VK → Prop) : Prop :=
  ∀ (pins : List (Addr × Obj)) (s : Shared) (σ : St) (H : Hp) (x : V) (xs : List V) (v : Value) (us : List Value) (Q : VK), Inv X pins σ H s → RelV x v → Vals xs us → r x xs H Q →
    wpAny (model X.prog X.w) X.A (call (.builtin id) (v :: us)) (EP X pins σ Q) X.xe s

/-! ### lists of values -/
theorem Vals.one : ∀ {x : V} {us : List Value}, Vals [x] us → ∃ u, us = [u] ∧ RelV x u
  | _, _, .cons r .nil => ⟨_, rfl, r⟩
theorem Vals.rep {xs : List V} {us : List Value} (h : Vals xs us) : ∀ k : Nat, Vals (List.replicate k xs).flatten (List.replicate k us).flatten
  | 0 => .nil
  | k + 1 => by
    rw [List.replicate_succ, List.replicate_succ, List.flatten_cons, List.flatten_cons]
    exact Vals.append h (Vals.rep h k)
theorem foldl_rep (its : List Value) : ∀ (k : Nat) (acc : List Value),
    List.foldl (fun x1 x2 => x1 ++ x2) acc.toArray (List.replicate k its.toArray) = (acc ++ (List.replicate k its).flatten).toArray
  | 0, acc => by simp
  | k + 1, acc => by
    have e : acc.toArray ++ its.toArray = (acc ++ its).toArray := by simp
    have e2 : (acc ++ its) ++ (List.replicate k its).flatten = acc ++ (List.replicate (k + 1) its).flatten := by
      rw [List.replicate_succ, List.flatten_cons, List.append_assoc]
    rw [← e2, ← foldl_rep its k (acc ++ its), ← e, List.replicate_succ, List.foldl_cons]

section
variable {X : Cx} {pins : List (Addr × Obj)} {σ : St} {H : Hp} {s : Shared} {l b : Addr} {xs ys zs : List V}

/-! ### the two steps: a tracked list is rewritten, a new list is laid -/
theorem Inv.lset {its its' : List Value} {n : Nat} {f : Array Value → Array Value} {t' : Nat} (I : Inv X pins σ H s) (hH : H l = some (.lst xs))
    (e : s.heap.get? l = some { cls := .type "list", data := .seq its.toArray n }) (hf : f its.toArray = its'.toArray) (hv : Vals ys its') (hz : ys.length ≤ sizeLine) :
    Inv X pins σ (upd H l (.lst ys)) { s with heap := s.heap.update l (Obj.mapSeq f), toks := t' } := by
  have q := PySem.IsL.update e f
  rw [hf] at q
  refine I.write (x := l) (e := l) (by rw [hH]; exact trivial) (.inl rfl) (fun b' u hb hu => (Heap.get?_update_other s.heap (Obj.mapSeq f) (Ne.symm hb)).trans hu) ⟨_, q⟩ ?_
  exact ⟨hz, its', _, hv, q⟩
theorem Inv.lnew {its : List Value} {t' : Nat} (I : Inv X pins σ H s) (hv : Vals ys its) (hz : ys.length ≤ sizeLine) :
    Inv X pins σ (upd H s.heap.objs.size (.lst ys)) { s with heap := s.heap.push { cls := .type "list", data := .seq its.toArray }, toks := t' } :=
  I.laid (fun _ _ q => Heap.get?_push_of_some _ q) (Nat.le_refl _) ⟨hz, its, 0, hv, Heap.get?_push_size _ rfl⟩
theorem Inv.fresh (I : Inv X pins σ H s) : H s.heap.objs.size = none := I.hok.fresh (Nat.le_refl _)
theorem Inv.lstM (I : Inv X pins σ H s) (hH : H l = some (.lst xs)) : xs.length ≤ sizeLine ∧ ∃ (its : List Value) (n : Nat), Vals xs its ∧ xs.length = its.length ∧ s.heap.get? l = some { cls := .type "list", data := .seq its.toArray n } := by
  obtain ⟨z, its, n, r, e⟩ := I.hok l _ hH
  exact ⟨z, its, n, r, r.length, e⟩

theorem notLongL {n : Nat} (h : n ≤ sizeLine) : Builtin.List.listTooLong n = false := by
  unfold Builtin.List.listTooLong
  exact decide_eq_false (by omega)
end

section
variable {X : Cx}

/-! ### methods -/
def rAppend : V → List V → Hp → VK → Prop := fun x vs H Q => ∃ l xs y, x = .ref l ∧ vs = [y] ∧ H l = some (.lst xs) ∧ xs.length < sizeLine ∧ Q .non (upd H l (.lst (xs ++ [y])))
theorem mt_append : MtM X "list.append" rAppend := by
  intro pins s σ H x vs v us Q I rx rv h
  obtain ⟨l, xs, y, rfl, rfl, hH, hz, q⟩ := h
  cases rx
  obtain ⟨u, rfl, ru⟩ := rv.one
  obtain ⟨z, its, n, r, hl, e⟩ := I.lstM hH
  refine call_meets F.slot_list_append ⟨_, e, rfl⟩ F.entry_list_append (F.args_list_append_2 _ _) (PySem.list_append l its.toArray n u (by rw [List.size_toArray]; omega)) ⟨e, ?_⟩
  refine ⟨.non, _, I.lset (its' := its ++ [u]) hH e (by simp) (r.append (.cons ru .nil)) ?_, rfl, q⟩
  rw [List.length_append, List.length_singleton]
  omega






/-! ### list + list, list += list, list * int -/
def rCat : R2 := fun x y H Q => ∃ l b xs zs, x = .ref l ∧ y = .ref b ∧ H l = some (.lst xs) ∧ H b = some (.lst zs) ∧ xs.length + zs.length ≤ sizeLine ∧ ∀ p, H p = none → Q (.ref p) (upd H p (.lst (xs ++ zs)))
theorem op_cat : OpR X (binaryOp .Add) rCat := by
  intro pins s σ H x y v u Q I rx ry h
  obtain ⟨l, b, xs, zs, rfl, rfl, hH, hB, hz, q⟩ := h
  cases rx
  cases ry
  obtain ⟨z, its, n, r, hl, e⟩ := I.lstM hH
  obtain ⟨z2, its2, n2, r2, hl2, e2⟩ := I.lstM hB
  refine PySem.P.add_list e e2 ?_ (by rw [List.size_toArray, List.size_toArray]; omega)
  have ea : its.toArray ++ its2.toArray = (its ++ its2).toArray := by simp
  rw [ea]
  exact ⟨.ref _, _, I.lnew (t' := s.toks) (r.append r2) (by rw [List.length_append]; omega), rfl, q _ I.fresh⟩
def rRep : R2 := fun x y H Q => ∃ l k xs, x = .ref l ∧ y = .int k ∧ H l = some (.lst xs) ∧ -(2 ^ 63) ≤ k ∧ k < 2 ^ 63 ∧ xs.length * k.toNat ≤ sizeLine ∧
  ∀ p, H p = none → Q (.ref p) (upd H p (.lst (List.replicate k.toNat xs).flatten))
theorem len_rep {α : Type} (xs : List α) (k : Nat) : (List.replicate k xs).flatten.length = k * xs.length := by
  induction k with
  | zero => simp
  | succ k ih => rw [List.replicate_succ, List.flatten_cons, List.length_append, ih, Nat.succ_mul, Nat.add_comm]
theorem op_rep : OpR X (binaryOp .Mult) rRep := by
  intro pins s σ H x y v u Q I rx ry h
  obtain ⟨l, k, xs, rfl, rfl, hH, h1, h2, hz, q⟩ := h
  cases rx
  obtain ⟨t, rfl⟩ := ry
  obtain ⟨z, its, n, r, hl, e⟩ := I.lstM hH
  have hlen : its.toArray.size * k.toNat ≤ sizeLine := by rw [List.size_toArray, ← hl]; exact hz
  have hcap : ¬ its.toArray.size * k.toNat > (2 ^ 63 - 1) / 8 := by
    have : (sizeLine : Nat) ≤ (2 ^ 63 - 1) / 8 := by decide
    omega
  have hfit : ¬ (!Builtin.List.listFitsIndex k) = true := by
    rw [fitsIndex_both h1 h2]
    exact Bool.false_ne_true
  have hlong : ¬ Builtin.List.listTooLong (its.toArray.size * k.toNat) = true := by
    rw [notLongL hlen]
    exact Bool.false_ne_true
  have hnew : List.foldl (fun x1 x2 => x1 ++ x2) #[] (List.replicate (if its.toArray.isEmpty = true then 0 else k.toNat) its.toArray) = (List.replicate k.toNat its).flatten.toArray := by
    have f0 : ∀ m : Nat, List.foldl (fun x1 x2 => x1 ++ x2) #[] (List.replicate m its.toArray) = (List.replicate m its).flatten.toArray := fun m => by
      have := foldl_rep its m []
      rw [List.nil_append] at this
      exact this
    rw [f0]
    cases its with
    | nil => simp
    | cons a r' => rw [if_neg (by simp)]
  refine wpAny_binaryOp_repeat_ref (T := "list") (U := "int") (by decide) ⟨_, e, rfl⟩ (fun s' => typeIs_int s' k t) noFill_list_mul F.fills_int_mul F.slot_int_rmul repeat_list F.slot_int_index.lookup
    (call_meets F.slot_int_rmul (typeIs_int s k t) F.entry_int_rmul (F.args_int_rmul_2 _ _) (int___rmul___int_list k t l its.toArray n)
      ⟨e, rfl, ⟨_, e, rfl⟩, call_meets F.slot_list_mul ⟨_, e, rfl⟩ F.entry_list_mul (F.args_list_mul_2 _ _) (AutoListH.list___mul___list_int_3 l its.toArray n k t hfit hcap hlong) ⟨e, ?_⟩⟩)
  rw [hnew]
  exact ⟨.ref _, _, I.lnew (t' := s.toks) (r.rep k.toNat) (by rw [len_rep, Nat.mul_comm]; exact hz), rfl, q _ I.fresh⟩

/-! ### del xs[i] -/
end

/-! ### xs[a:b] = ys -/
section
variable {prog : Program} {w : World} {A : Around} {E : Value → Shared → Prop} {s : Shared}
end

section
variable {X : Cx}
end
end L2

namespace Att
open PySem PySem.W PySem.Calls PyProof.Rows

/-! ### the script -/
theorem ints_of_wellAll {P : Params} {h : Heap} : ∀ (ns : List Int) (vs : List Value), WellAll P h vs (ns.map WData.int) → IntsAre vs ns := by
  intro ns
  induction ns with
  | nil =>
    intro vs w
    rw [List.map_nil] at w
    cases w
    exact .nil
  | cons n ns ih =>
    intro vs w
    rw [List.map_cons] at w
    cases w with
    | cons a b =>
      cases a
      exact .cons _ _ (ih _ b)

theorem script_of {l : OpenLaw} {n : Nat} (hn : l.most = some n) {P : Params} {h : Heap} {args : List WData} {vals : List Value}
    (hpre : l.row.toRowW.claim.pre args = true) (hwl : WellAll P h vals args) :
    ∃ a vs ns, vals = [Value.ref a] ∧ args = [WData.list (ns.map WData.int)] ∧ h.get? a = some { cls := .type "list", data := .seq vs.toArray } ∧ IntsAre vs ns ∧ ns.length ≤ n := by
  have hsh : WShape.hasAll [] args [.list .int] = true := (pre_splitW hpre).1
  have hc : l.pre.holds [] { args := args } = true := (pre_splitW hpre).2
  obtain ⟨d, r, rfl, h1, h2⟩ := hasAllW_cons hsh
  obtain rfl := hasAllW_nil h2
  obtain ⟨xs, rfl, h3⟩ := hasW_list h1
  obtain ⟨ns, rfl⟩ := items_int h3
  have hlen : ns.length ≤ n := by
    unfold OpenLaw.pre at hc
    have h4 : (WTm.not (.lt (.lit (.int (n : Int))) (.len (.arg 0)))).holds [] { args := [.list (ns.map .int)] } = true := by
      have h4 := (holds_andW hc).1
      rw [hn] at h4
      exact h4
    have h5 := condW_of h4 (w_not (w_lt w_lit (w_len_list (w_arg rfl))))
    rw [List.length_map] at h5
    refine Nat.le_of_not_lt fun q => ?_
    have q' : (n : Int) < ((ns.length : Nat) : Int) := by omega
    first
      | (rw [decide_eq_true q'] at h5; exact absurd h5 (by decide))
      | (simp at h5; omega)
  cases hwl with
  | cons w1 w2 =>
    cases w2
    cases w1 with
    | list ho hall => exact ⟨_, _, ns, rfl, rfl, ho, ints_of_wellAll ns _ hall, hlen⟩

theorem post_true (l : OpenLaw) (args : List WData) : l.row.toRowW.claim.post args (.bool true) args = true :=
  postW_of (r := l.row.toRowW) (X := (true == true))
    (show WShape.has [] (.bool true) .bool = true by first | rfl | decide | simp [WShape.has, WShape.arms, WShape.armsAll])
    (show (WTm.eq .res (.lit (.bool true))).value [] { args := args, res := some (.bool true), after := args } = some (.bool (true == true)) from w_eq_bool (w_res rfl) w_lit) rfl

/-! ### the attachment: holds_open's last premise (the goal 'hc' behind k_head) from a wpAny of the law's body -/

theorem attach_call {l : OpenLaw} {n : Nat} {q : Program} {loose : List Str} {XP : (Str → Option Value) → Heap → Prop} {YP : World → Heap → Prop} {d : DefRec}
    (hn : l.most = some n) (hdf : d.params.defaults = [])
    (call : ∀ (w : World) (s₀ s₁ : Shared) (mg mb : Str → Option Value) (fa : Addr) (o : Obj) (pm cd doc : Value) (a : Addr) (vs : List Value) (ns : List Int),
      Ground q loose [] XP w s₀ mg mb s₁.heap → YP w s₁.heap →
      s₁.heap.get? fa = some o → o.data = .func (docDef d.name d.params d.body d.scope pm cd doc) → s₁.heap.CodeRec cd d.name → mg d.name = some (.ref fa) →
      s₁.heap.get? a = some { cls := .type "list", data := .seq vs.toArray } → IntsAre vs ns → ns.length ≤ n → s₁.gens = #[] →
      codeAny (model l.prog w) callerA (.call (.ref fa) ⟨[.ref a], []⟩) (fun r s' => r = .ok (.ret (.bool true)) ∧ OldK s₁.heap s'.heap ∧ s'.os = s₁.os ∧ AllBare s'.gens) s₁) :
    WalkO q loose XP YP l.row.toRowW d [] (fun f vs => PySem.call f vs) := by
  intro w s₀ s₁ mg mb G Y fa o pm cd doc dV kV ho hd hcd hD hmg hg args vals as hpre hlay hrd hwl hlo
  obtain rfl : dV = .none := Dflts.none hD hdf
  obtain rfl : kV = .none := Dflts.noKw hD
  obtain ⟨a, vs, ns, rfl, rfl, hobj, hints, hlen⟩ := script_of hn hpre hwl
  refine enter_call (codeAny_mono (call w s₀ s₁ mg mb fa o pm cd doc a vs ns G Y ho (fd_plain hd) hcd hmg hobj hints hlen hg) fun r s' hq => ?_)
  obtain ⟨rfl, h2, h3, h4⟩ := hq
  exact ⟨.inl ⟨.bool true, .bool true, [], rfl, fun _ => rfl, .bool true, post_true l _, fun _ => ⟨List.Pairwise.nil, fun _ hm => (nomatch hm)⟩⟩, h2, h3, h4⟩


/-! ### rules over ANY heap (no ledger) from facts about the written part K: the library's own take a ledger (News) for what they write -/
section
variable {prog : Program} {w : World} {A : Around} {E : Value → Shared → Prop} {s : Shared} {K : Frag}





/-! the whole heap as the ledger: makes every rule that writes through a ledger a rule over any heap -/

end
end Att

namespace L2
open PySem PySem.Spec PyProof.Rows

theorem vals_ints : ∀ {vs : List Value} {ns : List Int}, IntsAre vs ns → Vals (ns.map V.int) vs
  | _, _, .nil => .nil
  | _, _, .cons n t h => .cons ⟨t, rfl⟩ (vals_ints h)

def Only (H : Hp) : Prop := ∀ b, H b = none ∨ ∃ o xs, H b = some (.frz o (.lst xs))

theorem law_call {P : Program} {w : World} {K : PySem.W.Frag} {mg mb : Str → Option Value} {CX : CXT} {k : Nat} {fa a : Addr} {fd : FuncData} {x : Str} {sp : Sp} {s₁ : Shared} {vs : List Value} {ns : List Int}
    (KX : K.In s₁.heap) (hns : s₁.heap.Ns mainGlobals mg) (hb : s₁.heap.Ns builtinsNs mb) (hbb : ∀ x : Str, x ≠ "__name__" → mb x = bootBuiltins x) (hlim : s₁.heap.NoLimit) (hg : s₁.gens = #[])
    (ha : s₁.heap.get? a = some { cls := .type "list", data := .seq vs.toArray }) (hi : IntsAre vs ns) (hl : ns.length ≤ sizeLine) (hr : Room k callerA)
    (F : ∀ base : Heap, K.In base → base.Ns mainGlobals mg → FnOk P w K mg base CX k fa fd [x] sp) (hbind : ∀ (s : Shared) (u : Value), BindsTo s fd ⟨[u], []⟩ [(x, u)])
    (hsp : ∀ H : Hp, Only H → SqL K H a (ns.map V.int) → sp [.ref a] H (fun v _ => v = .bl true) fun _ _ _ => False)
    (hCX : ∀ H e s', CX [] H s₁ (fun _ _ _ => False) e s' → False) :
    codeAny (model P w) callerA (.call (.ref fa) ⟨[.ref a], []⟩) (fun r s' => r = .ok (.ret (.bool true)) ∧ OldK s₁.heap s'.heap ∧ s'.os = s₁.os ∧ AllBare s'.gens) s₁ := by
  have rv := vals_ints hi
  have lenV := hi.length
  -- from an abstract heap in which nothing but the script may be tracked
  have core : ∀ H : Hp, Only H → SqL K H a (ns.map V.int) → HOk P w H s₁.heap → (∀ b, H b ≠ none → b = a) → (H a ≠ none → K.lookup a = none) →
      codeAny (model P w) callerA (.call (.ref fa) ⟨[.ref a], []⟩) (fun r s' => r = .ok (.ret (.bool true)) ∧ OldK s₁.heap s'.heap ∧ s'.os = s₁.os ∧ AllBare s'.gens) s₁ := by
    intro H hO hS hok hA hK
    have base_of : ∀ {b : Addr} {o : Obj}, s₁.heap.get? b = some o → H b = none → (hidT s₁.heap H).get? b = some o := fun e n => hidT_get e n
    have noA : ∀ {b : Addr} {o : Obj} {es : Array DictEntry} {ep : Nat}, s₁.heap.get? b = some o → o.data = .dict es ep → H b = none := fun {b o es ep} e d => by
      cases q : H b with
      | none => rfl
      | some u =>
        have e' : b = a := hA b (by rw [q]; simp)
        subst e'
        rw [ha] at e; cases e
        have d' : Data.seq vs.toArray _ = Data.dict es ep := d
        cases d'
    have nsK : ∀ {b : Addr} {m : Str → Option Value}, s₁.heap.Ns b m → (hidT s₁.heap H).Ns b m := fun {b m} ⟨o, es, ep, e, d, r⟩ => ⟨o, es, ep, base_of e (noA e d), d, r⟩
    have hKb : K.In (hidT s₁.heap H) := fun b o e => base_of (KX b o e) (by
      cases q : H b with
      | none => rfl
      | some u =>
        have e' : b = a := hA b (by rw [q]; simp)
        subst e'
        rw [hK (by rw [q]; simp)] at e; cases e)
    have hM : Mod K mg (hidT s₁.heap H) := ⟨hKb, nsK hns, ⟨mb, nsK hb, hbb⟩, let ⟨mc, h1, h2⟩ := hlim; ⟨mc, nsK h1, h2⟩⟩
    have e0 : Env0 P w K mg (hidT s₁.heap H) callerA [] s₁ H := ⟨rfl, hM, fun b o e => of_hidT e, Nat.le_of_eq (hidT_size _ _), trivial, fun b hb => absurd (show b ∈ ([] : List Addr) from hb) (by simp), hok, .of_eq hg⟩
    refine codeAny_mono ((F _ hKb (nsK hns)).run callerA [] s₁ H ⟨[.ref a], []⟩ [.ref a] [.ref a] _ _ hr e0 (hbind s₁ (.ref a)) (.cons rfl .nil) (hsp H hO hS)) fun r s' h => ?_
    cases r with
    | error e => exact (hCX H e s' h).elim
    | ok fl =>
      cases fl with
      | next => exact False.elim h
      | brk => exact False.elim h
      | cont => exact False.elim h
      | ret u =>
        obtain ⟨v, H', os, bare, un, hok', r', q⟩ := h
        have q' : v = .bl true := q
        subst q'
        obtain rfl : u = Value.bool true := r'
        refine ⟨rfl, OldK.of_keep fun b o e => ?_, os, bare⟩
        cases q : H b with
        | none => exact un.keep b o e q (by intro z; exact absurd (show b ∈ ([] : List Addr) from z) (by simp)) (by simp)
        | some u =>
          rcases hO b with z | ⟨ob, xs, z⟩
          · rw [q] at z; cases z
          · have z2 := un.frzs b ob _ z
            obtain ⟨e1, _⟩ := hok b _ z
            obtain ⟨e2, _⟩ := hok' b _ z2
            rw [e] at e1; cases e1
            exact e2
  cases hk : K.lookup a with
  | some o =>
    -- the script is one of the module's own objects
    have e := KX a o hk
    rw [ha] at e
    cases e
    refine core (fun _ => none) (fun _ => .inl rfl) (.inr ⟨_, vs.toArray, _, hk, rfl, rfl, rfl, by rw [List.size_toArray, lenV]; exact hl, by simpa using rv⟩) (fun b u z => by have z' : (none : Option HO) = some u := z; cases z') (fun b z => absurd rfl z) fun z => absurd rfl z
  | none =>
    refine core (fun b => if b = a then some (.frz { cls := .type "list", data := .seq vs.toArray } (.lst (ns.map V.int))) else none) (fun b => ?_) (.inl (.inr ⟨{ cls := .type "list", data := .seq vs.toArray }, if_pos rfl⟩)) (fun b u z => ?_) (fun b z => ?_) fun _ => hk
    · by_cases hb : b = a
      · exact .inr ⟨_, _, if_pos hb⟩
      · exact .inl (if_neg hb)
    · by_cases hb : b = a
      · have z' := (if_pos hb).symm.trans z
        cases z'
        subst hb
        exact ⟨ha, by rw [List.length_map]; exact hl, vs, _, rv, ha⟩
      · have z' := (if_neg hb).symm.trans z
        cases z'
    · by_cases hb : b = a
      · exact hb
      · exact absurd (if_neg hb) z
end L2

namespace L2
open PySem PySem.Spec PyProof.Rows

abbrev KOf {K : PySem.W.Frag} {h : Heap} (_ : K.In h) : PySem.W.Frag := K

theorem walk_of {l : PySem.W.OpenLaw} {n k : Nat} {q : Program} {loose : List Str} {XP : (Str → Option Value) → Heap → Prop} {YP : World → Heap → Prop} {d : DefRec} {K : Params → PySem.W.Frag} {CX : World → CXT} {sp : World → Sp} {x : Str}
    (hn : l.most = some n) (hn2 : n ≤ sizeLine) (hdf : d.params.defaults = []) (hr : Room k callerA)
    (hY : ∀ (w : World) (h : Heap), YP w h → (K w.params).In h)
    (F : ∀ (w : World) (mg : Str → Option Value) (fa : Addr) (h : Heap), (K w.params).In h → h.Ns mainGlobals mg → mg d.name = some (.ref fa) →
      ∃ fd : FuncData, (∀ (s : Shared) (u : Value), BindsTo s fd ⟨[u], []⟩ [(x, u)]) ∧
        ∀ base : Heap, (K w.params).In base → base.Ns mainGlobals mg → FnOk l.prog w (K w.params) mg base (CX w) k fa fd [x] (sp w))
    (hsp : ∀ (w : World) (H : Hp) (a : Addr) (ns : List Int), ns.length ≤ n → Only H → SqL (K w.params) H a (ns.map V.int) → sp w [.ref a] H (fun v _ => v = .bl true) fun _ _ _ => False)
    (hCX : ∀ (w : World) (H : Hp) (s : Shared) (e : Value) (s' : Shared), CX w [] H s (fun _ _ _ => False) e s' → False) :
    PySem.W.WalkO q loose XP YP l.row.toRowW d [] (fun f vs => PySem.call f vs) := by
  refine Att.attach_call hn hdf fun w s₀ s₁ mg mb fa o pm cd doc a vs ns G Y ho hd hcd hmg hobj hints hlen hg => ?_
  have KX := hY w _ Y
  obtain ⟨fd, hb, hF⟩ := F w mg fa _ KX G.T.g hmg
  exact law_call KX G.T.g G.T.b G.T.builtins G.T.nolimit hg hobj hints (Nat.le_trans hlen hn2) hr hF hb (fun H hO hS => hsp w H a ns hlen hO hS) fun H e s' => hCX w H s₁ e s'
end L2

/- THE LAST THEOREM (shape; LID, My.* are yours):
   My.Adr: a structure of the addresses that your layer names (classes, functions); My.Txt K t: a structure (Prop) of the equations over K;
   My.txt_mk : {K} {implicit addresses ..} (e1 : nsIn K mainGlobals "law" = some (some (.ref f))) (e2 : K.lookup f = some ⟨oc, od, .func (fnOf "law" "law" params body scope dV kV doc pm an cdv ct), sl⟩) (e3 : codeIn K cdv "law" = true) .. : ∃ t, My.Txt K t

set_option maxRecDepth 100000 in
set_option maxHeartbeats 0 in
theorem PySem.Challenge.cw_LID_holds : PySem.Challenge.rw_LID.Holds := by
  w_on; o_law; k_head; (case hw => w_witness2)
  k_fill
  refine L2.walk_of (l := PySem.Challenge.rw_LID) (n := 63) (k := 40) (x := "script") (CX := fun w => ..) (sp := fun _ => My.sp_law) rfl (by decide) rfl ⟨rfl, by decide, by decide⟩ (fun w h Y => PySem.W.kIn_of Y) ?F ?S ?C
  case F =>
    intro w mg fa h KX G hmg
    have T : ∃ t, My.Txt (L2.KOf KX) t := by
      dsimp only [L2.KOf]                          -- K must stand as «<heap const> w.params» for k_is
      refine' My.txt_mk ?e1 ?e2 ?e3 ..
      (case e1 => PySem.W.k_is)                    -- in the order: a name -> its address -> its object -> its parts
      (case e2 => PySem.W.k_is)
      ..
    obtain ⟨t, T⟩ := T
    have e0 := hmg.symm.trans (PySem.W.mg_of KX G T.law)
    cases e0                                       -- fa is the law's own address
    exact ⟨_, fun s u => .of_eq rfl, fun base kb nb => My.law_fn T kb nb⟩     -- if «.of_eq rfl» comes too early: refine' ⟨_, ?b, fun base kb nb => My.law_fn T kb nb⟩; exact fun s u => .of_eq rfl
  case S => exact fun w H a ns hl hO hS => ..
  case C => exact ..
(the tactic k_is has no namespace: write k_is) -/

/-! SHORT WORDS over the layer: a def of the text, its body, what a loop and a test want. -/
namespace L2
open PySem PySem.Spec PyProof.Rows

/-! ### the text by places -/
def inClass (s : Stmt) (j : Nat) : Stmt := match s with
  | .ClassDef _ _ _ body _ _ _ _ _ _ _ => body.getD j (.Pass ⟨0, 0, 0, 0⟩)
  | _ => .Pass ⟨0, 0, 0, 0⟩
def defArgs (s : Stmt) : Arguments := match s with
  | .FunctionDef _ a _ _ _ _ _ _ _ _ => a
  | _ => { posonlyargs := [], args := [], vararg := none, kwonlyargs := [], kw_defaults := [], kwarg := none, defaults := [] }
def defBody (s : Stmt) : List Stmt := match s with
  | .FunctionDef _ _ b _ _ _ _ _ _ _ => b
  | _ => []
def defScope (s : Stmt) : Scope := match s with
  | .FunctionDef _ _ _ _ _ _ sc _ _ _ => sc
  | _ => { kind := .function, names := [], isGenerator := false, isCoroutine := false }

/-! ### no exception leaves a def -/
abbrev CX0 : CXT := fun _ _ _ _ _ _ => False
abbrev E0 : XK := fun _ _ _ => False
theorem pass0 {X : Cx} : Passes CX0 X E0 := fun _ _ _ _ _ _ _ h => h.elim

/-! ### a def (or method) of the text as it stands behind the top -/
structure Fun (K : PySem.W.Frag) (x qual : Str) (st : Stmt) (f : Addr) (fd : FuncData) : Prop where
  ex : ∃ (oc : Value) (od : Option Addr) (kV doc pm : Value) (an : Option Addr) (cdv ct : Value) (osl : Array (Option Value)),
    fd = PySem.W.fnOf x qual (defArgs st) (defBody st) (defScope st) .none kV doc pm an cdv ct ∧ K.lookup f = some ⟨oc, od, .func fd, osl⟩ ∧ PySem.W.codeIn K cdv qual = true
  kp : PySem.W.keepIn K (.ref f) = true
section
variable {P : Program} {w : World} {K : PySem.W.Frag} {mg : Str → Option Value} {base : Heap}
theorem Fun.ok {x qual : Str} {st : Stmt} {f : Addr} {fd : FuncData} {N ps : List Str} {k : Nat} {sp : Sp} (F : Fun K x qual st f fd) (S : FnScope N ps (defScope st)) (len : ∀ vs H Q E, sp vs H Q E → vs.length = ps.length)
    (hbody : ∀ (cdv : Value) (A : Around) (outer : List Env) (s : Shared) (H : Hp) (vs : List V) (Q : VK) (E : XK), Room k (A.deeper (envOfC qual (defScope st) s.heap.objs.size f cdv)) → sp vs H Q E →
      ∃ t, PSs (cxOf CX0 P w K mg base N qual (defScope st) f cdv A outer s H E).nox (defBody st) t ∧ t { nx := fun _ H' => Q .non H', rt := Q } (start N vs) H) : FnOk P w K mg base CX0 (k + 1) f fd ps sp := by
  obtain ⟨oc, od, kV, doc, pm, an, cdv, ct, osl, rfl, lk, hcd⟩ := F.ex
  refine fn_of lk hcd S len fun A outer s H vs Q E hr hsp => ?_
  obtain ⟨t, h, q⟩ := hbody cdv A outer s H vs Q E hr hsp
  exact ⟨t, h.nox, q⟩
theorem Fun.binds {x qual : Str} {st : Stmt} {f : Addr} {fd : FuncData} {ps : List Str} (F : Fun K x qual st f fd)
    (h : ∀ (kV doc pm : Value) (an : Option Addr) (cdv ct : Value) (us : List Value), us.length = ps.length → bindArgs (PySem.W.fnOf x qual (defArgs st) (defBody st) (defScope st) .none kV doc pm an cdv ct) ⟨us, []⟩ = pure (ps.zip us)) : Binds K fd ps [] := by
  obtain ⟨oc, od, kV, doc, pm, an, cdv, ct, osl, rfl, lk, hcd⟩ := F.ex
  exact .all (h kV doc pm an cdv ct)
theorem fun_mk {x qual : Str} {st : Stmt} {f : Addr} {oc : Value} {od an : Option Addr} {osl : Array (Option Value)} {kV doc pm cdv ct : Value} (l : K.lookup f = some ⟨oc, od, .func (PySem.W.fnOf x qual (defArgs st) (defBody st) (defScope st) .none kV doc pm an cdv ct), osl⟩)
    (c : PySem.W.codeIn K cdv qual = true) (k : PySem.W.keepIn K (.ref f) = true) : Fun K x qual st f (PySem.W.fnOf x qual (defArgs st) (defBody st) (defScope st) .none kV doc pm an cdv ct) := ⟨⟨oc, od, kV, doc, pm, an, cdv, ct, osl, rfl, l, c⟩, k⟩
end
theorem small1000 {n : Nat} (h : n ≤ 1000) : n < sizeLine := Nat.lt_of_le_of_lt h (by decide)

/-! ### expressions in short: the name that stands in the i-th slot -/
section
variable {X : Cx}
theorem pv (i : Nat) {x : Str} {pos : Pos} (hN : X.N[i]? = some x := by rfl) (hv : Vis X.env.scope x := by first | exact Or.inl rfl | exact Or.inr (Or.inl rfl) | exact Or.inr (Or.inr rfl)) (hd : (x == ("__debug__" : Str)) = false := by decide)
    (hcd : (x == ("__classdict__" : Str)) = false := by decide) : PE X (.Name x pos) (tVar i) := pe_var hN hv hd hcd
end

/-! ### tests -/
theorem iteF {A B : Prop} (h : B) : if false = true then A else B := by
  rw [if_neg Bool.false_ne_true]
  exact h
theorem iteT {A B : Prop} (h : A) : if true = true then A else B := by
  rw [if_pos rfl]
  exact h
theorem ite2 {c A B : Prop} [Decidable c] (h1 : c → A) (h2 : ¬ c → B) : if c then A else B := by
  by_cases h : c
  · rw [if_pos h]
    exact h1 h
  · rw [if_neg h]
    exact h2 h

/-! ### heaps -/
def Same (H H' : Hp) : Prop := ∀ b o, H b = some o → H' b = some o
theorem Same.refl (H : Hp) : Same H H := fun _ _ h => h
theorem Same.trans {H H1 H2 : Hp} (a : Same H H1) (b : Same H1 H2) : Same H H2 := fun c o h => b c o (a c o h)
theorem Same.free {H H' : Hp} (e : Same H H') {l : Addr} (h : H' l = Option.none) : H l = Option.none := by
  cases q : H l with
  | none => rfl
  | some o =>
    rw [e l o q] at h
    cases h
theorem Same.seq {K : PySem.W.Frag} {H H' : Hp} {a : Addr} {xs : List V} (e : Same H H') (h : SqL K H a xs) : SqL K H' a xs := by
  rcases h with (h | ⟨o, h⟩) | h
  · exact .inl (.inl (e _ _ h))
  · exact .inl (.inr ⟨o, e _ _ h⟩)
  · exact .inr h

end L2

/-! LAMP O: what keeps an exception's context none -/
namespace L2
open PySem PySem.Spec PyProof.Rows
def F2o (o : Obj) : Prop := ∃ vs, o.data = .fields vs ∧ vs[2]? = some Value.none
def C2 (e : Addr) (h : Heap) : Prop := ∃ o, h.get? e = some o ∧ F2o o
theorem C2.upd {e a : Addr} {h : Heap} {f : Obj → Obj} (c : C2 e h) (hf : ∀ o, F2o o → F2o (f o)) : C2 e (h.update a f) := by
  obtain ⟨o, ho, p⟩ := c
  by_cases z : a = e
  · subst z
    obtain ⟨vs, hd, hv⟩ := hf o p
    exact ⟨f o, Heap.get?_update_self _ ho (Obj.isFreed_of_fields hd), vs, hd, hv⟩
  · exact ⟨o, (Heap.get?_update_other _ _ z).trans ho, p⟩
theorem C2.push {e : Addr} {h : Heap} {o' : Obj} (c : C2 e h) : C2 e (h.push o') := by
  obtain ⟨o, ho, p⟩ := c
  exact ⟨o, Heap.get?_push_of_some _ ho, p⟩
def Keep2 {α : Type} : Sem α → Prop
  | .pure _ => True
  | .raise _ => True
  | .unsupported _ => True
  | .finish _ => True
  | .rule _ k => Keep2 (k ())
  | .at _ k => Keep2 (k ())
  | .load _ _ k => ∀ o, Keep2 (k o)
  | .update _ _ f k => (∀ o, F2o o → F2o (f o)) ∧ Keep2 (k ())
  | .alloc _ k => ∀ a, Keep2 (k a)
  | .loadIfAlive _ k => ∀ o, Keep2 (k o)
  | .point _ k => Keep2 (k ())
  | .fresh k => ∀ t, Keep2 (k t)
  | .ask k => ∀ t, Keep2 (k t)
  | .handled _ k => ∀ t, Keep2 (k t)
  | .stack k => ∀ t, Keep2 (k t)
  | .thread k => ∀ t, Keep2 (k t)
  | _ => False
theorem keep2_wp {α : Type} {M : Model} {Γ : PySem.Ctx} {e : Addr} {Q : α → Pos → Shared → Prop} {E : Value → Pos → Shared → Prop} (m : Sem α) : ∀ (p : Pos) (s : Shared), Keep2 m → C2 e s.heap → Sem.wp M Γ m Q E p s →
    Sem.wp M Γ m (fun a p' s' => C2 e s'.heap ∧ Q a p' s') (fun x p' s' => E x p' s') p s := by
  induction m with
  | pure a => intro p s _ c h; rw [Sem.wp] at h ⊢; exact ⟨c, h⟩
  | raise x => intro p s _ c h; rw [Sem.wp] at h ⊢; exact h
  | unsupported _ => intro p s _ c h; rw [Sem.wp] at h; exact h.elim
  | finish _ => intro p s _ c h; rw [Sem.wp] at h; exact h.elim
  | rule _ k ih => intro p s z c h; rw [Sem.wp] at h ⊢; exact ih () p s z c h
  | «at» p' k ih => intro p s z c h; rw [Sem.wp] at h ⊢; exact ih () p' s z c h
  | load a _ k ih => intro p s z c h; rw [Sem.wp] at h ⊢; obtain ⟨o, ho, h⟩ := h; exact ⟨o, ho, ih o p s (z o) c h⟩
  | update a _ f k ih => intro p s z c h; rw [Sem.wp] at h ⊢; exact ⟨h.1, ih () p _ z.2 (c.upd z.1) h.2⟩
  | alloc o k ih => intro p s z c h; rw [Sem.wp] at h ⊢; exact ih _ p _ (z _) c.push h
  | loadIfAlive a k ih => intro p s z c h; rw [Sem.wp] at h ⊢; exact ih _ p s (z _) c h
  | point _ k ih => intro p s z c h; rw [Sem.wp] at h ⊢; exact ih () p s z c h
  | fresh k ih => intro p s z c h; rw [Sem.wp] at h ⊢; exact ih _ p _ (z _) c h
  | ask k ih => intro p s z c h; rw [Sem.wp] at h ⊢; exact ih _ p s (z _) c h
  | handled _ k ih => intro p s z c h; rw [Sem.wp] at h ⊢; exact ih _ p s (z _) c h
  | stack k ih => intro p s z c h; rw [Sem.wp] at h ⊢; exact ih _ p s (z _) c h
  | thread k ih => intro p s z c h; rw [Sem.wp] at h ⊢; exact ih _ p s (z _) c h
  | _ => intro p s z; exact False.elim z
theorem wpAny_keep2 {α : Type} {M : Model} {A : Around} {E : Value → Shared → Prop} {s : Shared} {e : Addr} {m : Sem α} {Q : α → Shared → Prop} (k : Keep2 m) (c : C2 e s.heap) (h : wpAny M A m (fun a s' => C2 e s'.heap → Q a s') E s) : wpAny M A m Q E s := by
  have h2 : wpAny M A m (fun a s' => C2 e s'.heap ∧ (C2 e s'.heap → Q a s')) E s := fun Γ p g => keep2_wp m p s k c (h Γ p g)
  exact wpAny_mono h2 (fun a s' q => q.2 q.1) fun _ _ q => q
theorem keep2_bind {α β : Type} {m : Sem α} {f : α → Sem β} : Keep2 m → (∀ a, Keep2 (f a)) → Keep2 (m >>= f) := by
  show Keep2 m → (∀ a, Keep2 (f a)) → Keep2 (m.bind f)
  intro z g
  induction m with
  | pure a => exact g a
  | raise x => trivial
  | unsupported _ => trivial
  | finish _ => trivial
  | rule _ k ih => exact ih () z
  | «at» p' k ih => exact ih () z
  | load a _ k ih => exact fun o => ih o (z o)
  | update a _ f k ih => exact ⟨z.1, ih () z.2⟩
  | alloc o k ih => exact fun a => ih a (z a)
  | loadIfAlive a k ih => exact fun a => ih a (z a)
  | point _ k ih => exact ih () z
  | fresh k ih => exact fun a => ih a (z a)
  | ask k ih => exact fun a => ih a (z a)
  | handled _ k ih => exact fun a => ih a (z a)
  | stack k ih => exact fun a => ih a (z a)
  | thread k ih => exact fun a => ih a (z a)
  | _ => exact False.elim z
theorem F2o.set {o : Obj} {i : Nat} {v : Value} (hi : i ≠ 2) (p : F2o o) : F2o (Obj.mapFields (·.setIfInBounds i v) o) := by
  obtain ⟨vs, hd, hv⟩ := p
  exact ⟨_, Obj.data_mapFields hd _, by rw [Array.getElem?_setIfInBounds_ne hi]; exact hv⟩
theorem keep2_unsup {α : Type} {x : String} : Keep2 (PySem.unsupported x : Sem α) := trivial
theorem keep2_load {a : Addr} : Keep2 (PySem.load a) := fun _ => trivial
theorem keep2_field {v : Value} {i : Nat} : Keep2 (field v i) := by
  unfold field fieldsOf
  cases v with
  | ref a =>
    refine keep2_bind (keep2_bind keep2_load fun o => ?_) fun vs => ?_
    · cases o.data <;> first | exact keep2_unsup | trivial
    · cases vs[i]? <;> first | exact keep2_unsup | trivial
  | _ => exact keep2_unsup
theorem keep2_setField {v x : Value} {i : Nat} (hi : i ≠ 2) : Keep2 (setField v i x) := by
  unfold setField
  cases v with
  | ref a =>
    show Keep2 (updateField a i x)
    unfold updateField
    refine keep2_bind keep2_load fun o => ?_
    cases o.data with
    | fields vs =>
      show Keep2 (if i < vs.size then _ else _)
      split
      · exact ⟨fun o p => p.set hi, trivial⟩
      · exact keep2_unsup
    | _ => exact keep2_unsup
  | _ => exact keep2_unsup
theorem keep2_ready : ∀ l : List Env, Keep2 (readyFrames l)
  | [] => trivial
  | env :: outer => by
    unfold readyFrames
    cases env.frame with
    | none => exact keep2_unsup
    | some f =>
      refine keep2_bind keep2_load fun o => ?_
      split
      · trivial
      · refine keep2_bind ?_ fun b => keep2_bind ?_ fun v => keep2_bind ?_ fun _ => keep2_ready outer
        · unfold behindIsImport
          split
          · trivial
          · split
            · trivial
            · exact keep2_bind keep2_field fun _ => trivial
        · cases outer with
          | nil =>
            show Keep2 (if (env.scope.isGenerator || env.scope.isCoroutine) = true then pure Value.none else (do return if ← underTheClaimsCaller then Value.notImplemented else Value.none))
            split
            · trivial
            · exact keep2_bind (keep2_bind (fun _ => trivial) fun _ => trivial) fun _ => trivial
          | cons c r => trivial
        · exact ⟨fun o p => p, trivial⟩
theorem keep2_frameOf {env : Env} : Keep2 (PySem.frameOf env) := by
  unfold PySem.frameOf frameEnvs
  refine keep2_bind (keep2_bind (fun _ => trivial) fun _ => trivial) fun l => ?_
  refine keep2_bind ?_ fun o => ?_
  · cases (l.dropWhile (·.frame != env.frame)) with
    | nil => trivial
    | cons e r => exact keep2_bind (keep2_ready _) fun _ => trivial
  · cases o <;> first | exact keep2_unsup | trivial
theorem keep2_newFields {ty : String} {vs : List Value} : Keep2 (newFields ty vs) := by
  unfold newFields newObj
  show Keep2 (if vs.toArray.size > sizeLine + 2 then _ else _)
  split
  · trivial
  · exact fun _ => trivial
theorem keep2_note {env : Env} {e : Value} : Keep2 (noteFrame e env) := by
  unfold noteFrame
  cases env.frame with
  | none => exact keep2_unsup
  | some f =>
    refine keep2_bind keep2_field fun head => ?_
    have tail : Keep2 (do setField e 1 (← EntryCells.newEntry head (← PySem.frameOf env) .none (rawInt f) .none (← entryPlaceOf f (head != .none)))) := by
      refine keep2_bind keep2_frameOf fun a => keep2_bind ?_ fun pl => keep2_bind ?_ fun b => keep2_setField (by decide)
      · unfold entryPlaceOf
        refine keep2_bind (fun _ => trivial) fun acts => ?_
        split <;> trivial
      · exact keep2_newFields
    split
    · refine keep2_bind keep2_field fun x => ?_
      split
      · trivial
      · exact keep2_bind (keep2_setField (by decide)) fun _ => tail
    · exact tail
theorem keep2_flight {e : Value} {o : Option Addr} : Keep2 (setFlight e o) := by
  unfold setFlight
  refine keep2_bind keep2_field fun tb => ?_
  split
  · exact keep2_setField (by decide)
  · trivial
theorem keep2_leaving {env : Env} {e : Value} : Keep2 (leaving env e) := keep2_bind keep2_note fun _ => keep2_flight
end L2

/-! LAMP A: exceptions that leave a def, raise, try; comprehensions -/
namespace L2
open PySem PySem.Spec PyProof.Rows

/-! ### a tracked object is there -/
theorem ObjOk.there {P : Program} {w : World} {H : Hp} {h : Heap} {a : Addr} {o : HO} (x : ObjOk P w H h a o) : ∃ u, h.get? a = some u := by
  cases o with
  | lst xs => obtain ⟨_, _, _, _, e⟩ := x; exact ⟨_, e⟩
  | tup xs => obtain ⟨_, _, _, ⟨ob, e, _⟩⟩ := x; exact ⟨_, e⟩
  | dK kvs => obtain ⟨_, _, _, _, o, _, _, e, _⟩ := x; exact ⟨_, e⟩
  | dT kvs => obtain ⟨_, _, _, _, o, _, _, e, _⟩ := x; exact ⟨_, e⟩
  | set S n => obtain ⟨o, _, _, _, e, _⟩ := x; exact ⟨_, e⟩
  | ins C dx fs => obtain ⟨_, _, _, e, _⟩ := x; exact ⟨_, e⟩
  | own y => exact x
  | xd fs => obtain ⟨_, ⟨o, _, _, e, _⟩, _⟩ := x; exact ⟨_, e⟩
  | rng lo hi => obtain ⟨_, _, _, e⟩ := x; exact ⟨_, e⟩
  | frz ob u => obtain ⟨e, _⟩ := x; exact ⟨_, e⟩
  | tbl ps => exact ⟨_, (show h.get? a = some _ from x)⟩
  | met f y => exact ⟨_, (show h.get? a = some _ from x)⟩
  | ext φ => obtain ⟨_, e, _⟩ := x; exact e

/-! ### an exception in flight, seen from the callers' frames -/
structure FlyG (fp : Heap → List Env → Addr → Value → Value → Heap → Prop) (P : Program) (w : World) (outer : List Env) (H H' : Hp) (s : Shared) (ea : Addr) (cls : Value) (s' : Shared) : Prop where
  fl : ∃ (B : Heap) (a0 : Value), fp B outer ea cls a0 s'.heap ∧ HOk P w H' B ∧
    ∀ b o, s.heap.get? b = some o → b ∉ frs outer → ∃ o', B.get? b = some o' ∧ (H b = none → o' = o)
  os : s'.os = s.os
  bare : AllBare s'.gens
  slot : ∀ b o, s.heap.get? b = some o → b ∈ frs outer → ∃ sl, s'.heap.get? b = some { o with slots := sl }
  free : ∀ b o, s.heap.get? b = some o → H b = none → H' b = none
  tups : ∀ b xs, H b = some (.tup xs) → H' b = some (.tup xs)
  frzs : ∀ b o u, H b = some (.frz o u) → H' b = some (.frz o u)
  tbls : ∀ b ps, H b = some (.tbl ps) → ∃ more, H' b = some (.tbl (ps ++ more))
  cx : C2 ea s'.heap

abbrev Fly := FlyG Heap.FlyingW
def FlyHeld (L : Addr) (B : Heap) (l : List Env) (e : Addr) (cls a0 : Value) (h : Heap) : Prop := Heap.FlyingW B l e cls a0 h ∨ Heap.HeldW B l e cls a0 L h
abbrev FlyX (L : Addr) := FlyG (FlyHeld L)
theorem FlyG.held {P : Program} {w : World} {outer : List Env} {H H' : Hp} {s s' : Shared} {ea L : Addr} {cls : Value} (f : Fly P w outer H H' s ea cls s') : FlyX L P w outer H H' s ea cls s' := by
  obtain ⟨⟨B, a0, hf, r⟩, q1, q2, q3, q4, q5, q6, q7, q8⟩ := f
  exact ⟨⟨B, a0, .inl hf, r⟩, q1, q2, q3, q4, q5, q6, q7, q8⟩
theorem FlyHeld.ff {L : Addr} {B h : Heap} {l : List Env} {e : Addr} {cls a0 : Value} (f : FlyHeld L B l e cls a0 h) : h.FunFrames B l := f.elim (·.2.2.1) (·.2.2.1)
theorem FlyHeld.no {L : Addr} {B h : Heap} {l : List Env} {e : Addr} {cls a0 : Value} (f : FlyHeld L B l e cls a0 h) : B.get? e = none := f.elim (·.2.1) (·.2.1)
theorem FlyHeld.there {L : Addr} {B h : Heap} {l : List Env} {e : Addr} {cls a0 : Value} (f : FlyHeld L B l e cls a0 h) : ∃ oe vs, h.get? e = some oe ∧ oe.cls = cls ∧ oe.data = .fields vs := by
  rcases f with f | f
  · obtain ⟨oe, vs, T, oT, ts, he, ⟨hc, _⟩, hd, _⟩ := f.2.2.2
    exact ⟨oe, vs, he, hc, hd⟩
  · obtain ⟨oe, vs, T, oT, ts, he, ⟨hc, _⟩, hd, _⟩ := f.2.2.2
    exact ⟨oe, vs, he, hc, hd⟩
theorem UpS.refl (h : Heap) : h.UpToSlots h := fun _ o e _ => ⟨o.slots, e⟩
theorem leave_any {M : Model} {A : Around} {E : Value → Shared → Prop} {s : Shared} {B : Heap} {env : Env} {outer : List Env} {L e : Addr} {cls a0 : Value} {Q : Unit → Shared → Prop} (hA : A.frames = some (env :: outer)) (hf : env.frame = some L)
    (h : FlyHeld L B (env :: outer) e cls a0 s.heap) (hQ : ∀ h', Heap.FlyingW B outer e cls a0 h' → s.heap.UpToSlots h' → Q () { s with heap := h' }) : wpAny M A (leaving env (.ref e)) Q E s := by
  rcases h with h | h
  · exact wpAny_leaves_onW hA hf h hQ
  · unfold leaving
    refine wpAny_bind (wpAny_noteFrame_againW hf h.2.2.2 ?_)
    refine wpAny_landsW h fun h' hfl up => ?_
    obtain ⟨k1, k2, ⟨_, _, k3⟩, k4⟩ := hfl
    exact hQ h' ⟨k1, k2, k3, k4⟩ up
theorem look_any {M : Model} {A : Around} {E : Value → Shared → Prop} {s : Shared} {B : Heap} {env : Env} {outer : List Env} {L e : Addr} {cls a0 : Value} {Q : Unit → Shared → Prop} (hA : A.frames = some (env :: outer)) (hf : env.frame = some L)
    (h : FlyHeld L B (env :: outer) e cls a0 s.heap) (hQ : ∀ h', Heap.HeldW B (env :: outer) e cls a0 L h' → s.heap.UpToSlots h' → Q () { s with heap := h' }) : wpAny M A (noteFrame (.ref e) env) Q E s := by
  rcases h with h | h
  · exact wpAny_looks_onW hA hf h hQ
  · exact wpAny_noteFrame_againW hf h.2.2.2 (hQ s.heap h (UpS.refl _))
theorem mem_frs {l : List Env} {b : Addr} (h : b ∈ frs l) : b ∈ l.filterMap (·.frame) := h

theorem FlyG.un {fp : Heap → List Env → Addr → Value → Value → Heap → Prop} {P : Program} {w : World} {outer : List Env} {H H' : Hp} {s s' : Shared} {ea : Addr} {cls : Value} {B h2 : Heap} (f : FlyG fp P w outer H H' s ea cls s') (hff : s'.heap.FunFrames B outer)
    (hB : ∀ b o, s.heap.get? b = some o → b ∉ frs outer → ∃ o', B.get? b = some o' ∧ (H b = none → o' = o)) (st : B.StaysIn h2) (up : s'.heap.UpToSlots h2) : Un (frs outer) [] H H' s.heap h2 := by
  have sl : ∀ b o, s.heap.get? b = some o → b ∈ frs outer → ∃ sl, h2.get? b = some { o with slots := sl } := fun b o e hb => by
    obtain ⟨s1, e1⟩ := f.slot b o e hb
    obtain ⟨_, o2, ho2, hnf⟩ := hff.mem (mem_frs hb)
    rw [e1] at ho2
    cases ho2
    obtain ⟨s2, e2⟩ := up b _ e1 hnf
    exact ⟨s2, e2⟩
  refine ⟨fun b o e n hb _ => ?_, fun b o e _ hb _ => sl b o e hb, fun b o e n _ => f.free b o e n, fun b o e _ => ?_, f.tups, f.frzs, f.tbls⟩
  · obtain ⟨o', e', q⟩ := hB b o e hb
    rw [q n] at e'
    exact st b _ e'
  · by_cases hb : b ∈ frs outer
    · obtain ⟨s2, e2⟩ := sl b o e hb
      exact ⟨_, e2⟩
    · obtain ⟨o', e', _⟩ := hB b o e hb
      exact ⟨o', st b _ e'⟩

def CXE (P : Program) (w : World) : CXT := fun outer H s E e s' => ∃ ea cls H', e = Value.ref ea ∧ Fly P w outer H H' s ea cls s' ∧ E cls none H'

/-! ### a callee's exception leaves this frame too -/
section
variable {P : Program} {w : World} {K : PySem.W.Frag} {mg : Str → Option Value} {base : Heap} {N : List Str} {qual : Str} {scope : Scope} {f : Addr} {cd : Value} {A : Around} {outer : List Env} {s : Shared} {H : Hp} {E : XK}
  {pins : List (Addr × Obj)} {σ : St} {H1 : Hp} {s1 : Shared}

theorem inB_of (I : Inv (cxOf (CXE P w) P w K mg base N qual scope f cd A outer s H E) pins σ H1 s1) {B : Heap}
    (hB : ∀ b o, s1.heap.get? b = some o → b ∉ frs (cxOf (CXE P w) P w K mg base N qual scope f cd A outer s H E).stack → ∃ o', B.get? b = some o' ∧ (H1 b = none → o' = o)) :
    ∀ b o, s.heap.get? b = some o → b ∉ frs outer → ∃ o', B.get? b = some o' ∧ (H b = none → o' = o) := fun b o e hb => by
  have un : Un (frs outer) [] H H1 s.heap s1.heap := I.base
  obtain ⟨o1, e1⟩ := un.there b o e (by simp)
  have hbs : b ∉ frs (cxOf (CXE P w) P w K mg base N qual scope f cd A outer s H E).stack := fun z => by
    rcases List.mem_cons.mp (I.stkSub b z) with z | z
    · have z' : b = s.heap.objs.size := z
      exact absurd (Heap.lt_size e) (by rw [z']; exact Nat.lt_irrefl _)
    · exact hb z
  obtain ⟨o', e', q⟩ := hB b o1 e1 hbs
  refine ⟨o', e', fun n => ?_⟩
  have e2 := un.keep b o e n hb (by simp)
  rw [e1] at e2
  rw [q (un.free b o e n (by simp))]
  exact Option.some.inj e2

theorem passX {ea : Addr} {cls : Value} {H' : Hp} {s' : Shared} (I : Inv (cxOf (CXE P w) P w K mg base N qual scope f cd A outer s H E) pins σ H1 s1)
    (fy : FlyX s.heap.objs.size P w (cxOf (CXE P w) P w K mg base N qual scope f cd A outer s H E).stack H1 H' s1 ea cls s') (hE : E cls none H') : (cxOf (CXE P w) P w K mg base N qual scope f cd A outer s H E).xe (.ref ea) s' := by
  obtain ⟨B, a0, hfl, hok, hB⟩ := fy.fl
  have un : Un (frs outer) [] H H1 s.heap s1.heap := I.base
  show wpAny (model P w) (A.deeper (envOfC qual scope s.heap.objs.size f cd)) (leaving (envOfC qual scope s.heap.objs.size f cd) (.ref ea)) (fun _ s'' => CXE P w outer H s E (.ref ea) s'') (fun e' s'' => CXE P w outer H s E e' s'') s'
  refine wpAny_keep2 keep2_leaving fy.cx (leave_any (outer := outer) (L := s.heap.objs.size) I.ok.frames rfl hfl fun h' hfl' up c' => ⟨ea, cls, H', rfl, ⟨⟨B, a0, hfl', hok, inB_of I hB⟩, ?_, fy.bare, fun b o e hb => ?_, fun b o e n => ?_, fun b xs q => ?_, fun b o u q => ?_, fun b ps q => ?_, c'⟩, hE⟩)
  · show s'.os = s.os
    rw [fy.os]
    exact I.os
  · obtain ⟨s2, e2⟩ := un.slot b o e (I.ok.frf b hb) hb (by simp)
    have hb' : b ∈ frs (cxOf (CXE P w) P w K mg base N qual scope f cd A outer s H E).stack := List.mem_cons_of_mem _ hb
    obtain ⟨s3, e3⟩ := fy.slot b _ e2 hb'
    obtain ⟨_, o3, ho3, hnf⟩ := hfl.ff.mem (mem_frs hb')
    rw [e3] at ho3
    cases ho3
    obtain ⟨s4, e4⟩ := up b _ e3 hnf
    exact ⟨s4, e4⟩
  · obtain ⟨o1, e1⟩ := un.there b o e (by simp)
    exact fy.free b o1 e1 (un.free b o e n (by simp))
  · exact fy.tups b xs (un.tups b xs q)
  · exact fy.frzs b o u (un.frzs b o u q)
  · obtain ⟨m1, q1⟩ := un.tbls b ps q
    obtain ⟨m2, q2⟩ := fy.tbls b _ q1
    exact ⟨m1 ++ m2, by rw [q2, Array.append_assoc]⟩
theorem passE : Passes (CXE P w) (cxOf (CXE P w) P w K mg base N qual scope f cd A outer s H E) E := by
  rintro pins σ H1 s1 e s' I ⟨ea, cls, H', rfl, fy, hE⟩
  exact passX I fy.held hE

theorem raiseE (I : Inv (cxOf (CXE P w) P w K mg base N qual scope f cd A outer s H E) pins σ H1 s1) {h1 : Heap} {e : Addr} {cls : Value} {args : List Value} (hx : Heap.MadeExcOf s1.heap h1 e cls args) (hE : E cls none H1) :
    (cxOf (CXE P w) P w K mg base N qual scope f cd A outer s H E).xe (.ref e) { s1 with heap := h1 } := by
  have un : Un (frs outer) [] H H1 s.heap s1.heap := I.base
  show wpAny (model P w) (A.deeper (envOfC qual scope s.heap.objs.size f cd)) (leaving (envOfC qual scope s.heap.objs.size f cd) (.ref e)) (fun _ s'' => CXE P w outer H s E (.ref e) s'') (fun e' s'' => CXE P w outer H s E e' s'') { s1 with heap := h1 }
  have hst := I.stack
  have nfr : ∀ b o, H1 b = some o → b ∉ frs (cxOf (CXE P w) P w K mg base N qual scope f cd A outer s H E).stack := fun b o q z => by
    have := I.stkFree b z
    rw [this] at q
    cases q
  have hok : HOk P w H1 (PySem.W.hideAll s1.heap (frs (cxOf (CXE P w) P w K mg base N qual scope f cd A outer s H E).stack)) := fun a o q =>
    (I.hok a o q).stay (fun b u hb z => PySem.W.hideAll_get _ z (by
      rcases hb with rfl | hb
      · exact nfr _ _ q
      · exact nfr _ _ hb)) (fun _ z => z) fun _ _ z => z
  have c1 : C2 e h1 := by
    obtain ⟨t, he, _⟩ := hx.there
    exact ⟨_, he, _, rfl, rfl⟩
  refine wpAny_keep2 (s := { s1 with heap := h1 }) keep2_leaving c1 (wpAny_leaves_madeW (s := { s1 with heap := h1 }) (base := PySem.W.hideAll s1.heap (frs (cxOf (CXE P w) P w K mg base N qual scope f cd A outer s H E).stack)) (h := s1.heap) (outer := outer) (L := s.heap.objs.size) I.ok.frames rfl (fun b o q => PySem.W.of_hideAll _ q)
    (PySem.W.funFrames_hide hst fun env he a ha => List.mem_filterMap.mpr ⟨env, he, ha⟩) hx fun h' t hfl htup hnt up c' => ⟨e, cls, H1, rfl, ⟨⟨_, _, hfl, hok, inB_of I fun b o q hb => ⟨o, PySem.W.hideAll_get _ q hb, fun _ => rfl⟩⟩, I.os, I.bare, fun b o q hb => ?_, fun b o q n => ?_, un.tups, un.frzs, un.tbls, c'⟩, hE⟩)
  · obtain ⟨s2, e2⟩ := un.slot b o q (I.ok.frf b hb) hb (by simp)
    have e3 := hx.keeps b _ e2
    have hb' : b ∈ frs (cxOf (CXE P w) P w K mg base N qual scope f cd A outer s H E).stack := List.mem_cons_of_mem _ hb
    obtain ⟨_, o3, ho3, hnf⟩ := hst.mem (mem_frs hb')
    rw [e2] at ho3
    cases ho3
    obtain ⟨s4, e4⟩ := up b _ e3 hnf
    exact ⟨s4, e4⟩
  · exact un.free b o q n (by simp)
end

/-! ### a def whose body may raise -/
theorem Fun.okE {P : Program} {w : World} {K : PySem.W.Frag} {mg : Str → Option Value} {base : Heap} {x qual : Str} {st : Stmt} {f : Addr} {fd : FuncData} {N ps : List Str} {k : Nat} {sp : Sp} (F : Fun K x qual st f fd) (S : FnScope N ps (defScope st))
    (len : ∀ vs H Q E, sp vs H Q E → vs.length = ps.length)
    (hbody : ∀ (cdv : Value) (A : Around) (outer : List Env) (s : Shared) (H : Hp) (vs : List V) (Q : VK) (E : XK), Room k (A.deeper (envOfC qual (defScope st) s.heap.objs.size f cdv)) → sp vs H Q E →
      ∃ t, PSs (cxOf (CXE P w) P w K mg base N qual (defScope st) f cdv A outer s H E) (defBody st) t ∧ t { nx := fun _ H' => Q .non H', rt := Q } (start N vs) H) : FnOk P w K mg base (CXE P w) (k + 1) f fd ps sp := by
  obtain ⟨oc, od, kV, doc, pm, an, cdv, ct, osl, rfl, lk, hcd⟩ := F.ex
  exact fn_of lk hcd S len fun A outer s H vs Q E hr hsp => hbody cdv A outer s H vs Q E hr hsp
end L2

/-! LAMP B: raise, try, calls whose wish of exceptions hangs on the frame -/
namespace L2
open PySem PySem.Spec PyProof.Rows

/-! ### an own exception class of the text, under ValueError -/
abbrev bmV : List Value := [.type "ValueError", .type "Exception", .type "BaseException", .type "object"]
theorem own_obj {K : PySem.W.Frag} {h : Heap} {C : Addr} {bmB : List Value} {newId : String} (X : K.In h) (q : PySem.W.excIn K C bmB newId = true) :
    ∃ bm N nm qn bs hdct sn sub ab col dd k0 k1 k2 k3 k5 mN, h.get? C = some (excClassObj nm qn C N bs bm hdct sn sub ab col dd k0 k1 k2 k3 k5 newId) ∧ h.Ns N mN ∧ mN "__init__" = none ∧ OwnTail h bmB bm := by
  unfold PySem.W.excIn at q
  split at q
  · rename_i dd cd sl ho
    split at q
    · rename_i C2 bm k0 k1 k2 k3 n k5 hm hs
      obtain ⟨nm, bs, mro, ns, qn, hd, sn, sub, ab, col, del⟩ := cd
      simp only [Bool.and_eq_true, beq_iff_eq, Bool.not_eq_true'] at q
      obtain ⟨⟨⟨⟨⟨q1, q2⟩, q3⟩, q4⟩, q5⟩, q6⟩ := q
      subst q1 q2
      dsimp only at hm q3
      subst hm q3
      have e : sl = #[k0, k1, k2, k3, some (.builtin n), k5] := by
        cases sl with
        | mk l => exact congrArg Array.mk hs
      subst e
      exact ⟨bm, ns, nm, qn, bs, hd, sn, sub, ab, col, dd, k0, k1, k2, k3, k5, _, X _ _ ho, .of_isNs (PySem.W.isNs_of_in X q5), PySem.W.nsMap_none_of_in X q5 q6, PySem.W.tail_of_in X q4⟩
    · cases q
  · cases q

section
variable {X : Cx} {C : Addr} {x m : Str} {np cpos mpos pos : Pos} {j : Nat}
theorem ps_raise {R : St → Hp → Prop} (hc : X.calm = true) (hg : Gl X x) (hm : X.mg x = some (.ref C)) (hex : PySem.W.excIn X.K C bmV "ValueError.__new__" = true)
    (hx : ∀ (pins : List (Addr × Obj)) (σ : St) (H : Hp) (s : Shared) (h1 : Heap) (e : Addr) (args : List Value), Inv X pins σ H s → Heap.MadeExcOf s.heap h1 e (.ref C) args → R σ H → X.xe (.ref e) { s with heap := h1 })
    (hd : (x == ("__debug__" : Str)) = false := by decide) : PS X (.Raise (some (.Call (.Name x np) [.Constant (.str m) j mpos] [] cpos)) none pos) (fun _ σ H => R σ H) := by
  intro pins s σ H D I h
  obtain ⟨bm, N, nm, qn, bs, hdct, sn, sub, ab, col, dd, k0, k1, k2, k3, k5, mN, hC, hN, hni, T⟩ := own_obj I.mod.kin hex
  refine wpAny_Raise_call_subT (C := C) (nm := nm) (q := qn) (N := N) (bs := bs) (bm := bm) (hdct := hdct) (sn := sn) (sub := sub) (ab := ab) (col := col) (dd := dd) (k0 := k0) (k1 := k1) (k2 := k2) (k3 := k3) (k5 := k5)
    PySem.F.excBase_ValueError (mN := mN) (T.hasType PySem.F.excBase_ValueError.hasBase) (I.ok.hd hc) rfl hni (ld_glob I hg hm ⟨rfl, ?_⟩ hd)
  refine Calls.evalArgs_plain ?_
  have ha : PA X [.Constant (.str m) j mpos] (tCons (tC (.str m)) tNil) := pa_cons pe_str pa_nil
  refine thn (ha cpos pins s σ H (fun vs H1 => vs = [.str m] ∧ H1 = H) I ⟨rfl, rfl⟩) fun us s2 ⟨vs, H2, I2, r, e1, e2⟩ => ?_
  subst e1 e2
  have hl : us.length = 1 := r.length.symm
  exact ⟨rfl, by show us.length ≤ sizeLine; rw [hl]; decide, I2.bk _ _ hC, hN.keeps I2.bk, T.keeps I2.bk, fun h1 e hmade => hx pins σ H2 s2 h1 e _ I2 hmade h⟩
end

/-! ### the frame's wish: an exception wanted by the names' values -/
def PassesS (CX : CXT) (X : Cx) (E : St → XK) : Prop := ∀ (pins : List (Addr × Obj)) (σ : St) (H : Hp) (s : Shared) (e : Value) (s' : Shared), Inv X pins σ H s → CX X.stack H s (E σ) e s' → X.xe e s'
theorem Passes.s {CX : CXT} {X : Cx} {E : XK} (h : Passes CX X E) : PassesS CX X (fun _ => E) := fun pins σ H s e s' I q => h pins σ H s e s' I q
def tCallS (sp : Sp) (dvs : List V) (E : St → XK) (t : TA) : TE := fun σ H Q => t σ H fun vs H1 => sp (vs ++ dvs) H1 Q (E σ)
def tMethS (C : Addr) (m : Str) (sp : Sp) (dvs : List V) (E : St → XK) (ta : TE) (t : TA) : TE := fun σ H Q => ta σ H fun x H1 => ∃ a dx fs, x = .ref a ∧ H1 a = some (.ins C dx fs) ∧ fs.lookup m = none ∧
  t σ H1 fun vs H2 => sp (x :: (vs ++ dvs)) H2 Q (E σ)
def tMakeS (C : Addr) (sp : Sp) (dvs : List V) (E : St → XK) (t : TA) : TE := fun σ H Q => t σ H fun vs H1 => ∀ x dx, H1 x = none → H1 dx = none → dx ≠ x →
  sp (.ref x :: (vs ++ dvs)) (upd (upd H1 dx (.own x)) x (.ins C dx [])) (fun v H2 => v = .non ∧ Q (.ref x) H2) (E σ)
section
variable {X : Cx} {CX : CXT} {k : Nat} {f C : Addr} {fd : FuncData} {ps : List Str} {sp : Sp} {dvs : List V} {ds : List Value} {E : St → XK} {x m : Str} {p pos apos : Pos} {e o : Expr} {es : List Expr} {ta : TE} {t : TA}
theorem run_fnS {pins : List (Addr × Obj)} {σ : St} {H : Hp} {s : Shared} {Q : VK} {us : List Value} {vs : List V} (F : FnOk X.prog X.w X.K X.mg X.base CX k f fd ps sp) (hr : Room k X.A) (hb : Binds X.K fd ps ds) (hd : Vals dvs ds) (hx : PassesS CX X E)
    (I : Inv X pins σ H s) (r : Vals vs us) (h : sp (vs ++ dvs) H Q (E σ)) : wpAny (model X.prog X.w) X.A (call (.ref f) us) (EP X pins σ Q) X.xe s := by
  have r2 : Vals (vs ++ dvs) (us ++ ds) := r.append hd
  have hl : (us ++ ds).length = ps.length := by rw [← r2.length]; exact F.len _ _ _ _ h
  refine wpAny_call (codeAny_mono (F.run X.A X.stack s H ⟨us, []⟩ (us ++ ds) (vs ++ dvs) Q (E σ) hr I.env0 (hb s us I.kIn hl) r2 h) fun r s' hq => ?_)
  cases r with
  | error e => exact hx pins σ H s e s' I hq
  | ok fl => cases fl <;> first | exact I.after hq | exact False.elim hq
theorem run_makeS {pins : List (Addr × Obj)} {σ : St} {H : Hp} {s : Shared} {Q : VK} {us : List Value} {vs : List V} (M : Mk X.K C f) (F : FnOk X.prog X.w X.K X.mg X.base CX k f fd ps sp) (hr : Room (k + 1) X.A) (hb : Binds X.K fd ps ds) (hd : Vals dvs ds)
    (hx : PassesS CX X E) (I : Inv X pins σ H s) (r : Vals vs us)
    (h : ∀ x dx, H x = none → H dx = none → dx ≠ x → sp (.ref x :: (vs ++ dvs)) (upd (upd H dx (.own x)) x (.ins C dx [])) (fun v H2 => v = .non ∧ Q (.ref x) H2) (E σ)) :
    wpAny (model X.prog X.w) X.A (call (.ref C) us) (EP X pins σ Q) X.xe s := by
  have hq := h (s.heap.objs.size + 1) s.heap.objs.size (I.hok.fresh (Nat.le_succ _)) (I.hok.fresh (Nat.le_refl _)) (Nat.ne_of_lt (Nat.lt_succ_self _))
  have I2 := Inv.made (C := C) I
  have r2 : Vals (V.ref (s.heap.objs.size + 1) :: (vs ++ dvs)) (Value.ref (s.heap.objs.size + 1) :: (us ++ ds)) := .cons rfl (r.append hd)
  have hl : (Value.ref (s.heap.objs.size + 1) :: us ++ ds).length = ps.length := by
    have e := r2.length
    rw [F.len _ _ _ _ hq] at e
    exact e.symm
  refine wpAny_call (make_map (f := f) I.kIn M.makes M.init (beq_iff_eq.mp M.fn) (codeAny_mono (F.run _ X.stack _ _ ⟨Value.ref (s.heap.objs.size + 1) :: us, []⟩ (Value.ref (s.heap.objs.size + 1) :: (us ++ ds)) _ _ (E σ) (hr.make C us [])
    (I2.env0.make C us []) (hb _ (Value.ref (s.heap.objs.size + 1) :: us) I2.kIn hl) r2 hq) fun r s' hq' => ?_))
  cases r with
  | error e => exact hx pins σ _ _ e s' I2 hq'
  | ok fl =>
    cases fl with
    | ret u =>
      obtain ⟨v, H', I3, rv, ev, q3⟩ := I2.after hq'
      subst ev
      exact ⟨rv, ⟨V.ref (s.heap.objs.size + 1), H', I3, rfl, q3⟩⟩
    | next => exact False.elim hq'
    | brk => exact False.elim hq'
    | cont => exact False.elim hq'
theorem pe_callS (F : FnOk X.prog X.w X.K X.mg X.base CX k f fd ps sp) (hr : Room k X.A) (hg : Gl X x) (hm : X.mg x = some (.ref f)) (hk : PySem.W.keepIn X.K (.ref f) = true) (hb : Binds X.K fd ps ds) (hd : Vals dvs ds) (hx : PassesS CX X E)
    (ha : PA X (e :: es) t) (hdb : (x == ("__debug__" : Str)) = false := by decide) (he : starEach (e :: es) X.env = (false, eval e X.env) :: starEach es X.env := by rfl) (hpl : (backTo pos (starEach es X.env)).any (·.1) = false := by rfl) :
    PE X (.Call (.Name x p) (e :: es) [] pos) (tCallS sp dvs E t) := by
  intro pins s σ H Q I h
  refine wpAny_Call_Name_kw (ld_glob I hg hm ?_ hdb)
  refine PySem.W.callWith_K (h₀ := X.base) I.ok.mod.kin hk (thn (ha pos pins s σ H _ I h) fun us s1 ⟨vs, H1, I1, r, q⟩ => ⟨I1.kIn, ?_⟩) he hpl
  exact run_fnS F hr hb hd hx I1 r q
theorem pe_methS {pl : Sem Bool} (he : PE X o ta) (c : Cls X.K C) (hm : Meth X.K C m f) (F : FnOk X.prog X.w X.K X.mg X.base CX k f fd ps sp) (hr : Room k X.A) (hb : Binds X.K fd ps ds) (hd : Vals dvs ds) (hx : PassesS CX X E) (ha : PA X (e :: es) t)
    (hst : starEach (e :: es) X.env = (false, eval e X.env) :: starEach es X.env := by rfl) (hpl : (backTo pos (starEach es X.env)).any (·.1) = false := by rfl)
    (ht : eval (.Call (.Attribute o m apos) (e :: es) [] pos) X.env = (do
      let ov ← eval o X.env
      standAt apos.atName
      let (f, first) ← holding [ov] (getMethod ov m pl)
      callWith pos f first (backTo pos (starEach (e :: es) X.env)) (backToKw pos (keywordEach [] X.env))) := by rfl) :
    PE X (.Call (.Attribute o m apos) (e :: es) [] pos) (tMethS C m sp dvs E ta t) := by
  intro pins s σ H Q I h
  refine PySem.W.methodCall_KW (pl := pl) (thn (he pins s σ H _ I h) fun u s1 ⟨x, H1, I1, rx, a, dx, fs, ex, ea, l, q⟩ => ?_) ht
  subst ex
  obtain rfl : u = Value.ref a := rx
  refine getmeth_ok I1 ea c hm l ?_
  refine PySem.W.callWith_K (first := [.ref a]) (h₀ := X.base) I.ok.mod.kin hm.kp (thn (ha pos pins s1 σ H1 _ I1 q) fun us s2 ⟨vs, H2, I2, r, q2⟩ => ⟨I2.kIn, ?_⟩) hst hpl
  exact run_fnS (us := .ref a :: us) (vs := .ref a :: vs) F hr hb hd hx I2 (.cons rfl r) q2
theorem pe_makeS (M : Mk X.K C f) (F : FnOk X.prog X.w X.K X.mg X.base CX k f fd ps sp) (hr : Room (k + 1) X.A) (hg : Gl X x) (hm : X.mg x = some (.ref C)) (hb : Binds X.K fd ps ds) (hd : Vals dvs ds) (hx : PassesS CX X E)
    (ha : PA X (e :: es) t) (hdb : (x == ("__debug__" : Str)) = false := by decide) (he : starEach (e :: es) X.env = (false, eval e X.env) :: starEach es X.env := by rfl) (hpl : (backTo pos (starEach es X.env)).any (·.1) = false := by rfl) :
    PE X (.Call (.Name x p) (e :: es) [] pos) (tMakeS C sp dvs E t) := by
  intro pins s σ H Q I h
  refine wpAny_Call_Name_kw (ld_glob I hg hm ?_ hdb)
  refine PySem.W.callWith_K (h₀ := X.base) I.ok.mod.kin M.kp (thn (ha pos pins s σ H _ I h) fun us s1 ⟨vs, H1, I1, r, q⟩ => ⟨I1.kIn, ?_⟩) he hpl
  exact run_makeS M F hr hb hd hx I1 r q
end
theorem passN {P : Program} {w : World} {X : Cx} : PassesS (CXE P w) X (fun _ => E0) := fun _ _ _ _ _ _ _ ⟨_, _, _, _, _, h⟩ => h.elim

/-! ### try: the body's context, the suite's context -/
def Cx.tryC (X : Cx) (pins : List (Addr × Obj)) (Hand : St → XK) : Cx := { X with pn := X.pn ++ pins, xe := fun e s' => ∃ σ H s H' ea cls, e = Value.ref ea ∧ Inv X pins σ H s ∧ FlyX X.env.locals X.prog X.w X.stack H H' s ea cls s' ∧ Hand σ cls none H' }
def Cx.hand (X : Cx) (ea : Addr) : Cx := { X with A := X.A.mark (some (.ref ea)), calm := false, xe := fun _ _ => False }
section
variable {X : Cx} {pins pins2 : List (Addr × Obj)} {Hand : St → XK} {σ : St} {H : Hp} {s : Shared} {ea : Addr}
theorem Inv.untry (I : Inv (X.tryC pins Hand) pins2 σ H s) : Inv X pins σ H s :=
  ⟨⟨I.ok.mod, I.ok.kind, I.ok.glob, I.ok.blt, I.ok.above, I.ok.inj, I.ok.has, I.ok.cab, I.ok.hd, I.ok.frames, I.ok.stk, I.ok.exf, I.ok.bs, I.ok.bsz, I.ok.noex, I.ok.exfs, I.ok.funs, I.ok.frf⟩,
    I.os, I.bare, I.base, I.loc, I.cell, I.free, I.freeC, fun p hp => I.pin p (List.mem_append_left _ hp), I.hok, I.len⟩
theorem Inv.intry (I : Inv X pins σ H s) : Inv (X.tryC pins Hand) [] σ H s :=
  ⟨⟨I.ok.mod, I.ok.kind, I.ok.glob, I.ok.blt, I.ok.above, I.ok.inj, I.ok.has, I.ok.cab, I.ok.hd, I.ok.frames, I.ok.stk, I.ok.exf, I.ok.bs, I.ok.bsz, I.ok.noex, I.ok.exfs, I.ok.funs, I.ok.frf⟩,
    I.os, I.bare, I.base, I.loc, I.cell, I.free, I.freeC, fun p hp => I.pin p ((List.mem_append.mp (show p ∈ (X.pn ++ pins) ++ [] from hp)).elim id fun z => absurd z (by simp)), I.hok, I.len⟩
theorem Inv.tohand (I : Inv X pins σ H s) : Inv (X.hand ea) pins σ H s :=
  ⟨⟨I.ok.mod, I.ok.kind, I.ok.glob, I.ok.blt, I.ok.above, I.ok.inj, I.ok.has, I.ok.cab, fun z => absurd (show false = true from z) Bool.false_ne_true, I.ok.frames, I.ok.stk, I.ok.exf, I.ok.bs, I.ok.bsz, I.ok.noex, I.ok.exfs, I.ok.funs, I.ok.frf⟩,
    I.os, I.bare, I.base, I.loc, I.cell, I.free, I.freeC, I.pin, I.hok, I.len⟩
theorem Inv.unhand (hd : X.calm = true → X.A.handled = none) (I : Inv (X.hand ea) pins σ H s) : Inv X pins σ H s :=
  ⟨⟨I.ok.mod, I.ok.kind, I.ok.glob, I.ok.blt, I.ok.above, I.ok.inj, I.ok.has, I.ok.cab, hd, I.ok.frames, I.ok.stk, I.ok.exf, I.ok.bs, I.ok.bsz, I.ok.noex, I.ok.exfs, I.ok.funs, I.ok.frf⟩,
    I.os, I.bare, I.base, I.loc, I.cell, I.free, I.freeC, I.pin, I.hok, I.len⟩
theorem passT : PassesS (CXE X.prog X.w) (X.tryC pins Hand) Hand := fun _ σ H s _ s' I ⟨ea, cls, H', e, fy, h⟩ => ⟨σ, H, s, H', ea, cls, e, I.untry, fy.held, h⟩
theorem SP.untry {D : Ends} {f : Flow} {s' : Shared} (h : SP (X.tryC pins Hand) pins2 D f s') : SP X pins D f s' := by
  cases f with
  | next => obtain ⟨σ', H', I, q⟩ := h; exact ⟨σ', H', I.untry, q⟩
  | brk => obtain ⟨σ', H', I, q⟩ := h; exact ⟨σ', H', I.untry, q⟩
  | cont => obtain ⟨σ', H', I, q⟩ := h; exact ⟨σ', H', I.untry, q⟩
  | ret u => obtain ⟨v, σ', H', I, r, q⟩ := h; exact ⟨v, σ', H', I.untry, r, q⟩
def excO (ea : Addr) (cls : Value) : HO := .ext fun h => ∃ o vs, h.get? ea = some o ∧ o.cls = cls ∧ o.data = .fields vs ∧ vs[2]? = some Value.none
theorem goes_ok {M : Model} {A : Around} {E : Value → Shared → Prop} {i : Nat} {n : Str} {pos : Pos} {Q : Unit → Shared → Prop} (I : Inv X pins σ H s) (hN : X.N.Nodup) (hi : X.N[i]? = some n) (hl : X.env.scope.names.lookup n = some .local)
    (h : ∀ s', Inv X pins (σ.set i none) H s' → Q () s') : wpAny M A (do bindName X.env n .none; unbindBehindTheSuite X.env n pos) Q E s := by
  obtain ⟨m, hn, hlo⟩ := id I.loc
  have hcls : (X.env.scope.kind == .class || (X.env.scope.kind == .module && X.env.locals != X.env.globals)) = false := by rw [I.ok.kind]; rfl
  refine wpAny_nameGoes_keeps hl hn hcls fun h' v hn' hs => h _ ?_
  have nL : ∀ b o, X.s₀.heap.get? b = some o → b ≠ X.env.locals := fun b o e => Nat.ne_of_lt (Nat.lt_of_lt_of_le (Heap.lt_size e) I.ok.above)
  have tr : HOk X.prog X.w H h' := fun b ob e => (I.hok b ob e).stay (fun c w' hc q => (hs.2 c (by
      rintro rfl
      rcases hc with hc | hc
      · rw [← hc, I.free] at e; cases e
      · rw [I.free] at hc; cases hc)).trans q) (fun _ q => q) fun _ _ q => q
  refine ⟨I.ok, I.os, I.bare, ⟨fun b o e n hb hx => (hs.2 b (nL b o e)).trans (I.base.keep b o e n hb hx), fun b o e n hb hx => ?_, I.base.free, fun b o e hx => ?_, I.base.tups, I.base.frzs, I.base.tbls⟩, ⟨_, hn', fun j y v' e1 e2 e3 => ?_⟩, fun y c e => ?_, I.free, I.freeC, fun p hp => ?_, tr, by simpa using I.len⟩
  · obtain ⟨sl, e1⟩ := I.base.slot b o e n hb hx
    exact ⟨sl, (hs.2 b (nL b o e)).trans e1⟩
  · obtain ⟨o', e1⟩ := I.base.there b o e hx
    exact ⟨o', (hs.2 b (nL b o e)).trans e1⟩
  · have hj : j ≠ i := by
      rintro rfl
      rw [List.getElem?_set] at e2
      split at e2
      · split at e2 <;> cases e2
      · exact absurd rfl (by assumption)
    rw [List.getElem?_set_ne (Ne.symm hj)] at e2
    obtain ⟨u', r', q⟩ := hlo j y v' e1 e2 e3
    refine ⟨u', r', ?_⟩
    rcases q with ⟨k, e⟩ | ⟨k, c, e, z⟩
    · have : y ≠ n := fun e => hj (nodup_ix hN e1 (e ▸ hi))
      exact .inl ⟨k, by simp [this, e]⟩
    · exact .inr ⟨k, c, e, z.sameBut hs (I.cne y c e)⟩
  · obtain ⟨w', z⟩ := I.cell y c e
    exact ⟨w', z.sameBut hs (I.cne y c e)⟩
  · obtain ⟨e, n, ne, nf, d⟩ := I.pin p hp
    exact ⟨(hs.2 p.1 ne).trans e, n, ne, nf, d⟩
theorem Inv.track {o : HO} (I : Inv X pins σ H s) (hn : H ea = none) (hm : ∀ b u, X.s₀.heap.get? b = some u → b ≠ ea) (hL : ea ≠ X.env.locals) (hc : ∀ x c, X.env.cells.lookup x = some c → c ≠ ea) (hp : ∀ p ∈ X.pn ++ pins, p.1 ≠ ea)
    (new : ObjOk X.prog X.w (upd H ea o) s.heap ea o) : Inv X pins σ (upd H ea o) s := by
  have ne : ∀ b u, H b = some u → b ≠ ea := fun b u e z => by rw [z, hn] at e; cases e
  refine ⟨I.ok, I.os, I.bare, ⟨I.base.keep, I.base.slot, fun b u e n hx => ?_, I.base.there, fun b xs e => ?_, fun b u v e => ?_, fun b ps e => ?_⟩, I.loc, I.cell, ?_, fun x c e => ?_, fun p h => ?_, fun b u e => ?_, I.len⟩
  · rw [upd_ne (hm b u e)]; exact I.base.free b u e n hx
  · have q := I.base.tups b xs e
    rw [upd_ne (ne b _ q)]; exact q
  · have q := I.base.frzs b u v e
    rw [upd_ne (ne b _ q)]; exact q
  · obtain ⟨more, q⟩ := I.base.tbls b ps e
    exact ⟨more, by rw [upd_ne (ne b _ q)]; exact q⟩
  · rw [upd_ne (Ne.symm hL)]; exact I.free
  · rw [upd_ne (hc x c e)]; exact I.freeC x c e
  · obtain ⟨a, b, c⟩ := I.pin p h
    exact ⟨a, by rw [upd_ne (hp p h)]; exact b, c⟩
  · by_cases z : b = ea
    · subst z
      rw [upd_same] at e
      cases e
      exact new
    · rw [upd_ne z] at e
      exact (I.hok b u e).stay (fun _ _ _ q => q) (fun c q => by rw [upd_ne (ne c _ q)]; exact q) fun c xs q => by rw [upd_ne (ne c _ q)]; exact q
end

/-! ### an exception that a loop lets by -/

def tTry (K : PySem.W.Frag) (cT : Value) (i : Nat) (Hand : St → XK) (tb : TS) (ts : Addr → TS) : TS := fun D σ H => tb D σ H ∧ ∀ σ' cls H', Hand σ' cls none H' → PySem.W.exmOne K cls cT = some true ∧
  ∀ ea, H' ea = none → ts ea { nx := fun σ2 H2 => D.nx (σ2.set i none) H2, rt := D.rt, bk := fun σ2 H2 => D.bk (σ2.set i none) H2, ct := fun σ2 H2 => D.ct (σ2.set i none) H2 } (σ'.set i (some (.ref ea))) (upd H' ea (excO ea cls))
theorem ps_try {X : Cx} {body suite : List Stmt} {b₀ : Stmt} {x n : Str} {np hpos pos : Pos} {i : Nat} {tb : TS} {ts : Addr → TS} {cT : Value} (Hand : St → XK) (hN : X.N.Nodup) (hi : X.N[i]? = some n) (hlo : X.env.scope.names.lookup n = some .local)
    (hst : X.stack = X.env :: X.outer) (hfr : X.env.frame = some X.env.locals) (hex : X.ex = []) (hg : Gl X x) (hm : X.mg x = some cT) (hb : ∀ pins, PSs (X.tryC pins Hand) body tb) (hs : ∀ ea, PSs (X.hand ea) (b₀ :: suite) (ts ea))
    (hd : (x == ("__debug__" : Str)) = false := by decide) : PS X (.Try body [.ExceptHandler (some (.Name x np)) (some n) (b₀ :: suite) hpos] [] [] pos) (tTry X.K cT i Hand tb ts) := by
  intro pins s σ H D I h
  obtain ⟨hbody, hh⟩ := h
  refine wpAny_Try_except (wpAny_mono (hb pins [] s σ H D I.intry hbody) (fun f s1 q => ?_) fun e s1 q => ?_)
  · have q' := SP.untry (pins := pins) q
    cases f with
    | next => exact wpAny_execs_nil q'
    | ret v => exact q'
    | brk => exact q'
    | cont => exact q'
  · obtain ⟨σ', H0, s0, H', ea, cls, rfl, I0, fy, hH⟩ := q
    obtain ⟨B, a0, hfl, hok, hB⟩ := fy.fl
    obtain ⟨hmat, hsu⟩ := hh σ' cls H' hH
    have hfl' : FlyHeld X.env.locals B (X.env :: X.outer) ea cls a0 s1.heap := by rw [← hst]; exact hfl
    refine wpAny_keep2 keep2_note fy.cx (look_any (env := X.env) (outer := X.outer) (L := X.env.locals) (by rw [I.ok.frames, hst]) hfr hfl' fun h4 held4 up4 c4 => ?_)
    refine wpAny_keep2 (s := { s1 with heap := h4 }) keep2_flight c4 (wpAny_landsW (s := { s1 with heap := h4 }) held4 fun h5 hfl5 up5 c5 => ?_)
    have en : B.get? ea = none := hfl.no
    have hfn : ea ∉ frs X.stack := fun z => by
      obtain ⟨_, o2, ho2, hnf⟩ := hfl.ff.mem (mem_frs z)
      obtain ⟨oe, vs, he, _, hd2⟩ := hfl.there
      rw [he] at ho2
      cases ho2
      exact hnf vs hd2
    have new : ∀ b o, s0.heap.get? b = some o → b ≠ ea := fun b o e z => by
      rw [z] at e
      obtain ⟨o', e', _⟩ := hB ea o e hfn
      rw [en] at e'
      cases e'
    have un5 : Un (frs X.stack) [] H0 H' s0.heap h5 := fy.un hfl.ff hB hfl5.1 (up4.trans up5)
    have I5 : Inv X pins σ' H' { s1 with heap := h5 } := I0.call' (s' := { s1 with heap := h5 }) fy.os un5 (hok.kept hfl5.1) fy.bare (fun b z => absurd z (by simp))
    have hne : H' ea = none := by
      cases q : H' ea with
      | none => rfl
      | some o =>
        obtain ⟨u, e⟩ := (hok ea o q).there
        rw [en] at e
        cases e
    refine wpAny_handleBy_cons (codeAny_handlers_test ?_) (by intro q; cases q)
    refine ld_glob (X := X.hand ea) I5.tohand hg hm ?_ hd
    obtain ⟨oe, vs, he5, hc5, hd5, _⟩ := hfl5.first
    have LT : PySem.W.Looks (model X.prog X.w) h5 (typeOf (.ref ea)) cls := by
      rw [← hc5]
      exact (PySem.W.Looks.ld he5).andThen .now
    refine (PySem.W.exm_one (M := model X.prog X.w) I5.kIn LT hmat).here ?_
    rw [if_pos rfl]
    refine codeAny_handlers_suite_as ?_
    refine wpAny_keep2 (s := { s1 with heap := h5 }) keep2_flight c5 (lands_againW (s := { s1 with heap := h5 }) hfl5 fun h6 hfl6 up6 c6 => ?_)
    have un6 : Un (frs X.stack) [] H0 H' s0.heap h6 := fy.un hfl.ff hB hfl6.1 ((up4.trans up5).trans up6)
    have I6 : Inv X pins σ' H' { s1 with heap := h6 } := I0.call' (s' := { s1 with heap := h6 }) fy.os un6 (hok.kept hfl6.1) fy.bare (fun b z => absurd z (by simp))
    obtain ⟨oe6, vs6, he6, hc6, hd6, _⟩ := hfl6.first
    have hv6 : vs6[2]? = some Value.none := by
      obtain ⟨o, ho, vs, hd, hv⟩ := (show C2 ea h6 from c6)
      rw [he6] at ho
      cases ho
      rw [hd6] at hd
      cases hd
      exact hv
    have I7 : Inv X pins σ' (upd H' ea (excO ea cls)) { s1 with heap := h6 } := I6.track hne (fun b u e z => by
        obtain ⟨o', e'⟩ := I0.base.there b u e (by rw [hex]; simp)
        exact new b o' e' z) (fun z => by
        obtain ⟨m, ⟨o, _, _, ho, _⟩, _⟩ := I0.loc
        exact new _ o ho z.symm) (fun y c e => by
        obtain ⟨v, o, ho, _⟩ := I0.cell y c e
        exact new c o ho) (fun p hp => new p.1 p.2 (I0.pin p hp).1) ⟨⟨oe6, vs6, he6, hc6, hd6, hv6⟩, ⟨oe6, he6⟩, fun h1 h2 ⟨o, ws, q1, q2, q3⟩ k => ⟨o, ws, k o q1, q2, q3⟩⟩
    · refine store_ok (X := X.hand ea) (M := model X.prog X.w) I7.tohand hN hi (.inl hlo) (show RelV (.ref ea) (.ref ea) from rfl) (fun s7 I8 => ?_) (.inr hlo)
      refine wpAny_mono (hs ea pins s7 _ _ _ I8 (hsu ea hne)) (fun f s8 q => ?_) fun _ _ z => False.elim z
      cases f with
      | next =>
        obtain ⟨σ2, H2, J, q⟩ := q
        exact goes_ok (J.unhand I.ok.hd) hN hi hlo fun s9 J2 => ⟨_, _, J2, q⟩
      | brk =>
        obtain ⟨σ2, H2, J, q⟩ := q
        exact goes_ok (J.unhand I.ok.hd) hN hi hlo fun s9 J2 => ⟨_, _, J2, q⟩
      | cont =>
        obtain ⟨σ2, H2, J, q⟩ := q
        exact goes_ok (J.unhand I.ok.hd) hN hi hlo fun s9 J2 => ⟨_, _, J2, q⟩
      | ret v =>
        obtain ⟨x2, σ2, H2, J, r, q⟩ := q
        exact goes_ok (J.unhand I.ok.hd) hN hi hlo fun s9 J2 => ⟨_, _, _, J2, r, q⟩
end L2

/-! LAMP C: list comprehensions -/
namespace L2
open PySem PySem.Spec PyProof.Rows

/-! ### the block's environment -/
theorem cellsFrom_app : ∀ (names : List (Str × NameKind)) (n : Nat) (acc : List (Str × Addr)), cellsFrom n names acc = cellsFrom n names [] ++ acc
  | [], _, acc => rfl
  | (x, k) :: r, n, acc => by
    unfold cellsFrom
    split
    · rw [cellsFrom_app r (n + 1) ((x, n) :: acc), cellsFrom_app r (n + 1) [(x, n)], List.append_assoc]
      rfl
    · exact cellsFrom_app r n acc
theorem mem_cellsFrom : ∀ {names : List (Str × NameKind)} {n : Nat} {x : Str} {c : Addr}, (x, c) ∈ cellsFrom n names [] → (x, NameKind.cell) ∈ names
  | [], n, x, c, h => by cases h
  | (y, k) :: r, n, x, c, h => by
    unfold cellsFrom at h
    split at h
    · rename_i hk
      rw [cellsFrom_app] at h
      rcases List.mem_append.mp h with h | h
      · exact List.mem_cons_of_mem _ (mem_cellsFrom h)
      · have e : (x, c) = (y, n) := by simpa using h
        have hk' : k = .cell := by simpa using hk
        injection e with e1 e2
        subst e1 hk'
        exact List.mem_cons_self
    · exact List.mem_cons_of_mem _ (mem_cellsFrom h)
theorem lookup_app {α : Type} {l1 l2 : List (Str × α)} {x : Str} : (l1 ++ l2).lookup x = (l1.lookup x).or (l2.lookup x) := by
  induction l1 with
  | nil => rfl
  | cons p r ih =>
    obtain ⟨y, c⟩ := p
    rw [List.cons_append, List.lookup_cons, List.lookup_cons]
    cases x == y
    · exact ih
    · rfl

theorem compEnv_ok {M : Model} {A : Around} {E : Value → Shared → Prop} {s : Shared} {scope : Scope} {globals : Addr} {cl : List (Str × Addr)} {qual : Str} {env : Env} {Q : Env → Shared → Prop}
    (hQ : ∀ h', (∀ b o, s.heap.get? b = some o → h'.get? b = some o) → h'.Ns s.heap.objs.size (fun _ => none) → CellsOk h' (s.heap.objs.size + 1) (cellsFrom (s.heap.objs.size + 1) scope.names []) →
      Q { scope, locals := s.heap.objs.size, globals, cells := cellsFrom (s.heap.objs.size + 1) scope.names cl, qual, func := none, code := env.code, frame := env.frame, builtins := env.builtins } { s with heap := h' }) :
    wpAny M A (newFunctionEnv scope globals cl [] qual none .none (some env)) Q E s := by
  simp only [newFunctionEnv, Option.isSome_some, if_true]
  refine wpAny_bind (wpAny_alloc ?_)
  refine wpAny_bind (wpAny_layCells _ (fun name kind cells => by cases hkc : kind == NameKind.cell <;> simp [hkc]) _ _ _ _ ?_)
  have ok := cellsFrom_ok scope.names (s.heap.push { cls := .type "dict", data := .dict #[] }) (s.heap.objs.size + 1) [] ⟨fun _ _ hm => (nomatch hm), List.Pairwise.nil⟩ (by rw [Heap.size_push]; exact Nat.le_refl _)
  rw [Heap.size_push] at ok
  have q := hQ (pushCells (s.heap.push { cls := .type "dict", data := .dict #[] }) scope.names) (fun b o e => pushCells_keeps _ _ b o (Heap.get?_push_of_some _ e)) ((Heap.Ns.new s.heap (.type "dict")).keeps (pushCells_keeps _ _)) ok
  rw [show ({ s with heap := s.heap.push { cls := .type "dict", data := .dict #[] } } : Shared).heap.objs.size = s.heap.objs.size + 1 from Heap.size_push ..]
  exact wpAny_bind (wpAny_pure (wpAny_pure q))

def closL (cells : List (Str × Addr)) : List (Str × NameKind) → List (Str × Addr) → List (Str × Addr)
  | [], cs => cs
  | (n, k) :: r, cs => closL cells r (if k = .free then (n, (cells.lookup n).getD 0) :: cs else cs)
theorem closureFor_of {scope : Scope} {env : Env} (h : ∀ y ∈ scope.names, y.2 = .free → (env.cells.lookup y.1).isSome = true) : closureFor scope env = pure (closL env.cells scope.names []) := by
  have go : ∀ (names : List (Str × NameKind)) (cs : List (Str × Addr)), (∀ y ∈ names, y.2 = .free → (env.cells.lookup y.1).isSome = true) →
      (forIn names cs fun x r => (match x with | (name, kind) => if (kind == NameKind.free) = true then do let a ← cellOf env name; pure (ForInStep.yield ((name, a) :: r)) else pure (ForInStep.yield r) : Sem (ForInStep (List (Str × Addr))))) = pure (closL env.cells names cs) := by
    intro names
    induction names with
    | nil => intro cs _; rfl
    | cons y r ih =>
      obtain ⟨n, k⟩ := y
      intro cs hy
      rw [List.forIn_cons]
      by_cases hk : k = .free
      · subst hk
        obtain ⟨c, hc⟩ := Option.isSome_iff_exists.mp (hy (n, .free) List.mem_cons_self rfl)
        have e : cellOf env n = pure c := by unfold cellOf; rw [hc]
        simp only [beq_self_eq_true, if_true, e, pure_bind]
        rw [ih _ fun y hm => hy y (List.mem_cons_of_mem _ hm)]
        simp [closL, hc]
      · have hb : (k == NameKind.free) = false := by simpa using hk
        simp only [hb, Bool.false_eq_true, if_false, pure_bind]
        rw [ih _ fun y hm => hy y (List.mem_cons_of_mem _ hm)]
        simp [closL, hk]
  exact Eq.trans (congrArg (fun z => z >>= pure) (go scope.names [] h)) rfl
theorem closL_look {cells : List (Str × Addr)} {x : Str} {c : Addr} : ∀ {names : List (Str × NameKind)} {cs : List (Str × Addr)}, (closL cells names cs).lookup x = some c → (x, NameKind.free) ∈ names ∧ (cells.lookup x).getD 0 = c ∨ cs.lookup x = some c
  | [], cs, h => .inr h
  | (n, k) :: r, cs, h => by
    unfold closL at h
    rcases closL_look h with ⟨h1, h2⟩ | h2
    · exact .inl ⟨List.mem_cons_of_mem _ h1, h2⟩
    · by_cases hk : k = .free
      · rw [if_pos hk, List.lookup_cons] at h2
        cases hx : x == n with
        | true =>
          rw [hx] at h2
          have e : x = n := by simpa using hx
          subst e hk
          exact .inl ⟨List.mem_cons_self, Option.some.inj h2⟩
        | false => rw [hx] at h2; exact .inr h2
      · rw [if_neg hk] at h2; exact .inr h2
theorem closL_has {cells : List (Str × Addr)} {x : Str} : ∀ {names : List (Str × NameKind)} {cs : List (Str × Addr)}, ((x, NameKind.free) ∈ names ∨ (cs.lookup x).isSome = true) → ((closL cells names cs).lookup x).isSome = true
  | [], cs, h => by
    rcases h with h | h
    · cases h
    · exact h
  | (n, k) :: r, cs, h => by
    unfold closL
    refine closL_has ?_
    rcases h with h | h
    · rcases List.mem_cons.mp h with e | h
      · injection e with e1 e2
        subst e1 e2
        right
        rw [if_pos rfl, List.lookup_cons]
        simp
      · exact .inl h
    · right
      split
      · rw [List.lookup_cons]
        cases x == n
        · exact h
        · rfl
      · exact h

/-! ### the block's context -/
def compCx (X : Cx) (Nc : List Str) (scope : Scope) (cells : List (Str × Addr)) (C : Addr) (s : Shared) (H : Hp) (fp : List Addr) : Cx where
  prog := X.prog
  w := X.w
  K := X.K
  mg := X.mg
  base := X.base
  A := X.A
  N := Nc
  s₀ := s
  H₀ := H
  env := compEnvC scope cells C X.env
  outer := X.stack
  stack := X.stack
  ex := fp
  fn := fun x => scope.names.lookup x == some .cell
  calm := X.calm
  pn := []
  xe := fun _ _ => False
def cσ (n : Nat) (js : List Nat) (σ : St) : St := List.replicate n none ++ js.map fun j => (σ[j]?).join
def cN (vs : List Str) (js : List Nat) (N : List Str) : List Str := vs ++ js.map fun j => N.getD j ""

structure CompScope (X : Cx) (scope : Scope) (vs : List Str) (js : List Nat) : Prop where
  kind : scope.kind = .function
  nd : (scope.names.map (·.1)).Nodup
  fr : ∀ y ∈ scope.names, y.2 = .free → X.env.scope.names.lookup y.1 = some .cell ∨ X.env.scope.names.lookup y.1 = some .free
  sl : ∀ j ∈ js, ∃ x, X.N[j]? = some x ∧ (x, NameKind.free) ∈ scope.names
  cnd : (cN vs js X.N).Nodup

theorem lookup_of_nd {α : Type} : ∀ {l : List (Str × α)} {x : Str} {v : α}, (l.map (·.1)).Nodup → (x, v) ∈ l → l.lookup x = some v
  | (y, u) :: r, x, v, nd, h => by
    rw [List.map_cons, List.nodup_cons] at nd
    rw [List.lookup_cons]
    rcases List.mem_cons.mp h with e | h2
    · injection e with e1 e2
      subst e1 e2
      simp
    · have hne : (x == y) = false := by
        rw [beq_eq_false_iff_ne]
        intro z
        subst z
        exact nd.1 (List.mem_map.mpr ⟨(x, v), h2, rfl⟩)
      rw [hne]
      exact lookup_of_nd nd.2 h2
theorem relabel_look {scope : Scope} {env : Env} {x : Str} {k : NameKind} (hf : env.scope.kind = .function) : (relabel scope env).names.lookup x = some k →
    (scope.names.lookup x = some k) ∨ (k = .cell ∧ scope.names.lookup x = some .free ∧ env.kindOf x = some .cell) := by
  unfold relabel
  dsimp only
  generalize scope.names = l
  induction l with
  | nil => intro h; cases h
  | cons p r ih =>
    obtain ⟨n, k0⟩ := p
    rw [List.map_cons]
    intro h
    rw [List.lookup_cons]
    by_cases hc : (k0 == .free && env.scope.kind == .function && env.kindOf n == some .cell) = true
    · rw [if_pos hc, List.lookup_cons] at h
      cases hx : x == n with
      | false => rw [hx] at h; exact ih h
      | true =>
        rw [hx] at h
        have e : x = n := by simpa using hx
        subst e
        simp only [Bool.and_eq_true, beq_iff_eq] at hc
        exact .inr ⟨(Option.some.inj h).symm, congrArg some hc.1.1, hc.2⟩
    · rw [if_neg hc, List.lookup_cons] at h
      cases hx : x == n with
      | false => rw [hx] at h; exact ih h
      | true => rw [hx] at h; exact .inl h
theorem relabel_free {scope : Scope} {env : Env} {x : Str} : scope.names.lookup x = some .free → (relabel scope env).names.lookup x = some .cell ∨ (relabel scope env).names.lookup x = some .free := by
  unfold relabel
  dsimp only
  generalize scope.names = l
  induction l with
  | nil => intro h; cases h
  | cons p r ih =>
    obtain ⟨n, k0⟩ := p
    rw [List.map_cons]
    intro h
    rw [List.lookup_cons] at h
    by_cases hc : (k0 == .free && env.scope.kind == .function && env.kindOf n == some .cell) = true
    · rw [if_pos hc, List.lookup_cons]
      cases hx : x == n with
      | false => rw [hx] at h; exact ih h
      | true => exact .inl rfl
    · rw [if_neg hc, List.lookup_cons]
      cases hx : x == n with
      | false => rw [hx] at h; exact ih h
      | true => rw [hx] at h; exact .inr h

section
variable {X : Cx} {pins : List (Addr × Obj)} {σ : St} {H : Hp} {s : Shared} {scope : Scope} {vs : List Str} {js : List Nat} {fp : List Addr}
theorem CompScope.clos (S : CompScope X scope vs js) (I : Inv X pins σ H s) : closureFor scope X.env = pure (closL X.env.cells scope.names []) :=
  closureFor_of fun y hy hf => by
    obtain ⟨c, e⟩ := I.ok.has y.1 (S.fr y hy hf)
    rw [e]; rfl
theorem Inv.block (I : Inv X pins σ H s) (S : CompScope X scope vs js) (hfp : ∀ b ∈ fp, FpOk X pins H b) (hfo : ∀ b ∈ fp, ∃ o, s.heap.get? b = some o) {h' : Heap} (hk : ∀ b o, s.heap.get? b = some o → h'.get? b = some o)
    (hn : h'.Ns s.heap.objs.size (fun _ => none)) (hc : CellsOk h' (s.heap.objs.size + 1) (cellsFrom (s.heap.objs.size + 1) scope.names [])) :
    Inv (compCx X (cN vs js X.N) scope (cellsFrom (s.heap.objs.size + 1) scope.names (closL X.env.cells scope.names [])) s.heap.objs.size s H fp) [] (cσ vs.length js σ) H { s with heap := h' } := by
  -- a cell of the block: its own, or one of the frame's
  have split : ∀ x c, (cellsFrom (s.heap.objs.size + 1) scope.names (closL X.env.cells scope.names [])).lookup x = some c →
      ((x, c) ∈ cellsFrom (s.heap.objs.size + 1) scope.names [] ∧ scope.names.lookup x = some .cell) ∨ (X.env.cells.lookup x = some c ∧ (x, NameKind.free) ∈ scope.names) := fun x c e => by
    rw [cellsFrom_app, lookup_app] at e
    cases q : (cellsFrom (s.heap.objs.size + 1) scope.names []).lookup x with
    | some c' =>
      rw [q] at e
      have e' : c' = c := Option.some.inj e
      subst e'
      have m := PySem.mem_of_lookup q
      exact .inl ⟨m, lookup_of_nd S.nd (mem_cellsFrom m)⟩
    | none =>
      rw [q] at e
      rcases closL_look (show (closL X.env.cells scope.names []).lookup x = some c from e) with ⟨h1, h2⟩ | h2
      · obtain ⟨c', e'⟩ := I.ok.has x (S.fr (x, .free) h1 rfl)
        rw [e'] at h2
        have h2' : c' = c := h2
        subst h2'
        exact .inr ⟨e', h1⟩
      · cases h2
  have join : ∀ x c, X.env.cells.lookup x = some c → (x, NameKind.free) ∈ scope.names → (cellsFrom (s.heap.objs.size + 1) scope.names (closL X.env.cells scope.names [])).lookup x = some c := fun x c e m => by
    rw [cellsFrom_app, lookup_app]
    have hl := lookup_of_nd S.nd m
    cases q : (cellsFrom (s.heap.objs.size + 1) scope.names []).lookup x with
    | some c' =>
      have m' := mem_cellsFrom (PySem.mem_of_lookup q)
      rw [lookup_of_nd S.nd m'] at hl
      cases hl
    | none =>
      show (closL X.env.cells scope.names []).lookup x = some c
      obtain ⟨d, hd⟩ := Option.isSome_iff_exists.mp (closL_has (cells := X.env.cells) (cs := []) (.inl m))
      rw [hd]
      rcases closL_look hd with ⟨_, h2⟩ | h2
      · rw [e] at h2
        exact congrArg some h2.symm
      · cases h2
  have old : ∀ x c, X.env.cells.lookup x = some c → c < s.heap.objs.size := fun x c e => by
    obtain ⟨v, z⟩ := I.cell x c e
    exact z.lt
  refine ⟨⟨I.ok.mod, S.kind, I.ok.glob, I.ok.blt, Nat.le_refl _, fun x y c e1 e2 => ?_, fun x hx => ?_, fun x c hf e => ?_, I.ok.hd, I.ok.frames, .inl rfl, fun b hb => ⟨?_, fun x c e => ?_⟩, I.bs, Nat.le_trans I.ok.bsz I.sz, fun b o e hb => ?_, fun b hb hbs => ?_, I.stack, I.stkFree⟩,
    rfl, I.bare, Un.kept hk, ⟨_, hn, fun i x v e1 e2 e3 => ?_⟩, fun x c e => ?_, I.hok.fresh (Nat.le_refl _), fun x c e => ?_, fun p hp => absurd (show p ∈ ([] : List (Addr × Obj)) from hp) (by simp), I.hok.kept hk, ?_⟩
  · rcases split x c e1 with ⟨m1, _⟩ | ⟨z1, _⟩ <;> rcases split y c e2 with ⟨m2, _⟩ | ⟨z2, _⟩
    · exact name_of_addr hc.apart m1 m2
    · exact absurd (Nat.lt_of_lt_of_le (old y c z2) (Nat.le_of_succ_le (hc.empty x c m1).2)) (Nat.lt_irrefl _)
    · exact absurd (Nat.lt_of_lt_of_le (old x c z1) (Nat.le_of_succ_le (hc.empty y c m2).2)) (Nat.lt_irrefl _)
    · exact I.ok.inj x y c z1 z2
  · have hx : (relabel scope X.env).names.lookup x = some .cell ∨ (relabel scope X.env).names.lookup x = some .free := hx
    have fin : (x, NameKind.free) ∈ scope.names → ∃ c, (cellsFrom (s.heap.objs.size + 1) scope.names (closL X.env.cells scope.names [])).lookup x = some c := fun m => by
      obtain ⟨c, e⟩ := I.ok.has x (S.fr (x, .free) m rfl)
      exact ⟨c, join x c e m⟩
    have own : scope.names.lookup x = some .cell → ∃ c, (cellsFrom (s.heap.objs.size + 1) scope.names (closL X.env.cells scope.names [])).lookup x = some c := fun e =>
      Option.isSome_iff_exists.mp (PySem.W.cellsFrom_some scope.names _ _ (.inl e))
    rcases hx with hx | hx
    · rcases relabel_look I.ok.kind hx with e | ⟨_, e, _⟩
      · exact own e
      · exact fin (PySem.mem_of_lookup e)
    · rcases relabel_look I.ok.kind hx with e | ⟨e, _, _⟩
      · exact fin (PySem.mem_of_lookup e)
      · cases e
  · rcases split x c e with ⟨m, _⟩ | ⟨_, m⟩
    · have := (hc.empty x c m).2
      show s.heap.objs.size ≤ c
      omega
    · have hf' : (scope.names.lookup x == some NameKind.cell) = true := hf
      rw [lookup_of_nd S.nd m] at hf'
      exact absurd hf' (by decide)
  · obtain ⟨o, e⟩ := hfo b hb
    exact Nat.ne_of_lt (Heap.lt_size e)
  · rcases split x c e with ⟨m, _⟩ | ⟨z, _⟩
    · obtain ⟨o, e'⟩ := hfo b hb
      exact Nat.ne_of_gt (Nat.lt_of_lt_of_le (Heap.lt_size e') (Nat.le_of_succ_le (hc.empty x c m).2))
    · exact (hfp b hb).2.2.2.2.1 x c z
  · rcases (hfp b hb).2.2.2.1 with z | z
    · exact I.ok.noex b o e z
    · exact absurd (Nat.lt_of_lt_of_le (Nat.lt_of_lt_of_le (Heap.lt_size e) I.ok.bsz) z) (Nat.lt_irrefl _)
  · rcases List.mem_cons.mp (I.stkSub b hbs) with z | z
    · exact (hfp b hb).2.1 z
    · exact (hfp b hb).2.2.1 z
  · -- a name that the block sees
    have e1 : (vs ++ js.map fun j => X.N.getD j "")[i]? = some x := e1
    have e2 : (List.replicate vs.length none ++ js.map fun j => (σ[j]?).join)[i]? = some (some v) := e2
    by_cases hi : i < vs.length
    · rw [List.getElem?_append_left (by simpa using hi), List.getElem?_replicate, if_pos hi] at e2
      cases e2
    · have hi' : vs.length ≤ i := by omega
      rw [List.getElem?_append_right (by simpa using hi'), List.length_replicate, List.getElem?_map] at e2
      rw [List.getElem?_append_right hi', List.getElem?_map] at e1
      cases q : js[i - vs.length]? with
      | none => rw [q] at e1; cases e1
      | some j =>
        rw [q] at e1 e2
        have e1 : X.N.getD j "" = x := Option.some.inj e1
        have e2 : (σ[j]?).join = some v := Option.some.inj e2
        obtain ⟨x', hx', m⟩ := S.sl j (List.mem_of_getElem? q)
        have ex : x' = x := by
          rw [← e1, List.getD_eq_getElem?_getD, hx']
          rfl
        subst ex
        have hσ : σ[j]? = some (some v) := by
          cases w : σ[j]? with
          | none => rw [w] at e2; cases e2
          | some o =>
            rw [w] at e2
            have e2' : o = some v := e2
            rw [e2']
        obtain ⟨mm, _, hl⟩ := I.loc
        have hfr := S.fr (x', .free) m rfl
        obtain ⟨u, r, l⟩ := hl j x' v hx' hσ (.inr hfr)
        refine ⟨u, r, ?_⟩
        rcases l with ⟨k, _⟩ | ⟨k, c, e, z⟩
        · have k' : X.env.scope.names.lookup x' = some .local := k
          rcases hfr with w | w
          · rw [k'] at w; cases w
          · rw [k'] at w; cases w
        · exact .inr ⟨relabel_free (lookup_of_nd S.nd m), c, join x' c e m, z.keeps hk⟩
  · rcases split x c e with ⟨m, _⟩ | ⟨z, _⟩
    · exact ⟨_, (hc.empty x c m).1⟩
    · obtain ⟨v, q⟩ := I.cell x c z
      exact ⟨v, q.keeps hk⟩
  · rcases split x c e with ⟨m, _⟩ | ⟨z, _⟩
    · exact I.hok.fresh (by have := (hc.empty x c m).2; omega)
    · exact I.freeC x c z
  · show (List.replicate vs.length none ++ js.map fun j => (σ[j]?).join).length = (vs ++ js.map fun j => X.N.getD j "").length
    simp
end

/-! ### the tests of a clause -/
def PF (X : Cx) (ifs : List Expr) (t : TT) : Prop :=
  ∀ (pins : List (Addr × Obj)) (s : Shared) (σ : St) (H : Hp) (Q : Bool → Hp → Prop), Inv X pins σ H s → t σ H Q →
    wpAny (model X.prog X.w) X.A (forIn ifs true fun c r => if r = true then do let ok ← isTrue c X.env (eval c X.env); pure (ForInStep.yield ok) else pure (ForInStep.yield r)) (TP X pins σ Q) X.xe s
def tAll : TT := fun _ H Q => Q true H
theorem pf_nil {X : Cx} : PF X [] tAll := fun pins s σ H Q I h => by
  rw [List.forIn_nil]
  exact wpAny_pure ⟨H, I, h⟩
theorem pf_one {X : Cx} {c : Expr} {t : TT} (h : PT X c t) : PF X [c] t := fun pins s σ H Q I hq => by
  rw [List.forIn_cons]
  simp only [if_true]
  refine wpAny_bind (wpAny_bind (thn (h pins s σ H Q I hq) fun b s1 e => wpAny_pure ?_))
  dsimp only
  rw [List.forIn_nil]
  exact wpAny_pure e

/-! ### the loop -/
theorem compLoop_go {prog : Program} {w : World} {A : Around} {R : Result → Shared → Prop} {s : Shared} {elt target iter : Expr} {ifs : List Expr} {scope : Scope} {pos : Pos} {it acc : Value} {env : Env} (I : Nat → Shared → Prop)
    (turn : ∀ n s, I n s → wpAny (model prog w) A (pyNext it) (fun r s₁ => match r with
      | none => R (.ok .next) s₁
      | some v => wpAny (model prog w) A (letOwnedTupleGo target it v) (fun _ s₂ => wpAny (model prog w) A (assign target env v) (fun _ s₃ =>
          wpAny (model prog w) A (forIn ifs true fun c r => if r = true then do let ok ← isTrue c env (eval c env); pure (ForInStep.yield ok) else pure (ForInStep.yield r)) (fun ok s₄ =>
            if ok = true then wpAny (model prog w) A (eval elt env) (fun x s₅ => wpAny (model prog w) A (call (.builtin "list.append") [acc, x]) (fun _ s₆ => ∃ m, m < n ∧ I m s₆) (fun _ _ => False) s₅) (fun _ _ => False) s₄
            else ∃ m, m < n ∧ I m s₄) (fun _ _ => False) s₃) (fun _ _ => False) s₂) (fun _ _ => False) s₁) (fun _ _ => False) s)
    (n : Nat) (h : I n s) : codeAny (model prog w) A (.compLoop (.ListComp elt [⟨target, iter, ifs, 0⟩] scope pos) 0 it acc env) R s := by
  refine codeAny_loop rfl I (fun n s hI => ?_) n h
  show wpAny _ A ((compTurn (.ListComp elt [⟨target, iter, ifs, 0⟩] scope pos) 0 it acc env).onRaise (fun x => do noteFrame x env; theTreesLotGoes x)) _ _ s
  refine wpAny_noted ?_
  rw [compTurn_list]
  refine wpAny_bind (wpAny_standAt (wpAny_bind (wpAny_mono (turn n s hI) (fun r s1 h1 => ?_) fun _ _ z => z.elim)))
  cases r with
  | none => exact wpAny_pure h1
  | some v =>
    refine wpAny_bind (wpAny_mono h1 (fun _ s2 h2 => ?_) fun _ _ z => z.elim)
    refine wpAny_bind (wpAny_mono h2 (fun _ s3 h3 => wpAny_bind (wpAny_mono h3 (fun ok s4 h4 => ?_) fun _ _ z => z.elim)) fun _ _ z => z.elim)
    cases ok with
    | false => exact wpAny_pure ⟨rfl, h4⟩
    | true =>
      refine wpAny_bind (wpAny_bind (wpAny_mono h4 (fun x s5 h5 => wpAny_bind (wpAny_mono h5 (fun _ s6 h6 => wpAny_pure (wpAny_pure ⟨rfl, h6⟩)) fun _ _ z => z.elim)) fun _ _ z => z.elim))

/-! ### a comprehension's reading -/
def tCompAt (n : Nat) (js : List Nat) (g : TG) (ti : TT) (te : TE) (σ : St) (Q : VK) (J : It) (H1 : Hp) : Prop := ∀ D, H1 D = none → ∃ W : Nat → Nat → List V → Hp → Prop, (∃ m, W 0 m [] (upd H1 D (.lst []))) ∧ ∀ i m ys H, W i m ys H →
  H D = some (.lst ys) ∧ ((J.stop i H ∧ Q (.ref D) H) ∨ (J.go i H ∧ ∀ x H', J.yld i H x H' → g x (cσ n js σ) H' fun σ2 H2 =>
    ((∀ (k : Nat) v, (cσ n js σ)[k]? = some (some v) → σ2[k]? = some (some v)) ∧ σ2.length = (cσ n js σ).length) ∧ ti σ2 H2 fun b H3 =>
      if b = true then te σ2 H3 fun v H4 => H4 D = some (.lst ys) ∧ ys.length < sizeLine ∧ ∃ m', m' < m ∧ W (i + 1) m' (ys ++ [v]) (upd H4 D (.lst (ys ++ [v])))
      else ∃ m', m' < m ∧ W (i + 1) m' ys H3))

structure BlkOk (X : Cx) (pins : List (Addr × Obj)) (H : Hp) (C : Addr) (h : Heap) : Prop where
  ns : ∃ m, h.Ns C m
  fr : H C = none
  nL : C ≠ X.env.locals
  ab : X.s₀.heap.objs.size ≤ C
  cl : ∀ x c, X.env.cells.lookup x = some c → c ≠ C
  pn : ∀ p ∈ X.pn ++ pins, p.1 ≠ C

section
variable {X : Cx} {elt target iter : Expr} {ifs : List Expr} {scope : Scope} {pos : Pos} {vs : List Str} {js : List Nat} {wi : TI} {g : TG} {ti : TT} {te : TE}
theorem comp_core (hc : X.calm = true) (S : CompScope X scope vs js) (hi : PI X target iter wi)
    (hg : ∀ cells C s H fp, PG (compCx X (cN vs js X.N) scope cells C s H fp) target g) (ht : ∀ cells C s H fp, PF (compCx X (cN vs js X.N) scope cells C s H fp) ifs ti) (he : ∀ cells C s H fp, PE (compCx X (cN vs js X.N) scope cells C s H fp) elt te)
    {pins : List (Addr × Obj)} {s : Shared} {σ : St} {H : Hp} {Q : VK} {R : It → Hp → Prop} {RR : Value → Addr → Result → Shared → Prop} (I : Inv X pins σ H s) (h : wi σ H R) (hR : ∀ J H1, R J H1 → tCompAt vs.length js g ti te σ Q J H1)
    (hRR : ∀ D C H' s', Inv X pins σ H' s' → BlkOk X pins H' C s'.heap → Q (.ref D) H' → RR (.ref D) C (.ok .next) s') :
    wpAny (model X.prog X.w) X.A (eval iter X.env) (fun x s₁ => wpAny (model X.prog X.w) X.A (pyIter x) (fun it s₂ => wpAny (model X.prog X.w) X.A (newList []) (fun acc s₃ =>
      wpAny (model X.prog X.w) X.A (newFunctionEnv scope X.env.globals (closL X.env.cells scope.names []) [] X.env.qual none .none (some X.env)) (fun cenv s₄ =>
        codeAny (model X.prog X.w) X.A (.compStart (.ListComp elt [⟨target, iter, ifs, 0⟩] scope pos) 0 it acc { cenv with scope := relabel scope X.env }) (RR acc cenv.locals) s₄) X.xe s₃) X.xe s₂) X.xe s₁) X.xe s := by
  refine thn (hi pins s σ H _ I h) fun v s1 h1 => thn h1 fun itv s2 h2 => ?_
  obtain ⟨it, fp, tn, J, H2, e, I2, T, st2, f2, hD0⟩ := h2
  have hD := hR J H2 hD0
  subst e
  refine wpAny_newObj_type ?_ (Nat.zero_le _)
  have I3 := I2.lnew (ys := []) (its := []) (t' := s2.toks) .nil (Nat.zero_le _)
  have nD : H2 s2.heap.objs.size = none := I2.hok.fresh (Nat.le_refl _)
  obtain ⟨W, ⟨m0, w0⟩, turn⟩ := hD s2.heap.objs.size nD
  have fo : ∀ b ∈ fp, ∃ o, s2.heap.get? b = some o := fun b hb => let ⟨o, e, _⟩ := T.obj 0 _ st2 b hb; ⟨o, e⟩
  have f3 : ∀ b ∈ fp, FpOk X pins (upd H2 s2.heap.objs.size (.lst [])) b := fun b hb => by
    obtain ⟨o, e⟩ := fo b hb
    exact ⟨by rw [upd_ne (Nat.ne_of_lt (Heap.lt_size e))]; exact (f2 b hb).1, (f2 b hb).2⟩
  refine compEnv_ok fun h4 hk4 hn4 hc4 => ?_
  have B := I3.block S f3 (fun b hb => let ⟨o, e⟩ := fo b hb; ⟨o, Heap.get?_push_of_some _ e⟩) hk4 hn4 hc4
  have tn0 : tn 0 h4 := T.keep 0 s2.heap h4 st2 fun b hb o e => hk4 b o (Heap.get?_push_of_some _ e)
  generalize hX : compCx X (cN vs js X.N) scope (cellsFrom ((s2.heap.push { cls := .type "list", data := .seq ([] : List Value).toArray }).objs.size + 1) scope.names (closL X.env.cells scope.names [])) (s2.heap.push { cls := .type "list", data := .seq ([] : List Value).toArray }).objs.size
    { s2 with heap := s2.heap.push { cls := .type "list", data := .seq ([] : List Value).toArray }, toks := s2.toks } (upd H2 s2.heap.objs.size (.lst [])) fp = Xc at B
  have stat : ∀ {Hc : Hp} {σc : St} {sc : Shared} {pc : List (Addr × Obj)}, Inv Xc pc σc Hc sc → (∀ b ∈ fp, Hc b = none) → ∀ b ∈ fp, FpOk Xc [] Hc b := fun {Hc σc sc pc} J hn b hb => by
    have hb' : b ∈ Xc.ex := by rw [← hX]; exact hb
    refine ⟨hn b hb, (J.ok.exf b hb').1, J.ok.exfs b hb', .inl hb', (J.ok.exf b hb').2, fun p hp => ?_⟩
    rw [← hX] at hp
    exact absurd (show p ∈ ([] : List (Addr × Obj)) from hp) (by simp)
  have loop : codeAny (model X.prog X.w) X.A (.compLoop (.ListComp elt [⟨target, iter, ifs, 0⟩] scope pos) 0 (.ref it) (.ref s2.heap.objs.size) Xc.env) (RR (.ref s2.heap.objs.size) Xc.env.locals)
      { s2 with heap := h4, toks := s2.toks } := by
    refine compLoop_go (fun n s' => ∃ i Hc ys, Inv Xc [] (cσ vs.length js σ) Hc s' ∧ tn i s'.heap ∧ (∀ b ∈ fp, Hc b = none) ∧ W i n ys Hc) ?_ m0 ⟨0, _, [], B, tn0, fun b hb => (f3 b hb).1, w0⟩
    rintro n s5 ⟨i, Hc, ys, I5, st5, fr5, w5⟩
    have eP : Xc.prog = X.prog := by rw [← hX]; rfl
    have eW : Xc.w = X.w := by rw [← hX]; rfl
    have eK : Xc.K = X.K := by rw [← hX]; rfl
    have eA : Xc.A = X.A := by rw [← hX]; rfl
    have eC : Xc.calm = true := by rw [← hX]; exact hc
    have eE : Xc.xe = fun _ _ => False := by rw [← hX]; rfl
    obtain ⟨hD5, way⟩ := turn i n ys Hc w5
    rcases way with ⟨stop, q⟩ | ⟨go, step⟩
    · rw [← eA]
      refine thn (T.done Xc eP eW eK eC i [] s5 _ Hc (fun _ _ => False) I5 (stat I5 fr5) st5 stop) fun r s6 ⟨hr, I6⟩ => ?_
      subst hr
      show RR _ _ _ s6
      have un : Un (frs X.stack) fp (upd H2 s2.heap.objs.size (.lst [])) Hc (s2.heap.push { cls := .type "list", data := .seq ([] : List Value).toArray }) s6.heap := by
        have := I6.base
        rw [← hX] at this
        exact this
      have os6 : s6.os = s2.os := by
        have := I6.os
        rw [← hX] at this
        exact this
      have hok6 : HOk X.prog X.w Hc s6.heap := by
        have := I6.hok
        rw [eP, eW] at this
        exact this
      have I7 : Inv X pins σ Hc s6 := I3.call' (s' := s6) os6 un hok6 I6.bare fun b hb => ⟨(f3 b hb).2.2.2.1, (f3 b hb).2.1, (f3 b hb).2.2.2.2.1, (f3 b hb).2.2.2.2.2⟩
      have eL : Xc.env.locals = (s2.heap.push { cls := .type "list", data := .seq ([] : List Value).toArray }).objs.size := by rw [← hX]; rfl
      obtain ⟨m, hm, _⟩ := I6.loc
      refine hRR _ _ _ _ I7 ⟨⟨m, hm⟩, I6.free, ?_, ?_, fun x c e => ?_, fun p hp => ?_⟩ q
      · rw [eL]
        exact Nat.ne_of_gt I3.lt
      · rw [eL]
        exact I3.sz
      · obtain ⟨v, z⟩ := I3.cell x c e
        rw [eL]
        exact Nat.ne_of_lt z.lt
      · rw [eL]
        exact Nat.ne_of_lt (Heap.lt_size (I3.pin p hp).1)
    · rw [← eA]
      refine thn (T.item Xc eP eW eK eC i [] s5 _ Hc (fun _ _ => False) I5 (stat I5 fr5) st5 go) fun r s6 ⟨u, hr, h6⟩ => ?_
      subst hr
      refine thn h6 fun _ s7 ⟨x, H7, I7, rx, y7, st7, fr7⟩ => ?_
      have I7' := I7.pinned (stat I7 fr7) (T.obj _ _ st7)
      have PGx : PG Xc target g := by rw [← hX]; exact hg _ _ _ _ _
      have PFx : PF Xc ifs ti := by rw [← hX]; exact ht _ _ _ _ _
      have PEx : PE Xc elt te := by rw [← hX]; exact he _ _ _ _ _
      have back : ∀ {σ8 : St} {H8 : Hp} {s8 : Shared}, Inv Xc ([] ++ pinsAt fp s7.heap) σ8 H8 s8 → ((∀ (k : Nat) v, (cσ vs.length js σ)[k]? = some (some v) → σ8[k]? = some (some v)) ∧ σ8.length = (cσ vs.length js σ).length) →
          Inv Xc [] (cσ vs.length js σ) H8 s8 ∧ tn (i + 1) s8.heap ∧ ∀ b ∈ fp, H8 b = none := fun {σ8 H8 s8} J wk => by
        have at_ : ∀ b o, b ∈ fp → s7.heap.get? b = some o → s8.heap.get? b = some o ∧ H8 b = none := fun b o hb e => by
          have := J.pin (b, o) (List.mem_append_right _ (List.mem_append_right _ (mem_pinsAt hb e)))
          exact ⟨this.1, this.2.1⟩
        refine ⟨J.unpinned.weak wk.2.symm wk.1, T.keep _ _ _ st7 fun b hb o e => (at_ b o hb e).1, fun b hb => ?_⟩
        obtain ⟨o, e, _⟩ := T.obj _ _ st7 b hb
        exact (at_ b o hb e).2
      have PGr := PGx _ s7 (cσ vs.length js σ) H7 x u _ I7' rx (step x H7 y7)
      rw [eE, eP, eW] at PGr
      refine thn PGr fun _ s8 ⟨σ8, H8, I8, wk, q8⟩ => ?_
      have PFr := PFx _ s8 σ8 H8 _ I8 q8
      rw [eE, eP, eW] at PFr
      refine thn PFr fun b s9 ⟨H9, I9, q9⟩ => ?_
      cases b with
      | false =>
        rw [if_neg Bool.false_ne_true] at q9 ⊢
        obtain ⟨m', hm', w'⟩ := q9
        obtain ⟨J1, J2, J3⟩ := back I9 wk
        exact ⟨m', hm', i + 1, H9, ys, J1, J2, J3, w'⟩
      | true =>
        rw [if_pos rfl] at q9 ⊢
        have PEr := PEx _ s9 σ8 H9 _ I9 q9
        rw [eE, eP, eW] at PEr
        refine thn PEr fun z s10 ⟨v, H10, I10, rv, hD10, hz, m', hm', w'⟩ => ?_
        have AP := mt_append (X := Xc) _ s10 σ8 H10 (.ref s2.heap.objs.size) [v] (.ref s2.heap.objs.size) [z] (fun r H11 => r = .non ∧ H11 = upd H10 s2.heap.objs.size (.lst (ys ++ [v]))) I10 rfl (.cons rv .nil) ⟨_, ys, v, rfl, rfl, hD10, hz, rfl, rfl⟩
        rw [eE, eP, eW] at AP
        refine thn AP fun _ s11 ⟨_, H11, I11, _, _, e11⟩ => ?_
        subst e11
        obtain ⟨J1, J2, J3⟩ := back I11 wk
        exact ⟨m', hm', i + 1, _, ys ++ [v], J1, J2, J3, w'⟩
  rw [← hX] at loop
  exact codeAny_compStart_list loop (T.self X.A 0 _ _ _ tn0 loop)

def compOk (N : List Str) (fs scope : Scope) (vs : List Str) (js : List Nat) : Bool :=
  scope.kind == .function && decide ((scope.names.map (·.1)).Nodup) && scope.names.all (fun y => y.2 != .free || fs.names.lookup y.1 == some .cell || fs.names.lookup y.1 == some .free) &&
    js.all (fun j => match N[j]? with | some x => scope.names.contains (x, .free) | none => false) && decide ((cN vs js N).Nodup)
theorem CompScope.of (h : compOk X.N X.env.scope scope vs js = true) : CompScope X scope vs js := by
  unfold compOk at h
  simp only [Bool.and_eq_true, beq_iff_eq, decide_eq_true_eq, List.all_eq_true] at h
  obtain ⟨⟨⟨⟨h1, h2⟩, h3⟩, h4⟩, h5⟩ := h
  refine ⟨h1, h2, fun y hy hf => ?_, fun j hj => ?_, h5⟩
  · have z := h3 y hy
    simp only [Bool.or_eq_true, beq_iff_eq, bne_iff_ne] at z
    rcases z with (z | z) | z
    · exact absurd hf z
    · exact .inl z
    · exact .inr z
  · have z := h4 j hj
    split at z
    · rename_i x e
      exact ⟨x, e, by simpa using z⟩
    · cases z
/-! ### one name as the target; a pair of names -/
abbrev fr1 (js : List Nat) (σ : St) : List (Option V) := js.map fun j => (σ[j]?).join
def tC1 (js : List Nat) (ti : TT) (te : TE) (σ : St) (Q : VK) (J : It) (H1 : Hp) : Prop := ∀ D, H1 D = none → ∃ W : Nat → Nat → List V → Hp → Prop, (∃ m, W 0 m [] (upd H1 D (.lst []))) ∧ ∀ i m ys H, W i m ys H →
  H D = some (.lst ys) ∧ ((J.stop i H ∧ Q (.ref D) H) ∨ (J.go i H ∧ ∀ x H', J.yld i H x H' → ti (some x :: fr1 js σ) H' fun b H3 =>
      if b = true then te (some x :: fr1 js σ) H3 fun v H4 => H4 D = some (.lst ys) ∧ ys.length < sizeLine ∧ ∃ m', m' < m ∧ W (i + 1) m' (ys ++ [v]) (upd H4 D (.lst (ys ++ [v])))
      else ∃ m', m' < m ∧ W (i + 1) m' ys H3))
theorem tC1_at {σ : St} {Q : VK} {J : It} {H1 : Hp} (h : tC1 js ti te σ Q J H1) : tCompAt 1 js (gName 0) ti te σ Q J H1 := by
  intro D hD
  obtain ⟨W, w0, turn⟩ := h D hD
  refine ⟨W, w0, fun i m ys H w => ?_⟩
  obtain ⟨h1, h2⟩ := turn i m ys H w
  refine ⟨h1, ?_⟩
  rcases h2 with h2 | ⟨g1, g2⟩
  · exact .inl h2
  · refine .inr ⟨g1, fun x H' y => ⟨⟨fun k v e => ?_, ?_⟩, g2 x H' y⟩⟩
    · cases k with
      | zero => cases e
      | succ k => exact e
    · simp [cσ]
def tC2 (K : PySem.W.Frag) (js : List Nat) (ti : TT) (te : TE) (σ : St) (Q : VK) (J : It) (H1 : Hp) : Prop := ∀ D, H1 D = none → ∃ W : Nat → Nat → List V → Hp → Prop, (∃ m, W 0 m [] (upd H1 D (.lst []))) ∧ ∀ i m ys H, W i m ys H →
  H D = some (.lst ys) ∧ ((J.stop i H ∧ Q (.ref D) H) ∨ (J.go i H ∧ ∀ z H', J.yld i H z H' → ∃ t x y, z = .ref t ∧ SqT K H' t [x, y] ∧ ti (some x :: some y :: fr1 js σ) H' fun b H3 =>
      if b = true then te (some x :: some y :: fr1 js σ) H3 fun v H4 => H4 D = some (.lst ys) ∧ ys.length < sizeLine ∧ ∃ m', m' < m ∧ W (i + 1) m' (ys ++ [v]) (upd H4 D (.lst (ys ++ [v])))
      else ∃ m', m' < m ∧ W (i + 1) m' ys H3))
theorem tC2_at {K : PySem.W.Frag} {σ : St} {Q : VK} {J : It} {H1 : Hp} (h : tC2 K js ti te σ Q J H1) : tCompAt 2 js (gTup K 2 (gCons (gName 0) (gCons (gName 1) gNil))) ti te σ Q J H1 := by
  intro D hD
  obtain ⟨W, w0, turn⟩ := h D hD
  refine ⟨W, w0, fun i m ys H w => ?_⟩
  obtain ⟨h1, h2⟩ := turn i m ys H w
  refine ⟨h1, ?_⟩
  rcases h2 with h2 | ⟨g1, g2⟩
  · exact .inl h2
  · refine .inr ⟨g1, fun z H' y => ?_⟩
    obtain ⟨t, a, b, e, hs, q⟩ := g2 z H' y
    refine ⟨t, [a, b], e, hs, rfl, a, [b], rfl, b, [], rfl, rfl, ⟨fun k v e => ?_, ?_⟩, q⟩
    · match k, e with
      | 0, e => cases e
      | 1, e => cases e
      | k + 2, e => exact e
    · simp [cσ]
variable {x y : Str} {px py tp : Pos} {kk : Nat}
def OwnName (X : Cx) (scope : Scope) (x : Str) : Prop := Loc (relabel scope X.env) x ∧ ((scope.names.lookup x == some .cell) = true ∨ (relabel scope X.env).names.lookup x = some .local)
theorem pe_compN (hc : X.calm = true) (S : compOk X.N X.env.scope scope [x] js = true) (hi : PI X (.Name x px) iter wi) (ht : ∀ cells C s H fp, PF (compCx X (cN [x] js X.N) scope cells C s H fp) ifs ti) (he : ∀ cells C s H fp, PE (compCx X (cN [x] js X.N) scope cells C s H fp) elt te)
    (hx : OwnName X scope x := by first | exact ⟨Or.inl rfl, Or.inr rfl⟩ | exact ⟨Or.inr rfl, Or.inl rfl⟩)
    (hs : ∀ x, foldedSetIterable iter X.env x = pure x := by intro _; rfl) : PE X (.ListComp elt [⟨.Name x px, iter, ifs, 0⟩] scope pos) (fun σ H Q => wi σ H (tC1 js ti te σ Q)) := by
  intro pins s σ H Q I h
  have S' := CompScope.of S
  rw [eval_ListComp]
  refine wpAny_comprehension_free (use := none) rfl hs (S'.clos I) S'.kind (fun y hy hl => by obtain ⟨a, b⟩ := y; cases hl; exact lookup_of_nd S'.nd hy) ?_
  refine comp_core hc S' hi (fun _ _ _ _ _ => pg_name (i := 0) S'.cnd rfl hx.1 hx.2) ht he I h (fun J H1 q => tC1_at q) fun D C H' s' I' b q => ?_
  obtain ⟨m, hm⟩ := b.ns
  exact ⟨m, hm, fun h' hs' => ⟨.ref D, H', I'.turned (t' := s'.toks) (fun b' o hb e => (hs'.2 b' hb).trans e) b.fr b.nL (.inr b.ab) b.cl b.pn, rfl, q⟩⟩
theorem pe_compP (hc : X.calm = true) (S : compOk X.N X.env.scope scope [x, y] js = true) (hi : PI X (.Tuple [.Name x px, .Name y py] kk tp) iter wi) (ht : ∀ cells C s H fp, PF (compCx X (cN [x, y] js X.N) scope cells C s H fp) ifs ti)
    (he : ∀ cells C s H fp, PE (compCx X (cN [x, y] js X.N) scope cells C s H fp) elt te)
    (hx : OwnName X scope x := by first | exact ⟨Or.inl rfl, Or.inr rfl⟩ | exact ⟨Or.inr rfl, Or.inl rfl⟩) (hy : OwnName X scope y := by first | exact ⟨Or.inl rfl, Or.inr rfl⟩ | exact ⟨Or.inr rfl, Or.inl rfl⟩)
    (hs : ∀ x, foldedSetIterable iter X.env x = pure x := by intro _; rfl) : PE X (.ListComp elt [⟨.Tuple [.Name x px, .Name y py] kk tp, iter, ifs, 0⟩] scope pos) (fun σ H Q => wi σ H (tC2 X.K js ti te σ Q)) := by
  intro pins s σ H Q I h
  have S' := CompScope.of S
  rw [eval_ListComp]
  refine wpAny_comprehension_free (use := none) rfl hs (S'.clos I) S'.kind (fun y hy hl => by obtain ⟨a, b⟩ := y; cases hl; exact lookup_of_nd S'.nd hy) ?_
  refine comp_core hc S' hi (fun cells C s H fp => pg_tup (X := compCx X (cN [x, y] js X.N) scope cells C s H fp) hc (pgs_cons (pg_name (i := 0) S'.cnd rfl hx.1 hx.2) (pgs_cons (pg_name (i := 1) S'.cnd rfl hy.1 hy.2) pgs_nil))) ht he I h (fun J H1 q => tC2_at q) fun D C H' s' I' b q => ?_
  obtain ⟨m, hm⟩ := b.ns
  exact ⟨m, hm, fun h' hs' => ⟨.ref D, H', I'.turned (t' := s'.toks) (fun b' o hb e => (hs'.2 b' hb).trans e) b.fr b.nL (.inr b.ab) b.cl b.pn, rfl, q⟩⟩
theorem ps_compN {i : Nat} {z : Str} {pz spos : Pos} (hN : X.N.Nodup) (hiz : X.N[i]? = some z) (hz : Loc X.env.scope z) (hc : X.calm = true) (S : compOk X.N X.env.scope scope [x] js = true) (hi : PI X (.Name x px) iter wi)
    (ht : ∀ cells C s H fp, PF (compCx X (cN [x] js X.N) scope cells C s H fp) ifs ti) (he : ∀ cells C s H fp, PE (compCx X (cN [x] js X.N) scope cells C s H fp) elt te)
    (hf : X.fn z = true ∨ X.env.scope.names.lookup z = some .local := by first | exact .inl rfl | exact .inr rfl)
    (hx : OwnName X scope x := by first | exact ⟨Or.inl rfl, Or.inr rfl⟩ | exact ⟨Or.inr rfl, Or.inl rfl⟩)
    (hsw : swapsWith (.ListComp elt [⟨.Name x px, iter, ifs, 0⟩] scope pos) (some (.Name z pz)) spos.line X.env = pure true := by rfl)
    (hs : ∀ x, foldedSetIterable iter X.env x = pure x := by intro _; rfl) : PS X (.Assign [.Name z pz] (.ListComp elt [⟨.Name x px, iter, ifs, 0⟩] scope pos) spos) (fun D σ H => wi σ H (tC1 js ti te σ fun v H1 => D.nx (σ.set i (some v)) H1)) := by
  intro pins s σ H D I h
  have S' := CompScope.of S
  rw [exec_Assign_Name_used _ _ _ _ hsw]
  refine wpAny_bind (wpAny_standAt (wpAny_bind ?_))
  show wpAny _ X.A (do let _ ← comprehension (.ListComp elt [⟨.Name x px, iter, ifs, 0⟩] scope pos) scope X.env _ (newList []) false (eval iter X.env) (some (assign (.Name z pz) X.env))) _ _ s
  refine wpAny_bind (wpAny_mono (wpAny_comprehension_free (use := some (assign (.Name z pz) X.env)) (Q := fun _ s' => SP X pins D .next s') rfl hs (S'.clos I) S'.kind (fun y hy hl => by obtain ⟨a, b⟩ := y; cases hl; exact lookup_of_nd S'.nd hy) ?_)
    (fun _ s' hq => wpAny_pure (wpAny_pure hq)) fun _ _ z => z)
  refine comp_core hc S' hi (fun _ _ _ _ _ => pg_name (i := 0) S'.cnd rfl hx.1 hx.2) ht he I h (fun J H1 q => tC1_at q) fun D' C H' s' I' b q => ?_
  show wpAny _ X.A (assign (.Name z pz) X.env (.ref D')) _ _ _
  refine wpAny_assign_Name (store_ok2 I' hN hiz hz (show RelV (.ref D') (.ref D') from rfl) (fun s2 I2 ⟨a, sb, ha⟩ => ?_) hf)
  obtain ⟨m, hm⟩ := b.ns
  have hCa : C ≠ a := by
    rcases ha with rfl | ha
    · exact b.nL
    · exact Ne.symm (b.cl _ _ ha)
  exact ⟨m, hm.sameBut sb hCa, fun h' hs' => ⟨_, H', I2.turned (t' := s2.toks) (fun b' o hb e => (hs'.2 b' hb).trans e) b.fr b.nL (.inr b.ab) b.cl b.pn, q⟩⟩
end
theorem comp_range {n : Nat} {js : List Nat} {ti : TT} {te : TE} {σ : St} {Q : VK} {H1 : Hp} (p : Nat → Bool) (f : Nat → V) (hn : n ≤ 1000)
    (hti : ∀ (i : Nat) Hc (k : Bool → Hp → Prop), i < n → Same H1 Hc → k (p i) Hc → ti (some (.int (0 + i)) :: fr1 js σ) Hc k) (hte : ∀ (i : Nat) Hc (k : VK), i < n → p i = true → Same H1 Hc → k (f i) Hc → te (some (.int (0 + i)) :: fr1 js σ) Hc k)
    (hq : ∀ D, H1 D = none → Q (.ref D) (upd H1 D (.lst (((List.range n).filter p).map f)))) : tC1 js ti te σ Q (Itr 0 n) H1 := by
  intro D hD
  have sm : ∀ ys, Same H1 (upd H1 D (.lst ys)) := fun ys b o e => by rw [upd_ne (ne_of_none e hD)]; exact e
  refine ⟨fun i m ys H => m = n - i ∧ i ≤ n ∧ ys = ((List.range i).filter p).map f ∧ H = upd H1 D (.lst ys), ⟨n, by simp, Nat.zero_le _, rfl, rfl⟩, ?_⟩
  rintro i m ys H ⟨rfl, hi, rfl, rfl⟩
  refine ⟨upd_same, ?_⟩
  by_cases hlt : i < n
  · refine .inr ⟨hlt, fun x H' y => ?_⟩
    obtain ⟨e1, e2⟩ := y
    subst e1 e2
    refine hti i _ _ hlt (sm _) ?_
    cases hp : p i with
    | true =>
      refine iteT (hte i _ _ hlt hp (sm _) ⟨upd_same, ?_, n - (i + 1), by omega, rfl, hlt, ?_, ?_⟩)
      · have h1 := List.length_filter_le p (List.range i)
        rw [List.length_range] at h1
        rw [List.length_map]
        exact small1000 (by omega)
      · rw [List.range_succ, List.filter_append, List.map_append]
        simp [hp]
      · rw [upd_upd]
    | false =>
      refine iteF ⟨n - (i + 1), by omega, rfl, hlt, ?_, rfl⟩
      rw [List.range_succ, List.filter_append, List.map_append]
      simp [hp]
  · have e : i = n := by omega
    subst e
    exact .inl ⟨Nat.le_refl _, hq D hD⟩
/-! ### rules whose reading names K, within a block -/
section
variable {X : Cx} {Nc : List Str} {scope : Scope} {cells : List (Str × Addr)} {C : Addr} {s : Shared} {H : Hp} {fp : List Addr} {e : Expr} {f : Str} {pos : Pos} {ta : TE}
theorem ixC : IxR (compCx X Nc scope cells C s H fp) (rIxL X.K) := ix_list
end
/-! ### the same within a try, or a loop that lets exceptions by -/
section
variable {X : Cx} {pins : List (Addr × Obj)} {Hand : St → XK} {e : Expr} {f : Str} {pos : Pos} {ta tl : TE} {tg l : Expr}
end
end L2

/-! LAMP D: is, == of lists and tuples, in, all, any, isinstance, the calls in an except suite -/
namespace L2
open PySem PySem.Spec PyProof.Rows
section
variable {X : Cx}
end

/-! ### == of two lists, of two tuples, flat items -/
def eqVs : List V → List V → Bool
  | [], [] => true
  | a :: as, b :: bs => eqV a b && eqVs as bs
  | _, _ => false
def eAt (xs ys : List V) (j : Nat) : Bool := match xs[j]?, ys[j]? with
  | some a, some b => eqV a b
  | _, _ => false
theorem eqVs_range : ∀ (xs ys : List V), ((List.range (min xs.length ys.length)).all (eAt xs ys) && xs.length == ys.length) = eqVs xs ys
  | [], [] => rfl
  | [], _ :: _ => by simp [eqVs]
  | _ :: _, [] => by simp [eqVs]
  | a :: as, b :: bs => by
    have ih := eqVs_range as bs
    have e : min (a :: as).length (b :: bs).length = min as.length bs.length + 1 := by simp only [List.length_cons]; omega
    rw [e, List.range_succ_eq_map, List.all_cons, List.all_map]
    have e2 : (eAt (a :: as) (b :: bs) ∘ Nat.succ) = eAt as bs := by funext j; rfl
    have e3 : ((a :: as).length == (b :: bs).length) = (as.length == bs.length) := by
      rw [Bool.eq_iff_iff]
      simp
    rw [e2, e3, Bool.and_assoc, ih]
    rfl
theorem eqV_refl : ∀ {x : V}, flatV x = true → eqV x x = true
  | .non, _ => rfl
  | .bl b, _ => by simp [eqV]
  | .int i, _ => by simp [eqV]
  | .str z, _ => by simp [eqV]
theorem eqVs_refl : ∀ {xs : List V}, xs.all flatV = true → eqVs xs xs = true
  | [], _ => rfl
  | a :: as, h => by
    rw [List.all_cons, Bool.and_eq_true] at h
    simp [eqVs, eqV_refl h.1, eqVs_refl h.2]
theorem eAt_at {A : Around} {s : Shared} {xs ys : List V} {us ws : List Value} (rx : Vals xs us) (ry : Vals ys ws) (fx : xs.all flatV = true) (fy : ys.all flatV = true) (j : Nat) (h1 : j < us.toArray.size) (h2 : j < ws.toArray.size) :
    SeqAt.EqAt A s us.toArray[j] ws.toArray[j] (eAt xs ys j) := by
  have l1 := rx.length
  have l2 := ry.length
  have q1 : j < xs.length := by simp at h1; omega
  have q2 : j < ys.length := by simp at h2; omega
  obtain ⟨u, e1, r1⟩ := rx.get (i := j) (x := xs[j]) (by simp [q1])
  obtain ⟨w, e2, r2⟩ := ry.get (i := j) (x := ys[j]) (by simp [q2])
  have f1 : flatV xs[j] = true := List.all_eq_true.mp fx _ (List.getElem_mem q1)
  have f2 : flatV ys[j] = true := List.all_eq_true.mp fy _ (List.getElem_mem q2)
  have g1 : us.toArray[j] = u := by
    have := List.getElem?_eq_some_iff.mp e1
    obtain ⟨_, z⟩ := this
    simpa using z
  have g2 : ws.toArray[j] = w := by
    have := List.getElem?_eq_some_iff.mp e2
    obtain ⟨_, z⟩ := this
    simpa using z
  have ee : eAt xs ys j = eqV xs[j] ys[j] := by simp [eAt, q1, q2]
  rw [g1, g2, ee]
  exact eqAt_V r1 r2 f1 f2
section
variable {X : Cx} {pins : List (Addr × Obj)} {σ : St} {H : Hp} {s : Shared} {A : Around}
theorem rcAt_lst {p q : Addr} {xs ys : List V} (I : Inv X pins σ H s) (hp : SqL X.K H p xs) (hq : SqL X.K H q ys) (fx : xs.all flatV = true) (fy : ys.all flatV = true) (hu : A.units < cLine) : SeqAt.RcAt A s (.ref p) (.ref q) (eqVs xs ys) := by
  obtain ⟨us, r1, p1, _⟩ := I.list hp
  obtain ⟨ws, r2, p2, _⟩ := I.list hq
  have l1 := r1.length
  have l2 := r2.length
  have e := eqVs_range xs ys
  by_cases h : xs.length = ys.length
  · have z := SeqAt.RcAt.lists (A := A) (e := eAt xs ys) p1.isList p2.isList (by simp; omega) hu fun j h1 h2 => eAt_at r1 r2 fx fy j h1 h2
    have e2 : (List.range us.toArray.size).all (eAt xs ys) = eqVs xs ys := by
      rw [← e]
      have : min xs.length ys.length = us.toArray.size := by simp; omega
      rw [this, h]
      simp
    rw [e2] at z
    exact z
  · have hf : eqVs xs ys = false := by
      rw [← e]
      have : (xs.length == ys.length) = false := by simpa using h
      rw [this, Bool.and_false]
    rw [hf]
    refine SeqAt.RcAt.lists_lengths p1.isList p2.isList ?_ hu
    simp
    omega
theorem rcAt_tup {p q : Addr} {xs ys : List V} (I : Inv X pins σ H s) (hp : SqT X.K H p xs) (hq : SqT X.K H q ys) (fx : xs.all flatV = true) (fy : ys.all flatV = true) (hu : A.units < cLine) : SeqAt.RcAt A s (.ref p) (.ref q) (eqVs xs ys) := by
  obtain ⟨us, r1, p1, _⟩ := I.tuple hp
  obtain ⟨ws, r2, p2, _⟩ := I.tuple hq
  have l1 := r1.length
  have l2 := r2.length
  have z := SeqAt.RcAt.tuples (A := A) (e := eAt xs ys) p1 p2 hu fun j h1 h2 => eAt_at r1 r2 fx fy j h1 h2
  have e2 : ((List.range (min us.toArray.size ws.toArray.size)).all (eAt xs ys) && us.toArray.size == ws.toArray.size) = eqVs xs ys := by
    rw [← eqVs_range xs ys]
    simp only [List.size_toArray, l1, l2]
  rw [e2] at z
  exact z
theorem eqAt_tup {p q : Addr} {xs ys : List V} (I : Inv X pins σ H s) (hp : SqT X.K H p xs) (hq : SqT X.K H q ys) (fx : xs.all flatV = true) (fy : ys.all flatV = true) (hu : A.units < cLine) : SeqAt.EqAt A s (.ref p) (.ref q) (eqVs xs ys) := by
  by_cases h : p = q
  · subst h
    have e := I.tuple_inj hp hq
    subst e
    rw [eqVs_refl fx]
    exact SeqAt.EqAt.same _
  · exact SeqAt.EqAt.of_refs h (rcAt_tup I hp hq fx fy hu)
end
section
variable {X : Cx}
def rEqS (K : PySem.W.Frag) (neg : Bool) : R2 := fun x y H Q => ∃ p q xs ys, x = .ref p ∧ y = .ref q ∧ ((SqL K H p xs ∧ SqL K H q ys) ∨ (SqT K H p xs ∧ SqT K H q ys)) ∧ xs.all flatV = true ∧ ys.all flatV = true ∧ Q (.bl (if neg then !eqVs xs ys else eqVs xs ys)) H
theorem op_eq_seq (hu : X.A.units < cLine) : OpR X (compareOp .Eq) (rEqS X.K false) := by
  intro pins s σ H x y v u Q I rx ry h
  obtain ⟨p, q, xs, ys, rfl, rfl, hs, fx, fy, hq⟩ := h
  cases rx
  cases ry
  rcases hs with ⟨h1, h2⟩ | ⟨h1, h2⟩
  · exact rcAt_lst I h1 h2 fx fy hu X.prog X.w X.xe _ ⟨.bl _, H, I, rfl, hq⟩
  · exact rcAt_tup I h1 h2 fx fy hu X.prog X.w X.xe _ ⟨.bl _, H, I, rfl, hq⟩
theorem walk_bls {pins : List (Addr × Obj)} {σ : St} {H : Hp} {s : Shared} {p : Addr} {bs : List Bool} (I : Inv X pins σ H s) (hq : SqL X.K H p (bs.map V.bl)) :
    ∃ its : List Value, its = bs.map Value.bool ∧ PlainL s.heap p its.toArray := by
  obtain ⟨its, r, pl, hz⟩ := I.list hq
  refine ⟨its, ?_, pl⟩
  clear pl hq hz
  induction bs generalizing its with
  | nil => cases r; rfl
  | cons b bs ih =>
    cases r with
    | cons r t =>
      cases r
      rw [ih _ t]
      rfl
theorem range_bls (bs : List Bool) : ∀ (g : Bool → Bool), (List.range bs.length).all (fun i => g (bs.getD i false)) = bs.all g ∧ (List.range bs.length).any (fun i => g (bs.getD i false)) = bs.any g := by
  induction bs with
  | nil => intro g; exact ⟨rfl, rfl⟩
  | cons b bs ih =>
    intro g
    have e : ((fun i => g ((b :: bs).getD i false)) ∘ Nat.succ) = fun i => g (bs.getD i false) := by funext j; rfl
    constructor
    · rw [List.length_cons, List.range_succ_eq_map, List.all_cons, List.all_map, e, (ih g).1]
      rfl
    · rw [List.length_cons, List.range_succ_eq_map, List.any_cons, List.any_map, e, (ih g).2]
      rfl
theorem walk_at {pins : List (Addr × Obj)} {σ : St} {H : Hp} {s : Shared} {p : Addr} {bs : List Bool} (hh : X.A.handled = none) (I : Inv X pins σ H s) (hq : SqL X.K H p (bs.map V.bl)) {R : Bool → Prop} {Q : Value → Shared → Prop} {f : Nat → (Nat → Bool) → Bool}
    (hQ : ∀ s', Inv X pins σ H s' → Q (.bool (f bs.length fun i => bs.getD i false)) s') :
    wpAny (model X.prog X.w) X.A.in1 (pyIter (.ref p)) (fun it s₂ => ∃ I fp wr n P St tr, it = .ref I ∧ Walks X.prog X.w X.A.in1 I fp wr n P St ∧ St 0 s₂.heap ∧ TruthOf X.prog X.w X.A.in1 P tr ∧
      ∀ h' tk, (∀ b o, b ∉ wr → s₂.heap.get? b = some o → h'.get? b = some o) → Q (.bool (f n tr)) { s₂ with heap := h', toks := tk }) X.xe s := by
  obtain ⟨its, e, pl⟩ := walk_bls I hq
  subst e
  have hl := pl.isList
  have hlt : p < s.heap.objs.size := by obtain ⟨o, e, _⟩ := hl; exact Heap.lt_size e
  refine wpAny_pyIter_list hl ?_
  refine ⟨s.heap.objs.size, _, _, (bs.map Value.bool).toArray.size, _, _, fun i => bs.getD i false, rfl, Walks.list (A := X.A.in1) hh s.heap.objs.size p (Nat.ne_of_lt hlt) _, ⟨⟨_, Heap.get?_push_size _ rfl, rfl, rfl⟩, hl.push _⟩, fun i v s' Q' E' hP hq' => ?_, fun h' tk hk => ?_⟩
  · have hP' : (bs.map Value.bool).toArray[i]? = some v := hP
    simp only [List.getElem?_toArray, List.getElem?_map] at hP'
    cases q : bs[i]? with
    | none => rw [q] at hP'; cases hP'
    | some b =>
      rw [q] at hP'
      have e : Value.bool b = v := Option.some.inj hP'
      subst e
      have e2 : bs.getD i false = b := by rw [List.getD_eq_getElem?_getD, q]; rfl
      have hq2 : Q' (bs.getD i false) s' := hq'
      rw [e2] at hq2
      exact wpAny_truthy_bool hq2
  · have e : (bs.map Value.bool).toArray.size = bs.length := by simp
    rw [e]
    exact hQ _ (I.kept (h' := h') (t' := tk) fun b o q => hk b o (by
      intro z
      have z' : b = s.heap.objs.size := by simpa using z
      exact absurd (Heap.lt_size q) (by rw [z']; exact Nat.lt_irrefl _)) (Heap.get?_push_of_some _ q))
theorem call_any (hc : X.calm = true) : CallR X (.builtin "any") (fun xs H Q => ∃ (p : Addr) (bs : List Bool), xs = [.ref p] ∧ SqL X.K H p (bs.map V.bl) ∧ Q (.bl (bs.any id)) H) := by
  intro pins s σ H xs us Q I r h
  obtain ⟨p, bs, rfl, hq, q⟩ := h
  obtain ⟨u, rfl, rx⟩ := vals1 r
  cases rx
  exact call_any_walk (walk_at (R := fun _ => True) (f := fun n tr => (List.range n).any tr) (I.ok.hd hc) I hq fun s' I' => ⟨.bl _, H, I', rfl, by have e := (range_bls bs id).2; exact (show _ = _ from e) ▸ q⟩)

/-! ### isinstance -/
def rIsi (K : PySem.W.Frag) : List V → Hp → VK → Prop := fun xs H Q => ∃ x cV c t b, xs = [x, cV] ∧ ((∃ n, cV = .ty n ∧ c = .type n) ∨ (∃ a, cV = .ref a ∧ c = .ref a)) ∧ TyOf K H x t ∧ PySem.W.kitOne K t c = some b ∧ Q (.bl b) H
theorem call_isi : CallR X (.builtin "isinstance") (rIsi X.K) := by
  intro pins s σ H xs us Q I r h
  obtain ⟨x, cV, c, t, b, rfl, hc, ty, hk, q⟩ := h
  obtain ⟨u, u2, rfl, rx, rc⟩ := vals2 r
  have e : u2 = c := by
    rcases hc with ⟨n, e1, e2⟩ | ⟨a, e1, e2⟩
    · subst e1 e2; exact rc
    · subst e1 e2; exact rc
  subst e
  exact isinst_ok I rx ty hk fun tk => ⟨.bl b, H, I.tok tk, rfl, q⟩
end
end L2

/-! LAMP E: enumerate; a def with a default -/
namespace L2
open PySem PySem.Spec PyProof.Rows

/-! ### enumerate -/
def Ite (K : PySem.W.Frag) (a : Addr) : It :=
  ⟨fun i H => ∃ xs x, SqL K H a xs ∧ xs[i]? = some x, fun i H x H' => ∃ t v, x = .ref t ∧ H t = none ∧ H' = upd H t (.tup [.int i, v]) ∧ ∀ xs, SqL K H a xs → xs[i]? = some v, fun i H => ∃ xs, SqL K H a xs ∧ xs.length ≤ i⟩
theorem go_enum {M : Model} {A : Around} {E : Value → Shared → Prop} {s : Shared} {es : List Expr} {k : Nat} {pos : Pos} {e it a : Addr} {i : Int} {x : Value} {Q : Unit → Shared → Prop} (he : IsEnumOut s.heap e it i x a)
    (h : ∀ h', IsEnum h' e it i x → Heap.SameBut e s.heap h' → Q () { s with heap := h' }) : wpAny M A (letOwnedTupleGo (.Tuple es k pos) (.ref e) (.ref a)) Q E s := by
  unfold letOwnedTupleGo
  refine wpAny_bind (wpAny_load he ?_)
  dsimp only
  rw [if_pos (by simp)]
  refine wpAny_bind (wpAny_rule ?_)
  unfold updateField
  refine wpAny_bind (wpAny_load he ?_)
  dsimp only
  rw [if_pos (by simp)]
  refine wpAny_update he (h _ ?_ (Heap.SameBut.update ..))
  have := Heap.get?_update_self (Obj.mapFields (·.setIfInBounds 0 Value.none)) he rfl
  exact this
theorem turn_enum {P : Program} {w : World} {K : PySem.W.Frag} {es : List Expr} {k : Nat} {pos : Pos} (a e it : Addr) (hne : e ≠ it) :
    Turn P w K (.Tuple es k pos) (Ite K a) [e, it] e (fun i h => (∃ old, IsEnum h e it i old) ∧ h.IsListIter it a i) where
  mem := by simp
  obj := fun i h st b hb => by
    obtain ⟨⟨old, he⟩, o, e1, c1, d1⟩ := st
    rcases List.mem_cons.mp hb with z | z
    · rw [z]
      exact ⟨_, he, fun v q => by
        have q' : Data.fields _ = Data.cell v := q
        cases q'⟩
    · have z' : b = it := by simpa using z
      rw [z']
      exact ⟨o, e1, fun v q => by rw [d1] at q; cases q⟩
  keep := fun i h h' st kp => by
    obtain ⟨⟨old, he⟩, hi⟩ := st
    exact ⟨⟨old, kp e (by simp) _ he⟩, hi.at fun o q => kp it (by simp) o q⟩
  item := by
    intro X hP hw hK hc i pins s σ H E I hf st hg
    subst hP hw hK
    obtain ⟨xs, x, hq, hx⟩ := hg
    obtain ⟨⟨old, he⟩, hit⟩ := st
    obtain ⟨its, rv, p, hz⟩ := I.list hq
    obtain ⟨u, hu, ru⟩ := rv.get hx
    have nt : H s.heap.objs.size = none := I.hok.fresh (Nat.le_refl _)
    refine wpAny_pyNext_enum_item he hit p.isList (x := u) (by simpa using hu) hne fun h1 ho hit1 htup hsz hk => ⟨_, rfl, go_enum (s := { s with heap := h1, toks := s.toks + 1 }) ho fun h2 he2 sb => ?_⟩
    have old_ : ∀ b o, b ∉ [e, it] → s.heap.get? b = some o → h2.get? b = some o := fun b o hb q => by
      have n1 : b ≠ e := fun z => hb (by simp [z])
      have n2 : b ≠ it := fun z => hb (by simp [z])
      exact (sb.2 b n1).trans (hk b o n1 n2 q)
    have elt : e < s.heap.objs.size := Heap.lt_size he
    have htup2 : h2.get? s.heap.objs.size = some { cls := .type "tuple", data := .seq #[.int i s.toks, u] } := (sb.2 _ (Nat.ne_of_gt elt)).trans htup
    have trk : ∀ b o, H b = some o → b ∉ [e, it] := fun b o q hb => by
      have := (hf b hb).1
      rw [this] at q
      cases q
    have J : Inv X pins σ (upd H s.heap.objs.size (.tup [.int i, x])) { s with heap := h2, gens := s.gens, drawn := s.drawn, toks := s.toks + 1 } := by
      refine I.step (s := s) (h' := h2) (g' := s.gens) (d' := s.drawn) (t' := s.toks + 1) (ch := [e, it]) (fun b hb => ?_) (fun b o _ _ hc q _ => old_ b o hc q) (fun b o _ _ hc q _ => ⟨o.slots, old_ b o hc q⟩) (fun b o hc q n => ?_)
        (fun b o hc q => ⟨o, old_ b o hc q⟩) (fun b ys q => ?_) (fun b o v q => ?_) (fun b ps q => ⟨#[], ?_⟩) (fun m hm => ?_) (fun b v q => ?_) I.bare
      · obtain ⟨f0, f1, f2, f3, f4, f5⟩ := hf b hb
        exact ⟨f3, f1, f4, f5⟩
      · rw [upd_ne (Nat.ne_of_lt (Heap.lt_size q))]
        exact n
      · rw [upd_ne (ne_of_none q nt)]
        exact q
      · rw [upd_ne (ne_of_none q nt)]
        exact q
      · rw [upd_ne (ne_of_none q nt), q]
        simp
      · obtain ⟨o, es', ep, ho', r⟩ := hm
        exact ⟨o, es', ep, old_ _ o (fun z => (hf _ z).2.1 rfl) ho', r⟩
      · by_cases hb : b = s.heap.objs.size
        · subst hb
          rw [upd_same] at q
          cases q
          exact ⟨by show 2 ≤ sizeLine; decide, [.int i s.toks, u], .cons ⟨_, rfl⟩ (.cons ru .nil), ⟨_, htup2, rfl, _, rfl⟩⟩
        · rw [upd_ne hb] at q
          refine (I.hok b v q).stay (fun c z hc' q' => old_ c z ?_ q') (fun c q' => by rw [upd_ne (ne_of_none q' nt)]; exact q') fun c ys q' => by rw [upd_ne (ne_of_none q' nt)]; exact q'
          rcases hc' with hc' | hc'
          · rw [hc']
            exact trk b v q
          · exact trk c _ hc'
    refine ⟨.ref s.heap.objs.size, upd H s.heap.objs.size (.tup [.int i, x]), J, rfl, ⟨_, x, rfl, nt, rfl, fun ys hy => by rw [I.list_inj hy hq]; exact hx⟩, ⟨⟨u, he2⟩, ?_⟩, fun b hb => ?_⟩
    · obtain ⟨o, q, r⟩ := hit1
      exact ⟨o, (sb.2 it (Ne.symm hne)).trans q, r⟩
    · obtain ⟨f0, f1, f2, f3, f4, f5⟩ := hf b hb
      have hlt : b < s.heap.objs.size := by
        rcases List.mem_cons.mp hb with z | z
        · rw [z]; exact elt
        · have z' : b = it := by simpa using z
          rw [z']
          obtain ⟨o, q, _⟩ := hit
          exact Heap.lt_size q
      rw [upd_ne (Nat.ne_of_lt hlt)]
      exact f0
  done := by
    intro X hP hw hK hc i pins s σ H E I hf st hg
    subst hP hw hK
    obtain ⟨xs, hq, hx⟩ := hg
    obtain ⟨⟨old, he⟩, hit⟩ := st
    obtain ⟨its, rv, p, hz⟩ := I.list hq
    obtain ⟨f0, f1, f2, f3, f4, f5⟩ := hf it (by simp)
    have hl := rv.length
    exact wpAny_pyNext_enum_end (I.ok.hd hc) he hit p.isList (by simp; omega) fun h' eb => ⟨rfl, I.turned (t' := s.toks) (fun b o hb q => eb b o hb q) f0 f1 f3 f4 f5⟩
  self := fun _ _ _ _ _ st h => by
    obtain ⟨⟨old, he⟩, _⟩ := st
    exact wpAny_pyIter_enum he h
def iEnum (K : PySem.W.Frag) (ta : TA) : TI := fun σ H R => ta σ H fun vs H1 => ∃ a, vs = [.ref a] ∧ (∃ xs, SqL K H1 a xs) ∧ R (Ite K a) H1
theorem pi_enum {X : Cx} {es : List Expr} {k : Nat} {tp p pos : Pos} {l : Expr} {ta : TA} (hg : Gl X "enumerate") (hm : X.mg "enumerate" = none) (ha : PA X [l] ta) (hs : starEach [l] X.env = [(false, eval l X.env)] := by rfl) :
    PI X (.Tuple es k tp) (.Call (.Name "enumerate" p) [l] [] pos) (iEnum X.K ta) := by
  intro pins s σ H R I h
  refine Call_ (ld_blt I hg hm boot_enumerate (PyProof.Rows.callWith_type1 (thn (ha pos pins s σ H _ I h) fun us s1 ⟨vs, H1, I1, r1, q1⟩ => ?_) hs rfl))
  obtain ⟨a, e, ⟨xs, hq⟩, q⟩ := q1
  subst e
  obtain ⟨u, rfl, rx⟩ := vals1 r1
  cases rx
  obtain ⟨its, rv, pl, hz⟩ := I1.list hq
  refine call_enumerate_list pl.isList fun h' he hit hsz hk => wpAny_pyIter_enum (s := { s1 with heap := h' }) he ?_
  have I2 : Inv X pins σ H1 { s1 with heap := h' } := I1.kept (t' := s1.toks) hk
  refine ⟨_, [s1.heap.objs.size + 1, s1.heap.objs.size], _, _, H1, rfl, I2, turn_enum a _ _ (Nat.succ_ne_self _), ⟨⟨_, he⟩, hit⟩, fun b hb => ?_, q⟩
  have hb' : s1.heap.objs.size ≤ b := by
    rcases List.mem_cons.mp hb with z | z
    · rw [z]; exact Nat.le_succ _
    · have z' : b = s1.heap.objs.size := by simpa using z
      rw [z']; exact Nat.le_refl _
  exact I1.fpOk hb' (I1.hok.fresh hb')

/-! ### a def with defaults -/
structure FunD (K : PySem.W.Frag) (x qual : Str) (st : Stmt) (f : Addr) (fd : FuncData) (ds : List Value) : Prop where
  ex : ∃ (oc : Value) (od : Option Addr) (T : Addr) (kV doc pm : Value) (an : Option Addr) (cdv ct : Value) (osl : Array (Option Value)) (ot : Obj) (nt : Nat),
    fd = PySem.W.fnOf x qual (defArgs st) (defBody st) (defScope st) (.ref T) kV doc pm an cdv ct ∧ K.lookup f = some ⟨oc, od, .func fd, osl⟩ ∧ PySem.W.codeIn K cdv qual = true ∧ K.lookup T = some ot ∧ ot.data = .seq ds.toArray nt
  kp : PySem.W.keepIn K (.ref f) = true
theorem FunD.okE {P : Program} {w : World} {K : PySem.W.Frag} {mg : Str → Option Value} {base : Heap} {x qual : Str} {st : Stmt} {f : Addr} {fd : FuncData} {ds : List Value} {N ps : List Str} {k : Nat} {sp : Sp} (F : FunD K x qual st f fd ds) (S : FnScope N ps (defScope st))
    (len : ∀ vs H Q E, sp vs H Q E → vs.length = ps.length)
    (hbody : ∀ (cdv : Value) (A : Around) (outer : List Env) (s : Shared) (H : Hp) (vs : List V) (Q : VK) (E : XK), Room k (A.deeper (envOfC qual (defScope st) s.heap.objs.size f cdv)) → sp vs H Q E →
      ∃ t, PSs (cxOf (CXE P w) P w K mg base N qual (defScope st) f cdv A outer s H E) (defBody st) t ∧ t { nx := fun _ H' => Q .non H', rt := Q } (start N vs) H) : FnOk P w K mg base (CXE P w) (k + 1) f fd ps sp := by
  obtain ⟨oc, od, T, kV, doc, pm, an, cdv, ct, osl, ot, nt, rfl, lk, hcd, _⟩ := F.ex
  exact fn_of lk hcd S len fun A outer s H vs Q E hr hsp => hbody cdv A outer s H vs Q E hr hsp
theorem funD_mk {K : PySem.W.Frag} {x qual : Str} {st : Stmt} {f T : Addr} {oc ocT : Value} {od an odT : Option Addr} {osl slT : Array (Option Value)} {kV doc pm cdv ct : Value} {ds : List Value} {nt : Nat}
    (l : K.lookup f = some ⟨oc, od, .func (PySem.W.fnOf x qual (defArgs st) (defBody st) (defScope st) (.ref T) kV doc pm an cdv ct), osl⟩)
    (c : PySem.W.codeIn K cdv qual = true) (k : PySem.W.keepIn K (.ref f) = true) (lT : K.lookup T = some ⟨ocT, odT, .seq ds.toArray nt, slT⟩) : FunD K x qual st f (PySem.W.fnOf x qual (defArgs st) (defBody st) (defScope st) (.ref T) kV doc pm an cdv ct) ds :=
  ⟨⟨oc, od, T, kV, doc, pm, an, cdv, ct, osl, _, nt, rfl, l, c, lT, rfl⟩, k⟩
end L2

/-! LAMP F: != of lists and tuples; a tuple in a list of tuples; comprehensions of new lists; sets of rows -/
namespace L2
open PySem PySem.Spec PyProof.Rows
section
variable {X : Cx} {pins : List (Addr × Obj)} {σ : St} {H : Hp} {s : Shared} {A : Around}
end
section
variable {X : Cx}
def tupAt (H : Hp) (a : Addr) : List V := match H a with
  | some (.tup ys) => ys
  | _ => []
theorem tupAt_of {H : Hp} {a : Addr} {ys : List V} (h : H a = some (.tup ys)) : tupAt H a = ys := by unfold tupAt; rw [h]
def rInT (K : PySem.W.Frag) (neg : Bool) : R2 := fun x y H Q => ∃ (p : Addr) (xs : List V) (q : Addr) (tas : List Addr), x = .ref p ∧ SqT K H p xs ∧ xs.all flatV = true ∧ y = .ref q ∧ SqL K H q (tas.map V.ref) ∧ (∀ a ∈ tas, H a = some (.tup (tupAt H a)) ∧ (tupAt H a).all flatV = true) ∧
  Q (.bl (if neg then !(tas.any fun a => eqVs (tupAt H a) xs) else tas.any fun a => eqVs (tupAt H a) xs)) H
def evT (H : Hp) (xs : List V) (v : Value) : Bool := match v with
  | .ref a => eqVs (tupAt H a) xs
  | _ => false
theorem vals_refs : ∀ {tas : List Addr} {us : List Value}, Vals (tas.map V.ref) us → us = tas.map Value.ref
  | [], _, .nil => rfl
  | a :: tas, u :: us, .cons r t => by
    cases r
    rw [vals_refs t]
    rfl
theorem inT_core {pins : List (Addr × Obj)} {σ : St} {H : Hp} {s : Shared} {p q : Addr} {xs : List V} {tas : List Addr} (hu : X.A.in1.units < cLine) (I : Inv X pins σ H s) (hp : SqT X.K H p xs) (fx : xs.all flatV = true) (hq : SqL X.K H q (tas.map V.ref))
    (ht : ∀ a ∈ tas, H a = some (.tup (tupAt H a)) ∧ (tupAt H a).all flatV = true) : s.heap.IsList q (tas.map Value.ref).toArray ∧ ∀ y, y ∈ (tas.map Value.ref).toArray → SeqAt.EqAt X.A.in1 s y (.ref p) (evT H xs y) := by
  obtain ⟨us, r1, p1, _⟩ := I.list hq
  have e := vals_refs r1
  subst e
  refine ⟨p1.isList, fun y hy => ?_⟩
  have hy' : y ∈ tas.map Value.ref := by simpa using hy
  obtain ⟨a, ha, rfl⟩ := List.mem_map.mp hy'
  obtain ⟨h1, h2⟩ := ht a ha
  exact eqAt_tup I (SqT.of h1) hp h2 fx hu
theorem op_notIn_tups (hu : X.A.in1.units < cLine) : OpR X (compareOp .NotIn) (rInT X.K true) := by
  intro pins s σ H x y v u Q I rx ry h
  obtain ⟨p, xs, q, tas, rfl, hp, fx, rfl, hq, ht, k⟩ := h
  cases rx
  cases ry
  obtain ⟨h1, h2⟩ := inT_core hu I hp fx hq ht
  refine SeqAt.notIn_listAt (evT H xs) h1 h2 ⟨.bl _, H, I, rfl, ?_⟩
  have e : (tas.map Value.ref).toArray.any (evT H xs) = tas.any fun a => eqVs (tupAt H a) xs := by
    simp [evT, Function.comp_def]
  rw [e]
  exact k
end
theorem Same.laid {H : Hp} {a : Addr} {o : HO} (h : H a = none) : Same H (upd H a o) := fun b u e => by rw [upd_ne (ne_of_none e h)]; exact e
/-! ### rows: a list of distinct new lists -/
structure RowsAt (H : Hp) (D : Addr) (qs : List Addr) (n : Nat) (g : Nat → List V) : Prop where
  top : H D = some (.lst (qs.map V.ref))
  ln : qs.length = n
  nd : qs.Nodup
  ap : D ∉ qs
  at_ : ∀ (i : Nat) q, qs[i]? = some q → H q = some (.lst (g i))
theorem comp_new {n : Nat} {js : List Nat} {te : TE} {σ : St} {Q : VK} {J : It} {H1 : Hp} (xs : Nat → V) (g : Nat → List V) (hn : n ≤ 1000)
    (hJ : ∀ i H, Same H1 H → (i < n → J.go i H ∧ ∀ x H', J.yld i H x H' → x = xs i ∧ H' = H) ∧ (n ≤ i → J.stop i H))
    (hte : ∀ (i : Nat) Hc (k : VK), i < n → Same H1 Hc → (∀ q, Hc q = none → k (.ref q) (upd Hc q (.lst (g i)))) → te (some (xs i) :: fr1 js σ) Hc k)
    (hq : ∀ D qs H', H1 D = none → Same H1 H' → RowsAt H' D qs n g → (∀ q ∈ qs, H1 q = none) → Q (.ref D) H') : tC1 js tAll te σ Q J H1 := by
  intro D hD
  refine ⟨fun i m ys H => m = n - i ∧ i ≤ n ∧ ∃ qs, ys = qs.map V.ref ∧ Same H1 H ∧ RowsAt H D qs i g ∧ ∀ q ∈ qs, H1 q = none, ⟨n, by simp, Nat.zero_le _, [], rfl, Same.laid hD, ⟨upd_same, rfl, List.nodup_nil, List.not_mem_nil, fun i q e => by simp at e⟩, fun q h => absurd h List.not_mem_nil⟩, ?_⟩
  rintro i m ys H ⟨rfl, hi, qs, rfl, sm, R, fr⟩
  refine ⟨R.top, ?_⟩
  by_cases hlt : i < n
  · obtain ⟨h1, h2⟩ := (hJ i H sm).1 hlt
    refine .inr ⟨h1, fun x H' y => ?_⟩
    obtain ⟨rfl, rfl⟩ := h2 x H' y
    unfold tAll
    dsimp only
    rw [if_pos rfl]
    refine hte i _ _ hlt sm fun q hqn => ?_
    have nD : D ≠ q := ne_of_none R.top hqn
    have nq : q ∉ qs := fun z => by
      obtain ⟨j, hj⟩ := List.getElem?_of_mem z
      rw [R.at_ j q hj] at hqn
      cases hqn
    have ln := R.ln
    refine ⟨by rw [upd_ne nD]; exact R.top, small1000 (by rw [List.length_map]; omega), n - (i + 1), by omega, rfl, hlt, qs ++ [q], by simp, fun b o e => ?_, ⟨?_, by simp [ln], ?_, ?_, fun j q' e => ?_⟩, fun q' hq' => ?_⟩
    · rw [upd_ne (ne_of_none e hD), upd_ne (ne_of_none (sm b o e) hqn)]
      exact sm b o e
    · rw [upd_same, List.map_append]
      rfl
    · rw [List.nodup_append]
      refine ⟨R.nd, by simp, fun a ha b hb => ?_⟩
      have hb' : b = q := by simpa using hb
      rw [hb']
      rintro rfl
      exact nq ha
    · intro z
      rcases List.mem_append.mp z with z | z
      · exact R.ap z
      · exact nD (by simpa using z)
    · by_cases hj : j < qs.length
      · rw [List.getElem?_append_left hj] at e
        have hq0 := R.at_ j q' e
        have n1 : q' ≠ D := fun z => R.ap (by rw [← z]; exact List.mem_of_getElem? e)
        rw [upd_ne n1, upd_ne (ne_of_none hq0 hqn)]
        exact hq0
      · rw [List.getElem?_append_right (by omega)] at e
        have hj0 : j - qs.length = 0 := by
          have := (List.getElem?_eq_some_iff.mp e).1
          simp at this
          omega
        rw [hj0] at e
        have e' : q = q' := by simpa using e
        subst e'
        have hji : j = i := by omega
        subst hji
        rw [upd_ne (Ne.symm nD), upd_same]
    · rcases List.mem_append.mp hq' with z | z
      · exact fr q' z
      · have z' : q' = q := by simpa using z
        rw [z']
        exact sm.free hqn
  · have e : i = n := by omega
    subst e
    exact .inl ⟨(hJ i H sm).2 (Nat.le_refl _), hq D qs H hD sm R fr⟩
theorem itr_new {n : Nat} {H1 : Hp} : ∀ i H, Same H1 H → (i < n → (Itr 0 n).go i H ∧ ∀ x H', (Itr 0 n).yld i H x H' → x = .int (0 + (i : Int)) ∧ H' = H) ∧ (n ≤ i → (Itr 0 n).stop i H) :=
  fun i H _ => ⟨fun h => ⟨h, fun x H' y => by obtain ⟨e1, e2⟩ := y; subst e1 e2; exact ⟨rfl, rfl⟩⟩, fun h => h⟩
theorem itl_new {K : PySem.W.Frag} {a : Addr} {xs : List V} {H1 : Hp} (hx : SqL K H1 a xs) : ∀ i H, Same H1 H → (i < xs.length → (Itl K a).go i H ∧ ∀ x H', (Itl K a).yld i H x H' → x = xs.getD i .non ∧ H' = H) ∧ (xs.length ≤ i → (Itl K a).stop i H) := fun i H sm => by
  have q := sm.seq hx
  refine ⟨fun h => ⟨⟨xs, xs[i], q, by simp [h]⟩, fun x H' y => ?_⟩, fun h => ⟨xs, q, h⟩⟩
  obtain ⟨e, y⟩ := y
  have hy := y xs q
  exact ⟨by rw [List.getD_eq_getElem?_getD, hy]; rfl, e⟩
end L2

/-! LAMP G: defs, methods and classes of the text in short -/
namespace L2
open PySem PySem.Spec PyProof.Rows
structure Has (P : Program) (w : World) (K : PySem.W.Frag) (mg : Str → Option Value) (base : Heap) (CX : CXT) (k : Nat) (x : Str) (ps : List Str) (sp : Sp) : Prop where
  ex : ∃ f fd, FnOk P w K mg base CX k f fd ps sp ∧ Binds K fd ps [] ∧ mg x = some (.ref f) ∧ PySem.W.keepIn K (.ref f) = true
structure HasM (P : Program) (w : World) (K : PySem.W.Frag) (mg : Str → Option Value) (base : Heap) (CX : CXT) (k : Nat) (C : Addr) (m : Str) (ps : List Str) (dvs : List V) (sp : Sp) : Prop where
  ex : ∃ f fd ds, FnOk P w K mg base CX k f fd ps sp ∧ Binds K fd ps ds ∧ Vals dvs ds ∧ Meth K C m f
  cl : Cls K C
structure HasC (P : Program) (w : World) (K : PySem.W.Frag) (mg : Str → Option Value) (base : Heap) (CX : CXT) (k : Nat) (C : Addr) (x : Str) (ps : List Str) (sp : Sp) : Prop where
  ex : ∃ f fd, FnOk P w K mg base CX k f fd ps sp ∧ Binds K fd ps [] ∧ Mk K C f
  m : mg x = some (.ref C)
theorem pass0S {X : Cx} {E : St → XK} : PassesS CX0 X E := fun _ _ _ _ _ _ _ h => h.elim
section
variable {X : Cx} {CX : CXT} {k : Nat} {C : Addr} {ps : List Str} {sp : Sp} {dvs : List V} {E : St → XK} {x m : Str} {p pos apos : Pos} {e o : Expr} {es : List Expr} {ta : TE} {t : TA}
theorem pe_callH (h : Has X.prog X.w X.K X.mg X.base CX k x ps sp) (hr : Room k X.A) (hg : Gl X x) (hx : PassesS CX X E) (ha : PA X (e :: es) t)
    (hdb : (x == ("__debug__" : Str)) = false := by decide) (he : starEach (e :: es) X.env = (false, eval e X.env) :: starEach es X.env := by rfl) (hpl : (backTo pos (starEach es X.env)).any (·.1) = false := by rfl) :
    PE X (.Call (.Name x p) (e :: es) [] pos) (tCallS sp [] E t) := by
  obtain ⟨f, fd, F, b, hm, hk⟩ := h.ex
  exact pe_callS F hr hg hm hk b .nil hx ha hdb he hpl
theorem pe_methH {pl : Sem Bool} (he : PE X o ta) (h : HasM X.prog X.w X.K X.mg X.base CX k C m ps dvs sp) (hr : Room k X.A) (hx : PassesS CX X E) (ha : PA X (e :: es) t)
    (hst : starEach (e :: es) X.env = (false, eval e X.env) :: starEach es X.env := by rfl) (hpl : (backTo pos (starEach es X.env)).any (·.1) = false := by rfl)
    (ht : eval (.Call (.Attribute o m apos) (e :: es) [] pos) X.env = (do
      let ov ← eval o X.env
      standAt apos.atName
      let (f, first) ← holding [ov] (getMethod ov m pl)
      callWith pos f first (backTo pos (starEach (e :: es) X.env)) (backToKw pos (keywordEach [] X.env))) := by rfl) :
    PE X (.Call (.Attribute o m apos) (e :: es) [] pos) (tMethS C m sp dvs E ta t) := by
  obtain ⟨f, fd, ds, F, b, hd, hm⟩ := h.ex
  exact pe_methS he h.cl hm F hr b hd hx ha hst hpl ht
theorem pe_makeH (h : HasC X.prog X.w X.K X.mg X.base CX k C x ps sp) (hr : Room (k + 1) X.A) (hg : Gl X x) (hx : PassesS CX X E)
    (ha : PA X (e :: es) t) (hdb : (x == ("__debug__" : Str)) = false := by decide) (he : starEach (e :: es) X.env = (false, eval e X.env) :: starEach es X.env := by rfl) (hpl : (backTo pos (starEach es X.env)).any (·.1) = false := by rfl) :
    PE X (.Call (.Name x p) (e :: es) [] pos) (tMakeS C sp [] E t) := by
  obtain ⟨f, fd, F, b, M⟩ := h.ex
  exact pe_makeS M F hr hg h.m b .nil hx ha hdb he hpl
end
theorem posI {j : Int} (h : decide (0 < j) = true) : 0 < j := of_decide_eq_true h
theorem divI {i j : Int} (h : (decide (0 < j) && decide (j < 1073741824)) = true) : CDiv i j := by
  rw [Bool.and_eq_true, decide_eq_true_eq, decide_eq_true_eq] at h
  exact h
theorem mulL {i j : Int} (h : (decide (-(2 ^ 64) < i) && decide (i < 2 ^ 64)) = true) : CMul i j := by
  rw [Bool.and_eq_true, decide_eq_true_eq, decide_eq_true_eq] at h
  exact .inl h
section
variable {X : Cx} {N1 N2 : List Str} {sc1 sc2 : Scope} {c1 c2 : List (Str × Addr)} {C1 C2 : Addr} {s1 s2 : Shared} {H1 H2 : Hp} {f1 f2 : List Addr}
end
theorem kit_same {K : PySem.W.Frag} {t : Value} : PySem.W.kitOne K t t = some true := by
  unfold PySem.W.kitOne
  rw [if_pos (by simp)]
theorem atI_pair0 {x y : V} {m : Int} (h : m = 0) : atI [x, y] m = some x := by subst h; exact atI_nat (j := 0) rfl
theorem atI_pair1 {x y : V} {m : Int} (h : m = 1) : atI [x, y] m = some y := by subst h; exact atI_nat (j := 1) rfl
end L2

/-! LAMP H: promises lifted to those that may raise; isinstance of a caught exception; short names -/
namespace L2
open PySem PySem.Spec PyProof.Rows
theorem bootB_len : bootBuiltins "len" = some (.builtin "len") := PySem.boot_len
theorem bootB_list : bootBuiltins "list" = some (.type "list") := PyProof.Rows.boot_list
theorem bootB_bool : bootBuiltins "bool" = some (.type "bool") := PyProof.Rows.boot_bool
theorem bootB_int : bootBuiltins "int" = some (.type "int") := by decide +kernel
theorem bootB_isinstance : bootBuiltins "isinstance" = some (.builtin "isinstance") := by decide +kernel
theorem bootB_any : bootBuiltins "any" = some (.builtin "any") := by decide +kernel
theorem bootB_ValueError : bootBuiltins "ValueError" = some (.type "ValueError") := by decide +kernel
structure LB (mg : Str → Option Value) : Prop where
  b_len : mg "len" = none
  b_list : mg "list" = none
  b_bool : mg "bool" = none
  b_int : mg "int" = none
  b_isinstance : mg "isinstance" = none
  b_all : mg "all" = none
  b_any : mg "any" = none
  b_range : mg "range" = none
  b_enumerate : mg "enumerate" = none
  b_ValueError : mg "ValueError" = none
  b_reversed : mg "reversed" = none
  b_str : mg "str" = none
  b_tuple : mg "tuple" = none
  b_set : mg "set" = none
  b_sorted : mg "sorted" = none
  b_min : mg "min" = none
section
variable {P : Program} {w : World} {K : PySem.W.Frag} {mg : Str → Option Value} {base : Heap} {k : Nat} {f : Addr} {fd : FuncData} {ps : List Str} {sp : Sp} {x : Str}
theorem FnOk.lift {CX : CXT} (F : FnOk P w K mg base CX0 k f fd ps sp) : FnOk P w K mg base CX k f fd ps sp :=
  ⟨F.len, fun A outer s H args us vs Q E hr he hb hv hs => codeAny_mono (F.run A outer s H args us vs Q E hr he hb hv hs) fun r s' q => by
    cases r with
    | error e => exact False.elim q
    | ok fl => cases fl <;> exact q⟩
theorem Has.mk' {CX : CXT} (F : FnOk P w K mg base CX k f fd ps sp) (b : Binds K fd ps []) (m : mg x = some (.ref f)) (kp : PySem.W.keepIn K (.ref f) = true) : Has P w K mg base CX k x ps sp := ⟨f, fd, F, b, m, kp⟩
end
/-! ### isinstance(e, C), e caught -/
structure ExcT (K : PySem.W.Frag) (C : Addr) : Prop where
  ga : PySem.W.findIn K (.ref C) "__getattribute__" = some (some (.builtin "BaseException.__getattribute__"))
  gh : PySem.W.findIn K (.ref C) "__getattr__" = some none
  mb : PySem.W.mroIn K C (.type "BaseException") = some true
  cs : (PySem.W.clsIn K C).isSome = true
  ha : PySem.W.findIn K (.ref C) "__class__" = some (some (.builtin "object.__class__"))
  hn : PySem.W.specialIn K (.builtin "object.__class__") "__get__" = some (some (.builtin "getset_descriptor.__get__"))
  tk : PySem.W.takesIn K (.builtin "object.__class__") = some true
  hm : PySem.W.mroIn K C (.type "object") = some true
section
variable {prog : Program} {w : World} {A : Around} {E : Value → Shared → Prop} {s : Shared} {K : PySem.W.Frag} {x C : Addr}
def ExcAt (x C : Addr) (h : Heap) : Prop := ∃ o vs, h.get? x = some o ∧ o.cls = .ref C ∧ o.data = .fields vs
theorem ExcAt.type {h : Heap} (p : ExcAt x C h) {M : Model} : PySem.W.Looks M h (typeOf (.ref x)) (.ref C) := by
  obtain ⟨o, vs, h1, h2, _⟩ := p
  exact h2 ▸ (PySem.W.Looks.ld h1).andThen .now
open PySem.W Builtin Builtin.ObjectAttr Builtin.Getset_descriptor in
theorem exc_find (T : ExcT K C) {M : Model} {h : Heap} (X : K.In h) :
    Looks M h (find (.ref x) (.ref C) "__class__") (.bind (.builtin "getset_descriptor.__get__") (.builtin "object.__class__")) := by
  have a1 := looks_findIn (M := M) X T.ha
  have a2 : Looks M h (getOf (some (.builtin "object.__class__"))) _ := looks_specialIn X T.hn
  have a3 := looks_takesIn (M := M) X T.tk
  have a4 : Looks M h (dataDescriptor? (some (.builtin "object.__class__")) (some (.builtin "getset_descriptor.__get__"))) _ := a3.andThen .now
  exact a1.andThen (a2.andThen (a4.andThen (Looks.tag .now)))
open PySem.W Builtin Builtin.ObjectAttr Builtin.Getset_descriptor in
theorem exc_get {tp : Value} {R : Result → Shared → Prop} (T : ExcT K C) (X : K.In s.heap) (p : ExcAt x C s.heap) (h : R (.ok (.ret (.ref C))) s) :
    codeAny (model prog w) A (.call (.builtin "getset_descriptor.__get__") ⟨[.builtin "object.__class__", .ref x, tp], []⟩) R s := by
  obtain ⟨hh, g, dr, t, os⟩ := s
  have b0 := p.type (M := model prog w)
  have b1 := looks_mroIn (M := model prog w) X T.hm
  refine codeAny_call_builtin KF.slot_gs.plain KF.entry_gs ?_
  refine KF.slot_gs.check _ _ _ _ _ _ _ _ KF.type_class (KF.args_gs _ _ _) ?_
  unfold Builtin.«getset_descriptor.__get__»
  unfold descrGet
  rw [dga_obj]
  refine wpAny_bind (wpAny_pure ?_)
  unfold descrGetter descrCheckInstance
  unfold descrNameAndClass isInstance
  simp only [KF.owner_class]
  repeat lk
  refine ⟨Code.quiet_builtin _ (by decide +kernel), ?_⟩
  refine codeAny_builtin KF.entry_class ?_
  unfold Builtin.«object.__class__»
  unfold shownTypeOf
  repeat lk
  exact h
theorem be_entry : entryFor table "BaseException.__getattribute__" = some Builtin.«object.__getattribute__» :=
  entryFor_alias (id' := "object.__getattribute__") (by kernel_rfl) (by first | rfl | decide +kernel) (by decide +kernel) (by kernel_rfl)
theorem be_kind : builtinKind "BaseException.__getattribute__" = some .slot := by decide +kernel
theorem be_split : splitId "BaseException.__getattribute__" = some ("BaseException", "__getattribute__") := by decide +kernel
theorem be_bind (self : Value) : bindSpecial (.builtin "BaseException.__getattribute__") self = pure (.builtin "BaseException.__getattribute__", [self]) := by
  have z1 : withoutEnding? "BaseException.__getattribute__" "#opaque" = none := by decide +kernel
  have z2 : withoutEnding? "BaseException.__getattribute__" "#data" = none := by decide +kernel
  simp only [bindSpecial, typeOf, builtinType, z1, z2, be_kind]
  rfl
theorem be_plain : plainId "BaseException.__getattribute__" = true := by decide +kernel
theorem be_args (a b : Value) : argsOk "BaseException.__getattribute__" ⟨[a, b], []⟩ := by
  unfold argsOk
  kernel_rfl
open PySem.W Builtin Builtin.ObjectAttr Builtin.Getset_descriptor in
theorem exc_check {nm : Value} {Q : Unit → Shared → Prop} (T : ExcT K C) (X : K.In s.heap) (p : ExcAt x C s.heap) (h : Q () s) : wpAny (model prog w) A (checkBuiltinCall "BaseException.__getattribute__" ⟨[.ref x, nm], []⟩) Q E s := by
  obtain ⟨hh, g, d, t, os⟩ := s
  have d0 := p.type (M := model prog w)
  have d1 : Looks (model prog w) hh (isInstance (.ref x) (.type "BaseException")) true := d0.andThen (looks_mroIn (M := model prog w) X T.mb)
  simp only [checkBuiltinCall, be_kind, be_split]
  refine wpAny_bind (d1.at ?_)
  simp only [Bool.not_true, Bool.false_eq_true, if_false]
  have ha := be_args (.ref x) nm
  cases hsig : Manifest.signature? "BaseException.__getattribute__" with
  | none => exact wpAny_pure h
  | some sig =>
    simp only [argsOk, hsig] at ha
    have h2 : Bind.checkArgs "BaseException.__getattribute__" sig ⟨[.ref x, nm], []⟩ = pure () := ha
    show wpAny _ _ (Bind.checkArgs "BaseException.__getattribute__" sig ⟨[.ref x, nm], []⟩) Q E _
    rw [h2]
    exact wpAny_pure h
open PySem.W Builtin Builtin.ObjectAttr Builtin.Getset_descriptor in
theorem exc_attr {tk : Tok} {Q : Fin → Shared → Prop} (T : ExcT K C) (X : K.In s.heap) (p : ExcAt x C s.heap) (h : Q (.done (.ret (.ref C))) s) :
    wpAny (model prog w) A (Builtin.«object.__getattribute__» ⟨[.ref x, .str "__class__" tk], []⟩) Q E s := by
  obtain ⟨hh, g, d, t, os⟩ := s
  have c0 := p.type (M := model prog w)
  have c2 := exc_find (x := x) T (M := model prog w) X
  unfold Builtin.«object.__getattribute__»
  refine wpAny_bind (wpAny_of_eq (a := (Value.ref x, [Value.str "__class__" tk])) rfl ?_)
  refine wpAny_bind (wpAny_of_eq (a := ("__class__" : Str)) rfl ?_)
  refine wpAny_bind (c0.at (wpAny_bind (c2.at ?_)))
  refine wpAny_bind (wpAny_holding (wpAny_call ?_))
  exact exc_get (s := ⟨hh, g, d, t, os⟩) T X p (wpAny_pure h)
open PySem.W Builtin Builtin.ObjectAttr Builtin.Getset_descriptor in
theorem exc_class {Q : Option Value → Shared → Prop} (T : ExcT K C) (X : K.In s.heap) (p : ExcAt x C s.heap) (h : Q (some (.ref C)) { s with toks := s.toks + 1 }) :
    wpAny (model prog w) A (getAttr? (.ref x) "__class__") Q E s := by
  obtain ⟨hh, g, d, t, os⟩ := s
  have c0 := p.type (M := model prog w)
  have c1 := looks_findIn (M := model prog w) X T.ga
  have c3 := looks_findIn (M := model prog w) X T.gh
  unfold getAttr? getAttrBy?
  unfold getAttrBy
  refine wpAny_bind (wpAny_mkText (wpAny_bind (wpAny_attempt ?_)))
  refine wpAny_holding (wpAny_bind (c0.at (wpAny_bind (c1.at ?_))))
  show wpAny _ _ (getAttrByItsOwn _ _ _ _ _ _) _ _ _
  unfold getAttrByItsOwn
  refine wpAny_bind (c3.at ?_)
  refine wpAny_bind (wpAny_attempt (wpAny_holding ?_))
  show wpAny _ _ (boundAndCalled _ _ _) _ _ _
  unfold boundAndCalled
  refine wpAny_bind (wpAny_of_eq (be_bind _) ?_)
  refine wpAny_call (codeAny_call_builtin be_plain be_entry (exc_check (s := ⟨hh, g, d, t + 1, os⟩) T X p (exc_attr (s := ⟨hh, g, d, t + 1, os⟩) T X p ?_)))
  show wpAny _ _ (handedOut (.ref C)) _ _ _
  rw [handedOut_of (show handedIn (.ref C) = true from rfl)]
  exact wpAny_pure (wpAny_pure h)
open PySem.W Builtin Builtin.ObjectAttr Builtin.Getset_descriptor in
theorem kitx_exc (T : ExcT K C) : KitX K (.ref x) (.ref C) (ExcAt x C) where
  ty := fun _ _ _ p => p.type
  it := fun _ _ X _ => by
    have z := T.cs
    unfold clsIn at z
    split at z
    · rename_i c' d' cd' sl' ho
      intro A' Q' E' s' k q
      unfold isType
      unfold loadHead
      exact wpAny_bind (wpAny_loadPart (k _ _ (X _ _ ho)) (wpAny_pure q))
    · cases z
  ne := fun h tp dd its n sl X htp => by
    have z := T.cs
    refine Bool.eq_false_iff.mpr fun q => ?_
    have e : C = tp := Value.ref.inj (beq_iff_eq.mp q)
    subst e
    unfold clsIn at z
    split at z
    · rename_i c' d' cd' sl' ho
      cases (X _ _ ho).symm.trans htp
    · cases z
  ca := fun X p k => exc_class T X p k
end
section
variable {X : Cx}
def rIsiX (K : PySem.W.Frag) : List V → Hp → VK → Prop := fun xs H Q => ∃ a C cV c b, xs = [.ref a, cV] ∧ ((∃ n, cV = .ty n ∧ c = .type n) ∨ (∃ d, cV = .ref d ∧ c = .ref d)) ∧ H a = some (excO a (.ref C)) ∧ ExcT K C ∧ PySem.W.kitOne K (.ref C) c = some b ∧ Q (.bl b) H
theorem call_isiX : CallR X (.builtin "isinstance") (rIsiX X.K) := by
  intro pins s σ H xs us Q I r h
  obtain ⟨a, C, cV, c, b, rfl, hc, ha, T, hk, q⟩ := h
  obtain ⟨u, u2, rfl, rx, rc⟩ := vals2 r
  have e : u2 = c := by
    rcases hc with ⟨n, e1, e2⟩ | ⟨d, e1, e2⟩
    · subst e1 e2; exact rc
    · subst e1 e2; exact rc
  subst e
  cases (show u = Value.ref a from rx)
  have p : ExcAt a C s.heap := by
    obtain ⟨⟨o, vs, q1, q2, q3, _⟩, _⟩ := (show ObjOk X.prog X.w H s.heap a (excO a (.ref C)) from I.hok a _ ha)
    exact ⟨o, vs, q1, q2, q3⟩
  exact PySem.W.kia_one (kitx_exc T) I.kIn p hk (fun z => nomatch z) fun tk => ⟨.bl b, H, I.tok tk, rfl, q⟩
end
section
variable {X : Cx} {x : Str} {pos : Pos} {n : String} {a : Addr}
theorem pe_tyB (hg : Gl X x) (hm : X.mg x = none) (hv : bootBuiltins x = some (.type n)) (hn : x ≠ "__name__" := by decide) (hd : (x == ("__debug__" : Str)) = false := by decide) : PE X (.Name x pos) (tC (.ty n)) := pe_bltn hg hm hv rfl hn hd
theorem pe_cls (hg : Gl X x) (hm : X.mg x = some (.ref a)) (hd : (x == ("__debug__" : Str)) = false := by decide) : PE X (.Name x pos) (tC (.ref a)) := pe_glob hg hm rfl hd
end
theorem filter_one {n i : Nat} (h : i < n) : (List.range n).filter (fun j => decide (j = i)) = [i] := by
  induction n with
  | zero => omega
  | succ m ih =>
    rw [List.range_succ, List.filter_append]
    by_cases hm : i = m
    · subst hm
      have e : (List.range i).filter (fun j => decide (j = i)) = [] := by
        rw [List.filter_eq_nil_iff]
        intro a ha
        have := List.mem_range.mp ha
        simp
        omega
      rw [e]
      simp
    · rw [ih (by omega)]
      have : ¬ m = i := fun z => hm z.symm
      simp [this]
/-! ### rules whose reading names K: K by name -/
section
variable {X : Cx}
theorem ixLK (K : PySem.W.Frag) (h : X.K = K := by rfl) : IxR X (rIxL K) := by subst h; exact ix_list
theorem ixTK (K : PySem.W.Frag) (h : X.K = K := by rfl) : IxR X (rIxT K) := by subst h; exact ix_tup
theorem isiK (K : PySem.W.Frag) (h : X.K = K := by rfl) : CallR X (.builtin "isinstance") (rIsi K) := by subst h; exact call_isi
theorem isiXK (K : PySem.W.Frag) (h : X.K = K := by rfl) : CallR X (.builtin "isinstance") (rIsiX K) := by subst h; exact call_isiX
theorem lenK (K : PySem.W.Frag) (h : X.K = K := by rfl) : CallR X (.builtin "len") (fun xs H Q => ∃ p ys, xs = [.ref p] ∧ (SqL K H p ys ∨ SqT K H p ys) ∧ Q (.int ys.length) H) := by subst h; exact call_len_seq
theorem listK (K : PySem.W.Frag) (h : X.K = K := by rfl) : CallR X (.type "list") (fun xs H Q => ∃ p ys, xs = [.ref p] ∧ (SqL K H p ys ∨ SqT K H p ys) ∧ ∀ l, H l = none → Q (.ref l) (upd H l (.lst ys))) := by subst h; exact call_list_of
theorem anyK (K : PySem.W.Frag) (hc : X.calm = true) (h : X.K = K := by rfl) : CallR X (.builtin "any") (fun xs H Q => ∃ (p : Addr) (bs : List Bool), xs = [.ref p] ∧ SqL K H p (bs.map V.bl) ∧ Q (.bl (bs.any id)) H) := by subst h; exact call_any hc
theorem inSK (K : PySem.W.Frag) (h : X.K = K := by rfl) : OpR X (compareOp .In) (rIn K false) := by subst h; exact op_in_seq
theorem eqSK (K : PySem.W.Frag) (hu : X.A.units < cLine) (h : X.K = K := by rfl) : OpR X (compareOp .Eq) (rEqS K false) := by subst h; exact op_eq_seq hu
theorem fldK (K : PySem.W.Frag) {e : Expr} {f : Str} {pos : Pos} {ta : TE} (he : PE X e ta) (hb : attributeBase e f X.env (eval e X.env) = eval e X.env := by rfl) (h : X.K = K := by rfl) : PE X (.Attribute e f pos) (tFld K ta f) := by subst h; exact pe_fld he hb
theorem piLK (K : PySem.W.Frag) {tg l : Expr} {tl : TE} (hl : PE X l tl) (h : X.K = K := by rfl) : PI X tg l (iList K tl) := by subst h; exact pi_list hl
theorem piEK (K : PySem.W.Frag) {es : List Expr} {k : Nat} {tp p pos : Pos} {l : Expr} {ta : TA} (hg : Gl X "enumerate") (hm : X.mg "enumerate" = none) (ha : PA X [l] ta) (hs : starEach [l] X.env = [(false, eval l X.env)] := by rfl) (h : X.K = K := by rfl) :
    PI X (.Tuple es k tp) (.Call (.Name "enumerate" p) [l] [] pos) (iEnum K ta) := by subst h; exact pi_enum hg hm ha hs
end
/-! ### rows -/
theorem ix_nodup {α : Type} {N : List α} (hN : N.Nodup) {i j : Nat} {x : α} (a : N[i]? = some x) (b : N[j]? = some x) : i = j := by
  obtain ⟨h1, e1⟩ := List.getElem?_eq_some_iff.mp a
  obtain ⟨h2, e2⟩ := List.getElem?_eq_some_iff.mp b
  exact (List.getElem_inj hN).mp (e1.trans e2.symm)
theorem RowsAt.set {H : Hp} {D : Addr} {qs : List Addr} {n : Nat} {g : Nat → List V} (R : RowsAt H D qs n g) {a : Nat} {q : Addr} (hq : qs[a]? = some q) (ys : List V) : RowsAt (upd H q (.lst ys)) D qs n (fun i => if i = a then ys else g i) := by
  have m := List.mem_of_getElem? hq
  have nD : D ≠ q := fun z => R.ap (z ▸ m)
  refine ⟨by rw [upd_ne nD]; exact R.top, R.ln, R.nd, R.ap, fun i q' e => ?_⟩
  by_cases hi : i = a
  · subst hi
    rw [hq] at e
    cases e
    rw [upd_same, if_pos rfl]
  · have hne : q' ≠ q := fun z => hi (ix_nodup R.nd e (z ▸ hq))
    rw [upd_ne hne, if_neg hi]
    exact R.at_ i q' e
theorem RowsAt.congr {H : Hp} {D : Addr} {qs : List Addr} {n : Nat} {g g' : Nat → List V} (R : RowsAt H D qs n g) (h : ∀ i, i < n → g i = g' i) : RowsAt H D qs n g' :=
  ⟨R.top, R.ln, R.nd, R.ap, fun i q e => by
    have hi : i < n := by rw [← R.ln]; exact (List.getElem?_eq_some_iff.mp e).1
    rw [← h i hi]
    exact R.at_ i q e⟩
theorem RowsAt.row {H : Hp} {D : Addr} {qs : List Addr} {n : Nat} {g : Nat → List V} (R : RowsAt H D qs n g) {a : Nat} (h : a < n) : ∃ q, qs[a]? = some q ∧ atI (qs.map V.ref) (a : Int) = some (.ref q) ∧ H q = some (.lst (g a)) := by
  have hl : a < qs.length := by rw [R.ln]; exact h
  exact ⟨qs[a], by simp [hl], atI_nat (by simp [hl]), R.at_ _ _ (by simp [hl])⟩
theorem kit_ii {K : PySem.W.Frag} : PySem.W.kitOne K (.type "int") (.type "bool") = some false := by kernel_rfl
end L2

/-! LAMP K: defs that an except suite may call too -/
namespace L2
open PySem PySem.Spec PyProof.Rows
structure RoomS (k : Nat) (A : Around) : Prop where
  dp : A.depth + 3 * k + 5 < recursionLimit
  un : A.units + 16 * k + 200 < cLine
theorem Room.suite {j k : Nat} {A : Around} (r : Room k A) (v : Option Value) (h : j ≤ k) : RoomS j (A.mark v) := ⟨by
  have := r.dp
  show A.depth + 3 * j + 5 < _
  omega, by
  have := r.un
  show A.units + 16 * j + 200 < _
  omega⟩
def cxS (P : Program) (w : World) (K : PySem.W.Frag) (mg : Str → Option Value) (base : Heap) (N : List Str) (qual : Str) (scope : Scope) (f : Addr) (cd : Value) (A : Around) (outer : List Env) (s : Shared) (H : Hp) (E : XK) : Cx :=
  { cxOf CX0 P w K mg base N qual scope f cd A outer s H E with calm := false, xe := fun _ _ => False }
structure FnOkS (P : Program) (w : World) (K : PySem.W.Frag) (mg : Str → Option Value) (base : Heap) (k : Nat) (f : Addr) (fd : FuncData) (ps : List Str) (sp : Sp) : Prop where
  len : ∀ vs H Q E, sp vs H Q E → vs.length = ps.length
  run : ∀ (A : Around) (outer : List Env) (s : Shared) (H : Hp) (args : Args) (us : List Value) (vs : List V) (Q : VK) (E : XK), RoomS k A → Env0 P w K mg base A outer s H → BindsTo s fd args (ps.zip us) → Vals vs us → sp vs H Q E →
    codeAny (model P w) A (.call (.ref f) args) (CR CX0 outer P w H s Q E) s
section
variable {P : Program} {w : World} {K : PySem.W.Frag} {mg : Str → Option Value} {base : Heap}
structure HasS (P : Program) (w : World) (K : PySem.W.Frag) (mg : Str → Option Value) (base : Heap) (k : Nat) (x : Str) (ps : List Str) (sp : Sp) : Prop where
  ex : ∃ f fd, FnOkS P w K mg base k f fd ps sp ∧ Binds K fd ps [] ∧ mg x = some (.ref f) ∧ PySem.W.keepIn K (.ref f) = true
end
section
variable {X : Cx} {k : Nat} {ps : List Str} {sp : Sp} {x : Str} {p pos : Pos} {e : Expr} {es : List Expr} {t : TA}
end
end L2

/-! LAMP P: the end of a list while an exception is handled -/
namespace L2
open PySem PySem.Spec PyProof.Rows
theorem entry_unch : entryFor table "proto.unchain" = some Builtin.«proto.unchain» := entryFor_of_fast (by kernel_rfl)
section
variable {prog : Program} {w : World} {A : Around} {E : Value → Shared → Prop} {s : Shared}
theorem unchain_ok {e v : Value} {ea : Addr} {Q : Value → Shared → Prop} (c : C2 ea s.heap) (h : Q .none s) : wpAny (model prog w) A (runValue (.builtin "proto.unchain" ⟨[e, .ref ea, v, .bool false], []⟩)) Q E s := by
  obtain ⟨o, ho, vs, hd, hv⟩ := c
  refine wpAny_runValue (codeAny_builtin entry_unch ?_)
  show wpAny _ _ (field (.ref ea) 2 >>= _) _ _ s
  refine wpAny_bind (wpAny_field ho hd hv ?_)
  show wpAny _ _ (if (Value.none == Value.none) = true then _ else _) _ _ s
  rw [if_pos (show (Value.none == Value.none) = true from rfl)]
  exact wpAny_pure h
theorem next_endH {it l ea : Addr} {i : Nat} {xs : Array Value} {Q : Option Value → Shared → Prop} (hh : A.handled = some (.ref ea)) (c : C2 ea s.heap) (hI : s.heap.IsListIter it l i) (hL : s.heap.IsList l xs) (hN : xs[i]? = none)
    (hQ : ∀ h', Heap.ExtBut it s.heap h' → Q none { s with heap := h' }) : wpAny (model prog w) A (pyNext (.ref it)) Q E s := by
  obtain ⟨ob, hob, hcb, hdb⟩ := id hI
  obtain ⟨oL, hoL, _, nL, hdL⟩ := hL
  unfold pyNext
  refine wpAny_bind (wpAny_attempt (wpAny_callSpecial?_slot (name := Str.ofString "__next__") hI.typeIs slot_listiter_next (wpAny_call_entry slot_listiter_next hI.typeIs entry_listiter_next ?_ (args_listiter_next _))))
  show wpAny _ _ (field (.ref it) 0 >>= _) _ _ s
  refine wpAny_bind (wpAny_field hob hdb (x := .ref l) rfl ?_)
  show wpAny _ _ (if (Value.ref l == Value.none) = true then _ else _) _ _ s
  rw [if_neg (show ¬ ((Value.ref l == Value.none) = true) from fun z => Bool.false_ne_true z)]
  show wpAny _ _ (field (.ref it) 1 >>= _) _ _ s
  refine wpAny_bind (wpAny_field hob hdb (x := .int i 0) rfl ?_)
  show wpAny _ _ (seqItems? (.ref l) >>= _) _ _ s
  refine wpAny_bind (wpAny_seqItems hoL hdL ?_)
  simp only [Int.toNat_natCast, hN]
  refine wpAny_bind (wpAny_rule (wpAny_bind (wpAny_setField hob hdb (by simp) ?_)))
  show wpAny _ _ (newExc (.type "StopIteration") [] >>= _) _ _ _
  refine wpAny_bind ?_
  simp only [newExc, newTuple]
  refine wpAny_bind (wpAny_newObj_type ?_ (by size_fits))
  refine wpAny_bind (m := firstArgMember _ _) (wpAny_of_eq (a := Value.none) (by first | rfl | (simp only [firstArgMember]; rfl)) ?_)
  refine wpAny_newObj_type ?_ (by size_fits)
  simp only [raiseNew]
  refine wpAny_bind (wpAny_handled ?_)
  rw [show A.in1.handled = some (.ref ea) from hh]
  have c2 : C2 ea (s.heap.update it (Obj.mapFields (·.setIfInBounds 0 Value.none))) := c.upd fun o p => p.set (by decide)
  have x2 : Heap.ExtBut it s.heap (s.heap.update it (Obj.mapFields (·.setIfInBounds 0 Value.none))) := (Heap.SameBut.update ..).extBut
  generalize s.heap.update it (Obj.mapFields (·.setIfInBounds 0 Value.none)) = h1 at c2 x2
  have c3 : C2 ea (h1.push { cls := .type "tuple", data := .seq #[] }) := c2.push
  have x3 : Heap.ExtBut it s.heap (h1.push { cls := .type "tuple", data := .seq #[] }) := x2.push _
  generalize h1.push { cls := .type "tuple", data := .seq #[] } = h2 at c3 x3
  have lt : ea < h2.objs.size := by
    obtain ⟨o, ho, _⟩ := c3
    exact Heap.lt_size ho
  dsimp only
  rw [if_pos (by simp; exact Nat.ne_of_lt lt)]
  refine wpAny_bind (wpAny_holding (unchain_ok c3.push ?_))
  have hg := Heap.get?_push_size h2 (o := { cls := Value.type "StopIteration", data := Data.fields (#[Value.ref h1.objs.size, Value.none, Value.none, Value.none, Value.bool false, Value.none] ++ ownMembersOf (Value.type "StopIteration") []) }) rfl
  refine wpAny_bind (show wpAny _ _ (setField (.ref h2.objs.size) 2 (.ref ea)) _ _ _ from wpAny_setField hg rfl (by rw [Array.size_append]; show 2 < 6 + _; omega) (wpAny_throw ?_))
  refine wpAny_bind (wpAny_isInstance (T := "StopIteration") (b := true) ⟨_, Heap.get?_update_self _ hg rfl, rfl⟩ isSubtype_stop ?_)
  refine wpAny_pure (hQ _ fun b o hb e => ?_)
  have e2 : h2.get? b = some o := x3 b o hb e
  have ne : h2.objs.size ≠ b := Nat.ne_of_gt (Heap.lt_size e2)
  exact (Heap.get?_update_other _ _ ne).trans (Heap.get?_push_of_some _ e2)
theorem walks_listH {ea : Addr} (hh : A.handled = some (.ref ea)) (I ax : Addr) (hne : ax ≠ I) (nea : ea ≠ I) (xs : Array Value) :
    Walks prog w A I [I, ax, ea] [I] xs.size (fun i v => xs[i]? = some v) (fun i h => (h.IsListIter I ax i ∧ h.IsList ax xs) ∧ C2 ea h) where
  sub := fun b hb => by
    have hb' : b = I := List.mem_singleton.mp hb
    rw [hb']
    exact List.mem_cons_self
  frame := fun _ h h' st hk => ⟨⟨st.1.1.at fun o e => hk I (by simp) o e, st.1.2.at fun o e => hk ax (by simp) o e⟩, by
    obtain ⟨o, ho, p⟩ := st.2
    exact ⟨o, hk ea (by simp) o ho, p⟩⟩
  item := fun i s Q E hi st hQ => by
    refine wpAny_pyNext_list_item st.1.1 st.1.2 (x := xs[i]) (by simp [hi]) fun h' hit' hs' => ?_
    have kp : ∀ b o, b ∉ [I] → s.heap.get? b = some o → h'.get? b = some o := fun b o hb e => hs'.extBut b o (fun z => hb (by simp [z])) e
    refine hQ _ h' s.toks (by simp [hi]) ⟨⟨hit', st.1.2.extBut hs'.extBut hne⟩, ?_⟩ kp
    obtain ⟨o, ho, p⟩ := st.2
    exact ⟨o, kp ea o (by simp [nea]) ho, p⟩
  done := fun s Q E st hQ => next_endH hh st.2 st.1.1 st.1.2 (by simp) fun h' he' => hQ h' s.toks fun b o hb e => he' b o (fun z => hb (by simp [z])) e
  self := fun _ _ _ _ st hQ => wpAny_pyIter_listiter st.1.1 hQ
end
end L2

/-! LAMP N: defs that an except suite calls, told what is handled; any of a list there -/
namespace L2
open PySem PySem.Spec PyProof.Rows
structure FnOkT (P : Program) (w : World) (K : PySem.W.Frag) (mg : Str → Option Value) (base : Heap) (k : Nat) (f : Addr) (fd : FuncData) (ps : List Str) (sp : Option Value → Sp) : Prop where
  len : ∀ hv vs H Q E, sp hv vs H Q E → vs.length = ps.length
  run : ∀ (A : Around) (outer : List Env) (s : Shared) (H : Hp) (args : Args) (us : List Value) (vs : List V) (Q : VK) (E : XK), RoomS k A → Env0 P w K mg base A outer s H → BindsTo s fd args (ps.zip us) → Vals vs us → sp A.handled vs H Q E →
    codeAny (model P w) A (.call (.ref f) args) (CR CX0 outer P w H s Q E) s
section
variable {P : Program} {w : World} {K : PySem.W.Frag} {mg : Str → Option Value} {base : Heap}
theorem Fun.okT {x qual : Str} {st : Stmt} {f : Addr} {fd : FuncData} {N ps : List Str} {k : Nat} {sp : Option Value → Sp} (F : Fun K x qual st f fd) (S : FnScope N ps (defScope st)) (len : ∀ hv vs H Q E, sp hv vs H Q E → vs.length = ps.length)
    (hbody : ∀ (cdv : Value) (A : Around) (outer : List Env) (s : Shared) (H : Hp) (vs : List V) (Q : VK) (E : XK), RoomS k (A.deeper (envOfC qual (defScope st) s.heap.objs.size f cdv)) → sp A.handled vs H Q E →
      ∃ t, PSs (cxS P w K mg base N qual (defScope st) f cdv A outer s H E) (defBody st) t ∧ t { nx := fun _ H' => Q .non H', rt := Q } (start N vs) H) : FnOkT P w K mg base (k + 1) f fd ps sp := by
  obtain ⟨oc, od, kV, doc, pm, an, cdv, ct, osl, rfl, lk, hcd⟩ := F.ex
  refine ⟨len, fun A outer s H args us vs Q E hr e0 hb r hsp => ?_⟩
  have hl := len _ _ _ _ _ hsp
  have KX : K.In s.heap := e0.mod.kin.keeps fun b o e => (e0.bs b o e).1
  have lim : s.heap.NoLimit := e0.mod.nolimit.keeps fun b o e => (e0.bs b o e).1
  have hkind : ∀ y ∈ ps.zip us, (defScope st).names.lookup y.1 = some .local ∨ ((defScope st).names.lookup y.1 = some .cell ∧ ((cellsFrom (s.heap.objs.size + 1) (defScope st).names []).lookup y.1).isSome = true) := fun ⟨n, v⟩ hy => by
    rcases S.par n (List.of_mem_zip hy).1 with q | q
    · exact .inl q
    · exact .inr ⟨q, PySem.W.cellsFrom_some _ _ _ (.inl q)⟩
  have hdep : A.depth < recursionLimit := by have := hr.dp; omega
  have hrd : RoomS k (A.deeper (envOfC qual (defScope st) s.heap.objs.size f cdv)) := ⟨by
    have := hr.dp
    show A.depth + 1 + 3 * k + 5 < _
    omega, by
    have := hr.un
    show A.units + 3 + 16 * k + 200 < _
    omega⟩
  refine codeAny_call_function hdep (KX _ _ lk) rfl S.co S.gen rfl (PySem.W.codeRec_of KX hcd) (hb _ _ _ _ ?_)
  refine wpAny_newFunctionEnv_cells S.kind hkind fun env he s1 x => ?_
  subst he
  refine ⟨lim.keeps x.toInCall.keep, codeAny_func ?_⟩
  obtain ⟨t, ht, hq⟩ := hbody cdv A outer s H vs Q E hrd hsp
  have e1 : Env0 P w K mg base { A with handled := none } outer s H := ⟨e0.frames, e0.mod, e0.bs, e0.bsz, e0.funs, e0.frf, e0.hok, e0.bare⟩
  have I0 : Inv (cxOf CX0 P w K mg base N qual (defScope st) f cdv { A with handled := none } outer s H E) [] (start N vs) H s1 := inv_start S rfl e1 hl r x
  have I : Inv (cxS P w K mg base N qual (defScope st) f cdv A outer s H E) [] (start N vs) H s1 :=
    ⟨⟨I0.ok.mod, I0.ok.kind, I0.ok.glob, I0.ok.blt, I0.ok.above, I0.ok.inj, I0.ok.has, I0.ok.cab, fun z => absurd (show false = true from z) Bool.false_ne_true, Around.frames_deeper e0.frames, I0.ok.stk, I0.ok.exf, I0.ok.bs, I0.ok.bsz, I0.ok.noex, I0.ok.exfs, I0.ok.funs, I0.ok.frf⟩,
      I0.os, I0.bare, I0.base, I0.loc, I0.cell, I0.free, I0.freeC, I0.pin, I0.hok, I0.len⟩
  refine wpAny_mono (ht [] s1 (start N vs) H _ I hq) (fun fl s' hs => ?_) fun e s' hs => False.elim hs
  cases fl with
  | ret u =>
    obtain ⟨v, σ', H', J, rv, q⟩ := hs
    exact ⟨v, H', J.os, J.bare, J.base, J.hok, rv, q⟩
  | next =>
    obtain ⟨σ', H', J, q⟩ := hs
    exact ⟨V.non, H', J.os, J.bare, J.base, J.hok, rfl, q⟩
  | brk =>
    obtain ⟨_, _, _, q⟩ := hs
    exact False.elim q
  | cont =>
    obtain ⟨_, _, _, q⟩ := hs
    exact False.elim q
structure HasT (P : Program) (w : World) (K : PySem.W.Frag) (mg : Str → Option Value) (base : Heap) (k : Nat) (x : Str) (ps : List Str) (sp : Option Value → Sp) : Prop where
  ex : ∃ f fd, FnOkT P w K mg base k f fd ps sp ∧ Binds K fd ps [] ∧ mg x = some (.ref f) ∧ PySem.W.keepIn K (.ref f) = true
theorem HasT.mk' {k : Nat} {f : Addr} {fd : FuncData} {ps : List Str} {sp : Option Value → Sp} {x : Str} (F : FnOkT P w K mg base k f fd ps sp) (b : Binds K fd ps []) (m : mg x = some (.ref f)) (kp : PySem.W.keepIn K (.ref f) = true) : HasT P w K mg base k x ps sp := ⟨f, fd, F, b, m, kp⟩
end
section
variable {X : Cx} {k : Nat} {ps : List Str} {sp : Option Value → Sp} {x : Str} {p pos : Pos} {e : Expr} {es : List Expr} {t : TA}
theorem pe_callHT (h : HasT X.prog X.w X.K X.mg X.base k x ps sp) (hr : RoomS k X.A) (hg : Gl X x) (ha : PA X (e :: es) t)
    (hdb : (x == ("__debug__" : Str)) = false := by decide) (he : starEach (e :: es) X.env = (false, eval e X.env) :: starEach es X.env := by rfl) (hpl : (backTo pos (starEach es X.env)).any (·.1) = false := by rfl) :
    PE X (.Call (.Name x p) (e :: es) [] pos) (tCallS (sp X.A.handled) [] (fun _ => E0) t) := by
  obtain ⟨f, fd, F, b, hm, hk⟩ := h.ex
  intro pins s σ H Q I h
  refine wpAny_Call_Name_kw (ld_glob I hg hm ?_ hdb)
  refine PySem.W.callWith_K (h₀ := X.base) I.ok.mod.kin hk (thn (ha pos pins s σ H _ I h) fun us s1 ⟨vs, H1, I1, r, q⟩ => ⟨I1.kIn, ?_⟩) he hpl
  have r2 : Vals (vs ++ []) (us ++ []) := r.append .nil
  have hl : (us ++ []).length = ps.length := by rw [← r2.length]; exact F.len _ _ _ _ _ q
  refine wpAny_call (codeAny_mono (F.run X.A X.stack s1 H1 ⟨us, []⟩ (us ++ []) (vs ++ []) Q E0 hr I1.env0 (b s1 us I1.kIn hl) r2 q) fun r s' hq => ?_)
  cases r with
  | error e => exact False.elim hq
  | ok fl => cases fl <;> first | exact I1.after hq | exact False.elim hq
end
/-! ### any of a list of bools, something handled -/
section
variable {X : Cx}
theorem walk_atH {pins : List (Addr × Obj)} {σ : St} {H : Hp} {s : Shared} {p ea : Addr} {bs : List Bool} {cls : Value} (hh : X.A.handled = some (.ref ea)) (I : Inv X pins σ H s) (hx : H ea = some (excO ea cls)) (hq : SqL X.K H p (bs.map V.bl)) {Q : Value → Shared → Prop} {f : Nat → (Nat → Bool) → Bool}
    (hQ : ∀ s', Inv X pins σ H s' → Q (.bool (f bs.length fun i => bs.getD i false)) s') :
    wpAny (model X.prog X.w) X.A.in1 (pyIter (.ref p)) (fun it s₂ => ∃ I fp wr n P St tr, it = .ref I ∧ Walks X.prog X.w X.A.in1 I fp wr n P St ∧ St 0 s₂.heap ∧ TruthOf X.prog X.w X.A.in1 P tr ∧
      ∀ h' tk, (∀ b o, b ∉ wr → s₂.heap.get? b = some o → h'.get? b = some o) → Q (.bool (f n tr)) { s₂ with heap := h', toks := tk }) X.xe s := by
  obtain ⟨its, e, pl⟩ := walk_bls I hq
  subst e
  have c : C2 ea s.heap := by
    obtain ⟨⟨o, vs, q1, _, q3, q4⟩, _⟩ := (show ObjOk X.prog X.w H s.heap ea (excO ea cls) from I.hok ea _ hx)
    exact ⟨o, q1, vs, q3, q4⟩
  have ne : ea ≠ s.heap.objs.size := by
    obtain ⟨o, ho, _⟩ := c
    exact Nat.ne_of_lt (Heap.lt_size ho)
  have hl := pl.isList
  have hlt : p < s.heap.objs.size := by obtain ⟨o, e, _⟩ := hl; exact Heap.lt_size e
  refine wpAny_pyIter_list hl ?_
  refine ⟨s.heap.objs.size, _, _, (bs.map Value.bool).toArray.size, _, _, fun i => bs.getD i false, rfl, walks_listH (A := X.A.in1) hh s.heap.objs.size p (Nat.ne_of_lt hlt) ne _, ⟨⟨⟨_, Heap.get?_push_size _ rfl, rfl, rfl⟩, hl.push _⟩, c.push⟩, fun i v s' Q' E' hP hq' => ?_, fun h' tk hk => ?_⟩
  · have hP' : (bs.map Value.bool).toArray[i]? = some v := hP
    simp only [List.getElem?_toArray, List.getElem?_map] at hP'
    cases q : bs[i]? with
    | none => rw [q] at hP'; cases hP'
    | some b =>
      rw [q] at hP'
      have e : Value.bool b = v := Option.some.inj hP'
      subst e
      have e2 : bs.getD i false = b := by rw [List.getD_eq_getElem?_getD, q]; rfl
      have hq2 : Q' (bs.getD i false) s' := hq'
      rw [e2] at hq2
      exact wpAny_truthy_bool hq2
  · have e : (bs.map Value.bool).toArray.size = bs.length := by simp
    rw [e]
    exact hQ _ (I.kept (h' := h') (t' := tk) fun b o q => hk b o (by
      intro z
      have z' : b = s.heap.objs.size := by simpa using z
      exact absurd (Heap.lt_size q) (by rw [z']; exact Nat.lt_irrefl _)) (Heap.get?_push_of_some _ q))
theorem anyHK (K : PySem.W.Frag) {ea : Addr} (hh : X.A.handled = some (.ref ea)) (h : X.K = K := by rfl) : CallR X (.builtin "any") (fun xs H Q => ∃ (p : Addr) (bs : List Bool) (cls : Value), xs = [.ref p] ∧ SqL K H p (bs.map V.bl) ∧ H ea = some (excO ea cls) ∧ Q (.bl (bs.any id)) H) := by
  subst h
  intro pins s σ H xs us Q I r h
  obtain ⟨p, bs, cls, rfl, hq, hx, q⟩ := h
  obtain ⟨u, rfl, rx⟩ := vals1 r
  cases rx
  exact call_any_walk (walk_atH (f := fun n tr => (List.range n).any tr) hh I hx hq fun s' I' => ⟨.bl _, H, I', rfl, by have e := (range_bls bs id).2; exact (show _ = _ from e) ▸ q⟩)
end
/-! ### try, the suite told what is caught -/
def tTryT (K : PySem.W.Frag) (cT : Value) (i : Nat) (tb : (St → XK) → TS) (ts : Addr → TS) : TS := fun D σ H => ∃ Hand : St → XK, tTry K cT i Hand (tb Hand) ts D σ H
theorem ps_tryT {X : Cx} {body suite : List Stmt} {b₀ : Stmt} {x n : Str} {np hpos pos : Pos} {i : Nat} {tb : (St → XK) → TS} {ts : Addr → TS} {cT : Value} (K : PySem.W.Frag) (hN : X.N.Nodup) (hi : X.N[i]? = some n) (hlo : X.env.scope.names.lookup n = some .local)
    (hst : X.stack = X.env :: X.outer) (hfr : X.env.frame = some X.env.locals) (hex : X.ex = []) (hg : Gl X x) (hm : X.mg x = some cT) (hb : ∀ Hand pins, PSs (X.tryC pins Hand) body (tb Hand)) (hs : ∀ ea, PSs (X.hand ea) (b₀ :: suite) (ts ea))
    (hd : (x == ("__debug__" : Str)) = false := by decide) (hK : X.K = K := by rfl) : PS X (.Try body [.ExceptHandler (some (.Name x np)) (some n) (b₀ :: suite) hpos] [] [] pos) (tTryT K cT i tb ts) := by
  subst hK
  intro pins s σ H D I h
  obtain ⟨Hand, h⟩ := h
  exact ps_try Hand hN hi hlo hst hfr hex hg hm (hb Hand) hs hd pins s σ H D I h
end L2

/-! LAMP Ra: comprehensions over enumerate with a test; over lists of pairs -/
namespace L2
open PySem PySem.Spec PyProof.Rows
theorem comp_enumF {K : PySem.W.Frag} {a : Addr} {xs : List V} {js : List Nat} {ti : TT} {te : TE} {σ : St} {Q : VK} {H1 : Hp} (p : Nat → Bool) (f : Nat → V) (hn : xs.length ≤ 1000) (hx : SqL K H1 a xs)
    (hti : ∀ (i : Nat) x Hc (k : Bool → Hp → Prop), xs[i]? = some x → Same H1 Hc → k (p i) Hc → ti (some (.int i) :: some x :: fr1 js σ) Hc k)
    (hte : ∀ (i : Nat) x Hc (k : VK), xs[i]? = some x → p i = true → Same H1 Hc → k (f i) Hc → te (some (.int i) :: some x :: fr1 js σ) Hc k)
    (hq : ∀ D H2, H1 D = none → Same H1 H2 → H2 D = some (.lst (((List.range xs.length).filter p).map f)) → Q (.ref D) H2) : tC2 K js ti te σ Q (Ite K a) H1 := by
  intro D hD
  refine ⟨fun i m ys H => m = xs.length - i ∧ i ≤ xs.length ∧ ys = ((List.range i).filter p).map f ∧ Same H1 H ∧ H D = some (.lst ys), ⟨xs.length, by simp, Nat.zero_le _, rfl, fun b o e => by rw [upd_ne (ne_of_none e hD)]; exact e, upd_same⟩, ?_⟩
  rintro i m ys H ⟨rfl, hi, rfl, sm, hH⟩
  refine ⟨hH, ?_⟩
  by_cases hlt : i < xs.length
  · refine .inr ⟨⟨xs, xs[i], sm.seq hx, by simp [hlt]⟩, fun z H' y => ?_⟩
    obtain ⟨t, v, rfl, ht, rfl, hv⟩ := y
    have hxi := hv xs (sm.seq hx)
    have sm2 : Same H1 (upd H t (.tup [.int i, v])) := fun b o e => by
      have := sm b o e
      rw [upd_ne (ne_of_none this ht)]
      exact this
    have hD2 : (upd H t (.tup [.int i, v])) D = some (.lst (((List.range i).filter p).map f)) := by rw [upd_ne (ne_of_none hH ht)]; exact hH
    refine ⟨t, .int i, v, rfl, SqT.of upd_same, ?_⟩
    refine hti i v _ _ hxi sm2 ?_
    cases hp : p i with
    | true =>
      refine iteT (hte i v _ _ hxi hp sm2 ⟨hD2, ?_, xs.length - (i + 1), by omega, rfl, hlt, ?_, fun b o e => ?_, upd_same⟩)
      · have h1 := List.length_filter_le p (List.range i)
        rw [List.length_range] at h1
        rw [List.length_map]
        exact small1000 (by omega)
      · rw [List.range_succ, List.filter_append, List.map_append]
        simp [hp]
      · rw [upd_ne (ne_of_none e hD)]
        exact sm2 b o e
    | false =>
      refine iteF ⟨xs.length - (i + 1), by omega, rfl, hlt, ?_, sm2, hD2⟩
      rw [List.range_succ, List.filter_append, List.map_append]
      simp [hp]
  · have e : i = xs.length := by omega
    subst e
    exact .inl ⟨⟨xs, sm.seq hx, Nat.le_refl _⟩, hq D H hD sm hH⟩
theorem comp_pairs {K : PySem.W.Frag} {a : Addr} {zs : List (Addr × V × V)} {js : List Nat} {ti : TT} {te : TE} {σ : St} {Q : VK} {H1 : Hp} (p : Addr × V × V → Bool) (f : Addr × V × V → V) (hn : zs.length ≤ 1000) (hx : SqL K H1 a (zs.map fun z => V.ref z.1))
    (hz : ∀ z ∈ zs, H1 z.1 = some (.tup [z.2.1, z.2.2]))
    (hti : ∀ z Hc (k : Bool → Hp → Prop), z ∈ zs → Same H1 Hc → k (p z) Hc → ti (some z.2.1 :: some z.2.2 :: fr1 js σ) Hc k)
    (hte : ∀ z Hc (k : VK), z ∈ zs → p z = true → Same H1 Hc → k (f z) Hc → te (some z.2.1 :: some z.2.2 :: fr1 js σ) Hc k)
    (hq : ∀ D, H1 D = none → Q (.ref D) (upd H1 D (.lst ((zs.filter p).map f)))) : tC2 K js ti te σ Q (Itl K a) H1 := by
  intro D hD
  have sm : ∀ ys, Same H1 (upd H1 D (.lst ys)) := fun ys b o e => by rw [upd_ne (ne_of_none e hD)]; exact e
  refine ⟨fun i m ys H => m = zs.length - i ∧ i ≤ zs.length ∧ ys = ((zs.take i).filter p).map f ∧ H = upd H1 D (.lst ys), ⟨zs.length, by simp, Nat.zero_le _, rfl, rfl⟩, ?_⟩
  rintro i m ys H ⟨rfl, hi, rfl, rfl⟩
  refine ⟨upd_same, ?_⟩
  have hx' : ∀ ys, SqL K (upd H1 D (.lst ys)) a (zs.map fun z => V.ref z.1) := fun ys => (sm ys).seq hx
  by_cases hlt : i < zs.length
  · refine .inr ⟨⟨_, V.ref zs[i].1, hx' _, by simp [hlt]⟩, fun x H' y => ?_⟩
    obtain ⟨e1, y⟩ := y
    subst e1
    have hxi := y _ (hx' _)
    have ez : zs[i]? = some zs[i] := List.getElem?_eq_getElem hlt
    generalize zs[i] = z at ez
    rw [List.getElem?_map, ez] at hxi
    have exz : x = .ref z.1 := by
      have : some (V.ref z.1) = some x := hxi
      cases this
      rfl
    have hm : z ∈ zs := List.mem_of_getElem? ez
    refine ⟨z.1, z.2.1, z.2.2, exz, SqT.of (sm _ _ _ (hz z hm)), ?_⟩
    refine hti z _ _ hm (sm _) ?_
    have et : (zs.take (i + 1)) = zs.take i ++ [z] := by rw [List.take_add_one, ez]; rfl
    cases hp : p z with
    | true =>
      refine iteT (hte z _ _ hm hp (sm _) ⟨upd_same, ?_, zs.length - (i + 1), by omega, rfl, hlt, ?_, ?_⟩)
      · have h1 := List.length_filter_le p (zs.take i)
        have h2 := List.length_take_le i zs
        rw [List.length_map]
        exact small1000 (by omega)
      · rw [et, List.filter_append, List.map_append]
        simp [hp]
      · rw [upd_upd]
    | false =>
      refine iteF ⟨zs.length - (i + 1), by omega, rfl, hlt, ?_, rfl⟩
      rw [et, List.filter_append, List.map_append]
      simp [hp]
  · have e : i = zs.length := by omega
    subst e
    refine .inl ⟨⟨_, hx' _, by simp⟩, ?_⟩
    have := hq D hD
    rw [List.take_length]
    exact this
end L2

/-! LAMP V: tables of sets -/
namespace L2
open PySem
def Rise (xs : Array Nat) : Prop := xs.toList.Pairwise (· < ·)
theorem Rise.lt {xs : Array Nat} (h : Rise xs) {i k a b : Nat} (hik : i < k) (ha : xs[i]? = some a) (hb : xs[k]? = some b) : a < b := by
  rw [← Array.getElem?_toList] at ha hb
  obtain ⟨h1, e1⟩ := List.getElem?_eq_some_iff.mp ha
  obtain ⟨h2, e2⟩ := List.getElem?_eq_some_iff.mp hb
  have := List.pairwise_iff_getElem.mp h i k h1 h2 hik
  omega
theorem Rise.le {xs : Array Nat} (h : Rise xs) {i k a b : Nat} (hik : i ≤ k) (ha : xs[i]? = some a) (hb : xs[k]? = some b) : a ≤ b := by
  rcases Nat.lt_or_eq_of_le hik with z | z
  · exact Nat.le_of_lt (h.lt z ha hb)
  · subst z
    rw [ha] at hb
    cases hb
    exact Nat.le_refl _
theorem below_go {xs : Array Nat} (h : Rise xs) (j : Nat) : ∀ (fuel lo hi : Nat), hi - lo ≤ fuel → lo ≤ hi → hi ≤ xs.size → (∀ i a, i < lo → xs[i]? = some a → a < j) → (∀ i a, hi ≤ i → xs[i]? = some a → j ≤ a) →
    SetTable.below.go xs j fuel lo hi ≤ xs.size ∧ (∀ i a, i < SetTable.below.go xs j fuel lo hi → xs[i]? = some a → a < j) ∧ (∀ i a, SetTable.below.go xs j fuel lo hi ≤ i → xs[i]? = some a → j ≤ a)
  | 0, lo, hi, hf, hl, hs, h1, h2 => by
    unfold SetTable.below.go
    have e : lo = hi := by omega
    exact ⟨by omega, h1, fun i a hi' e' => h2 i a (by omega) e'⟩
  | fuel + 1, lo, hi, hf, hl, hs, h1, h2 => by
    unfold SetTable.below.go
    by_cases z : lo < hi
    · rw [if_pos z]
      dsimp only
      have hm : (lo + hi) / 2 < xs.size := by omega
      have e : xs[(lo + hi) / 2]? = some xs[(lo + hi) / 2] := Array.getElem?_eq_getElem hm
      have eg : xs.getD ((lo + hi) / 2) j = xs[(lo + hi) / 2] := by
        rw [Array.getD_eq_getD_getElem?, e]
        rfl
      rw [eg]
      by_cases y : xs[(lo + hi) / 2] < j
      · rw [if_pos y]
        exact below_go h j fuel _ _ (by omega) (by omega) hs (fun i a hi' e' => by
          have := h.le (by omega) e' e
          omega) h2
      · rw [if_neg y]
        exact below_go h j fuel _ _ (by omega) (by omega) (by omega) h1 (fun i a hi' e' => by
          have := h.le hi' e e'
          omega)
    · rw [if_neg z]
      exact ⟨by omega, h1, fun i a hi' e' => h2 i a (by omega) e'⟩
theorem below_of {xs : Array Nat} (h : Rise xs) (j : Nat) : SetTable.below xs j ≤ xs.size ∧ (∀ i a, i < SetTable.below xs j → xs[i]? = some a → a < j) ∧ (∀ i a, SetTable.below xs j ≤ i → xs[i]? = some a → j ≤ a) :=
  below_go h j xs.size 0 xs.size (by omega) (by omega) (Nat.le_refl _) (fun i a z _ => absurd z (by omega)) (fun i a z e => by
    have := (Array.getElem?_eq_some_iff.mp e).1
    omega)
theorem below_zero {xs : Array Nat} (h : Rise xs) : SetTable.below xs 0 = 0 := by
  obtain ⟨h1, h2, h3⟩ := below_of h 0
  rcases Nat.eq_zero_or_pos (SetTable.below xs 0) with z | z
  · exact z
  · have hm : 0 < xs.size := by omega
    have := h2 0 _ z (Array.getElem?_eq_getElem hm)
    omega
theorem below_next {xs : Array Nat} (h : Rise xs) {i j : Nat} (e : xs[i]? = some j) : SetTable.below xs (j + 1) = i + 1 := by
  obtain ⟨h1, h2, h3⟩ := below_of h (j + 1)
  have hi := (Array.getElem?_eq_some_iff.mp e).1
  have a1 : ¬ SetTable.below xs (j + 1) ≤ i := fun z => by
    have := h3 i j z e
    omega
  have a2 : ¬ i + 1 < SetTable.below xs (j + 1) := fun z => by
    have hm : i + 1 < xs.size := by omega
    have := h2 (i + 1) _ z (Array.getElem?_eq_getElem hm)
    have := h.lt (Nat.lt_succ_self i) e (Array.getElem?_eq_getElem hm)
    omega
  omega
theorem Rise.insert {xs : Array Nat} (h : Rise xs) {j : Nat} (hj : ¬ xs[SetTable.below xs j]? = some j) : Rise (SetTable.insertAt xs (SetTable.below xs j) j) := by
  obtain ⟨h1, h2, h3⟩ := below_of h j
  unfold Rise
  rw [SetTable.toList_insertAt, List.pairwise_append]
  have hd : ∀ b ∈ xs.toList.drop (SetTable.below xs j), j < b := fun b hb => by
    obtain ⟨i, hi⟩ := List.getElem?_of_mem hb
    rw [List.getElem?_drop, Array.getElem?_toList] at hi
    have l1 := h3 _ _ (Nat.le_add_right _ _) hi
    rcases Nat.lt_or_eq_of_le l1 with z | z
    · exact z
    · subst z
      rcases Nat.eq_zero_or_pos i with y | y
      · subst y
        exact absurd hi hj
      · have hlt := (Array.getElem?_eq_some_iff.mp hi).1
        have e0 : xs[SetTable.below xs j]? = some xs[SetTable.below xs j] := Array.getElem?_eq_getElem (by omega)
        have l2 := h3 _ _ (Nat.le_refl _) e0
        have l3 := h.lt (show SetTable.below xs j < SetTable.below xs j + i by omega) e0 hi
        omega
  refine ⟨h.sublist (List.take_sublist _ _), List.pairwise_cons.mpr ⟨hd, h.sublist (List.drop_sublist _ _)⟩, fun a ha b hb => ?_⟩
  have la : a < j := by
    obtain ⟨i, hi⟩ := List.getElem?_of_mem ha
    have hl := (List.getElem?_eq_some_iff.mp hi).1
    rw [List.length_take] at hl
    rw [List.getElem?_take_of_lt (by omega), Array.getElem?_toList] at hi
    exact h2 i a (by omega) hi
  rcases List.mem_cons.mp hb with z | z
  · omega
  · have := hd b z
    omega
theorem toList_eraseAt {α : Type} (xs : Array α) (p : Nat) : (SetTable.eraseAt xs p).toList = xs.toList.eraseIdx p := by
  simp [SetTable.eraseAt, List.extract_eq_take_drop, List.eraseIdx_eq_take_drop_succ, List.take_of_length_le]
theorem Rise.erase {xs : Array Nat} (h : Rise xs) (p : Nat) : Rise (SetTable.eraseAt xs p) := by
  unfold Rise
  rw [toList_eraseAt]
  exact h.sublist (List.eraseIdx_sublist _ _)
theorem slot_not {t : SetTable} {j : Nat} (h : ∀ i, t.slot j ≠ .live i) : ¬ t.place[SetTable.below t.place j]? = some j := fun z => by
  refine h (SetTable.below t.place j) ?_
  unfold SetTable.slot
  dsimp only
  rw [z]
  simp
theorem probe_go {t : SetTable} {hashAt : Nat → Int} {h : Int} {j : Nat} {d : Option Nat} : ∀ (fuel : Nat) (p : SetTable.Probe), (∀ x, p.dummy = some x → t.slot x = .dummy) → SetTable.probe.go t hashAt h fuel p = some (.empty j d) → t.slot j = .empty ∧ ∀ x, d = some x → t.slot x = .dummy
  | 0, p, hp, e => by
    unfold SetTable.probe.go at e
    cases e
  | fuel + 1, p, hp, e => by
    unfold SetTable.probe.go at e
    have adv : ∀ q : SetTable.Probe, (∀ x, q.dummy = some x → t.slot x = .dummy) → ∀ x, (t.advance q).dummy = some x → t.slot x = .dummy := fun q hq x hx => by
      unfold SetTable.advance at hx
      split at hx
      · exact hq x hx
      · exact hq x hx
    split at e
    · rename_i z
      cases e
      exact ⟨z, hp⟩
    · rename_i z
      exact probe_go fuel _ (adv _ fun x hx => by cases hx; exact z) e
    · rename_i i z
      split at e
      · cases e
      · exact probe_go fuel _ (adv _ hp) e
theorem freeSlot_not {t : SetTable} {h : Int} {j : Nat} {b : Bool} (e : t.freeSlot h = some (j, b)) : ¬ t.place[SetTable.below t.place j]? = some j := by
  unfold SetTable.freeSlot at e
  split at e
  · rename_i j' d hp
    unfold SetTable.probe at hp
    obtain ⟨h1, h2⟩ := probe_go _ _ (fun x hx => by cases hx) hp
    cases d with
    | none =>
      cases e
      exact slot_not fun i z => by
        have z' : t.slot j' = .live i := z
        rw [h1] at z'
        cases z'
    | some d =>
      cases e
      exact slot_not fun i z => by
        have z' : t.slot d = .live i := z
        rw [h2 d rfl] at z'
        cases z'
  · cases e
theorem Rise.range (n : Nat) : Rise (Array.range n) := by
  unfold Rise
  rw [Array.toList_range]
  exact List.pairwise_lt_range
theorem Rise.nil : Rise #[] := by
  unfold Rise
  exact List.Pairwise.nil
theorem standIn_rise (t : SetTable) (n : Nat) : Rise (t.standIn n).place := Rise.range n
theorem orStandIn_rise {t : SetTable} (h : Rise t.place) (n : Nat) : Rise (t.orStandIn n).place := by
  unfold SetTable.orStandIn
  split
  · exact h
  · exact standIn_rise t n
theorem layNew_rise {t : SetTable} (h : Rise t.place) (es : Array (Int × Value)) (k : Int) (x : Value) : Rise (layNew t es k x).2.1.place := by
  unfold layNew
  split
  · rename_i slot wasDummy e
    exact orStandIn_rise (h.insert (freeSlot_not e)) _
  · exact standIn_rise _ _
theorem opt_fst (o : Option Nat) (j : Nat) : Option.map (fun x : Nat × Nat => x.1) (o.map fun x => (j, x)) = if o.isSome = true then some j else none := by cases o <;> rfl
theorem laid_rise {mask finger moves : Nat} {led plain : Bool} {hashes : Array Int} {t : SetTable} {order : Array Nat} (e : SetTable.laid mask finger moves led plain hashes = some (t, order)) : Rise t.place := by
  unfold SetTable.laid at e
  cases hL : SetTable.layClean mask hashes with
  | none =>
    rw [hL] at e
    cases e
  | some owner =>
    rw [hL] at e
    cases e
    unfold Rise
    dsimp only
    rw [List.map_filterMap]
    have : (List.range (mask + 1)).filterMap (fun j => Option.map (fun x : Nat × Nat => x.1) ((owner.getD j none).map fun x => (j, x))) = (List.range (mask + 1)).filter (fun j => (owner.getD j none).isSome) := by
      rw [← List.filterMap_eq_filter]
      congr 1
      funext j
      exact opt_fst _ _
    rw [this]
    exact List.pairwise_lt_range.filter _
theorem relayAll_rise (t : SetTable) (es : Array (Int × Value)) (wanted : Nat) : Rise (relayAll t es wanted).2.1.place := by
  unfold relayAll
  split
  · rename_i t' order e
    dsimp only
    split
    · exact laid_rise e
    · exact standIn_rise _ _
  · exact standIn_rise _ _
/-! ### who made it -/
theorem layNew_led (t : SetTable) (es : Array (Int × Value)) (k : Int) (x : Value) : (layNew t es k x).2.1.led = t.led := by
  unfold layNew
  split
  · dsimp only
    unfold SetTable.orStandIn
    split <;> rfl
  · rfl
theorem laid_led {mask finger moves : Nat} {led plain : Bool} {hashes : Array Int} {t : SetTable} {order : Array Nat} (e : SetTable.laid mask finger moves led plain hashes = some (t, order)) : t.led = led ∧ t.mask = mask ∧ t.dummies = #[] := by
  unfold SetTable.laid at e
  cases hL : SetTable.layClean mask hashes with
  | none =>
    rw [hL] at e
    cases e
  | some owner =>
    rw [hL] at e
    cases e
    exact ⟨rfl, rfl, rfl⟩
theorem relayAll_led (t : SetTable) (es : Array (Int × Value)) (wanted : Nat) : (relayAll t es wanted).2.1.led = t.led := by
  unfold relayAll
  split
  · rename_i t' order e
    dsimp only
    split
    · exact (laid_led e).1
    · rfl
  · rfl
/-! ### a clean table laid -/
theorem set_fm {α : Type} (k : α) : ∀ (l : List (Option α)) (j : Nat), l[j]? = some none → ((l.set j (some k)).filterMap id).Perm (k :: l.filterMap id)
  | [], j, h => by cases j <;> cases h
  | none :: l, 0, _ => by
    show (k :: l.filterMap id).Perm (k :: l.filterMap id)
    exact .refl _
  | some x :: l, 0, h => by cases h
  | none :: l, j + 1, h => set_fm k l j h
  | some x :: l, j + 1, h => by
    show (x :: (l.set j (some k)).filterMap id).Perm (k :: x :: l.filterMap id)
    exact ((set_fm k l j h).cons x).trans (.swap _ _ _)
def road (m : Nat) : Nat → Nat → Nat
  | 0, i => i
  | k + 1, i => road m k ((i * 5 + 1) % (m + 1))
def cycled (m : Nat) : Bool := (List.range (m + 1)).all fun i => (List.range (m + 1)).all fun j => (List.range (m + 1)).any fun k => road m k i == j
theorem cyc7 : cycled 7 = true := by decide +kernel
theorem cyc15 : cycled 15 = true := by decide +kernel
theorem cyc31 : cycled 31 = true := by decide +kernel
theorem cyc63 : cycled 63 = true := by decide +kernel
theorem cycled_of {m : Nat} (h : cycled m = true) {i j : Nat} (hi : i ≤ m) (hj : j ≤ m) : ∃ k, k ≤ m ∧ road m k i = j := by
  unfold cycled at h
  have h1 := List.all_eq_true.mp h i (List.mem_range.mpr (by omega))
  have h2 := List.all_eq_true.mp h1 j (List.mem_range.mpr (by omega))
  obtain ⟨k, hk, e⟩ := List.any_eq_true.mp h2
  exact ⟨k, by have := List.mem_range.mp hk; omega, by simpa using e⟩
theorem free_some {mask : Nat} {owner : Array (Option Nat)} (hs : owner.size = mask + 1) : ∀ (k fuel i p : Nat), k < fuel → p / 32 = 0 → i ≤ mask → owner.getD (road mask k i) (some 0) = none →
    ∃ j, SetTable.layClean.free mask owner fuel i p = some j ∧ j ≤ mask ∧ owner[j]? = some none
  | k, 0, i, p, hk, _, _, _ => absurd hk (by omega)
  | k, fuel + 1, i, p, hk, hp, hi, hf => by
    unfold SetTable.layClean.free
    cases hr : (List.range (SetTable.runEnd mask i + 1 - i)).find? fun k => (owner.getD (i + k) (some 0)).isNone with
    | some c =>
      refine ⟨i + c, rfl, ?_⟩
      have hc := List.find?_some hr
      have hm := List.mem_range.mp (List.mem_of_find?_eq_some hr)
      rw [Option.isNone_iff_eq_none, Array.getD_eq_getD_getElem?] at hc
      have hlt : i + c < owner.size := by
        rcases Nat.lt_or_ge (i + c) owner.size with z | z
        · exact z
        · rw [Array.getElem?_eq_none z] at hc
          cases hc
      refine ⟨by omega, ?_⟩
      rw [Array.getElem?_eq_getElem hlt] at hc ⊢
      exact congrArg some hc
    | none =>
      cases k with
      | zero =>
        have := List.find?_eq_none.mp hr 0 (List.mem_range.mpr (by unfold SetTable.runEnd; split <;> omega))
        exfalso
        apply this
        rw [Nat.add_zero, Option.isNone_iff_eq_none]
        exact hf
      | succ k =>
        dsimp only
        unfold SetTable.leap
        rw [hp, Nat.add_zero]
        exact free_some hs k fuel _ _ (by omega) (by omega) (Nat.le_of_lt_succ (Nat.mod_lt _ (Nat.succ_pos _))) hf
theorem lay_fold {mask : Nat} (hc : cycled mask = true) : ∀ (hs : List Int) (owner : Array (Option Nat)) (k : Nat), owner.size = mask + 1 → (owner.toList.filterMap id).Perm (List.range k) → k + hs.length ≤ mask + 1 → (∀ h ∈ hs, 0 ≤ h ∧ h < 32) →
    ∃ o', hs.foldl (fun (acc : Option (Array (Option Nat) × Nat)) h => do
      let (owner, k) ← acc
      let j ← SetTable.layClean.free mask owner (SetTable.turns mask) (SetTable.bits h % (mask + 1)) (SetTable.bits h)
      pure (owner.setIfInBounds j (some k), k + 1)) (some (owner, k)) = some (o', k + hs.length) ∧ o'.size = mask + 1 ∧ (o'.toList.filterMap id).Perm (List.range (k + hs.length))
  | [], owner, k, h1, h2, h3, _ => ⟨owner, rfl, h1, h2⟩
  | h :: hs, owner, k, h1, h2, h3, h4 => by
    have hl : k + 1 + hs.length ≤ mask + 1 := by
      have : (h :: hs).length = hs.length + 1 := rfl
      omega
    have hb : SetTable.bits h / 32 = 0 := by
      have := h4 h List.mem_cons_self
      unfold SetTable.bits
      have e : h % (2 ^ 64 : Int) = h := Int.emod_eq_of_lt (by omega) (by omega)
      rw [e]
      omega
    -- a free place
    have hex : ∃ j, j ≤ mask ∧ owner.getD j (some 0) = none := by
      refine Classical.byContradiction fun no => ?_
      have all : ∀ j, j < owner.toList.length → ∃ x, owner.toList[j]? = some (some x) := fun j hj => by
        cases e : owner.toList[j]? with
        | none => rw [List.getElem?_eq_none_iff] at e; omega
        | some o =>
          cases o with
          | some x => exact ⟨x, rfl⟩
          | none =>
            refine absurd ⟨j, ?_, ?_⟩ no
            · have : owner.toList.length = mask + 1 := by simpa using h1
              omega
            · rw [Array.getD_eq_getD_getElem?, ← Array.getElem?_toList, e]
              rfl
      have len : ∀ (l : List (Option Nat)), (∀ j, j < l.length → ∃ x, l[j]? = some (some x)) → (l.filterMap id).length = l.length := by
        intro l
        induction l with
        | nil => intro _; rfl
        | cons a l ih =>
          intro hl
          obtain ⟨x, hx⟩ := hl 0 (by simp)
          have hx' : a = some x := by simpa using hx
          subst hx'
          have := ih fun j hj => by simpa using hl (j + 1) (by simpa using hj)
          simpa using this
      have e1 := len owner.toList all
      have e2 := h2.length_eq
      rw [List.length_range] at e2
      have e3 : owner.toList.length = mask + 1 := by simpa using h1
      omega
    obtain ⟨j0, hj0, e0⟩ := hex
    obtain ⟨r, hr, er⟩ := cycled_of hc (i := SetTable.bits h % (mask + 1)) (j := j0) (Nat.le_of_lt_succ (Nat.mod_lt _ (Nat.succ_pos _))) hj0
    obtain ⟨j, ej, hj, eo⟩ := free_some h1 r (SetTable.turns mask) (SetTable.bits h % (mask + 1)) (SetTable.bits h) (by unfold SetTable.turns; omega) hb (Nat.le_of_lt_succ (Nat.mod_lt _ (Nat.succ_pos _))) (by rw [er]; exact e0)
    have hp : ((owner.setIfInBounds j (some k)).toList.filterMap id).Perm (List.range (k + 1)) := by
      rw [Array.toList_setIfInBounds]
      refine (set_fm k owner.toList j (by rw [Array.getElem?_toList]; exact eo)).trans ?_
      rw [List.range_succ]
      exact (h2.cons k).trans (List.perm_append_singleton k _).symm
    obtain ⟨o', e, s', p'⟩ := lay_fold hc hs (owner.setIfInBounds j (some k)) (k + 1) (by simpa using h1) hp hl fun x hx => h4 x (List.mem_cons_of_mem _ hx)
    refine ⟨o', ?_, s', ?_⟩
    · rw [List.foldl_cons]
      show List.foldl _ ((SetTable.layClean.free mask owner (SetTable.turns mask) (SetTable.bits h % (mask + 1)) (SetTable.bits h)).bind fun j => some (owner.setIfInBounds j (some k), k + 1)) hs = _
      rw [ej]
      show List.foldl _ (some (owner.setIfInBounds j (some k), k + 1)) hs = _
      rw [e]
      have : k + 1 + hs.length = k + (h :: hs).length := by simp; omega
      rw [this]
    · have : k + 1 + hs.length = k + (h :: hs).length := by simp; omega
      rwa [this] at p'
theorem owner_fm (owner : Array (Option Nat)) {m : Nat} (h : owner.size = m) : ((List.range m).filterMap fun j => (owner.getD j none).map fun x => (j, x)).map (·.2) = owner.toList.filterMap id := by
  rw [List.map_filterMap]
  have e : (fun j : Nat => Option.map (fun x : Nat × Nat => x.2) ((owner.getD j none).map fun x => (j, x))) = fun j => (owner.getD j none) := by
    funext j
    generalize owner.getD j none = o
    cases o <;> rfl
  rw [e]
  have e2 : owner.toList = (List.range m).map fun j => owner.getD j none := by
    apply List.ext_getElem?
    intro i
    by_cases hi : i < m
    · rw [Array.getElem?_toList, List.getElem?_map, List.getElem?_range hi, Option.map_some, Array.getD_eq_getD_getElem?, Array.getElem?_eq_getElem (by omega)]
      rfl
    · rw [List.getElem?_eq_none (by simp; omega), List.getElem?_eq_none (by simp; omega)]
  rw [e2, List.filterMap_map]
  rfl
theorem laid_ok {mask finger moves : Nat} {led plain : Bool} (hc : cycled mask = true) (hashes : Array Int) (hn : hashes.size ≤ mask + 1) (hh : ∀ h ∈ hashes.toList, 0 ≤ h ∧ h < 32) :
    ∃ t order, SetTable.laid mask finger moves led plain hashes = some (t, order) ∧ order.toList.Perm (List.range hashes.size) ∧ t.place.size = hashes.size := by
  obtain ⟨o', e, s', p'⟩ := lay_fold hc hashes.toList (Array.replicate (mask + 1) none) 0 (by simp) (by simp [List.filterMap_replicate_of_none]) (by simpa using hn) hh
  have hL : SetTable.layClean mask hashes = some o' := by
    unfold SetTable.layClean
    rw [← Array.foldl_toList, e]
    rfl
  unfold SetTable.laid
  rw [hL]
  refine ⟨_, _, rfl, ?_, ?_⟩
  · show (((List.range (mask + 1)).filterMap fun j => (o'.getD j none).map fun x => (j, x)).map (·.2)).Perm _
    rw [owner_fm o' s']
    simpa using p'
  · show (((List.range (mask + 1)).filterMap fun j => (o'.getD j none).map fun x => (j, x)).map (·.1)).toArray.size = _
    have : (((List.range (mask + 1)).filterMap fun j => (o'.getD j none).map fun x => (j, x)).map (·.2)).length = hashes.size := by
      rw [owner_fm o' s', p'.length_eq]
      simp
    simpa using this
end L2

/-! LAMP W: sets of intsE: put in, taken out, walked, put together -/
namespace L2
open PySem
def byText (w : World) : Bool := w.params.followText "set-order"
def kOf (e : Int × Value) : Int := match e.2 with | .int k _ => k | _ => 0
def Ints (es : List (Int × Value)) : Prop := ∀ e ∈ es, ∃ k t, e = (hashInt k, Value.int k t)
theorem Ints.perm {l m : List (Int × Value)} (h : Ints l) (p : m.Perm l) : Ints m := fun e he => h e (p.mem_iff.mp he)
structure SetD (w : World) (o : Obj) (es : Array (Int × Value)) (ep : Nat) (t : SetTable) (ks : List Int) : Prop where
  ex : o.ExactSet
  data : o.data = .set es ep t
  intsE : Ints es.toList
  perm : (es.toList.map kOf).Perm ks
  nd : ks.Nodup
  small : ks.length < 1000
  fits : t.fits es.size = true
  rise : Rise t.place
  led : t.led = true ∨ byText w = true
def SetX (w : World) (h : Heap) (a : Addr) (ks : List Int) : Prop := ∃ o es ep t, h.get? a = some o ∧ SetD w o es ep t ks
theorem SetX.at {w : World} {h h' : Heap} {a : Addr} {ks : List Int} (x : SetX w h a ks) (k : ∀ o, h.get? a = some o → h'.get? a = some o) : SetX w h' a ks := by
  obtain ⟨o, es, ep, t, e, D⟩ := x
  exact ⟨o, es, ep, t, k _ e, D⟩
theorem SetX.small {w : World} {h : Heap} {a : Addr} {ks : List Int} (x : SetX w h a ks) : ks.length < 1000 := by
  obtain ⟨o, es, ep, t, e, D⟩ := x
  exact D.small
theorem SetX.nd {w : World} {h : Heap} {a : Addr} {ks : List Int} (x : SetX w h a ks) : ks.Nodup := by
  obtain ⟨o, es, ep, t, e, D⟩ := x
  exact D.nd
theorem fits_iff {t : SetTable} {n : Nat} : t.fits n = true ↔ t.place.size = n ∧ t.fill ≤ t.mask := by simp [SetTable.fits]
theorem eraseIdx_perm {α : Type} : ∀ {l : List α} {j : Nat} {x : α}, l[j]? = some x → l.Perm (x :: l.eraseIdx j)
  | [], j, x, h => by cases h
  | a :: l, 0, x, h => by
    have : a = x := by simpa using h
    subst this
    exact .refl _
  | a :: l, j + 1, x, h => ((eraseIdx_perm (l := l) (j := j) (x := x) (by simpa using h)).cons a).trans (.swap _ _ _)
section
variable {prog : Program} {w : World} {A : Around} {E : Value → Shared → Prop} {s : Shared} {a : Addr} {o : Obj} {es : Array (Int × Value)} {ep : Nat} {t : SetTable} {ks : List Int}
theorem SetD.size (D : SetD w o es ep t ks) : es.size = ks.length := by
  have := D.perm.length_eq
  simpa using this
theorem SetD.elems (D : SetD w o es ep t ks) (prog : Program) : ElemsOf (intKind prog w) es.toList := fun e he => by
  obtain ⟨k, tk, rfl⟩ := D.intsE e he
  exact ⟨⟨k, by simp [intKind, Value.isInt], rfl⟩, rfl⟩
theorem SetD.bound (D : SetD w o es ep t ks) : es.size < scanBound := by
  have := D.size
  have := D.small
  unfold scanBound
  omega
theorem isInt_kOf {es : List (Int × Value)} (h : Ints es) {e : Int × Value} (he : e ∈ es) (k : Int) : Value.isInt k e.2 = decide (kOf e = k) := by
  obtain ⟨k', t, rfl⟩ := h e he
  show (k' == k) = decide (k' = k)
  rw [Bool.eq_iff_iff]
  simp
theorem SetD.mem (D : SetD w o es ep t ks) (k : Int) : k ∈ ks ↔ ∃ e ∈ es.toList, kOf e = k := by
  rw [← D.perm.mem_iff, List.mem_map]
theorem find_none (D : SetD w o es ep t ks) {k : Int} (h : es.toList.findIdx? (fun e => Value.isInt k e.2) = none) : k ∉ ks := fun z => by
  obtain ⟨e, he, ek⟩ := (D.mem k).mp z
  have := List.findIdx?_eq_none_iff.mp h e he
  rw [isInt_kOf D.intsE he, ek] at this
  simp at this
theorem find_some (D : SetD w o es ep t ks) {k : Int} {j : Nat} (h : es.toList.findIdx? (fun e => Value.isInt k e.2) = some j) : k ∈ ks ∧ ∃ e, es.toList[j]? = some e ∧ kOf e = k := by
  obtain ⟨hj, hp, _⟩ := List.findIdx?_eq_some_iff_getElem.mp h
  have hm := List.getElem_mem hj
  rw [isInt_kOf D.intsE hm] at hp
  have e := of_decide_eq_true hp
  exact ⟨(D.mem k).mpr ⟨_, hm, e⟩, _, List.getElem?_eq_getElem hj, e⟩
theorem setFind_ix {k : Int} {tk : Tok} {Q : Option Nat → Shared → Prop} (ho : s.heap.get? a = some o) (D : SetD w o es ep t ks) (h : Q (es.toList.findIdx? fun e => Value.isInt k e.2) s) :
    wpAny (model prog w) A (setFind a (.int k tk) (hashInt k)) Q E s := by
  unfold setFind setFindIn
  refine wpAny_bind (wpAny_setState_of ho D.data D.fits ?_)
  dsimp only
  rw [byScan_of (knd := intKind prog w) rfl D.bound (D.elems prog)]
  simp only [↓reduceIte]
  refine wpAny_bind (wpAny_rule ?_)
  refine wpAny_bind (wpAny_setScan_of (knd := intKind prog w) (k := k) (by simp [intKind, Value.isInt]) ho D.data D.fits (D.elems prog) ?_)
  show wpAny _ _ _ Q E s
  have e : (fun e : Int × Value => (intKind prog w).is k e.2) = fun e => Value.isInt k e.2 := rfl
  rw [e]
  cases hr : es.toList.findIdx? (fun e => Value.isInt k e.2) with
  | none =>
    rw [hr] at h
    exact wpAny_pure h
  | some j =>
    rw [hr] at h
    dsimp only
    rw [Nat.zero_add]
    exact wpAny_pure h
theorem setFindX {k : Int} {tk : Tok} {Q : Option Nat → Shared → Prop} (hS : SetX w s.heap a ks) (h : ∀ r : Option Nat, r.isSome = decide (k ∈ ks) → Q r s) :
    wpAny (model prog w) A (setFind a (.int k tk) (hashInt k)) Q E s := by
  obtain ⟨o, es, ep, t, ho, D⟩ := hS
  refine setFind_ix ho D (h _ ?_)
  cases hr : es.toList.findIdx? (fun e => Value.isInt k e.2) with
  | none => exact (decide_eq_false (find_none D hr)).symm
  | some j => exact (decide_eq_true (find_some D hr).1).symm
theorem size_insertAt {α : Type} (xs : Array α) (p : Nat) (x : α) : (SetTable.insertAt xs p x).size = xs.size + 1 := by
  have := (SetTable.insertAt_perm xs p x).length_eq
  simpa using this
theorem size_eraseAt {α : Type} (xs : Array α) {p : Nat} (h : p < xs.size) : (SetTable.eraseAt xs p).size = xs.size - 1 := by
  have e : (SetTable.eraseAt xs p).toList.length = (xs.toList.eraseIdx p).length := by rw [toList_eraseAt]
  rw [List.length_eraseIdx] at e
  simpa [h] using e
theorem stored (ho : s.heap.get? a = some o) (hd : o.data = .set es ep t) (es' : Array (Int × Value)) (t' : SetTable) :
    (s.heap.update a (Obj.putSet es' t')).get? a = some { o with data := .set es' (ep + 1) t' } := by
  have := Heap.get?_update_self (Obj.putSet es' t') ho (by rw [putSet_of es' t' hd]; rfl)
  rw [putSet_of es' t' hd] at this
  exact this
theorem setDiscardX {k : Int} {tk : Tok} {Q : Bool → Shared → Prop} (hS : SetX w s.heap a ks)
    (h : ∀ h', Heap.SameBut a s.heap h' → SetX w h' a (if k ∈ ks then ks.erase k else ks) → Q (decide (k ∈ ks)) { s with heap := h' }) :
    wpAny (model prog w) A (setDiscardHashed a (.int k tk) (hashInt k)) Q E s := by
  obtain ⟨o, es, ep, t, ho, D⟩ := hS
  unfold setDiscardHashed
  refine wpAny_bind (setFind_ix ho D ?_)
  cases hr : es.toList.findIdx? (fun e => Value.isInt k e.2) with
  | none =>
    have n := find_none D hr
    rw [if_neg n, decide_eq_false n] at h
    refine wpAny_pure ?_
    have := h s.heap (Heap.SameBut.refl a s.heap) ⟨o, es, ep, t, ho, D⟩
    exact this
  | some j =>
    obtain ⟨m, e, ej, ek⟩ := find_some D hr
    rw [if_pos m, decide_eq_true m] at h
    have hj : j < es.size := by
      have := (List.getElem?_eq_some_iff.mp ej).1
      simpa using this
    have f := fits_iff.mp D.fits
    have hpl : t.place[j]? = some t.place[j] := Array.getElem?_eq_getElem (by omega)
    refine wpAny_bind (wpAny_setState_of ho D.data D.fits ?_)
    dsimp only
    have hdrop : t.drop j = { t with place := SetTable.eraseAt t.place j, dummies := SetTable.insertAt t.dummies (SetTable.below t.dummies t.place[j]) t.place[j] } := by
      unfold SetTable.drop
      rw [hpl]
    rw [hdrop]
    have sz : (SetTable.eraseAt es j).size = es.size - 1 := size_eraseAt es hj
    have szp : (SetTable.eraseAt t.place j).size = t.place.size - 1 := size_eraseAt t.place (by omega)
    refine wpAny_bind (wpAny_storeSet_of ho D.data ?_ (fits_of_scanBound (by rw [sz]; have := D.bound; omega)))
    refine wpAny_bind (wpAny_point ?_)
    refine wpAny_pure (h _ (Heap.SameBut.update s.heap a _) ⟨_, _, ep + 1, _, stored ho D.data _ _, D.ex, rfl, ?_, ?_, D.nd.erase k, ?_, ?_, D.rise.erase j, D.led⟩)
    · rw [toList_eraseAt]
      exact fun e' he' => D.intsE e' (List.mem_of_mem_eraseIdx he')
    · rw [toList_eraseAt]
      have p1 : (es.toList.map kOf).Perm (k :: (es.toList.eraseIdx j).map kOf) := by
        have := (eraseIdx_perm ej).map kOf
        rw [List.map_cons, ek] at this
        exact this
      have p2 := D.perm.symm.trans p1
      have p3 := p2.erase k
      rw [List.erase_cons_head] at p3
      exact p3.symm
    · exact Nat.lt_of_le_of_lt (List.length_erase_le ..) D.small
    · refine fits_iff.mpr ⟨?_, ?_⟩
      · show (SetTable.eraseAt t.place j).size = _
        rw [szp, sz]
        omega
      · show (SetTable.eraseAt t.place j).size + (SetTable.insertAt t.dummies (SetTable.below t.dummies t.place[j]) t.place[j]).size ≤ t.mask
        rw [szp, size_insertAt]
        have : t.fill = t.place.size + t.dummies.size := rfl
        omega
theorem addTailX {g : Bool → Sem Unit} (hg : ∀ (b : Bool) (s₁ : Shared) (Q' : Unit → Shared → Prop), Q' () s₁ → wpAny (model prog w) A (g b) Q' E s₁)
    (ho : s.heap.get? a = some o) (hex : o.ExactSet) (hd : o.data = .set es ep t) {es1 : Array (Int × Value)} {t2 : SetTable} {ms : List Int} (hi : Ints es1.toList) (hp : (es1.toList.map kOf).Perm ms) (nd : ms.Nodup) (sm : ms.length < 1000)
    (hf2 : t2.fits es1.size = true) (hrs : Rise t2.place) (hl : t2.led = true ∨ byText w = true) {wasDummy : Bool} {R : Option Bool → Shared → Prop}
    (h : ∀ h', Heap.SameBut a s.heap h' → SetX w h' a ms → R (some true) { s with heap := h' }) :
    wpAny (model prog w) A (do
        storeSet a es1 t2
        if (!wasDummy && t2.tooFull) = true then do
            g (relayAll t2 es1 (SetTable.grown es1.size)).2.2
            storeSet a (relayAll t2 es1 (SetTable.grown es1.size)).1 (relayAll t2 es1 (SetTable.grown es1.size)).2.1
            pure (some true)
          else pure (some true)) R E s := by
  have sz1 : es1.size = ms.length := by simpa using hp.length_eq
  have hb1 : es1.size < scanBound := by unfold scanBound; omega
  refine wpAny_bind (wpAny_storeSet_of ho hd ?_ (fits_of_scanBound hb1))
  have ho1 := stored ho hd es1 t2
  have hsb1 := Heap.SameBut.update s.heap a (Obj.putSet es1 t2)
  split
  · have hpr := relayAll_perm t2 es1 (SetTable.grown es1.size)
    have hfr := relayAll_fits t2 es1 (SetTable.grown es1.size)
    have hrr := relayAll_rise t2 es1 (SetTable.grown es1.size)
    have hlr := relayAll_led t2 es1 (SetTable.grown es1.size)
    generalize hRl : relayAll t2 es1 (SetTable.grown es1.size) = Rl at hpr hfr hrr hlr ⊢
    obtain ⟨es2, t3, gave2⟩ := Rl
    dsimp only at hpr hfr hrr hlr ⊢
    have hsz : es2.size = es1.size := by rw [← Array.length_toList, hpr.length_eq, Array.length_toList]
    refine wpAny_bind (hg _ _ _ ?_)
    refine wpAny_bind (wpAny_storeSet_of ho1 rfl ?_ (fits_of_scanBound (by rw [hsz]; exact hb1)))
    refine wpAny_pure (h _ (hsb1.trans (Heap.SameBut.update _ a _)) ⟨_, _, _, _, stored (s := { s with heap := s.heap.update a (Obj.putSet es1 t2) }) ho1 rfl es2 t3, hex, rfl, hi.perm hpr, (hpr.map kOf).trans hp, nd, sm, hfr, hrr, by rw [hlr]; exact hl⟩)
  · exact wpAny_pure (h _ hsb1 ⟨_, _, _, _, ho1, hex, rfl, hi, hp, nd, sm, hf2, hrs, hl⟩)
theorem setAddX {k : Int} {tk : Tok} {Q : Bool → Shared → Prop} (hS : SetX w s.heap a ks) (hroom : ks.length + 1 < 1000)
    (h : ∀ h', Heap.SameBut a s.heap h' → SetX w h' a (if k ∈ ks then ks else ks ++ [k]) → Q (!decide (k ∈ ks)) { s with heap := h' }) :
    wpAny (model prog w) A (setAddHashed a (.int k tk) (hashInt k)) Q E s := by
  obtain ⟨o, es, ep, t, ho, D⟩ := hS
  unfold setAddHashed setAddHashedIn
  refine wpAny_holding (wpAny_bind (wpAny_setState_of ho D.data D.fits ?_))
  dsimp only
  rw [byScan_of (knd := intKind prog w) rfl D.bound (D.elems prog)]
  simp only [↓reduceIte]
  unfold setAddByScan
  refine wpAny_bind ?_
  refine wpAny_bind (wpAny_rule ?_)
  refine wpAny_bind (wpAny_setScan_of (knd := intKind prog w) (k := k) (by simp [intKind, Value.isInt]) ho D.data D.fits (D.elems prog) ?_)
  have e : (fun e : Int × Value => (intKind prog w).is k e.2) = fun e => Value.isInt k e.2 := rfl
  rw [e]
  cases hr : es.toList.findIdx? (fun e => Value.isInt k e.2) with
  | some j =>
    obtain ⟨m, _⟩ := find_some D hr
    rw [if_pos m, decide_eq_true m] at h
    dsimp only
    refine wpAny_pure (wpAny_pure ?_)
    exact h s.heap (Heap.SameBut.refl a s.heap) ⟨o, es, ep, t, ho, D⟩
  | none =>
    have m := find_none D hr
    rw [if_neg m, decide_eq_false m] at h
    dsimp only
    have hgw : ∀ (b : Bool) {s₁ : Shared} {Q' : Unit → Shared → Prop}, Q' () s₁ → wpAny (model prog w) A (match b with | true => rule "set.scan.the-table-gave-way" | false => pure ()) Q' E s₁ :=
      fun b s₁ Q' hq => by cases b <;> first | exact wpAny_pure hq | exact wpAny_rule hq
    have hperm := layNew_perm t es (hashInt k) (.int k tk)
    have hfits := layNew_fits t es (hashInt k) (.int k tk)
    have hrise := layNew_rise D.rise es (hashInt k) (.int k tk)
    have hled := layNew_led t es (hashInt k) (.int k tk)
    generalize hL : layNew t es (hashInt k) (.int k tk) = L at hperm hfits hrise hled ⊢
    obtain ⟨es1, t1, wasDummy, gave⟩ := L
    dsimp only at hperm hfits hrise hled ⊢
    rw [Array.toList_push] at hperm
    have hi1 : Ints es1.toList := fun e he => by
      rcases List.mem_append.mp (hperm.mem_iff.mp he) with z | z
      · exact D.intsE e z
      · exact ⟨k, tk, by simpa using z⟩
    have hp1 : (es1.toList.map kOf).Perm (ks ++ [k]) := by
      refine (hperm.map kOf).trans ?_
      rw [List.map_append]
      exact D.perm.append_right _
    have nd1 : (ks ++ [k]).Nodup := by
      rw [List.nodup_append]
      refine ⟨D.nd, by simp, fun x hx y hy => ?_⟩
      have : y = k := by simpa using hy
      rw [this]
      rintro rfl
      exact m hx
    have sm1 : (ks ++ [k]).length < 1000 := by simpa using hroom
    have hl1 : t1.led = true ∨ byText w = true := by rw [hled]; exact D.led
    have hbv : hashByValue 8 (Value.int k tk) = pure true := hashByValue_scannable 8 rfl
    refine wpAny_bind (hgw _ ?_)
    split
    · refine wpAny_bind ?_
      rw [hbv]
      refine wpAny_pure ?_
      simp only [↓reduceIte]
      refine addTailX ?_ ho D.ex D.data hi1 hp1 nd1 sm1 hfits hrise hl1 ?_
      · intro b s₁ Q' hq; cases b <;> first | exact wpAny_pure hq | exact wpAny_rule hq
      · intro h' hsb hS'; dsimp only; exact wpAny_pure (h h' hsb hS')
    · refine wpAny_bind (wpAny_pure ?_)
      simp only [↓reduceIte]
      refine addTailX ?_ ho D.ex D.data hi1 hp1 nd1 sm1 hfits hrise hl1 ?_
      · intro b s₁ Q' hq; cases b <;> first | exact wpAny_pure hq | exact wpAny_rule hq
      · intro h' hsb hS'; dsimp only; exact wpAny_pure (h h' hsb hS')
end
end L2

/-! LAMP X: sets of intsE walked, copied, put together -/
namespace L2
open PySem
theorem sub_set_set : isSubtype (.type "set") (.type "set") = pure true := by rw [isSubtype_type]; kernel_rfl
theorem pick_go {α : Type} (next : Nat → Nat) : ∀ (fuel k : Nat) (left : List α) (out : Array α), left.length ≤ fuel → (pickOrder.go next fuel k left out).toList.Perm (out.toList ++ left)
  | 0, k, left, out, h => by
    have : left = [] := List.length_eq_zero_iff.mp (by omega)
    subst this
    unfold pickOrder.go
    simp
  | fuel + 1, k, left, out, h => by
    unfold pickOrder.go
    cases e : left[next k % left.length]? with
    | none =>
      have : left = [] := by
        cases left with
        | nil => rfl
        | cons x l =>
          rw [List.getElem?_eq_none_iff] at e
          have := Nat.mod_lt (next k) (show 0 < (x :: l).length by simp)
          omega
      subst this
      simp
    | some x =>
      dsimp only
      have hl := (List.getElem?_eq_some_iff.mp e).1
      refine (pick_go next fuel (k + 1) _ _ (by rw [List.length_eraseIdx]; simp [hl]; omega)).trans ?_
      rw [Array.toList_push, List.append_assoc]
      exact ((eraseIdx_perm e).symm).append_left _
theorem pick_perm {α : Type} (next : Nat → Nat) (xs : Array α) : (pickOrder next xs).toList.Perm xs.toList := by
  unfold pickOrder
  have := pick_go next xs.size 0 xs.toList #[] (by simp)
  simpa using this
section
variable {prog : Program} {w : World} {A : Around} {E : Value → Shared → Prop} {s : Shared} {a : Addr} {ks : List Int}
theorem SetX.typeIs (x : SetX w s.heap a ks) : s.TypeIs (.ref a) "set" := by
  obtain ⟨o, es, ep, t, ho, D⟩ := x
  exact ⟨o, ho, D.ex.1⟩
theorem SetX.lt (x : SetX w s.heap a ks) : a < s.heap.objs.size := by
  obtain ⟨o, es, ep, t, ho, D⟩ := x
  exact Heap.lt_size ho
theorem newSetX {Q : Value → Shared → Prop}
    (h : ∀ t : SetTable, t.place.size = 0 → t.fill = 0 → t.mask = 7 → t.plain = true → (t.led = true ∨ byText w = true) → SetX w (s.heap.push { cls := .type "set", dict := none, data := .set #[] 0 t }) s.heap.objs.size [] →
      Q (.ref s.heap.objs.size) { s with heap := s.heap.push { cls := .type "set", dict := none, data := .set #[] 0 t } }) :
    wpAny (model prog w) A (newSet (.type "set")) Q E s := by
  unfold newSet setsByText
  refine wpAny_bind (wpAny_bind (wpAny_askSetting (wpAny_pure ?_)))
  dsimp only
  simp only [newObj]
  have hl : (SetTable.fresh 0 0 (!w.params.followText "set-order")).led = true ∨ byText w = true := by
    show (!w.params.followText "set-order") = true ∨ w.params.followText "set-order" = true
    cases w.params.followText "set-order" <;> simp
  refine wpAny_bind (wpAny_alloc (wpAny_pure (h _ rfl rfl rfl rfl hl ⟨_, #[], 0, _, Heap.get?_push_size _ rfl, ⟨rfl, rfl, rfl⟩, rfl, fun e he => by simp at he, .refl _, List.nodup_nil, by decide, rfl, Rise.nil, hl⟩)))
theorem setsQuietX {Q : Bool → Shared → Prop} : ∀ {l : List Addr}, (∀ b ∈ l, ∃ ms, SetX w s.heap b ms) → Q true s → wpAny (model prog w) A (setsQuiet l) Q E s := by
  intro l hl h
  unfold setsQuiet
  refine wpAny_bind (wpAny_forIn_list _ (fun rest b s' => b.1 = none ∧ s' = s ∧ ∀ c ∈ rest, ∃ ms, SetX w s.heap c ms) _ ?_ ?_ l _ ⟨rfl, rfl, hl⟩)
  · rintro c rest b s' ⟨hb, rfl, hr⟩
    obtain ⟨ms, o, es, ep, t, ho, D⟩ := hr c List.mem_cons_self
    refine wpAny_bind (wpAny_setEntries_of ho D.data D.fits ?_)
    refine wpAny_bind (MeetsSeq2.wpAny_forIn_array _ (fun rest b s₁ => b.1 = none ∧ s₁ = s' ∧ Ints rest) _ ?_ ?_ es _ ⟨rfl, rfl, D.intsE⟩)
    · rintro e rest' b' s₁ ⟨hb', rfl, hi⟩
      obtain ⟨k, tk, rfl⟩ := hi e List.mem_cons_self
      exact wpAny_pure ⟨rfl, rfl, fun x hx => hi x (List.mem_cons_of_mem _ hx)⟩
    · rintro ⟨b1, b2⟩ s₁ ⟨hb', rfl, _⟩
      simp only at hb'
      subst hb'
      exact wpAny_pure ⟨rfl, rfl, fun x hx => hr x (List.mem_cons_of_mem _ hx)⟩
  · rintro ⟨b1, b2⟩ s' ⟨hb, rfl, _⟩
    simp only at hb
    subst hb
    exact wpAny_pure h
theorem setsByTextX {Q : Bool → Shared → Prop} (h : Q (byText w) s) : wpAny (model prog w) A setsByText Q E s := by
  unfold setsByText
  exact wpAny_bind (wpAny_askSetting (wpAny_pure h))
theorem walkX {o : Obj} {es : Array (Int × Value)} {ep : Nat} {t : SetTable} {f : Addr} {ms : List Int} {others : List Addr} {Q : Array (Int × Value) → Shared → Prop} (ho : s.heap.get? a = some o) (D : SetD w o es ep t ks) (hf : SetX w s.heap f ms) (hne : a ≠ f) (hot : ∀ b ∈ others, ∃ ms, SetX w s.heap b ms)
    (h : ∀ (es' : Array (Int × Value)) (h' : Heap), es'.toList.Perm es.toList → Heap.SameBut f s.heap h' → SetX w h' f ms → Q es' { s with heap := h' }) :
    wpAny (model prog w) A (setWalkUnseen a others (some f)) Q E s := by
  have here : ∀ es' : Array (Int × Value), es'.toList.Perm es.toList → Q es' s := fun es' p => h es' s.heap p (Heap.SameBut.refl _ _) hf
  have walk : byText w = true ∨ (t.led && t.plain) = true ∨ es.size ≤ 1 → wpAny (model prog w) A (setWalk a) Q E s := by
    intro c
    unfold setWalk
    refine wpAny_bind (wpAny_setState_of ho D.data D.fits ?_)
    dsimp only
    refine wpAny_bind (setsByTextX ?_)
    cases hb : byText w with
    | true =>
      simp only [↓reduceIte]
      exact wpAny_bind (wpAny_askSetting (wpAny_pure (here _ (pick_perm _ _))))
    | false =>
      simp only [Bool.false_eq_true, ↓reduceIte]
      have hled : t.led = true := by
        rcases D.led with z | z
        · exact z
        · rw [hb] at z
          cases z
      have nd : (!t.plain && decide (es.size > 1)) = false := by
        rcases c with c | c | c
        · rw [hb] at c
          cases c
        · rw [hled, Bool.true_and] at c
          rw [c]
          rfl
        · rw [decide_eq_false (by omega), Bool.and_false]
      show wpAny _ _ (if (!t.plain && decide (es.size > 1)) = true then _ else _) _ _ _
      rw [nd]
      simp only [Bool.false_eq_true, ↓reduceIte]
      show wpAny _ _ (do (if (!t.led && decide (es.size > 1)) = true then unsupported "set:maker-not-led" else pure ()); pure es) _ _ _
      rw [hled]
      simp only [Bool.not_true, Bool.false_and, Bool.false_eq_true, ↓reduceIte]
      exact wpAny_bind (wpAny_pure (wpAny_pure (here _ (.refl _))))
  unfold setWalkUnseen
  refine wpAny_bind (wpAny_setState_of ho D.data D.fits ?_)
  dsimp only
  refine wpAny_bind (setsByTextX ?_)
  refine wpAny_ite_split (fun c => ?_) (fun c => ?_)
  · refine walk ?_
    simp only [Bool.or_eq_true, decide_eq_true_eq] at c
    rcases c with (c | c) | c
    · exact .inl c
    · exact .inr (.inl c)
    · exact .inr (.inr c)
  · refine wpAny_bind (setsQuietX (fun b hb => ?_) ?_)
    · rcases List.mem_cons.mp hb with z | z
      · exact ⟨ks, by rw [z]; exact ⟨o, es, ep, t, ho, D⟩⟩
      · exact hot b z
    · simp only [Bool.not_true, Bool.false_eq_true, ↓reduceIte]
      refine wpAny_bind (wpAny_rule ?_)
      obtain ⟨of, ef, epf, tf, hof, F⟩ := id hf
      refine wpAny_bind (wpAny_setState_of hof F.data F.fits ?_)
      dsimp only
      have hled : t.led = true := by
        rcases D.led with z | z
        · exact z
        · rw [z] at c
          simp at c
      refine wpAny_ite_split (fun c2 => ?_) (fun c2 => ?_)
      · refine wpAny_bind (wpAny_storeSet_of hof F.data ?_ (fits_of_scanBound F.bound))
        refine wpAny_pure (h es _ (.refl _) (Heap.SameBut.update _ f _) ⟨_, _, _, _, stored hof F.data _ _, F.ex, rfl, F.intsE, F.perm, F.nd, F.small, F.fits, F.rise, ?_⟩)
        show (tf.led && t.led) = true ∨ _
        rw [hled, Bool.and_true]
        exact F.led
      · exact wpAny_bind (wpAny_pure (wpAny_pure (here _ (.refl _))))
end
end L2

/-! LAMP Y: sets of intsE copied, ^ and & -/
namespace L2
open PySem
def reord (es : Array (Int × Value)) (laid : Option (SetTable × Array Nat)) : Sem (Array (Int × Value) × SetTable) := do
  let some (t, order) := laid | unsupported "internal:set-table-without-room"
  let es' := order.filterMap (es[·]?)
  if es'.size != es.size then unsupported "internal:set-table-lost-an-element"
  pure (es', t)
def big (n : Nat) : Bool := [15, 31, 63].contains (SetTable.sizeAbove (n * 2) - 1) && decide (n ≤ SetTable.sizeAbove (n * 2) - 1) && decide (SetTable.sizeAbove (n * 2) ≤ 64)
theorem big_of : ∀ n, n < 25 → ¬ n * 5 < 21 → big n = true := by decide +kernel
theorem hash_small {k : Int} (h0 : 0 ≤ k) (h1 : k < 32) : hashInt k = k := by
  have e : ∀ n : Nat, n < 32 → hashInt (n : Int) = (n : Int) := by decide +kernel
  obtain ⟨n, rfl⟩ := Int.eq_ofNat_of_zero_le h0
  exact e n (by omega)
section
variable {prog : Program} {w : World} {A : Around} {E : Value → Shared → Prop} {s : Shared} {a : Addr} {ks : List Int}
theorem reordX {es : Array (Int × Value)} {laid : Option (SetTable × Array Nat)} {t' : SetTable} {order : Array Nat} {Q : Array (Int × Value) × SetTable → Shared → Prop} (e : laid = some (t', order)) (hp : order.toList.Perm (List.range es.size))
    (h : ∀ es' : Array (Int × Value), es'.toList.Perm es.toList → Q (es', t') s) : wpAny (model prog w) A (reord es laid) Q E s := by
  subst e
  unfold reord
  dsimp only
  have p : (order.filterMap (es[·]?)).toList.Perm es.toList := by
    rw [Array.toList_filterMap]
    exact (hp.filterMap _).trans (by rw [filterMap_getElem?_range])
  have sz : (order.filterMap (es[·]?)).size = es.size := by rw [← Array.length_toList, p.length_eq, Array.length_toList]
  rw [sz]
  simp only [bne_self_eq_false, Bool.false_eq_true, ↓reduceIte]
  exact wpAny_bind (wpAny_pure (wpAny_pure (h _ p)))
structure FreshX (w : World) (h : Heap) (c : Addr) (o : Obj) (ep : Nat) (t : SetTable) : Prop where
  at_ : h.get? c = some o
  d : SetD w o #[] ep t []
  fill : t.fill = 0
theorem roomX {c : Addr} {o : Obj} {ep : Nat} {t : SetTable} {n : Nat} {Q : Unit → Shared → Prop} (F : FreshX w s.heap c o ep t) (hm : t.mask = 7) (hn : n < 25)
    (h : ∀ h' o' ep' t', Heap.SameBut c s.heap h' → FreshX w h' c o' ep' t' → cycled t'.mask = true → n ≤ t'.mask → Q () { s with heap := h' }) : wpAny (model prog w) A (setRoomFor c n) Q E s := by
  unfold setRoomFor
  refine wpAny_bind (wpAny_setState_of F.at_ F.d.data F.d.fits ?_)
  dsimp only
  have hp : t.place.size = 0 := by
    have := (fits_iff.mp F.d.fits).1
    simpa using this
  unfold SetTable.roomFor
  rw [F.fill, hm, hp]
  by_cases c1 : n * 5 < 21
  · rw [if_neg (by omega)]
    dsimp only
    refine wpAny_pure ?_
    exact h s.heap o ep t (Heap.SameBut.refl _ _) F (by rw [hm]; exact cyc7) (by omega)
  · rw [if_pos (by omega)]
    dsimp only
    have hb := big_of n hn c1
    unfold big at hb
    simp only [Bool.and_eq_true, decide_eq_true_eq] at hb
    obtain ⟨⟨b1, b2⟩, b3⟩ := hb
    rw [Nat.zero_add]
    generalize hW : SetTable.sizeAbove (n * 2) = W at b1 b2 b3
    have cy : cycled (W - 1) = true := by
      have : W - 1 = 15 ∨ W - 1 = 31 ∨ W - 1 = 63 := by simpa using b1
      rcases this with z | z | z
      · rw [z]; exact cyc15
      · rw [z]; exact cyc31
      · rw [z]; exact cyc63
    unfold setRelay
    refine wpAny_bind (wpAny_setState_of F.at_ F.d.data F.d.fits ?_)
    dsimp only
    rw [hW, if_neg (by rw [sizeLine_eq]; omega)]
    unfold SetTable.relaid
    rw [hW]
    obtain ⟨t', order, e, po, sz⟩ := laid_ok (finger := t.finger) (moves := t.movedTo (W - 1)) (led := t.led) (plain := t.plain) cy ((#[] : Array (Int × Value)).map (·.1)) (by simp) (by simp)
    refine wpAny_bind (show wpAny _ _ (reord #[] _) _ _ _ from reordX e (by simpa using po) fun es' pe => ?_)
    dsimp only
    have ee : es' = #[] := by
      have : es'.toList = [] := List.Perm.eq_nil pe
      exact Array.toList_eq_nil_iff.mp this
    subst ee
    have l3 := laid_led e
    have ff : t'.fill = 0 := by
      show t'.place.size + t'.dummies.size = 0
      rw [sz, l3.2.2]
      simp
    refine wpAny_storeSet_of F.at_ F.d.data ?_ (Nat.zero_le _)
    refine h _ _ _ t' (Heap.SameBut.update _ c _) ⟨stored F.at_ F.d.data _ _, ⟨F.d.ex, rfl, F.d.intsE, F.d.perm, F.d.nd, F.d.small, ?_, laid_rise e, by rw [l3.1]; exact F.d.led⟩, ff⟩ (by rw [l3.2.1]; exact cy) (by rw [l3.2.1]; omega)
    exact fits_iff.mpr ⟨by rw [sz]; simp, by omega⟩
theorem mergeX {c b : Addr} {o : Obj} {ep : Nat} {t : SetTable} {each : Sem Unit} {Q : Unit → Shared → Prop} (F : FreshX w s.heap c o ep t) (hm : t.mask = 7) (hb : SetX w s.heap b ks) (hne : c ≠ b) (hn : ks.length < 25) (hk : ∀ k ∈ ks, 0 ≤ k ∧ k < 32)
    (h : ∀ h', Heap.SameBut c s.heap h' → SetX w h' c ks → Q () { s with heap := h' }) : wpAny (model prog w) A (setMerge c b each) Q E s := by
  obtain ⟨ob, eb, epb, tb, hob, B⟩ := hb
  unfold setMerge
  have hcb : (c == b) = false := by simpa using hne
  rw [hcb]
  simp only [Bool.false_eq_true, ↓reduceIte]
  refine wpAny_bind (wpAny_setState_of hob B.data B.fits ?_)
  dsimp only
  by_cases em : eb.isEmpty = true
  · rw [if_pos em]
    have e0 : eb = #[] := by simpa using em
    subst e0
    have k0 : ks = [] := List.Perm.eq_nil (B.perm.symm.trans (by simp))
    subst k0
    exact wpAny_pure (h s.heap (Heap.SameBut.refl _ _) ⟨o, #[], ep, t, F.at_, F.d⟩)
  · rw [if_neg em]
    refine wpAny_bind (roomX F hm (by rw [B.size]; exact hn) fun h1 o1 ep1 t1 sb1 F1 cy le => ?_)
    refine wpAny_bind (wpAny_setState_of F1.at_ F1.d.data F1.d.fits ?_)
    dsimp only
    have hob1 : h1.get? b = some ob := by rw [sb1.2 b (Ne.symm hne)]; exact hob
    have hl : (t1.led && tb.led) = true ∨ byText w = true := by
      rcases F1.d.led with z | z
      · rcases B.led with y | y
        · exact .inl (by rw [z, y]; rfl)
        · exact .inr y
      · exact .inr z
    unfold SetTable.road
    rw [F1.fill]
    simp only [bne_self_eq_false, Bool.false_eq_true, ↓reduceIte]
    by_cases rd : (t1.mask == tb.mask && tb.dummies.isEmpty) = true
    · rw [if_pos rd]
      dsimp only
      refine wpAny_storeSet_of F1.at_ F1.d.data ?_ (fits_of_scanBound B.bound)
      exact h _ (sb1.trans (Heap.SameBut.update _ c _)) ⟨_, _, _, _, stored (s := { s with heap := h1 }) F1.at_ F1.d.data _ _, F1.d.ex, rfl, B.intsE, B.perm, B.nd, B.small, B.fits, B.rise, hl⟩
    · rw [if_neg rd]
      dsimp only
      obtain ⟨t', order, e, po, sz⟩ := laid_ok (finger := t1.finger) (moves := t1.moves) (led := t1.led && tb.led) (plain := t1.plain && tb.plain) cy (eb.map (·.1)) (by have : eb.size ≤ t1.mask := le; simp; omega) (fun x hx => by
        rw [Array.toList_map] at hx
        obtain ⟨e, he, rfl⟩ := List.mem_map.mp hx
        obtain ⟨k, tk, rfl⟩ := B.intsE e he
        have hkk := hk k ((B.mem k).mpr ⟨_, he, rfl⟩)
        show 0 ≤ hashInt k ∧ hashInt k < 32
        rw [hash_small hkk.1 hkk.2]
        exact hkk)
      refine wpAny_bind (show wpAny _ _ (reord eb _) _ _ _ from reordX e (by simpa using po) fun es' pe => ?_)
      dsimp only
      have l3 := laid_led e
      have sze : es'.size = eb.size := by rw [← Array.length_toList, pe.length_eq, Array.length_toList]
      refine wpAny_storeSet_of F1.at_ F1.d.data ?_ (fits_of_scanBound (by rw [sze]; exact B.bound))
      refine h _ (sb1.trans (Heap.SameBut.update _ c _)) ⟨_, _, _, t', stored (s := { s with heap := h1 }) F1.at_ F1.d.data _ _, F1.d.ex, rfl, B.intsE.perm pe, (pe.map kOf).trans B.perm, B.nd, B.small, ?_, laid_rise e, by rw [l3.1]; exact hl⟩
      refine fits_iff.mpr ⟨by rw [sz, sze]; simp, ?_⟩
      show t'.place.size + t'.dummies.size ≤ t'.mask
      have z1 : t'.place.size = eb.size := by rw [sz]; simp
      rw [z1, l3.2.2, l3.2.1]
      exact le
end
end L2

/-! LAMP Z: sets of intsE: ^ and & -/
namespace L2
open PySem PySem.Builtin.Frozenset
def flipK (ks : List Int) (k : Int) : List Int := if k ∈ ks then ks.erase k else ks ++ [k]
theorem flipK_in {ks : List Int} {k : Int} (m : k ∈ ks) : flipK ks k = ks.erase k := if_pos m
theorem flipK_out {ks : List Int} {k : Int} (m : k ∉ ks) : flipK ks k = ks ++ [k] := if_neg m
theorem flipK_len (ks : List Int) (k : Int) : (flipK ks k).length ≤ ks.length + 1 := by
  unfold flipK
  split
  · exact Nat.le_succ_of_le (List.length_erase_le ..)
  · simp
theorem flipK_nd {ks : List Int} (h : ks.Nodup) (k : Int) : (flipK ks k).Nodup := by
  unfold flipK
  split
  · exact h.erase k
  · rename_i n
    rw [List.nodup_append]
    refine ⟨h, by simp, fun x hx y hy => ?_⟩
    have : y = k := by simpa using hy
    rw [this]
    rintro rfl
    exact n hx
theorem flipK_mem {ks : List Int} (h : ks.Nodup) (k x : Int) : x ∈ flipK ks k ↔ ¬ (x ∈ ks ↔ x = k) := by
  unfold flipK
  split
  · rename_i m
    rw [h.mem_erase_iff]
    by_cases e : x = k
    · subst e
      simp [m]
    · simp [e]
  · rename_i n
    rw [List.mem_append]
    by_cases e : x = k
    · subst e
      simp [n]
    · simp [e]
theorem flips_len : ∀ (bs ks : List Int), (bs.foldl flipK ks).length ≤ ks.length + bs.length
  | [], ks => by simp
  | b :: bs, ks => by
    have h1 := flips_len bs (flipK ks b)
    have h2 := flipK_len ks b
    simp only [List.foldl_cons, List.length_cons]
    omega
theorem flips_mem : ∀ {bs ks : List Int}, ks.Nodup → bs.Nodup → ∀ x, x ∈ bs.foldl flipK ks ↔ ¬ (x ∈ ks ↔ x ∈ bs)
  | [], ks, _, _, x => by simp
  | b :: bs, ks, h, hb, x => by
    obtain ⟨n, hb'⟩ := List.nodup_cons.mp hb
    rw [List.foldl_cons, flips_mem (flipK_nd h b) hb', flipK_mem h, List.mem_cons]
    by_cases e : x = b
    · subst e
      simp [n]
    · simp [e]
section
variable {prog : Program} {w : World} {A : Around} {E : Value → Shared → Prop} {s : Shared} {a : Addr} {ks : List Int}
theorem isAnySetX {Q : Bool → Shared → Prop} (x : SetX w s.heap a ks) (h : Q true s) : wpAny (model prog w) A (isAnySet (.ref a)) Q E s := by
  unfold isAnySet
  exact wpAny_bind (wpAny_isInstance x.typeIs sub_set_set (wpAny_pure h))
theorem baseOfX {Q : Value → Shared → Prop} (x : SetX w s.heap a ks) (h : Q (.type "set") s) : wpAny (model prog w) A (baseOf a) Q E s := by
  unfold baseOf
  exact wpAny_bind (wpAny_isInstance x.typeIs sub_set_set (wpAny_pure h))
theorem setEpochX {Q : Nat → Shared → Prop} {o : Obj} {es : Array (Int × Value)} {ep : Nat} {t : SetTable} (ho : s.heap.get? a = some o) (D : SetD w o es ep t ks) (h : Q ep s) : wpAny (model prog w) A (setEpoch a) Q E s :=
  wpAny_setEpoch_of ho D.data D.fits h
theorem unchangedX {id : String} {Q : Unit → Shared → Prop} {o : Obj} {es : Array (Int × Value)} {ep : Nat} {t : SetTable} (ho : s.heap.get? a = some o) (D : SetD w o es ep t ks) (h : Q () s) : wpAny (model prog w) A (unchanged id a ep) Q E s := by
  unfold unchanged
  refine wpAny_bind (setEpochX ho D ?_)
  simp only [bne_self_eq_false, Bool.false_eq_true, ↓reduceIte]
  exact wpAny_pure h
theorem mergeF {id : String} {c b : Addr} {o : Obj} {ep : Nat} {t : SetTable} {Q : Unit → Shared → Prop} (F : FreshX w s.heap c o ep t) (hm : t.mask = 7) (hb : SetX w s.heap b ks) (hne : c ≠ b) (hn : ks.length < 25) (hk : ∀ k ∈ ks, 0 ≤ k ∧ k < 32)
    (h : ∀ h', Heap.SameBut c s.heap h' → SetX w h' c ks → Q () { s with heap := h' }) : wpAny (model prog w) A (updateFrom id c (.ref b)) Q E s := by
  unfold updateFrom
  refine wpAny_bind (isAnySetX hb ?_)
  simp only [↓reduceIte]
  refine wpAny_bind (wpAny_pure ?_)
  unfold Builtin.Frozenset.merge
  have hb0 := hb
  obtain ⟨ob, eb, epb, tb, hob, B⟩ := hb0
  refine wpAny_bind (setEpochX hob B ?_)
  exact mergeX F hm hb hne hn hk h
theorem newFromX {id : String} {b : Addr} {Q : Value → Shared → Prop} (hb : SetX w s.heap b ks) (hn : ks.length < 25) (hk : ∀ k ∈ ks, 0 ≤ k ∧ k < 32)
    (h : ∀ h', (∀ b o, s.heap.get? b = some o → h'.get? b = some o) → s.heap.objs.size < h'.objs.size → SetX w h' s.heap.objs.size ks → Q (.ref s.heap.objs.size) { s with heap := h' }) : wpAny (model prog w) A (newFrom id (.type "set") (.ref b)) Q E s := by
  unfold newFrom
  refine wpAny_bind (newSetX fun t h1 h2 h3 h4 h5 h6 => ?_)
  have hlt : b < s.heap.objs.size := hb.lt
  refine wpAny_bind (wpAny_pure ?_)
  refine wpAny_bind (wpAny_holding ?_)
  have hat : (s.heap.push { cls := .type "set", dict := none, data := .set #[] 0 t }).get? s.heap.objs.size = some { cls := .type "set", dict := none, data := .set #[] 0 t } := Heap.get?_push_size _ rfl
  have hD : SetD w { cls := .type "set", dict := none, data := .set #[] 0 t } #[] 0 t [] := by
    obtain ⟨o, es, ep, t', e, D⟩ := h6
    rw [hat] at e
    cases e
    have := D.data
    cases this
    exact D
  refine mergeF (s := { s with heap := s.heap.push { cls := .type "set", dict := none, data := .set #[] 0 t } }) ⟨hat, hD, h2⟩ h3 (hb.at fun o e => Heap.get?_push_of_some _ e) (Ne.symm (Nat.ne_of_lt hlt)) hn hk fun h' sb hS => wpAny_pure (h h' (fun b o e => ?_) ?_ hS)
  · have : b < s.heap.objs.size := Heap.lt_size e
    rw [sb.2 b (Nat.ne_of_lt this)]
    exact Heap.get?_push_of_some _ e
  · obtain ⟨o, _, _, _, e, _⟩ := hS
    exact Heap.lt_size e
theorem symdiffX {id : String} {r l : Addr} {ls : List Int} {Q : Unit → Shared → Prop} (hr : SetX w s.heap r ks) (hl : SetX w s.heap l ls) (hne : r ≠ l) (hn : ks.length + ls.length < 900)
    (h : ∀ h' ms, Heap.SameBut r s.heap h' → SetX w h' r ms → (∀ x, x ∈ ms ↔ ¬ (x ∈ ks ↔ x ∈ ls)) → Q () { s with heap := h' }) : wpAny (model prog w) A (symmetricDifferenceUpdate id r (.ref l)) Q E s := by
  unfold symmetricDifferenceUpdate
  have h1 : (Value.ref l == Value.ref r) = false := by
    have : ¬ (Value.ref l = Value.ref r) := fun z => hne (by cases z; rfl)
    simpa using this
  rw [h1]
  simp only [Bool.false_eq_true, ↓reduceIte]
  refine wpAny_bind (wpAny_typeOf hl.typeIs ?_)
  have h2 : (Value.type "set" == Value.type "dict") = false := by decide
  rw [h2]
  simp only [Bool.false_eq_true, ↓reduceIte]
  refine wpAny_bind (isAnySetX hl ?_)
  simp only [↓reduceIte]
  refine wpAny_bind (wpAny_pure ?_)
  refine wpAny_bind (wpAny_pure ?_)
  have hl0 := hl
  obtain ⟨ol, el, epl, tl, hol, L⟩ := hl0
  refine wpAny_bind (setEpochX hol L ?_)
  refine wpAny_holding ?_
  refine wpAny_bind (walkX hol L hr (Ne.symm hne) (fun b hb => ?_) fun es' h' pe sb hS => ?_)
  · have : b = r := by simpa using hb
    exact ⟨ks, by rw [this]; exact hr⟩
  · have hi : Ints es'.toList := L.intsE.perm pe
    have hln : es'.toList.length = ls.length := by rw [pe.length_eq]; simpa using L.size
    refine wpAny_bind (MeetsSeq2.wpAny_forIn_array _ (fun rest _ s' => ∃ (dn : List (Int × Value)) (h2 : Heap), dn ++ rest = es'.toList ∧ s' = { s with heap := h2 } ∧ Heap.SameBut r s.heap h2 ∧ SetX w h2 r ((dn.map kOf).foldl flipK ks)) _ ?_ ?_ es' _ ⟨[], h', rfl, rfl, sb, hS⟩)
    · rintro e rest _ s' ⟨dn, h2, ed, rfl, sb2, hS2⟩
      have he : e ∈ es'.toList := by rw [← ed]; simp
      obtain ⟨k, tk, rfl⟩ := hi e he
      have hol2 : h2.get? l = some ol := by rw [sb2.2 l (Ne.symm hne)]; exact hol
      have len : ((dn.map kOf).foldl flipK ks).length + 1 < 1000 := by
        have := flips_len (dn.map kOf) ks
        have : (dn ++ (hashInt k, Value.int k tk) :: rest).length = ls.length := by rw [ed]; exact hln
        simp at this ⊢
        simp at *
        omega
      refine wpAny_bind (wpAny_holding ?_)
      refine wpAny_bind (setDiscardX (s := { s with heap := h2 }) hS2 fun h3 sb3 hS3 => ?_)
      have nxt : ∀ h4 : Heap, Heap.SameBut r h2 h4 → SetX w h4 r (flipK ((dn.map kOf).foldl flipK ks) k) → wpAny (model prog w) A (do unchanged id l epl; pure (ForInStep.yield PUnit.unit)) (fun (r_1 : ForInStep PUnit) s' => match r_1 with
            | .yield b' => ∃ dn h2, dn ++ rest = es'.toList ∧ s' = { s with heap := h2 } ∧ Heap.SameBut r s.heap h2 ∧ SetX w h2 r ((dn.map kOf).foldl flipK ks)
            | .done b' => False) E { s with heap := h4 } := fun h4 sb4 hS4 => by
        have hol4 : h4.get? l = some ol := by rw [sb4.2 l (Ne.symm hne)]; exact hol2
        refine wpAny_bind (unchangedX (s := { s with heap := h4 }) hol4 L (wpAny_pure ⟨dn ++ [(hashInt k, Value.int k tk)], h4, by rw [← ed]; simp, rfl, sb2.trans sb4, ?_⟩))
        rw [List.map_append, List.foldl_append]
        exact hS4
      by_cases m : k ∈ (dn.map kOf).foldl flipK ks
      · rw [if_pos m] at hS3
        rw [decide_eq_true m]
        simp only [Bool.not_true, Bool.false_eq_true, ↓reduceIte]
        refine wpAny_pure (wpAny_mono (nxt h3 sb3 (by rw [flipK_in m]; exact hS3)) (fun v s' q => ?_) fun _ _ e => e)
        cases v with
        | yield _ => exact q
        | done _ => exact q.elim
      · rw [if_neg m] at hS3
        rw [decide_eq_false m]
        simp only [Bool.not_false, ↓reduceIte]
        refine wpAny_bind (setAddX (s := { s with heap := h3 }) hS3 len fun h4 sb4 hS4 => ?_)
        rw [if_neg m] at hS4
        refine wpAny_pure (wpAny_mono (nxt h4 (sb3.trans sb4) (by rw [flipK_out m]; exact hS4)) (fun v s' q => ?_) fun _ _ e => e)
        cases v with
        | yield _ => exact q
        | done _ => exact q.elim
    · rintro _ s' ⟨dn, h2, ed, rfl, sb2, hS2⟩
      rw [List.append_nil] at ed
      rw [ed] at hS2
      refine wpAny_pure (h h2 _ sb2 hS2 fun x => ?_)
      have pk : (es'.toList.map kOf).Perm ls := (pe.map kOf).trans L.perm
      rw [flips_mem hr.nd (pk.nodup_iff.mpr L.nd), pk.mem_iff]
theorem meetX {id : String} {r l : Addr} {ls : List Int} {Q : Value → Shared → Prop} (hr : SetX w s.heap r ks) (hl : SetX w s.heap l ls) (hne : r ≠ l)
    (h : ∀ h' ms, (∀ b o, s.heap.get? b = some o → h'.get? b = some o) → SetX w h' s.heap.objs.size ms → (∀ x, x ∈ ms ↔ (x ∈ ks ∧ x ∈ ls)) → Q (.ref s.heap.objs.size) { s with heap := h' }) : wpAny (model prog w) A (intersection id r (.ref l)) Q E s := by
  unfold intersection
  have h1 : (Value.ref l == Value.ref r) = false := by
    have : ¬ (Value.ref l = Value.ref r) := fun z => hne (by cases z; rfl)
    simpa using this
  rw [h1]
  simp only [Bool.false_eq_true, ↓reduceIte]
  refine wpAny_bind (baseOfX hr ?_)
  refine wpAny_bind (newSetX fun t q1 q2 q3 q4 q5 hN => ?_)
  refine wpAny_bind (wpAny_pure ?_)
  have hlr : r < s.heap.objs.size := hr.lt
  have hll : l < s.heap.objs.size := hl.lt
  generalize hp : s.heap.push { cls := .type "set", dict := none, data := .set #[] 0 t } = hp0 at hN
  have kp : ∀ b o, s.heap.get? b = some o → hp0.get? b = some o := fun b o e => by rw [← hp]; exact Heap.get?_push_of_some _ e
  have hr1 : SetX w hp0 r ks := hr.at fun o e => kp _ _ e
  have hl1 : SetX w hp0 l ls := hl.at fun o e => kp _ _ e
  refine wpAny_bind (wpAny_holding ?_)
  refine wpAny_bind (isAnySetX (s := { s with heap := hp0 }) hl1 ?_)
  simp only [↓reduceIte]
  refine wpAny_bind (wpAny_pure ?_)
  obtain ⟨ol, el, epl, tl, hol, L⟩ := hl1
  obtain ⟨or_, er, epr, tr, hor, R⟩ := hr1
  unfold Builtin.Frozenset.sizeOf
  refine wpAny_bind (wpAny_bind (wpAny_setEntries_of (s := { s with heap := hp0 }) hol L.data L.fits (wpAny_pure ?_)))
  refine wpAny_bind (wpAny_bind (wpAny_setEntries_of (s := { s with heap := hp0 }) hor R.data R.fits (wpAny_pure ?_)))
  -- the one asked, the one walked
  have go : ∀ (q v : Addr) (qs vs : List Int) (ov : Obj) (ev : Array (Int × Value)) (epv : Nat) (tv : SetTable), SetX w hp0 q qs → hp0.get? v = some ov → SetD w ov ev epv tv vs → q ≠ s.heap.objs.size → v ≠ s.heap.objs.size →
      (∀ x, (x ∈ qs ∧ x ∈ vs) ↔ (x ∈ ks ∧ x ∈ ls)) → wpAny (model prog w) A (do
        let was ← setEpoch v
        let es ← setWalkUnseen v [q, s.heap.objs.size] (some s.heap.objs.size)
        let _ ← forIn es PUnit.unit fun x _ => do
          holding [x.2] do
            if (← setFind q x.2 x.1).isSome then
              let _ ← setAddHashed s.heap.objs.size x.2 x.1
          unchanged id v was
          pure (ForInStep.yield PUnit.unit)
        pure ()) (fun _ s' => wpAny (model prog w) A (pure (Value.ref s.heap.objs.size)) Q E s') E { s with heap := hp0 } := by
    intro q v qs vs ov ev epv tv hq hov V hqn hvn hx
    refine wpAny_bind (setEpochX (s := { s with heap := hp0 }) hov V ?_)
    refine wpAny_bind (walkX (s := { s with heap := hp0 }) hov V hN hvn (fun b hb => ?_) fun es' h' pe sb hS => ?_)
    · rcases List.mem_cons.mp hb with z | z
      · exact ⟨qs, by rw [z]; exact hq⟩
      · have : b = s.heap.objs.size := by simpa using z
        exact ⟨[], by rw [this]; exact hN⟩
    · have hi : Ints es'.toList := V.intsE.perm pe
      have hln : es'.toList.length = vs.length := by rw [pe.length_eq]; simpa using V.size
      have pk : (es'.toList.map kOf).Perm vs := (pe.map kOf).trans V.perm
      have ndk : (es'.toList.map kOf).Nodup := pk.nodup_iff.mpr V.nd
      have vsm := V.small
      refine wpAny_bind (MeetsSeq2.wpAny_forIn_array _ (fun rest _ s' => ∃ (dn : List (Int × Value)) (h2 : Heap), dn ++ rest = es'.toList ∧ s' = { s with heap := h2 } ∧ Heap.SameBut s.heap.objs.size hp0 h2 ∧ SetX w h2 s.heap.objs.size ((dn.map kOf).filter fun k => decide (k ∈ qs))) _ ?_ ?_ es' _ ⟨[], h', rfl, rfl, sb, hS⟩)
      · rintro e rest _ s' ⟨dn, h2, ed, rfl, sb2, hS2⟩
        have he : e ∈ es'.toList := by rw [← ed]; simp
        obtain ⟨k, tk, rfl⟩ := hi e he
        have hov2 : h2.get? v = some ov := by rw [sb2.2 v hvn]; exact hov
        have hq2 : SetX w h2 q qs := hq.at fun o e => by rw [sb2.2 q hqn]; exact e
        have hln2 : (dn ++ (hashInt k, Value.int k tk) :: rest).length = vs.length := by rw [ed]; exact hln
        have hnew : k ∉ (dn.map kOf).filter fun k => decide (k ∈ qs) := fun z => by
          have z1 := (List.mem_filter.mp z).1
          rw [← ed, List.map_append, List.map_cons, List.nodup_append] at ndk
          exact ndk.2.2 k z1 k (by simp [kOf]) rfl
        have len : ((dn.map kOf).filter fun k => decide (k ∈ qs)).length + 1 < 1000 := by
          have := List.length_filter_le (fun k => decide (k ∈ qs)) (dn.map kOf)
          rw [List.length_map] at this
          simp only [List.length_append, List.length_cons] at hln2
          omega
        have fin : ∀ h4 : Heap, Heap.SameBut s.heap.objs.size h2 h4 → SetX w h4 s.heap.objs.size (((dn ++ [(hashInt k, Value.int k tk)]).map kOf).filter fun k => decide (k ∈ qs)) → wpAny (model prog w) A (do unchanged id v epv; pure (ForInStep.yield PUnit.unit)) (fun (r_1 : ForInStep PUnit) s' => match r_1 with
            | .yield b' => ∃ dn h2, dn ++ rest = es'.toList ∧ s' = { s with heap := h2 } ∧ Heap.SameBut s.heap.objs.size hp0 h2 ∧ SetX w h2 s.heap.objs.size ((dn.map kOf).filter fun k => decide (k ∈ qs))
            | .done b' => False) E { s with heap := h4 } := fun h4 sb4 hS4 => by
          have hov4 : h4.get? v = some ov := by rw [sb4.2 v hvn]; exact hov2
          exact wpAny_bind (unchangedX (s := { s with heap := h4 }) hov4 V (wpAny_pure ⟨dn ++ [(hashInt k, Value.int k tk)], h4, by rw [← ed]; simp, rfl, sb2.trans sb4, hS4⟩))
        refine wpAny_bind (wpAny_holding ?_)
        refine wpAny_bind (setFindX (s := { s with heap := h2 }) hq2 fun rr hrr => ?_)
        rw [hrr]
        by_cases m : k ∈ qs
        · rw [decide_eq_true m]
          simp only [↓reduceIte]
          refine wpAny_bind (setAddX (s := { s with heap := h2 }) hS2 len fun h4 sb4 hS4 => ?_)
          rw [if_neg hnew] at hS4
          refine wpAny_pure (wpAny_mono (fin h4 sb4 ?_) (fun v s' q => ?_) fun _ _ e => e)
          · rw [List.map_append, List.filter_append]
            have : List.filter (fun k => decide (k ∈ qs)) ([(hashInt k, Value.int k tk)].map kOf) = [k] := by simp [kOf, m]
            rw [this]
            exact hS4
          · cases v with
            | yield _ => exact q
            | done _ => exact q.elim
        · rw [decide_eq_false m]
          simp only [Bool.false_eq_true, ↓reduceIte]
          refine wpAny_pure (wpAny_mono (fin h2 (Heap.SameBut.refl _ _) ?_) (fun v s' q => ?_) fun _ _ e => e)
          · rw [List.map_append, List.filter_append]
            have : List.filter (fun k => decide (k ∈ qs)) ([(hashInt k, Value.int k tk)].map kOf) = [] := by simp [kOf, m]
            rw [this, List.append_nil]
            exact hS2
          · cases v with
            | yield _ => exact q
            | done _ => exact q.elim
      · rintro _ s' ⟨dn, h2, ed, rfl, sb2, hS2⟩
        rw [List.append_nil] at ed
        rw [ed] at hS2
        refine wpAny_pure (wpAny_pure (h h2 _ (fun b o e => ?_) hS2 fun x => ?_))
        · rw [sb2.2 b (Nat.ne_of_lt (Heap.lt_size e))]
          exact kp b o e
        · rw [List.mem_filter, pk.mem_iff, ← hx x, decide_eq_true_eq]
          exact And.comm
  by_cases c : el.size > er.size
  · rw [if_pos c]
    exact go l r ls ks or_ er epr tr ⟨ol, el, epl, tl, hol, L⟩ hor R (Nat.ne_of_lt hll) (Nat.ne_of_lt hlr) fun x => And.comm
  · rw [if_neg c]
    exact go r l ks ls ol el epl tl ⟨or_, er, epr, tr, hor, R⟩ hol L (Nat.ne_of_lt hlr) (Nat.ne_of_lt hll) fun x => Iff.rfl
end
end L2

/-! LAMP T: facts of set iterators -/
namespace L2
open PySem
theorem si_next : Slot "set_iterator" "__next__" "set_iterator.__next__" :=
  .of (owner := "set_iterator") (n := "__next__") (by rw [typeLookup_type, builtinLookup_eq_fast]; kernel_rfl) (by decide +kernel) (by decide +kernel) (by decide +kernel)
    (by first | exact .inl (by decide +kernel) | exact .inr (by decide +kernel)) (by rw [isSubtype_type]; kernel_rfl)
theorem si_iter : Slot "set_iterator" "__iter__" "set_iterator.__iter__" :=
  .of (owner := "set_iterator") (n := "__iter__") (by rw [typeLookup_type, builtinLookup_eq_fast]; kernel_rfl) (by decide +kernel) (by decide +kernel) (by decide +kernel)
    (by first | exact .inl (by decide +kernel) | exact .inr (by decide +kernel)) (by rw [isSubtype_type]; kernel_rfl)
theorem entry_si_next : entryFor table "set_iterator.__next__" = some Builtin.«set_iterator.__next__» := entryFor_of_tree (by kernel_rfl)
theorem entry_si_iter : entryFor table "set_iterator.__iter__" = some Builtin.«dict_keyiterator.__iter__» :=
  entryFor_alias (id' := "dict_keyiterator.__iter__") (by kernel_rfl) rfl (by decide +kernel) (by kernel_rfl)
theorem args_si_next (a : Value) : argsOk "set_iterator.__next__" ⟨[a], []⟩ := by unfold argsOk; kernel_rfl
theorem args_si_iter (a : Value) : argsOk "set_iterator.__iter__" ⟨[a], []⟩ := by unfold argsOk; kernel_rfl
theorem entry_set_iter' : entryFor table "set.__iter__" = some Builtin.«frozenset.__iter__» :=
  entryFor_alias (id' := "frozenset.__iter__") (by kernel_rfl) rfl (by decide +kernel) (by kernel_rfl)
theorem entry_set_xor' : entryFor table "set.__xor__" = some Builtin.«frozenset.__xor__» :=
  entryFor_alias (id' := "frozenset.__xor__") (by kernel_rfl) rfl (by decide +kernel) (by kernel_rfl)
theorem entry_set_and' : entryFor table "set.__and__" = some Builtin.«frozenset.__and__» :=
  entryFor_alias (id' := "frozenset.__and__") (by kernel_rfl) rfl (by decide +kernel) (by kernel_rfl)
end L2

/-! LAMP S: sets of intsE: iterators, sorted -/
namespace L2
open PySem
def IsSeqT (h : Heap) (T : Addr) (xs : Array Value) : Prop := ∃ o n, h.get? T = some o ∧ o.data = .seq xs n
def IsSI (h : Heap) (I : Addr) (first : Value) (i : Nat) (a : Addr) (n ep : Nat) : Prop :=
  ∃ o, h.get? I = some o ∧ o.cls = .type "set_iterator" ∧ o.data = .fields #[first, rawInt i, .ref a, rawInt n, rawInt ep]
theorem IsSI.at {h h' : Heap} {I a : Addr} {first : Value} {i n ep : Nat} (x : IsSI h I first i a n ep) (e : ∀ o, h.get? I = some o → h'.get? I = some o) : IsSI h' I first i a n ep := let ⟨o, ho, r⟩ := x; ⟨o, e _ ho, r⟩
section
variable {prog : Program} {w : World} {A : Around} {E : Value → Shared → Prop} {s : Shared} {I a : Addr} {ks : List Int} {o : Obj} {es : Array (Int × Value)} {ep : Nat} {t : SetTable}
theorem IsSI.typeIs {first : Value} {i n ep : Nat} (x : IsSI s.heap I first i a n ep) : s.TypeIs (.ref I) "set_iterator" := let ⟨o, ho, hc, _⟩ := x; ⟨o, ho, hc⟩
theorem si_self {first : Value} {i n ep : Nat} {Q : Value → Shared → Prop} (x : IsSI s.heap I first i a n ep) (h : Q (.ref I) s) : wpAny (model prog w) A (pyIter (.ref I)) Q E s := by
  refine wpAny_pyIter_slot x.typeIs si_iter (wpAny_call_entry si_iter x.typeIs entry_si_iter ?_ (args_si_iter _))
  show wpAny _ _ (ret (.ref I)) _ _ s
  exact wpAny_pure ⟨_, rfl, "set_iterator", _, x.typeIs, si_next.lookup, h⟩
theorem si_stop {A : Around} (hh : A.handled = none) {P : Fin → Shared → Prop} {Q : Option Value → Shared → Prop} (hQ : ∀ h', (∀ b o, s.heap.get? b = some o → h'.get? b = some o) → Q none { s with heap := h' }) :
    wpAny (model prog w) A.in1 (do raiseNew (← newExc (.type "StopIteration") [])) P (fun e s' => wpAny (model prog w) A (do if ← isInstance e (.type "StopIteration") then pure none else throw e) Q E s') s := by
  refine wpAny_bind ?_
  simp only [newExc, newTuple]
  refine wpAny_bind (wpAny_newObj_type ?_ (by size_fits))
  refine wpAny_bind (m := firstArgMember _ _) (wpAny_of_eq (a := Value.none) (by first | rfl | (simp only [firstArgMember]; rfl)) ?_)
  refine wpAny_newObj_type ?_ (by size_fits)
  simp only [raiseNew]
  refine wpAny_bind (wpAny_handled ?_)
  rw [show A.in1.handled = none from hh]
  refine wpAny_bind (wpAny_pure (wpAny_throw ?_))
  refine wpAny_bind (wpAny_isInstance (T := "StopIteration") (b := true) ⟨_, Heap.get?_push_size _ rfl, rfl⟩ isSubtype_stop ?_)
  exact wpAny_pure (hQ _ fun b o e => Heap.get?_push_of_some _ (Heap.get?_push_of_some _ e))
theorem si_item {slot i : Nat} {x : Value} {next : Nat} {Q : Option Value → Shared → Prop} (hne : a ≠ I) (hit : IsSI s.heap I (rawInt slot) i a es.size ep) (ho : s.heap.get? a = some o) (D : SetD w o es ep t ks)
    (hn : ∀ (A : Around) (Q' : Option (Value × Nat) → Shared → Prop) (E' : Value → Shared → Prop), Q' (some (x, next)) s → wpAny (model prog w) A (setNext a slot i ep) Q' E' s)
    (hQ : ∀ h', IsSI h' I (rawInt next) (i + 1) a es.size ep → Heap.SameBut I s.heap h' → Q (some x) { s with heap := h' }) : wpAny (model prog w) A (pyNext (.ref I)) Q E s := by
  obtain ⟨oi, hoi, hc, hd⟩ := id hit
  unfold pyNext
  refine wpAny_bind (wpAny_attempt (wpAny_callSpecial?_slot (name := Str.ofString "__next__") hit.typeIs si_next
    (wpAny_call_entry si_next hit.typeIs entry_si_next ?_ (args_si_next _))))
  unfold Builtin.«set_iterator.__next__»
  refine wpAny_bind (wpAny_of_eq (a := (Value.ref I, [])) rfl ?_)
  dsimp only
  refine wpAny_bind (wpAny_fieldsOf hoi hd ?_)
  show wpAny _ _ (do
    if ((← setEntries a).size : Int) != (es.size : Int) then
      rule "set_iterator.__next__.size-changed"
      setField (.ref I) 3 (rawInt (-1))
      raiseError "RuntimeError" "Set changed size during iteration"
    match ← setNext a ((slot : Int)).toNat ((i : Int)).toNat ((ep : Int)).toNat with
    | some (x, next) =>
      setField (.ref I) 0 (rawInt next)
      setField (.ref I) 1 (rawInt ((i : Int) + 1))
      ret x
    | none => setField (.ref I) 2 .none; raiseNew (← newExc (.type "StopIteration") [])) _ _ s
  refine wpAny_bind (wpAny_setEntries_of ho D.data D.fits ?_)
  simp only [bne_self_eq_false, Bool.false_eq_true, ↓reduceIte, Int.toNat_natCast]
  refine wpAny_bind (hn _ _ _ ?_)
  dsimp only
  refine wpAny_bind (wpAny_setField hoi hd (by simp) ?_)
  have h1 := Heap.get?_update_self (Obj.mapFields (·.setIfInBounds 0 (rawInt (next : Int)))) hoi (Obj.isFreed_of_fields (Obj.data_mapFields hd _))
  have d1 := Obj.data_mapFields hd (·.setIfInBounds 0 (rawInt (next : Int)))
  refine wpAny_bind (wpAny_setField (s := { s with heap := s.heap.update I (Obj.mapFields (·.setIfInBounds 0 (rawInt (next : Int)))) }) h1 d1 (by simp) ?_)
  refine wpAny_pure ⟨x, rfl, wpAny_pure (hQ _ ?_ ((Heap.SameBut.update ..).trans (Heap.SameBut.update ..)))⟩
  exact ⟨_, Heap.get?_update_self _ h1 (Obj.isFreed_of_fields (Obj.data_mapFields d1 _)), (Obj.cls_mapFields ..).trans ((Obj.cls_mapFields ..).trans hc), by
    rw [Obj.data_mapFields d1]; simp [rawInt]⟩
theorem si_end {slot i : Nat} {Q : Option Value → Shared → Prop} (hh : A.handled = none) (hit : IsSI s.heap I (rawInt slot) i a es.size ep) (ho : s.heap.get? a = some o) (D : SetD w o es ep t ks)
    (hn : ∀ (A : Around) (Q' : Option (Value × Nat) → Shared → Prop) (E' : Value → Shared → Prop), Q' none s → wpAny (model prog w) A (setNext a slot i ep) Q' E' s)
    (hQ : ∀ h', Heap.ExtBut I s.heap h' → Q none { s with heap := h' }) : wpAny (model prog w) A (pyNext (.ref I)) Q E s := by
  obtain ⟨oi, hoi, hc, hd⟩ := id hit
  unfold pyNext
  refine wpAny_bind (wpAny_attempt (wpAny_callSpecial?_slot (name := Str.ofString "__next__") hit.typeIs si_next
    (wpAny_call_entry si_next hit.typeIs entry_si_next ?_ (args_si_next _))))
  unfold Builtin.«set_iterator.__next__»
  refine wpAny_bind (wpAny_of_eq (a := (Value.ref I, [])) rfl ?_)
  dsimp only
  refine wpAny_bind (wpAny_fieldsOf hoi hd ?_)
  show wpAny _ _ (do
    if ((← setEntries a).size : Int) != (es.size : Int) then
      rule "set_iterator.__next__.size-changed"
      setField (.ref I) 3 (rawInt (-1))
      raiseError "RuntimeError" "Set changed size during iteration"
    match ← setNext a ((slot : Int)).toNat ((i : Int)).toNat ((ep : Int)).toNat with
    | some (x, next) =>
      setField (.ref I) 0 (rawInt next)
      setField (.ref I) 1 (rawInt ((i : Int) + 1))
      ret x
    | none => setField (.ref I) 2 .none; raiseNew (← newExc (.type "StopIteration") [])) _ _ s
  refine wpAny_bind (wpAny_setEntries_of ho D.data D.fits ?_)
  simp only [bne_self_eq_false, Bool.false_eq_true, ↓reduceIte, Int.toNat_natCast]
  refine wpAny_bind (hn _ _ _ ?_)
  dsimp only
  refine wpAny_bind (wpAny_setField hoi hd (by simp) ?_)
  refine si_stop (s := { s with heap := s.heap.update I (Obj.mapFields (·.setIfInBounds 2 .none)) }) hh fun h' hk => hQ h' fun b o' hb e => hk b o' ?_
  exact (Heap.SameBut.update s.heap I _).extBut b o' hb e
theorem si_itemD {T : Addr} {ps : List Nat} {i p : Nat} {x : Int × Value} {Q : Option Value → Shared → Prop} (hne : a ≠ I) (hit : IsSI s.heap I (.ref T) i a es.size ep) (ho : s.heap.get? a = some o) (D : SetD w o es ep t ks)
    (hT : IsSeqT s.heap T (ps.map fun (p : Nat) => rawInt p).toArray) (hp : ps[i]? = some p) (hx : es[p]? = some x)
    (hQ : ∀ h', IsSI h' I (.ref T) (i + 1) a es.size ep → Heap.SameBut I s.heap h' → Q (some x.2) { s with heap := h' }) : wpAny (model prog w) A (pyNext (.ref I)) Q E s := by
  obtain ⟨oi, hoi, hc, hd⟩ := id hit
  obtain ⟨oT, nT, hoT, hdT⟩ := hT
  unfold pyNext
  refine wpAny_bind (wpAny_attempt (wpAny_callSpecial?_slot (name := Str.ofString "__next__") hit.typeIs si_next
    (wpAny_call_entry si_next hit.typeIs entry_si_next ?_ (args_si_next _))))
  unfold Builtin.«set_iterator.__next__»
  refine wpAny_bind (wpAny_of_eq (a := (Value.ref I, [])) rfl ?_)
  dsimp only
  refine wpAny_bind (wpAny_fieldsOf hoi hd ?_)
  show wpAny _ _ (do
    if ((← setEntries a).size : Int) != (es.size : Int) then
      rule "set_iterator.__next__.size-changed"
      setField (.ref I) 3 (rawInt (-1))
      raiseError "RuntimeError" "Set changed size during iteration"
    let some places ← seqItems? (.ref T) | unsupported "internal:set_iterator"
    match places[((i : Int)).toNat]? with
    | some (.int place _) =>
      let x ← setNextDrawn a place.toNat ((ep : Int)).toNat
      setField (.ref I) 1 (rawInt ((i : Int) + 1))
      ret x
    | some _ => unsupported "internal:set_iterator"
    | none => setField (.ref I) 0 (rawInt 0); setField (.ref I) 2 .none; raiseNew (← newExc (.type "StopIteration") [])) _ _ s
  refine wpAny_bind (wpAny_setEntries_of ho D.data D.fits ?_)
  simp only [bne_self_eq_false, Bool.false_eq_true, ↓reduceIte, Int.toNat_natCast]
  refine wpAny_bind (wpAny_seqItems hoT hdT ?_)
  have e1 : (ps.map fun (p : Nat) => rawInt p).toArray[i]? = some (rawInt p) := by
    rw [List.getElem?_toArray, List.getElem?_map, hp]
    rfl
  dsimp only
  rw [e1]
  show wpAny _ _ (do
      let x ← setNextDrawn a ((p : Int)).toNat ep
      setField (.ref I) 1 (rawInt ((i : Int) + 1))
      ret x) _ _ s
  unfold setNextDrawn
  refine wpAny_bind (wpAny_bind (wpAny_setState_of ho D.data D.fits ?_))
  dsimp only
  simp only [bne_self_eq_false, Bool.false_eq_true, ↓reduceIte, Int.toNat_natCast]
  rw [hx]
  refine wpAny_pure ?_
  refine wpAny_bind (wpAny_setField hoi hd (by simp) ?_)
  refine wpAny_pure ⟨x.2, rfl, wpAny_pure (hQ _ ?_ (Heap.SameBut.update ..))⟩
  exact ⟨_, Heap.get?_update_self _ hoi (Obj.isFreed_of_fields (Obj.data_mapFields hd _)), (Obj.cls_mapFields ..).trans hc, by
    rw [Obj.data_mapFields hd]; simp [rawInt]⟩
theorem si_endD {T : Addr} {ps : List Nat} {i : Nat} {Q : Option Value → Shared → Prop} (hh : A.handled = none) (hit : IsSI s.heap I (.ref T) i a es.size ep) (ho : s.heap.get? a = some o) (D : SetD w o es ep t ks)
    (hT : IsSeqT s.heap T (ps.map fun (p : Nat) => rawInt p).toArray) (hp : ps[i]? = none)
    (hQ : ∀ h', Heap.ExtBut I s.heap h' → Q none { s with heap := h' }) : wpAny (model prog w) A (pyNext (.ref I)) Q E s := by
  obtain ⟨oi, hoi, hc, hd⟩ := id hit
  obtain ⟨oT, nT, hoT, hdT⟩ := hT
  unfold pyNext
  refine wpAny_bind (wpAny_attempt (wpAny_callSpecial?_slot (name := Str.ofString "__next__") hit.typeIs si_next
    (wpAny_call_entry si_next hit.typeIs entry_si_next ?_ (args_si_next _))))
  unfold Builtin.«set_iterator.__next__»
  refine wpAny_bind (wpAny_of_eq (a := (Value.ref I, [])) rfl ?_)
  dsimp only
  refine wpAny_bind (wpAny_fieldsOf hoi hd ?_)
  show wpAny _ _ (do
    if ((← setEntries a).size : Int) != (es.size : Int) then
      rule "set_iterator.__next__.size-changed"
      setField (.ref I) 3 (rawInt (-1))
      raiseError "RuntimeError" "Set changed size during iteration"
    let some places ← seqItems? (.ref T) | unsupported "internal:set_iterator"
    match places[((i : Int)).toNat]? with
    | some (.int place _) =>
      let x ← setNextDrawn a place.toNat ((ep : Int)).toNat
      setField (.ref I) 1 (rawInt ((i : Int) + 1))
      ret x
    | some _ => unsupported "internal:set_iterator"
    | none => setField (.ref I) 0 (rawInt 0); setField (.ref I) 2 .none; raiseNew (← newExc (.type "StopIteration") [])) _ _ s
  refine wpAny_bind (wpAny_setEntries_of ho D.data D.fits ?_)
  simp only [bne_self_eq_false, Bool.false_eq_true, ↓reduceIte, Int.toNat_natCast]
  refine wpAny_bind (wpAny_seqItems hoT hdT ?_)
  have e1 : (ps.map fun (p : Nat) => rawInt p).toArray[i]? = none := by
    rw [List.getElem?_toArray, List.getElem?_map, hp]
    rfl
  dsimp only
  rw [e1]
  refine wpAny_bind (wpAny_setField hoi hd (by simp) ?_)
  have h1 := Heap.get?_update_self (Obj.mapFields (·.setIfInBounds 0 (rawInt 0))) hoi (Obj.isFreed_of_fields (Obj.data_mapFields hd _))
  have d1 := Obj.data_mapFields hd (·.setIfInBounds 0 (rawInt 0))
  refine wpAny_bind (wpAny_setField (s := { s with heap := s.heap.update I (Obj.mapFields (·.setIfInBounds 0 (rawInt 0))) }) h1 d1 (by simp) ?_)
  refine si_stop (s := { s with heap := (s.heap.update I (Obj.mapFields (·.setIfInBounds 0 (rawInt 0)))).update I (Obj.mapFields (·.setIfInBounds 2 .none)) }) hh fun h' hk => hQ h' fun b o' hb e => hk b o' ?_
  exact ((Heap.SameBut.update s.heap I _).trans (Heap.SameBut.update _ I _)).extBut b o' hb e
end
end L2

/-! LAMP Sa: a set of intsE walked by an iterator; sorted -/
namespace L2
open PySem
section
variable {prog : Program} {w : World} {A : Around} {E : Value → Shared → Prop} {s : Shared} {I a : Addr} {ks : List Int} {o : Obj} {es : Array (Int × Value)} {ep : Nat} {t : SetTable}
def slotAt (t : SetTable) (i : Nat) : Nat := if i = 0 then 0 else t.place.getD (i - 1) 0 + 1
theorem slotAt_below (h : Rise t.place) {i : Nat} (hi : i ≤ t.place.size) : SetTable.below t.place (slotAt t i) = i := by
  unfold slotAt
  by_cases z : i = 0
  · rw [if_pos z, z]
    exact below_zero h
  · rw [if_neg z]
    have hl : i - 1 < t.place.size := by omega
    have e : t.place[i - 1]? = some (t.place.getD (i - 1) 0) := by
      rw [Array.getD_eq_getD_getElem?, Array.getElem?_eq_getElem hl]
      rfl
    rw [below_next h e]
    omega
theorem setNextT {i : Nat} {Q : Option (Value × Nat) → Shared → Prop} (hb : byText w = false) (hp : (!t.plain && decide (es.size > 1)) = false) (ho : s.heap.get? a = some o) (D : SetD w o es ep t ks) (hi : i ≤ es.size)
    (h : Q (match es[i]? with | some e => some (e.2, slotAt t (i + 1)) | none => none) s) : wpAny (model prog w) A (setNext a (slotAt t i) i ep) Q E s := by
  have f := fits_iff.mp D.fits
  unfold setNext
  refine wpAny_bind (wpAny_setState_of ho D.data D.fits ?_)
  dsimp only
  refine wpAny_bind (setsByTextX ?_)
  rw [hb]
  simp only [Bool.false_eq_true, ↓reduceIte]
  have hled : t.led = true := by
    rcases D.led with z | z
    · exact z
    · rw [hb] at z
      cases z
  show wpAny _ _ (if (!t.plain && decide (es.size > 1)) = true then _ else _) _ _ _
  rw [hp]
  simp only [Bool.false_eq_true, ↓reduceIte]
  show wpAny _ _ (do (if (!t.led && !es.isEmpty) = true then unsupported "set:maker-not-led" else pure ()); _) _ _ _
  rw [hled]
  simp only [Bool.not_true, Bool.false_and, Bool.false_eq_true, ↓reduceIte]
  refine wpAny_bind (wpAny_pure (wpAny_pure ?_))
  rw [slotAt_below D.rise (by omega)]
  rcases Nat.lt_or_ge i es.size with z | z
  · have e1 : es[i]? = some es[i] := Array.getElem?_eq_getElem z
    have e2 : t.place[i]? = some (t.place.getD i 0) := by
      rw [Array.getD_eq_getD_getElem?, Array.getElem?_eq_getElem (by omega)]
      rfl
    rw [e1] at h
    rw [e1, e2]
    exact h
  · have e1 : es[i]? = none := Array.getElem?_eq_none z
    rw [e1] at h
    rw [e1]
    exact h
theorem setNextB {slot i : Nat} {Q : Option (Value × Nat) → Shared → Prop} (hb : byText w = true) (ho : s.heap.get? a = some o) (D : SetD w o es ep t ks)
    (h : Q (((pickOrder (w.params.setOrder a ep) es)[i]?).map fun e => (e.2, slot)) s) : wpAny (model prog w) A (setNext a slot i ep) Q E s := by
  unfold setNext
  refine wpAny_bind (wpAny_setState_of ho D.data D.fits ?_)
  dsimp only
  refine wpAny_bind (setsByTextX ?_)
  rw [hb]
  simp only [bne_self_eq_false, Bool.false_eq_true, ↓reduceIte]
  unfold setWalk
  refine wpAny_bind (wpAny_bind (wpAny_setState_of ho D.data D.fits ?_))
  dsimp only
  refine wpAny_bind (setsByTextX ?_)
  rw [hb]
  simp only [↓reduceIte]
  refine wpAny_bind (wpAny_askSetting (wpAny_pure ?_))
  exact wpAny_pure h
theorem walksT (hh : A.handled = none) (hne : a ≠ I) (hb : byText w = false) (hp : (!t.plain && decide (es.size > 1)) = false) (D : SetD w o es ep t ks) :
    Walks prog w A I [I, a] [I] es.size (fun i v => (es.toList.map (·.2))[i]? = some v) (fun i h => i ≤ es.size ∧ IsSI h I (rawInt (slotAt t i)) i a es.size ep ∧ h.get? a = some o) where
  sub := fun b hb => by simp at hb; simp [hb]
  frame := fun _ _ _ x hk => ⟨x.1, x.2.1.at fun o e => hk I (by simp) o e, hk a (by simp) _ x.2.2⟩
  item := fun i s Q E hi x hQ => by
    have e1 : es[i]? = some es[i] := Array.getElem?_eq_getElem hi
    have hx : (es.toList.map (·.2))[i]? = some es[i].2 := by rw [List.getElem?_map, Array.getElem?_toList, e1]; rfl
    refine si_item (x := es[i].2) (next := slotAt t (i + 1)) hne x.2.1 x.2.2 D (fun A Q' E' q => setNextT hb hp x.2.2 D (by omega) (by rw [e1]; exact q)) fun h' hit' hs' => ?_
    exact hQ _ h' s.toks hx ⟨hi, hit', (hs'.2 a hne).trans x.2.2⟩ fun b o hb eo => hs'.extBut b o (fun h => hb (by simp [h])) eo
  done := fun s Q E x hQ => by
    have e1 : es[es.size]? = none := Array.getElem?_eq_none (Nat.le_refl _)
    refine si_end hh x.2.1 x.2.2 D (fun A Q' E' q => setNextT hb hp x.2.2 D (Nat.le_refl _) (by rw [e1]; exact q)) fun h' he' => hQ h' s.toks fun b o hb eo => he' b o (fun h => hb (by simp [h])) eo
  self := fun _ _ _ _ x hQ => si_self x.2.1 hQ
theorem walksB (hh : A.handled = none) (hne : a ≠ I) (hb : byText w = true) (D : SetD w o es ep t ks) :
    Walks prog w A I [I, a] [I] es.size (fun i v => ((pickOrder (w.params.setOrder a ep) es).toList.map (·.2))[i]? = some v) (fun i h => IsSI h I (rawInt ((0 : Nat) : Int)) i a es.size ep ∧ h.get? a = some o) where
  sub := fun b hb => by simp at hb; simp [hb]
  frame := fun _ _ _ x hk => ⟨x.1.at fun o e => hk I (by simp) o e, hk a (by simp) _ x.2⟩
  item := fun i s Q E hi x hQ => by
    have sz : (pickOrder (w.params.setOrder a ep) es).size = es.size := by
      have := (pick_perm (w.params.setOrder a ep) es).length_eq
      simpa using this
    have e1 : (pickOrder (w.params.setOrder a ep) es)[i]? = some (pickOrder (w.params.setOrder a ep) es)[i] := Array.getElem?_eq_getElem (by omega)
    have hx : ((pickOrder (w.params.setOrder a ep) es).toList.map (·.2))[i]? = some (pickOrder (w.params.setOrder a ep) es)[i].2 := by rw [List.getElem?_map, Array.getElem?_toList, e1]; rfl
    refine si_item (x := (pickOrder (w.params.setOrder a ep) es)[i].2) (next := 0) hne x.1 x.2 D (fun A Q' E' q => setNextB hb x.2 D (by rw [e1]; exact q)) fun h' hit' hs' => ?_
    exact hQ _ h' s.toks hx ⟨hit', (hs'.2 a hne).trans x.2⟩ fun b o hb eo => hs'.extBut b o (fun h => hb (by simp [h])) eo
  done := fun s Q E x hQ => by
    have sz : (pickOrder (w.params.setOrder a ep) es).size = es.size := by
      have := (pick_perm (w.params.setOrder a ep) es).length_eq
      simpa using this
    have e1 : (pickOrder (w.params.setOrder a ep) es)[es.size]? = none := Array.getElem?_eq_none (by omega)
    refine si_end hh x.1 x.2 D (fun A Q' E' q => setNextB hb x.2 D (by rw [e1]; exact q)) fun h' he' => hQ h' s.toks fun b o hb eo => he' b o (fun h => hb (by simp [h])) eo
  self := fun _ _ _ _ x hQ => si_self x.1 hQ
theorem walksD {T : Addr} {ps : List Nat} (hh : A.handled = none) (hne : a ≠ I) (hnT : T ≠ I) (hps : ps.Perm (List.range es.size)) (D : SetD w o es ep t ks) :
    Walks prog w A I [I, a, T] [I] es.size (fun i v => (ps.map fun p => (es.getD p (0, .none)).2)[i]? = some v) (fun i h => IsSI h I (.ref T) i a es.size ep ∧ h.get? a = some o ∧ IsSeqT h T (ps.map fun (p : Nat) => rawInt p).toArray) where
  sub := fun b hb => by simp at hb; simp [hb]
  frame := fun _ _ _ x hk => ⟨x.1.at fun o e => hk I (by simp) o e, hk a (by simp) _ x.2.1, by
    obtain ⟨oT, n, e, d⟩ := x.2.2
    exact ⟨oT, n, hk T (by simp) _ e, d⟩⟩
  item := fun i s Q E hi x hQ => by
    have hl : ps.length = es.size := by rw [hps.length_eq, List.length_range]
    have e0 : ps[i]? = some (ps[i]'(by omega)) := List.getElem?_eq_getElem (by omega)
    have hlt : ps[i]'(by omega) < es.size := List.mem_range.mp (hps.mem_iff.mp (List.getElem_mem _))
    generalize ps[i]'(by omega) = p at e0 hlt
    have e1 : es[p]? = some (es.getD p (0, .none)) := by
      rw [Array.getD_eq_getD_getElem?, Array.getElem?_eq_getElem hlt]
      rfl
    have hx : (ps.map fun p => (es.getD p (0, .none)).2)[i]? = some (es.getD p (0, .none)).2 := by rw [List.getElem?_map, e0]; rfl
    refine si_itemD hne x.1 x.2.1 D x.2.2 e0 e1 fun h' hit' hs' => ?_
    refine hQ _ h' s.toks hx ⟨hit', (hs'.2 a hne).trans x.2.1, ?_⟩ fun b o hb eo => hs'.extBut b o (fun h => hb (by simp [h])) eo
    obtain ⟨oT, n, e, d⟩ := x.2.2
    exact ⟨oT, n, (hs'.2 T hnT).trans e, d⟩
  done := fun s Q E x hQ => by
    have hl : ps.length = es.size := by rw [hps.length_eq, List.length_range]
    exact si_endD hh x.1 x.2.1 D x.2.2 (List.getElem?_eq_none (by omega)) fun h' he' => hQ h' s.toks fun b o hb eo => he' b o (fun h => hb (by simp [h])) eo
  self := fun _ _ _ _ x hQ => si_self x.1 hQ
theorem drawX {α : Type} : ∀ (n : Nat) (xs : List α) (s : Shared) {Q : List α → Shared → Prop}, n = xs.length → (∀ ys d', ys.Perm xs → Q ys { s with drawn := d' }) → wpAny (model prog w) A (drawOrder n xs) Q E s
  | 0, xs, s, Q, hn, h => by
    have : xs = [] := List.length_eq_zero_iff.mp hn.symm
    subst this
    unfold drawOrder
    exact wpAny_pure (h [] s.drawn (.refl _))
  | n + 1, [], s, Q, hn, h => by simp at hn
  | n + 1, x :: xs, s, Q, hn, h => by
    unfold drawOrder
    refine wpAny_bind (fun Γ p hΓ => ?_)
    show Sem.wp _ _ (.choose .order (x :: xs).length .pure) _ _ _ _
    rw [Sem.wp_choose]
    refine ⟨by simp, ?_⟩
    generalize hi : (model prog w).w.draws .order (s.drawn.get .order) % (x :: xs).length = i
    have hlt : i < (x :: xs).length := by rw [← hi]; exact Nat.mod_lt _ (by simp)
    generalize s.drawn.bump .order = d
    have e : (x :: xs)[i]? = some (x :: xs)[i] := List.getElem?_eq_getElem hlt
    generalize (x :: xs)[i] = y at e
    have go : wpAny (model prog w) A (match (x :: xs)[i]? with | some x_1 => do return x_1 :: (← drawOrder n ((x :: xs).eraseIdx i)) | none => unsupported "internal:drawOrder") Q E { s with drawn := d } := by
      rw [e]
      refine wpAny_bind (drawX n _ _ (by rw [List.length_eraseIdx, if_pos hlt]; simp at hn ⊢; omega) fun ys d' p => wpAny_pure (h _ d' ?_))
      exact ((p.cons y).trans (eraseIdx_perm e).symm)
    first | exact go | (rw [Sem.wp]; exact go)
theorem two_or {x a b : Addr} {h : Heap} (hb : b ∈ [x, a]) (h1 : h.get? x = none) : b = a ∨ h.get? b = none := by
  rcases List.mem_cons.mp hb with z | z
  · rw [z]
    exact .inr h1
  · exact .inl (by simpa using z)
theorem iterX {Q : Value → Shared → Prop} (hS : SetX w s.heap a ks)
    (h : ∀ (I : Addr) (fp : List Addr) (n : Nat) (vs : List Value) (St : Nat → Heap → Prop) (h' : Heap) (d' : Drawn), (∀ A : Around, A.handled = none → Walks prog w A I fp [I] n (fun i v => vs[i]? = some v) St) → (∀ (i : Nat) (s : Shared), St i s.heap → s.TypeIs (.ref I) "set_iterator") → St 0 h' →
      (∀ b ∈ fp, b = a ∨ s.heap.get? b = none) → I ∈ fp → n = vs.length → (∃ ns, PyProof.Rows.IntsAre vs ns ∧ ns.Perm ks) → s.heap.get? I = none → (∀ b o, s.heap.get? b = some o → h'.get? b = some o) → Q (.ref I) { s with heap := h', drawn := d' }) :
    wpAny (model prog w) A (pyIter (.ref a)) Q E s := by
  obtain ⟨o, es, ep, t, ho, D⟩ := id hS
  have hlt : a < s.heap.objs.size := Heap.lt_size ho
  have intsE : ∀ l : List (Int × Value), l.Perm es.toList → ∃ ns, PyProof.Rows.IntsAre (l.map (·.2)) ns ∧ ns.Perm ks := fun l p => by
    refine ⟨l.map kOf, ?_, (p.map kOf).trans D.perm⟩
    have hi := D.intsE.perm p
    clear p
    induction l with
    | nil => exact .nil
    | cons e l ih =>
      obtain ⟨k, tk, rfl⟩ := hi e List.mem_cons_self
      exact .cons k tk (ih fun x hx => hi x (List.mem_cons_of_mem _ hx))
  refine wpAny_pyIter_slot hS.typeIs F.slot_set_iter (wpAny_call_entry F.slot_set_iter hS.typeIs entry_set_iter' ?_ (F.args_set_iter_1 _))
  unfold Builtin.«frozenset.__iter__» Builtin.Frozenset.slot0
  refine wpAny_bind (wpAny_bind (wpAny_of_eq (a := (Value.ref a, [])) rfl (wpAny_pure ?_)))
  unfold Builtin.Frozenset.sizeOf
  refine wpAny_bind (wpAny_bind (wpAny_setEntries_of ho D.data D.fits (wpAny_pure ?_)))
  unfold setDrawn
  refine wpAny_bind (wpAny_bind (wpAny_setState_of ho D.data D.fits ?_))
  dsimp only
  refine wpAny_bind (setsByTextX (wpAny_pure ?_))
  show wpAny _ _ (if (!byText w && (!t.plain && decide (es.size > 1))) = true then _ else _) _ _ _
  have fin : ∀ (s1 : Shared) (first : Value), s1.heap.get? a = some o → s1.os = s.os → wpAny (model prog w) A.in1 (do ret (← newFields "set_iterator" [first, rawInt 0, .ref a, rawInt es.size, rawInt (← setEpoch a)])) (fun fin s' => ∃ r, fin = .done (.ret r) ∧ ∃ T' r', s'.TypeIs r T' ∧ typeLookup (.type T') "__next__" = pure (some r') ∧ r = .ref s1.heap.objs.size ∧ s' = { s1 with heap := s1.heap.push { cls := .type "set_iterator", data := .fields #[first, rawInt 0, .ref a, rawInt es.size, rawInt ep] } }) E s1 := by
    intro s1 first e1 eo
    refine wpAny_bind (setEpochX e1 D ?_)
    refine wpAny_bind (wpAny_newObj_type (wpAny_pure ⟨_, rfl, "set_iterator", _, ⟨_, Heap.get?_push_size _ rfl, rfl⟩, si_next.lookup, rfl, rfl⟩))
  have none_at : ∀ h1 : Heap, s.heap.objs.size ≤ h1.objs.size → s.heap.get? h1.objs.size = none := fun h1 le => by
    cases e : s.heap.get? h1.objs.size with
    | none => rfl
    | some o' => exact absurd (Heap.lt_size e) (Nat.not_lt.mpr le)
  cases hb : byText w with
  | true =>
    simp only [Bool.not_true, Bool.false_and, Bool.false_eq_true, ↓reduceIte]
    refine wpAny_bind (wpAny_pure (wpAny_mono (fin s (rawInt 0) ho rfl) (fun v s' q => ?_) fun _ _ e => e))
    obtain ⟨r, e1, T', r', e2, e3, e4, e5⟩ := q
    subst e1 e4 e5
    refine ⟨_, rfl, T', r', e2, e3, ?_⟩
    exact h _ [s.heap.objs.size, a] es.size ((pickOrder (w.params.setOrder a ep) es).toList.map (·.2)) (fun i h => IsSI h s.heap.objs.size (rawInt ((0 : Nat) : Int)) i a es.size ep ∧ h.get? a = some o) _ s.drawn
      (fun A hA => walksB hA (Nat.ne_of_lt hlt) hb D) (fun i s x => x.1.typeIs) ⟨⟨_, Heap.get?_push_size _ rfl, rfl, rfl⟩, Heap.get?_push_of_some _ ho⟩
      (fun b hb => two_or hb (none_at _ (Nat.le_refl _))) (by simp)
      (by rw [List.length_map, (pick_perm _ _).length_eq, Array.length_toList]) (intsE _ (pick_perm _ _)) (none_at _ (Nat.le_refl _)) (fun b o e => Heap.get?_push_of_some _ e)
  | false =>
    simp only [Bool.not_false, Bool.true_and]
    cases hp : (!t.plain && decide (es.size > 1)) with
    | false =>
      simp only [Bool.false_eq_true, ↓reduceIte]
      refine wpAny_bind (wpAny_pure (wpAny_mono (fin s (rawInt 0) ho rfl) (fun v s' q => ?_) fun _ _ e => e))
      obtain ⟨r, e1, T', r', e2, e3, e4, e5⟩ := q
      subst e1 e4 e5
      refine ⟨_, rfl, T', r', e2, e3, ?_⟩
      exact h _ [s.heap.objs.size, a] es.size (es.toList.map (·.2)) (fun i h => i ≤ es.size ∧ IsSI h s.heap.objs.size (rawInt (slotAt t i)) i a es.size ep ∧ h.get? a = some o) _ s.drawn
        (fun A hA => walksT hA (Nat.ne_of_lt hlt) hb hp D) (fun i s x => x.2.1.typeIs) ⟨Nat.zero_le _, ⟨_, Heap.get?_push_size _ rfl, rfl, rfl⟩, Heap.get?_push_of_some _ ho⟩
        (fun b hb => two_or hb (none_at _ (Nat.le_refl _))) (by simp)
        (by simp) (intsE _ (.refl _)) (none_at _ (Nat.le_refl _)) (fun b o e => Heap.get?_push_of_some _ e)
    | true =>
      simp only [↓reduceIte]
      refine wpAny_bind (drawX es.size (List.range es.size) s (by simp) fun ps d' hps => ?_)
      unfold newTuple
      have hl : ps.length = es.size := by rw [hps.length_eq, List.length_range]
      refine wpAny_bind (wpAny_newObj_type ?_ (by
        have := D.bound
        have := fits_of_scanBound this
        show (Array.mk _).size ≤ _
        simp
        omega))
      have hTs : (s.heap.push { cls := .type "tuple", data := .seq (ps.map fun (p : Nat) => rawInt p).toArray }).get? s.heap.objs.size = some { cls := .type "tuple", data := .seq (ps.map fun (p : Nat) => rawInt p).toArray } := Heap.get?_push_size _ rfl
      refine wpAny_mono (fin { s with heap := s.heap.push { cls := .type "tuple", data := .seq (ps.map fun (p : Nat) => rawInt p).toArray }, drawn := d' } (.ref s.heap.objs.size) (Heap.get?_push_of_some _ ho) rfl) (fun v s' q => ?_) fun _ _ e => e
      obtain ⟨r, e1, T', r', e2, e3, e4, e5⟩ := q
      subst e1 e4 e5
      refine ⟨_, rfl, T', r', e2, e3, ?_⟩
      have sz1 : (s.heap.push { cls := .type "tuple", data := .seq (ps.map fun (p : Nat) => rawInt p).toArray }).objs.size = s.heap.objs.size + 1 := by rw [Heap.size_push]
      refine h _ [_, a, s.heap.objs.size] es.size (ps.map fun p => (es.getD p (0, .none)).2) (fun i h => IsSI h _ (.ref s.heap.objs.size) i a es.size ep ∧ h.get? a = some o ∧ IsSeqT h s.heap.objs.size (ps.map fun (p : Nat) => rawInt p).toArray) _ d'
        (fun A hA => walksD hA (by rw [sz1]; exact Nat.ne_of_lt (Nat.lt_succ_of_lt hlt)) (by rw [sz1]; exact Nat.ne_of_lt (Nat.lt_succ_self _)) hps D) (fun i s x => x.1.typeIs) ⟨⟨_, Heap.get?_push_size _ rfl, rfl, rfl⟩, Heap.get?_push_of_some _ (Heap.get?_push_of_some _ ho), ⟨_, _, Heap.get?_push_of_some _ hTs, rfl⟩⟩
        (fun b hb => ?_) (by simp) (by simp [hl]) ?_ (none_at _ (by rw [sz1]; exact Nat.le_succ _)) (fun b o e => Heap.get?_push_of_some _ (Heap.get?_push_of_some _ e))
      · rcases List.mem_cons.mp hb with z | z
        · rw [z]
          exact .inr (none_at _ (by show _ ≤ (s.heap.push _).objs.size; rw [sz1]; exact Nat.le_succ _))
        · rcases List.mem_cons.mp z with z | z
          · exact .inl z
          · have : b = s.heap.objs.size := by simpa using z
            rw [this]
            exact .inr (none_at s.heap (Nat.le_refl _))
      · have := intsE (ps.map fun p => es.getD p (0, .none)) (by
          refine (hps.map _).trans ?_
          have : (List.range es.size).map (fun p => es.getD p (0, .none)) = es.toList := by
            apply List.ext_getElem?
            intro i
            by_cases hi : i < es.size
            · rw [List.getElem?_map, List.getElem?_range hi, Option.map_some, Array.getElem?_toList, Array.getD_eq_getD_getElem?, Array.getElem?_eq_getElem hi]
              rfl
            · rw [List.getElem?_eq_none (by simp; omega), List.getElem?_eq_none (by simp; omega)]
          rw [this])
        rw [List.map_map] at this
        exact this
end
end L2

/-! LAMP Sb: sorted(s), s ^ t, s & t, set(xs) -/
namespace L2
open PySem
theorem nolen_set : typeLookup (.type "set") "__len__" = pure (some (.builtin "set.__len__")) := F.slot_set_len.lookup
section
variable {prog : Program} {w : World} {A : Around} {E : Value → Shared → Prop} {s : Shared} {a : Addr} {ks : List Int}
theorem hintX {Q : Bool → Shared → Prop} (hS : SetX w s.heap a ks) (h : Q false s) : wpAny (model prog w) A (Builtin.List.listLengthHint (.ref a)) Q E s := by
  unfold Builtin.List.listLengthHint
  refine wpAny_bind (wpAny_specialOf hS.typeIs nolen_set ?_)
  have hs : splitId "set.__len__" = some ("set", "__len__") := by decide +kernel
  dsimp only
  rw [hs]
  dsimp only
  refine wpAny_bind (wpAny_isInstance (T := "set") (b := true) hS.typeIs sub_set_set ?_)
  refine wpAny_ite_split (fun z => absurd z (by decide)) (fun _ => ?_)
  refine wpAny_ite_split (fun _ => ?_) (fun z => absurd (by decide +kernel) z)
  refine wpAny_bind (wpAny_typeOf hS.typeIs ?_)
  exact wpAny_pure h
theorem collectX {Q : List Value → Shared → Prop} (hh : A.handled = none) (hS : SetX w s.heap a ks)
    (h : ∀ (vs : List Value) (ns : List Int) (h' : Heap) (tk : Nat) (d' : Drawn), PyProof.Rows.IntsAre vs ns → ns.Perm ks → (∀ b o, s.heap.get? b = some o → h'.get? b = some o) → s.heap.objs.size < h'.objs.size → Q vs { s with heap := h', toks := tk, drawn := d' }) :
    wpAny (model prog w) A (collect (.ref a)) Q E s := by
  unfold collect
  refine wpAny_bind (wpAny_runValue (codeAny_builtin PyProof.Rows.entry_proto_collect' ?_))
  rw [Around.under_plainId F.plain_proto_collect _]
  show wpAny _ A.in1 (newList [] >>= fun l => again (.builtin "list.__iadd__" ⟨[l, .ref a], []⟩)) _ _ s
  refine wpAny_bind (wpAny_newObj_type ?_)
  refine wpAny_pure ⟨plainId_quiet F.plain_list_iadd _, codeAny_builtin F.entry_list_iadd ?_⟩
  rw [Around.under_plainId F.plain_list_iadd _]
  have hlt : a < s.heap.objs.size := hS.lt
  have hS1 : (s.heap.push { cls := .type "list", data := .seq ([] : List Value).toArray }).get? s.heap.objs.size = some { cls := .type "list", data := .seq ([] : List Value).toArray } := Heap.get?_push_size _ rfl
  generalize hH : s.heap.push { cls := .type "list", data := .seq ([] : List Value).toArray } = H1 at hS1
  have hX1 : SetX w H1 a ks := hS.at fun o e => by rw [← hH]; exact Heap.get?_push_of_some _ e
  have k1 : ∀ b o, s.heap.get? b = some o → H1.get? b = some o := fun b o e => by rw [← hH]; exact Heap.get?_push_of_some _ e
  have h1 : Builtin.List.listSameRef (.ref s.heap.objs.size) (.ref a) = false := by
    have : s.heap.objs.size ≠ a := Nat.ne_of_gt hlt
    simp [Builtin.List.listSameRef, this]
  show wpAny _ A.in1 (Builtin.List.listExtendWith (.ref s.heap.objs.size) (.ref a) (.ref s.heap.objs.size)) _ _ { s with heap := H1 }
  unfold Builtin.List.listExtendWith
  refine wpAny_bind (wpAny_typeOf (s := { s with heap := H1 }) hX1.typeIs ?_)
  rw [if_neg (by rw [h1]; decide)]
  refine wpAny_bind (iterX (s := { s with heap := H1 }) hX1 fun I fp n vs St h2 d2 W hT st0 hfp hI hn hvs nI k2 => ?_)
  have hX2 : SetX w h2 a ks := hX1.at fun o e => k2 a o e
  refine wpAny_bind (wpAny_holding (hintX (s := { s with heap := h2, drawn := d2 }) hX2 ?_))
  refine wpAny_ite_split (fun _ => ?_) (fun z => absurd (by decide +kernel) z)
  refine wpAny_bind (wpAny_rule ?_)
  have hS2 := k2 _ _ hS1
  have hSI : s.heap.objs.size ≠ I := fun z => by
    rw [← z] at nI
    rw [hS1] at nI
    cases nI
  have hSf : s.heap.objs.size ∉ fp := fun z => by
    rcases hfp _ z with y | y
    · exact absurd y (Nat.ne_of_gt hlt)
    · rw [show ({ s with heap := H1 } : Shared).heap.get? s.heap.objs.size = some _ from hS1] at y
      cases y
  unfold Builtin.List.listTouch
  refine wpAny_bind (wpAny_bind (wpAny_updateSeq (s := { s with heap := h2, drawn := d2 }) hS2 rfl ?_))
  have hS3 := Heap.get?_update_self (Obj.mapSeq (fun xs : Array Value => xs.push .none)) hS2 rfl
  refine wpAny_updateSeq (s := { s with heap := h2.update s.heap.objs.size (Obj.mapSeq (fun xs : Array Value => xs.push .none)), drawn := d2 }) hS3 rfl ?_
  have hS4 := Heap.get?_update_self (Obj.mapSeq (fun xs : Array Value => xs.pop)) hS3 rfl
  have k4 : ∀ b o, b ≠ s.heap.objs.size → h2.get? b = some o → ((h2.update s.heap.objs.size (Obj.mapSeq (fun xs : Array Value => xs.push .none))).update s.heap.objs.size (Obj.mapSeq (fun xs : Array Value => xs.pop))).get? b = some o := fun b o hb e => by
    rw [Heap.get?_update_other _ _ (Ne.symm hb), Heap.get?_update_other _ _ (Ne.symm hb)]
    exact e
  generalize hH4 : (h2.update s.heap.objs.size (Obj.mapSeq (fun xs : Array Value => xs.push .none))).update s.heap.objs.size (Obj.mapSeq (fun xs : Array Value => xs.pop)) = H4 at hS4 k4
  have st4 : St 0 H4 := (W A.in1 hh).frame 0 h2 H4 st0 fun b hb o e => k4 b o (fun z => hSf (z ▸ hb)) e
  obtain ⟨ns, hI1, hI2⟩ := hvs
  have hns : n ≤ sizeLine := by
    have := hS.small
    rw [hn, PyProof.Rows.IntsAre.length hI1, hI2.length_eq, sizeLine_eq]
    omega
  refine wpAny_pure ⟨plainId_quiet F.plain_extend_loop _, codeAny_extend_loopS (W A.in1 hh).toS hns _ hSf _ n 0 { s with heap := H4, drawn := d2 } _ _ rfl (Nat.zero_le _) st4 hS4 (ItemsOf.nil _) fun s' acc' c' hm hS' hacc => ?_⟩
  show wpAny _ A (load s.heap.objs.size >>= _) _ _ s'
  refine wpAny_bind (wpAny_load hS' ?_)
  have ea : acc'.toList = vs := by
    obtain ⟨z1, z2⟩ := hacc
    apply List.ext_getElem?
    intro i
    by_cases hi : i < n
    · obtain ⟨v, e⟩ : ∃ v, acc'.toList[i]? = some v := ⟨acc'.toList[i]'(by simp; omega), List.getElem?_eq_getElem _⟩
      rw [e]
      exact (z2 i _ (by rw [← Array.getElem?_toList]; exact e)).symm
    · rw [List.getElem?_eq_none (by simp; omega), List.getElem?_eq_none (by omega)]
  have es' : s' = { s with heap := s'.heap, toks := s'.toks, drawn := d2 } := by
    obtain ⟨q1, q2, q3, q4, q5⟩ := hm
    cases s'
    simp only at q2 q3 q4
    subst q2 q3 q4
    rfl
  show wpAny _ _ (pure acc'.toList) _ _ _
  rw [ea]
  refine wpAny_pure ?_
  rw [es']
  refine h vs ns s'.heap s'.toks d2 hI1 hI2 (fun b o e => hm.heap b o (fun z => ?_) (k4 b o (Nat.ne_of_lt (Heap.lt_size e)) (k2 b o (k1 b o e)))) (Heap.lt_size hS')
  rcases List.mem_cons.mp z with z | z
  · exact absurd (Heap.lt_size e) (by rw [z]; exact Nat.lt_irrefl _)
  · have : b = I := by simpa using z
    rw [this] at e
    have := k1 _ _ e
    rw [show ({ s with heap := H1 } : Shared).heap.get? I = H1.get? I from rfl, this] at nI
    cases nI
theorem sortedX {Q : Value → Shared → Prop} (hh : A.handled = none) (hS : SetX w s.heap a ks) (h64 : ks.length < 64)
    (h : ∀ (l : Addr) (out : List Value) (ns : List Int) (h' : Heap) (tk : Nat) (d' : Drawn) (c : Nat), PyProof.Rows.IntsAre out ns → ns.Perm ks → ns.Pairwise (· ≤ ·) → (∀ b o, s.heap.get? b = some o → h'.get? b = some o) → s.heap.objs.size ≤ l → h'.get? l = some (PyProof.Rows.seqObj "list" out.toArray c) → Q (.ref l) { s with heap := h', toks := tk, drawn := d' }) :
    wpAny (model prog w) A (call (.builtin "sorted") [.ref a]) Q E s := by
  refine Calls.call_function_entry PyProof.Rows.kind_sorted PyProof.Rows.plain_sorted PyProof.Rows.entry_sorted (PyProof.Rows.args_sorted1 _) ?_
  unfold Builtin.«sorted»
  refine wpAny_bind (m := checkCount "sorted" 1 1 _) (wpAny_pure ?_)
  refine wpAny_bind (collectX hh hS fun vs ns h1 tk d1 hI hp k1 sz1 => ?_)
  have hl : vs.length < 64 := by rw [PyProof.Rows.IntsAre.length hI, hp.length_eq]; exact h64
  refine wpAny_bind (wpAny_newList ?_ (by rw [sizeLine_eq]; omega))
  have hoL : (h1.push (PyProof.Rows.seqObj "list" vs.toArray 0)).get? h1.objs.size = some (PyProof.Rows.seqObj "list" vs.toArray 0) := Heap.get?_push_size _ rfl
  show wpAny _ _ _ _ _ { s with heap := h1.push (PyProof.Rows.seqObj "list" vs.toArray 0), toks := tk, drawn := d1 }
  refine wpAny_bind (wpAny_holding (wpAny_call_entry PyProof.Rows.slot_list_sort ⟨_, hoL, rfl⟩ PyProof.Rows.entry_list_sort (PyProof.Rows.list_sort_tree hoL hI hl fun out ns' a1 a2 a3 => ⟨_, rfl, ?_⟩) (PyProof.Rows.args_list_sort _)))
  refine wpAny_pure ⟨_, rfl, ?_⟩
  obtain ⟨c, hc⟩ := PyProof.Rows.sortedHeap_at (out := out) hoL
  refine h h1.objs.size out.toList ns' _ tk d1 c a1 (a2.trans hp) a3 (fun b o e => ?_) (Nat.le_of_lt sz1) (by simpa using hc)
  have e1 := k1 b o e
  have l1 := Heap.lt_size e1
  rw [PyProof.Rows.sortedHeap_old (Nat.ne_of_lt l1) (by rw [Heap.size_push]; exact Nat.lt_succ_of_lt l1)]
  exact Heap.get?_push_of_some _ e1
end
end L2

/-! LAMP Sc: s ^ t, s & t, set(xs) -/
namespace L2
open PySem PySem.Builtin.Frozenset
theorem ref_ni {a : Addr} : Value.ref a ≠ Value.notImplemented := fun z => by cases z
section
variable {prog : Program} {w : World} {A : Around} {E : Value → Shared → Prop} {s : Shared} {a b : Addr} {ks ls : List Int}
theorem bothSets {Q : Bool → Shared → Prop} (ha : SetX w s.heap a ks) (hb : SetX w s.heap b ls) (h : Q true s) : wpAny (model prog w) A (isAnySet (.ref a) <&&> isAnySet (.ref b)) Q E s :=
  wpAny_bind (isAnySetX ha (isAnySetX hb h))
theorem xorX {Q : Value → Shared → Prop} (ha : SetX w s.heap a ks) (hb : SetX w s.heap b ls) (hn : ks.length < 400) (hn2 : ls.length < 25) (hl : ∀ k ∈ ls, 0 ≤ k ∧ k < 32)
    (h : ∀ h' ms, (∀ c o, s.heap.get? c = some o → h'.get? c = some o) → SetX w h' s.heap.objs.size ms → (∀ x, x ∈ ms ↔ ¬ (x ∈ ks ↔ x ∈ ls)) → Q (.ref s.heap.objs.size) { s with heap := h' }) :
    wpAny (model prog w) A (binaryOp .BitXor (.ref a) (.ref b)) Q E s := by
  refine wpAny_binaryOp_same ha.typeIs hb.typeIs F.fills_set_xor F.slot_set_xor (wpAny_call_entry F.slot_set_xor ha.typeIs entry_set_xor' ?_ (F.args_set_xor_2 _ _))
  unfold Builtin.«frozenset.__xor__»
  refine (show wpAny _ _ (do
    if !(← (isAnySet (.ref a) <&&> isAnySet (.ref b))) then rule _; return ← ret .notImplemented
    let r ← (do
      let base ← baseOf a
      let result ← newFrom _ base (.ref b)
      let r ← addrOf result
      holding [result] (symmetricDifferenceUpdate _ r (.ref a))
      return result)
    ret r) _ _ s from ?_)
  refine wpAny_bind (bothSets ha hb ?_)
  simp only [Bool.not_true, Bool.false_eq_true, ↓reduceIte]
  refine wpAny_bind ?_
  refine wpAny_bind (baseOfX ha ?_)
  refine wpAny_bind (newFromX hb hn2 hl fun h1 k1 sz hS => ?_)
  refine wpAny_bind (wpAny_pure ?_)
  have hlt : a < s.heap.objs.size := ha.lt
  refine wpAny_bind (wpAny_holding (symdiffX (s := { s with heap := h1 }) hS (ha.at fun o e => k1 _ _ e) (Nat.ne_of_gt hlt) (by omega) fun h2 ms sb hS2 hm => ?_))
  refine wpAny_pure (wpAny_pure ⟨_, rfl, ref_ni, h h2 ms (fun c o e => ?_) hS2 fun x => ?_⟩)
  · rw [sb.2 c (Nat.ne_of_lt (Heap.lt_size e))]
    exact k1 c o e
  · rw [hm x]
    constructor
    · exact fun z y => z y.symm
    · exact fun z y => z y.symm
theorem andX {Q : Value → Shared → Prop} (ha : SetX w s.heap a ks) (hb : SetX w s.heap b ls) (hne : a ≠ b)
    (h : ∀ h' ms, (∀ c o, s.heap.get? c = some o → h'.get? c = some o) → SetX w h' s.heap.objs.size ms → (∀ x, x ∈ ms ↔ (x ∈ ks ∧ x ∈ ls)) → Q (.ref s.heap.objs.size) { s with heap := h' }) :
    wpAny (model prog w) A (binaryOp .BitAnd (.ref a) (.ref b)) Q E s := by
  refine wpAny_binaryOp_same ha.typeIs hb.typeIs F.fills_set_and F.slot_set_and (wpAny_call_entry F.slot_set_and ha.typeIs entry_set_and' ?_ (F.args_set_and_2 _ _))
  unfold Builtin.«frozenset.__and__»
  refine (show wpAny _ _ (do
    if !(← (isAnySet (.ref a) <&&> isAnySet (.ref b))) then rule _; return ← ret .notImplemented
    let r ← intersection _ a (.ref b)
    ret r) _ _ s from ?_)
  refine wpAny_bind (bothSets ha hb ?_)
  simp only [Bool.not_true, Bool.false_eq_true, ↓reduceIte]
  exact wpAny_bind (meetX ha hb hne fun h1 ms k1 hS hm => wpAny_pure ⟨_, rfl, ref_ni, h h1 ms k1 hS hm⟩)
theorem lenX {Q : Value → Shared → Prop} (ha : SetX w s.heap a ks) (h : ∀ t tk, Q (.int ks.length t) { s with toks := tk }) : wpAny (model prog w) A (call (.builtin "len") [.ref a]) Q E s := by
  obtain ⟨o, es, ep, t, ho, D⟩ := ha
  have := D.size
  refine call_len_set ho D.ex D.data D.fits (by have := D.small; omega) ?_
  rw [D.size]
  exact h _ _
open PyProof.Rows in
theorem updateLoopX {R : Result → Shared → Prop} {I : Addr} {fp wr : List Addr} {G : Array GenState → Array GenState → Prop} {n : Nat} {P : Nat → Value → Prop} {St : Nat → Shared → Prop} (W : WalksS prog w A.in1 I fp wr G n P St) (S : Addr) (hSf : S ∉ fp)
    (val : Nat → Int) (hval : ∀ i v, P i v → ∃ t, v = .int (val i) t) (hb : n + 1 < 1000) :
    ∀ (k i : Nat) (s : Shared), n - i = k → i ≤ n → St i s → SetX w s.heap S (firstMet val i) →
      (∀ s', Moved (S :: wr) G s s' → SetX w s'.heap S (firstMet val n) → R (.ok (.ret .none)) s') →
      codeAny (model prog w) A (.builtin "set.update.loop" ⟨[.ref S, .ref I], []⟩) R s := by
  have hSw : S ∉ wr := fun h => hSf (W.sub _ h)
  have hsub : ∀ b ∈ wr, b ∈ S :: wr := fun b hb => List.mem_cons_of_mem _ hb
  intro k
  induction k with
  | zero =>
    intro i s hk hi hst hS hR
    have hin : i = n := by omega
    subst hin
    refine codeAny_builtin F.entry_set_update_loop ?_
    rw [Around.under_plainId F.plain_set_update_loop _]
    show wpAny _ A.in1 (pyNext (.ref I) >>= _) _ _ s
    refine wpAny_bind (W.done s _ _ hst fun s' hm => ?_)
    show wpAny _ A.in1 (ret Value.none) _ _ s'
    exact wpAny_pure (hR s' (hm.mono hsub) (hS.at fun o e => hm.heap S _ hSw e))
  | succ k ih =>
    intro i s hk hi hst hS hR
    have hlt : i < n := by omega
    refine codeAny_builtin F.entry_set_update_loop ?_
    rw [Around.under_plainId F.plain_set_update_loop _]
    show wpAny _ A.in1 (pyNext (.ref I) >>= _) _ _ s
    refine wpAny_bind (W.item i s _ _ hlt hst fun v s' hP hst' hm => ?_)
    obtain ⟨t, rfl⟩ := hval i v hP
    have hS' : SetX w s'.heap S (firstMet val i) := hS.at fun o e => hm.heap S _ hSw e
    show wpAny _ A.in1 (holding [Value.int (val i) t] (setAdd S (.int (val i) t)) >>= _) _ _ s'
    refine wpAny_bind (wpAny_holding ?_)
    unfold setAdd
    refine wpAny_holding ?_
    refine wpAny_bind ((intKind prog w).pyHash (k := val i) (intKind_is _ _ _ _) ?_)
    have hroom : (firstMet val i).length + 1 < 1000 := by have := firstMet_length_le val i; omega
    refine setAddX (s := { s' with toks := s'.toks + 1 }) hS' hroom fun h' hsb hS2 => ?_
    have hSi : SetX w h' S (firstMet val (i + 1)) := by
      have e : (if val i ∈ firstMet val i then firstMet val i else firstMet val i ++ [val i]) = firstMet val (i + 1) := by
        rw [firstMet_succ]
        unfold step_dedup
        have : ((firstMet val i).any (· == val i)) = decide (val i ∈ firstMet val i) := by
          rw [Bool.eq_iff_iff]
          simp
        first
        | (rw [this]; simp; done)
        | (simp [this]; done)
        | (by_cases m : val i ∈ firstMet val i <;> simp [m])
      rw [← e]
      exact hS2
    refine wpAny_pure ⟨plainId_quiet F.plain_set_update_loop _, ih (i + 1) _ (by omega) hlt (W.frame _ s' _ _ hst' (Nat.le_succ _) fun b hb o e => ?_) hSi fun s'' hm'' hS'' => ?_⟩
    · rw [hsb.2 b (fun h : b = S => hSf (by rw [← h]; exact hb))]; exact e
    · refine hR s'' (Moved.trans W.gtrans ((hm.mono hsub).then_heap (Nat.le_succ _) fun b o hb e => ?_) hm'') hS''
      rw [hsb.2 b (fun h : b = S => hb (by rw [h]; exact List.mem_cons_self))]; exact e
end
end L2

/-! LAMP Sd: set(xs) -/
namespace L2
open PySem PySem.Builtin.Frozenset
theorem newClass_set (a : Value) : newClass "set" ⟨[.type "set", a], []⟩ = pure (.type "set", [a]) := by
  unfold newClass
  simp only [isType, sub_set_set, pure_bind, Bool.not_true, Bool.false_eq_true, if_false]
section
variable {prog : Program} {w : World} {A : Around} {E : Value → Shared → Prop} {s : Shared}
theorem fresh_setX {led : Bool} (hl : led = true ∨ byText w = true) {h : Heap} {a : Addr} (e : h.get? a = some { cls := .type "set", dict := none, data := .set #[] 0 (.fresh 0 0 led) }) : SetX w h a [] :=
  ⟨_, #[], 0, _, e, ⟨rfl, rfl, rfl⟩, rfl, fun e he => by simp at he, .refl _, List.nodup_nil, by decide, rfl, Rise.nil, hl⟩
theorem code_set_newX (a : Value) {Q₁ : Value → Shared → Prop}
    (h : ∀ led : Bool, (led = true ∨ byText w = true) → Q₁ (.ref s.heap.objs.size) { s with heap := s.heap.push { cls := .type "set", dict := none, data := .set #[] 0 (.fresh 0 0 led) } }) :
    codeAny (model prog w) A (.call (.builtin "set.__new__") ⟨[.type "set", a], []⟩) (wants Q₁ E) s := by
  refine codeAny_of_tree ?_
  show wpAny _ A.in1 (do checkBuiltinCall "set.__new__" ⟨[.type "set", a], []⟩; again (.builtin "set.__new__" ⟨[.type "set", a], []⟩)) _ _ s
  refine wpAny_bind (wpAny_of_eq (F.newCall_set_1 a) (wpAny_pure ⟨plainId_quiet F.plain_set_new _, codeAny_builtin F.entry_set_new ?_⟩))
  rw [Around.under_plainId F.plain_set_new _]
  unfold Builtin.«set.__new__»
  refine wpAny_bind (wpAny_of_eq (newClass_set a) ?_)
  unfold newSet setsByText
  refine wpAny_bind (wpAny_bind (wpAny_bind (wpAny_askSetting (wpAny_pure ?_))))
  dsimp only
  simp only [newObj]
  refine wpAny_bind (wpAny_alloc (wpAny_pure (wpAny_pure (h _ ?_))))
  show (!w.params.followText "set-order") = true ∨ w.params.followText "set-order" = true
  cases w.params.followText "set-order" <;> simp
theorem call_setX {l : Addr} {items : Array Value} {ns : List Int} {Q : Value → Shared → Prop}
    (hh : A.handled = none) (hl : s.heap.IsList l items) (hi : PyProof.Rows.IntsAre items.toList ns) (hb : items.size + 1 < 1000)
    (h : ∀ (h' : Heap) (tk : Nat), SetX w h' s.heap.objs.size (PyProof.Rows.firstMet (fun i => ns.getD i 0) items.size) →
      (∀ b o, b < s.heap.objs.size → s.heap.get? b = some o → h'.get? b = some o) → Q (.ref s.heap.objs.size) { s with heap := h', toks := tk }) :
    wpAny (model prog w) A (call (.type "set") [.ref l]) Q E s := by
  obtain ⟨c, tl, hmro⟩ := F.called_set.mro
  have hmade := F.called_set.made
  have hsub := F.called_set.sub
  refine wpAny_call (codeAny_of_tree ?_)
  show wpAny _ _ (callAny (.type "set") _) _ _ _
  refine wpAny_pure ⟨Code.quiet_builtin _ (by decide +kernel), codeAny_builtin F.entry_type_call ?_⟩
  rw [Around.under_plain (weight_type_call_type "set" [.ref l] []) rfl]
  have h1 := F.called_set.notType
  have h2 := F.called_set.canCreate
  have hct := F.typeCall_set_1 (.ref l)
  repeat (any_goals (first | assumption | wp_step))
  refine codeAny_mono (code_set_newX (.ref l) (E := E) (Q₁ := fun obj s₁ => ∃ led : Bool, (led = true ∨ byText w = true) ∧ obj = .ref s.heap.objs.size ∧ s₁ = { s with heap := s.heap.push { cls := .type "set", dict := none, data := .set #[] 0 (.fresh 0 0 led) } }) fun led hled => ⟨led, hled, rfl, rfl⟩) fun r s₁ hr => ?_
  cases r with
  | error e => exact hr
  | ok fl =>
    cases fl with
    | ret obj =>
      obtain ⟨led, hled, rfl, rfl⟩ := hr
      have hS : (s.heap.push { cls := .type "set", dict := none, data := .set #[] 0 (.fresh 0 0 led) }).get? s.heap.objs.size = some { cls := .type "set", dict := none, data := .set #[] 0 (.fresh 0 0 led) } := Heap.get?_push_size _ rfl
      have hT : Shared.TypeIs { s with heap := s.heap.push { cls := .type "set", dict := none, data := .set #[] 0 (.fresh 0 0 led) } } (.ref s.heap.objs.size) "set" := ⟨_, hS, rfl⟩
      have hli := F.called_set.init.lookup
      have hbi := F.called_set.init.bind (.ref s.heap.objs.size)
      repeat (any_goals (first | assumption | wp_step))
      refine codeAny_mono (codeAny_call_builtin (R := wants (fun r s₂ => r = .none ∧ ∃ h' tk, s₂ = { s with heap := h', toks := tk } ∧
          SetX w h' s.heap.objs.size (PyProof.Rows.firstMet (fun i => ns.getD i 0) items.size) ∧
          (∀ b o, b < s.heap.objs.size → s.heap.get? b = some o → h'.get? b = some o)) E) F.called_set.init.plain F.entry_set_init (check_set_init_1 hT ?_)) fun r₂ s₂ hr₂ => ?_
      · obtain ⟨ol, hol, hcl, nl, hdl⟩ := hl
        obtain ⟨ocls, odict, odata, oslots⟩ := ol
        simp only at hcl hdl
        subst hcl; subst hdl
        have hol' : (s.heap.push { cls := .type "set", dict := none, data := .set #[] 0 (.fresh 0 0 led) }).get? l = some { cls := .type "list", dict := odict, data := .seq items nl, slots := oslots } := Heap.get?_push_of_some _ hol
        have hsls := F.sub_list_set
        have hslf := F.sub_list_frozenset
        have hne : (Value.type "list" == Value.type "dict") = false := by decide
        have hl1 : (s.heap.push { cls := .type "set", dict := none, data := .set #[] 0 (.fresh 0 0 led) }).IsList l items := ⟨_, hol', rfl, nl, rfl⟩
        unfold Builtin.«set.__init__» noKeywords Builtin.Frozenset.updateFrom
        generalize hPI : pyIter = PI
        wp_walk
        subst hPI
        refine wpAny_pyIter_list hl1 ?_
        refine wpAny_bind (wpAny_runValue ?_)
        have hlS : l < s.heap.objs.size := Heap.lt_size hol
        have hh3 : A.in1.in1.in1.handled = none := by simp [hh]
        have hneI : l ≠ (s.heap.push { cls := .type "set", dict := none, data := .set #[] 0 (.fresh 0 0 led) }).objs.size := by
          rw [Heap.size_push]; exact Nat.ne_of_lt (Nat.lt_succ_of_lt hlS)
        have hSf : s.heap.objs.size ∉ [(s.heap.push { cls := .type "set", dict := none, data := .set #[] 0 (.fresh 0 0 led) }).objs.size, l] := by
          rw [Heap.size_push]; simp only [List.mem_cons, List.mem_singleton, List.not_mem_nil, or_false, not_or]
          exact ⟨Nat.ne_of_lt (Nat.lt_succ_self _), Nat.ne_of_gt hlS⟩
        have hval : ∀ (i : Nat) (v : Value), items[i]? = some v → ∃ t, v = .int ((fun i => ns.getD i 0) i) t := fun i v hv =>
          PyProof.Rows.IntsAre.int_at hi i v (by rw [Array.getElem?_toList]; exact hv)
        refine updateLoopX ((Walks.list hh3 _ l hneI items).toS) s.heap.objs.size
          hSf (fun i => ns.getD i 0) hval hb (items.size - 0) 0 _ (by omega) (Nat.zero_le _)
          ⟨⟨_, Heap.get?_push_size _ rfl, rfl, rfl⟩, (hl1.push _)⟩ ?hS0 ?hR
        case hS0 => exact fresh_setX hled (Heap.get?_push_of_some _ hS)
        case hR =>
          intro s' hm hS'
          obtain ⟨h', g', d', tk', os'⟩ := s'
          have eg : g' = s.gens := hm.gens
          have ed : d' = s.drawn := hm.drawn
          have eo : os' = s.os := hm.os
          subst eg; subst ed; subst eo
          show wpAny _ _ _ _ _ _
          refine wpAny_pure ?_
          show wpAny _ _ (ret Value.none) _ _ _
          refine wpAny_pure ⟨rfl, h', tk', rfl, hS', fun b o hb e => ?_⟩
          have hb1 : b ≠ s.heap.objs.size := Nat.ne_of_lt hb
          have hb2 : b ≠ (s.heap.push { cls := .type "set", dict := none, data := .set #[] 0 (.fresh 0 0 led) }).objs.size := by
            rw [Heap.size_push]; exact Nat.ne_of_lt (Nat.lt_succ_of_lt hb)
          exact hm.heap b o (by simp only [List.mem_cons, List.mem_singleton, List.not_mem_nil, or_false, not_or]; exact ⟨hb1, hb2⟩) (Heap.get?_push_of_some _ (Heap.get?_push_of_some _ e))
      · cases r₂ with
        | error e => exact hr₂
        | ok fl₂ =>
          cases fl₂ with
          | ret r =>
            obtain ⟨rfl, h', tk, rfl, hS', hk'⟩ := hr₂
            repeat (any_goals (first | assumption | wp_step))
            exact h _ _ hS' hk'
          | _ => exact hr₂.elim
    | _ => exact hr.elim
end
end L2

/-! LAMP Se: sets of intsE in the reading: set(xs), ^, &, len, sorted -/
namespace L2
open PySem PySem.Spec PyProof.Rows
theorem bootB_set : bootBuiltins "set" = some (.type "set") := by decide +kernel
theorem bootB_sorted : bootBuiltins "sorted" = some (.builtin "sorted") := by decide +kernel
def setO (w : World) (a : Addr) (ks : List Int) : HO := .ext fun h => SetX w h a ks
theorem setO_ok {P : Program} {w : World} {H : Hp} {h : Heap} {a : Addr} {ks : List Int} (x : SetX w h a ks) : ObjOk P w H h a (setO w a ks) :=
  ⟨x, (by obtain ⟨o, _, _, _, e, _⟩ := x; exact ⟨o, e⟩), fun h1 h2 y k => y.at k⟩
theorem Inv.drawn {X : Cx} {pins : List (Addr × Obj)} {σ : St} {H : Hp} {s : Shared} (I : Inv X pins σ H s) (d : Drawn) : Inv X pins σ H { s with drawn := d } :=
  ⟨I.ok, I.os, I.bare, I.base, I.loc, I.cell, I.free, I.freeC, I.pin, I.hok, I.len⟩
theorem ints_of : ∀ {ns : List Int} {us : List Value}, Vals (ns.map V.int) us → IntsAre us ns
  | [], _, .nil => .nil
  | y :: ys, _, .cons r rs => by
    obtain ⟨t, rfl⟩ := r
    exact .cons y t (ints_of rs)
theorem vals_of_ints : ∀ {ns : List Int} {us : List Value}, IntsAre us ns → Vals (ns.map V.int) us
  | _, _, .nil => .nil
  | _, _, .cons y t h => .cons ⟨t, rfl⟩ (vals_of_ints h)
theorem firstMet_nd {ns : List Int} (h : ns.Nodup) : ∀ i, i ≤ ns.length → firstMet (fun i => ns.getD i 0) i = ns.take i
  | 0, _ => rfl
  | i + 1, hi => by
    have hl : i < ns.length := by omega
    have e : ns[i]? = some ns[i] := List.getElem?_eq_getElem hl
    rw [firstMet_succ, firstMet_nd h i (by omega), List.take_add_one, e]
    unfold step_dedup
    have eg : ns.getD i 0 = ns[i] := by rw [List.getD_eq_getElem?_getD, e]; rfl
    rw [eg, if_neg]
    · rfl
    · intro z
      obtain ⟨y, hy, ey⟩ := List.any_eq_true.mp z
      have ey' : y = ns[i] := by simpa using ey
      obtain ⟨j, hj⟩ := List.getElem?_of_mem hy
      have hji : j < i := by
        have := (List.getElem?_eq_some_iff.mp hj).1
        rw [List.length_take] at this
        omega
      rw [List.getElem?_take_of_lt hji] at hj
      have := (List.getElem_inj (h₀ := (List.getElem?_eq_some_iff.mp hj).1) (h₁ := hl) h).mp ((List.getElem?_eq_some_iff.mp hj).2.trans ey')
      omega
section
variable {X : Cx}
def rSet (K : PySem.W.Frag) (w : World) : List V → Hp → VK → Prop := fun xs H Q => ∃ p ns, xs = [.ref p] ∧ SqL K H p (ns.map V.int) ∧ ns.Nodup ∧ ns.length < 900 ∧ ∀ a, H a = none → Q (.ref a) (upd H a (setO w a ns))
theorem setK (K : PySem.W.Frag) (w : World) (hc : X.calm = true) (h : X.K = K := by rfl) (hw : X.w = w := by rfl) : CallR X (.type "set") (rSet K w) := by
  subst h hw
  intro pins s σ H xs us Q I r h
  obtain ⟨p, ns, rfl, hq, nd, hn, q⟩ := h
  obtain ⟨u, rfl, rx⟩ := vals1 r
  cases rx
  obtain ⟨its, r', pl, hz⟩ := I.list hq
  have hlen := r'.length
  rw [List.length_map] at hlen
  refine call_setX (I.ok.hd hc) pl.isList (ints_of (by simpa using r')) (by simp only [List.size_toArray]; omega) fun h' tk hS kp => ?_
  have e : firstMet (fun i => ns.getD i 0) its.toArray.size = ns := by
    rw [show its.toArray.size = ns.length from by simp [hlen], firstMet_nd nd _ (Nat.le_refl _), List.take_of_length_le (Nat.le_refl _)]
  rw [e] at hS
  exact ⟨.ref s.heap.objs.size, _, I.laid (t' := tk) (fun b o e => kp b o (Heap.lt_size e) e) (Nat.le_refl _) (setO_ok hS), rfl, q _ (I.hok.fresh (Nat.le_refl _))⟩
def rXor (w : World) : R2 := fun x y H Q => ∃ a b ks ls, x = .ref a ∧ y = .ref b ∧ H a = some (setO w a ks) ∧ H b = some (setO w b ls) ∧ ks.length < 400 ∧ ls.length < 25 ∧ (∀ k ∈ ls, 0 ≤ k ∧ k < 32) ∧
  ∀ c ms, H c = none → ms.Nodup → (∀ x, x ∈ ms ↔ ¬ (x ∈ ks ↔ x ∈ ls)) → Q (.ref c) (upd H c (setO w c ms))
theorem xorK (w : World) (hw : X.w = w := by rfl) : OpR X (binaryOp .BitXor) (rXor w) := by
  subst hw
  intro pins s σ H x y v u Q I rx ry h
  obtain ⟨a, b, ks, ls, rfl, rfl, ha, hb, h1, h2, h3, q⟩ := h
  cases rx
  cases ry
  obtain ⟨xa, _, _⟩ := (show ObjOk X.prog X.w H s.heap a (setO X.w a ks) from I.hok a _ ha)
  obtain ⟨xb, _, _⟩ := (show ObjOk X.prog X.w H s.heap b (setO X.w b ls) from I.hok b _ hb)
  refine xorX xa xb h1 h2 h3 fun h' ms kp hS hm => ?_
  exact ⟨.ref s.heap.objs.size, _, I.laid (t' := s.toks) kp (Nat.le_refl _) (setO_ok hS), rfl, q _ ms (I.hok.fresh (Nat.le_refl _)) hS.nd hm⟩
def rAnd (w : World) : R2 := fun x y H Q => ∃ a b ks ls, x = .ref a ∧ y = .ref b ∧ a ≠ b ∧ H a = some (setO w a ks) ∧ H b = some (setO w b ls) ∧
  ∀ c ms, H c = none → ms.Nodup → (∀ x, x ∈ ms ↔ (x ∈ ks ∧ x ∈ ls)) → Q (.ref c) (upd H c (setO w c ms))
theorem andK (w : World) (hw : X.w = w := by rfl) : OpR X (binaryOp .BitAnd) (rAnd w) := by
  subst hw
  intro pins s σ H x y v u Q I rx ry h
  obtain ⟨a, b, ks, ls, rfl, rfl, ne, ha, hb, q⟩ := h
  cases rx
  cases ry
  obtain ⟨xa, _, _⟩ := (show ObjOk X.prog X.w H s.heap a (setO X.w a ks) from I.hok a _ ha)
  obtain ⟨xb, _, _⟩ := (show ObjOk X.prog X.w H s.heap b (setO X.w b ls) from I.hok b _ hb)
  refine andX xa xb ne fun h' ms kp hS hm => ?_
  exact ⟨.ref s.heap.objs.size, _, I.laid (t' := s.toks) kp (Nat.le_refl _) (setO_ok hS), rfl, q _ ms (I.hok.fresh (Nat.le_refl _)) hS.nd hm⟩
def rLenS (w : World) : List V → Hp → VK → Prop := fun xs H Q => ∃ a ks, xs = [.ref a] ∧ H a = some (setO w a ks) ∧ Q (.int ks.length) H
theorem lenSK (w : World) (hw : X.w = w := by rfl) : CallR X (.builtin "len") (rLenS w) := by
  subst hw
  intro pins s σ H xs us Q I r h
  obtain ⟨a, ks, rfl, ha, q⟩ := h
  obtain ⟨u, rfl, rx⟩ := vals1 r
  cases rx
  obtain ⟨xa, _, _⟩ := (show ObjOk X.prog X.w H s.heap a (setO X.w a ks) from I.hok a _ ha)
  exact lenX xa fun t tk => ⟨.int _, H, I.tok _, ⟨_, rfl⟩, q⟩
def rSorted (w : World) : List V → Hp → VK → Prop := fun xs H Q => ∃ a ks, xs = [.ref a] ∧ H a = some (setO w a ks) ∧ ks.length < 64 ∧ ∀ (l : Addr) (ns : List Int), H l = none → ns.Perm ks → ns.Pairwise (· ≤ ·) → Q (.ref l) (upd H l (.lst (ns.map V.int)))
theorem sortedK (w : World) (hc : X.calm = true) (hw : X.w = w := by rfl) : CallR X (.builtin "sorted") (rSorted w) := by
  subst hw
  intro pins s σ H xs us Q I r h
  obtain ⟨a, ks, rfl, ha, hn, q⟩ := h
  obtain ⟨u, rfl, rx⟩ := vals1 r
  cases rx
  obtain ⟨xa, _, _⟩ := (show ObjOk X.prog X.w H s.heap a (setO X.w a ks) from I.hok a _ ha)
  refine sortedX (I.ok.hd hc) xa hn fun l out ns h' tk d' c hI hp hs kp hl he => ?_
  have len : out.length ≤ 64 := by rw [IntsAre.length hI, hp.length_eq]; omega
  have I2 : Inv X pins σ (upd H l (.lst (ns.map V.int))) { s with heap := h', toks := tk } :=
    I.laid (t' := tk) kp hl (show ObjOk X.prog X.w _ h' _ (.lst (ns.map V.int)) from ⟨by rw [List.length_map, ← IntsAre.length hI, sizeLine_eq]; omega, out, c, vals_of_ints hI, he⟩)
  exact ⟨.ref l, _, I2.drawn d', rfl, q l ns (I.hok.fresh hl) hp hs⟩
end
end L2

/-! LAMP M: lights, presses, plain mathematics -/
namespace Lamp
def par (M : Nat → Nat → Bool) : List Nat → Nat → Bool
  | [], _ => false
  | l :: ps, j => M l j ^^ par M ps j
theorem par_append (M : Nat → Nat → Bool) (ps qs : List Nat) (j : Nat) : par M (ps ++ qs) j = (par M ps j ^^ par M qs j) := by
  induction ps with
  | nil => simp [par]
  | cons l ps ih => simp [par, ih]
def flips (f : Nat → Bool) : List Nat → Nat → Bool
  | [] => f
  | o :: os => flips (fun j => if j = o then !f j else f j) os
theorem flips_of : ∀ (os : List Nat) (f : Nat → Bool) (j : Nat), os.Nodup → flips f os j = if j ∈ os then !f j else f j
  | [], f, j, _ => by simp [flips]
  | o :: os, f, j, h => by
    rw [List.nodup_cons] at h
    rw [flips, flips_of os _ j h.2]
    by_cases hj : j = o
    · subst hj
      simp [h.1]
    · simp [hj]
def mat (ties : List (Nat × Nat)) (shy : Nat → Bool) (i j : Nat) : Bool := if i = j then !shy i else ties.contains (i, j) || ties.contains (j, i)
def put2 (M : Nat → Nat → Bool) (a b : Nat) (v : Bool) (i j : Nat) : Bool := if (i = a ∧ j = b) ∨ (i = b ∧ j = a) then v else M i j
def putD (M : Nat → Nat → Bool) (a : Nat) (v : Bool) (i j : Nat) : Bool := if i = a ∧ j = a then v else M i j
theorem put2_comm (M : Nat → Nat → Bool) (a b : Nat) (v : Bool) : put2 M a b v = put2 M b a v := by
  funext i j
  unfold put2
  by_cases h1 : i = a ∧ j = b
  · simp [h1]
  · by_cases h2 : i = b ∧ j = a
    · simp [h2]
    · simp [h1, h2]
theorem mat_push {ts : List (Nat × Nat)} {f : Nat → Bool} {x y : Nat} (h : x ≠ y) : mat (ts ++ [(x, y)]) f = put2 (mat ts f) x y true := by
  funext i j
  unfold mat put2
  by_cases hij : i = j
  · subst hij
    have n1 : ¬ (i = x ∧ i = y) := fun z => h (z.1.symm.trans z.2)
    have n2 : ¬ (i = y ∧ i = x) := fun z => h (z.2.symm.trans z.1)
    simp [n1, n2]
  · by_cases h1 : i = x ∧ j = y
    · obtain ⟨rfl, rfl⟩ := h1
      simp [hij]
    · by_cases h2 : i = y ∧ j = x
      · obtain ⟨rfl, rfl⟩ := h2
        simp [hij]
      · have h2' : ¬ (j = x ∧ i = y) := fun z => h2 ⟨z.2, z.1⟩
        have e1 : ((i, j) == (x, y)) = false := by
          rw [beq_eq_false_iff_ne]
          intro z
          injection z with z1 z2
          exact h1 ⟨z1, z2⟩
        have e2 : ((j, i) == (x, y)) = false := by
          rw [beq_eq_false_iff_ne]
          intro z
          injection z with z1 z2
          exact h2 ⟨z2, z1⟩
        simp [hij, h1, h2, h2']
theorem mat_none {ts : List (Nat × Nat)} {f : Nat → Bool} {x y : Nat} (h : x ≠ y) (h1 : (x, y) ∉ ts) (h2 : (y, x) ∉ ts) : mat ts f x y = false := by
  unfold mat
  simp [h, h1, h2]
theorem mat_putD {ts : List (Nat × Nat)} {f : Nat → Bool} {a : Nat} {v : Bool} : putD (mat ts f) a v = mat ts (fun j => if j = a then !v else f j) := by
  funext i j
  unfold putD mat
  by_cases hij : i = j
  · subst hij
    by_cases ha : i = a
    · simp [ha]
    · simp [ha]
  · have : ¬ (i = a ∧ j = a) := fun z => hij (z.1.trans z.2.symm)
    simp [hij, this]
theorem mat_congr {ts : List (Nat × Nat)} {f g : Nat → Bool} {n : Nat} (h : ∀ j, j < n → f j = g j) : ∀ i j, i < n → mat ts f i j = mat ts g i j := fun i j hi => by
  unfold mat
  rw [h i hi]
theorem mat_symm (ts : List (Nat × Nat)) (f : Nat → Bool) (i j : Nat) : mat ts f i j = mat ts f j i := by
  unfold mat
  by_cases h : i = j
  · subst h; rfl
  · have h' : ¬ j = i := fun z => h z.symm
    rw [if_neg h, if_neg h', Bool.or_comm]
theorem put2_back {M : Nat → Nat → Bool} {a b : Nat} {u : Bool} (h1 : M a b = false) (h2 : M b a = false) : put2 (put2 M a b u) b a false = M := by
  funext i j
  unfold put2
  by_cases c1 : i = a ∧ j = b
  · obtain ⟨rfl, rfl⟩ := c1
    simp [h1]
  · by_cases c2 : i = b ∧ j = a
    · obtain ⟨rfl, rfl⟩ := c2
      simp [h2]
    · simp [c1, c2]
theorem flips_push (f : Nat → Bool) (o : Nat) : ∀ (os : List Nat), flips f (os ++ [o]) = fun j => if j = o then !flips f os j else flips f os j := by
  intro os
  induction os generalizing f with
  | nil => rfl
  | cons p os ih => exact ih _
end Lamp

/-! LAMP Ma: sums of bits, more unknowns than rows, steps and what they leave -/
namespace Lamp
def xsum {α : Type} (f : α → Bool) : List α → Bool
  | [] => false
  | a :: l => f a ^^ xsum f l
section
variable {α β : Type}
theorem xsum_congr {f g : α → Bool} : ∀ {l : List α}, (∀ a ∈ l, f a = g a) → xsum f l = xsum g l
  | [], _ => rfl
  | a :: l, h => by
    rw [xsum, xsum, h a List.mem_cons_self, xsum_congr fun b hb => h b (List.mem_cons_of_mem _ hb)]
theorem xsum_xor (f g : α → Bool) : ∀ l : List α, xsum (fun a => f a ^^ g a) l = (xsum f l ^^ xsum g l)
  | [] => rfl
  | a :: l => by
    rw [xsum, xsum, xsum, xsum_xor f g l]
    cases f a <;> cases g a <;> cases xsum f l <;> cases xsum g l <;> rfl
theorem xsum_and (c : Bool) (f : α → Bool) : ∀ l : List α, xsum (fun a => c && f a) l = (c && xsum f l)
  | [] => by simp [xsum]
  | a :: l => by
    rw [xsum, xsum, xsum_and c f l]
    cases c <;> simp
theorem xsum_zero {f : α → Bool} : ∀ {l : List α}, (∀ a ∈ l, f a = false) → xsum f l = false
  | [], _ => rfl
  | a :: l, h => by
    rw [xsum, h a List.mem_cons_self, xsum_zero fun b hb => h b (List.mem_cons_of_mem _ hb)]
    rfl
theorem xsum_perm {f : α → Bool} {l m : List α} (h : l.Perm m) : xsum f l = xsum f m := by
  induction h with
  | nil => rfl
  | cons x _ ih => rw [xsum, xsum, ih]
  | swap x y l => simp only [xsum]; rw [← Bool.xor_assoc, ← Bool.xor_assoc, Bool.xor_comm (f y) (f x)]
  | trans _ _ h1 h2 => exact h1.trans h2
theorem xsum_comm (f : α → β → Bool) : ∀ (l : List α) (m : List β), xsum (fun a => xsum (f a) m) l = xsum (fun b => xsum (fun a => f a b) l) m
  | [], m => by
    rw [xsum]
    exact (xsum_zero fun _ _ => rfl).symm
  | a :: l, m => by
    rw [xsum, xsum_comm f l m, ← xsum_xor]
    rfl
theorem xsum_single {f : α → Bool} {a : α} : ∀ {l : List α}, l.Nodup → a ∈ l → (∀ b ∈ l, b ≠ a → f b = false) → xsum f l = f a
  | [], _, h, _ => absurd h List.not_mem_nil
  | b :: l, nd, h, z => by
    obtain ⟨n1, n2⟩ := List.nodup_cons.mp nd
    rw [xsum]
    rcases List.mem_cons.mp h with e | h
    · subst e
      rw [xsum_zero fun c hc => z c (List.mem_cons_of_mem _ hc) fun e => n1 (e ▸ hc), Bool.xor_false]
    · rw [z b List.mem_cons_self fun e => n1 (e ▸ h), xsum_single n2 h fun c hc => z c (List.mem_cons_of_mem _ hc), Bool.false_xor]
theorem xsum_filter (f p : α → Bool) : ∀ l : List α, xsum f (l.filter p) = xsum (fun a => p a && f a) l
  | [] => rfl
  | a :: l => by
    rw [xsum, List.filter_cons, ← xsum_filter f p l]
    cases h : p a <;> simp [xsum]
theorem xsum_count (f : α → Bool) : ∀ l : List α, xsum f l = decide ((l.filter f).length % 2 = 1)
  | [] => rfl
  | a :: l => by
    rw [xsum, xsum_count f l, List.filter_cons]
    cases h : f a with
    | false => simp
    | true =>
      simp only [↓reduceIte, List.length_cons]
      rw [Bool.eq_iff_iff]
      simp
      omega
theorem hom : ∀ (rows : List (α → Bool)) (cols : List α), cols.Nodup → rows.length < cols.length → ∃ c : α → Bool, (∃ j ∈ cols, c j = true) ∧ ∀ r ∈ rows, xsum (fun j => r j && c j) cols = false
  | [], cols, _, h => by
    cases cols with
    | nil => exact absurd h (by simp)
    | cons a l => exact ⟨fun _ => true, ⟨a, List.mem_cons_self, rfl⟩, fun r hr => absurd hr List.not_mem_nil⟩
  | r :: rows, cols, nd, h => by
    have h' : rows.length + 1 < cols.length := by simpa using h
    by_cases hz : ∃ p ∈ cols, r p = true
    · obtain ⟨p, hp, rp⟩ := hz
      obtain ⟨l1, l2, e⟩ := List.append_of_mem hp
      subst e
      have pm : (l1 ++ p :: l2).Perm (p :: (l1 ++ l2)) := List.perm_middle
      have nd' := pm.nodup_iff.mp nd
      obtain ⟨np, nd2⟩ := List.nodup_cons.mp nd'
      have hl : rows.length < (l1 ++ l2).length := by
        have := pm.length_eq
        simp at this h' ⊢
        omega
      obtain ⟨c, ⟨j, hj, cj⟩, hc⟩ := hom (rows.map fun q j => q j ^^ (r j && q p)) (l1 ++ l2) nd2 (by rw [List.length_map]; exact hl)
      classical
      let d : α → Bool := fun j => if j = p then xsum (fun i => r i && c i) (l1 ++ l2) else c j
      have dp : d p = xsum (fun i => r i && c i) (l1 ++ l2) := if_pos rfl
      have dn : ∀ i ∈ l1 ++ l2, d i = c i := fun i hi => if_neg (show ¬ i = p from fun e => np (e ▸ hi))
      refine ⟨d, ⟨j, pm.mem_iff.mpr (List.mem_cons_of_mem _ hj), by rw [dn j hj]; exact cj⟩, fun q hq => ?_⟩
      have sp : ∀ q : α → Bool, xsum (fun j => q j && d j) (l1 ++ p :: l2) = ((q p && xsum (fun i => r i && c i) (l1 ++ l2)) ^^ xsum (fun i => q i && c i) (l1 ++ l2)) := fun q => by
        rw [xsum_perm pm, xsum, dp, xsum_congr (f := fun j => q j && d j) (g := fun j => q j && c j) fun i hi => by rw [dn i hi]]
      rw [sp q]
      rcases List.mem_cons.mp hq with e | hq
      · subst e
        rw [rp, Bool.true_and, Bool.xor_self]
      · have := hc _ (List.mem_map.mpr ⟨q, hq, rfl⟩)
        rw [← this, ← xsum_and, ← xsum_xor]
        apply xsum_congr
        intro i _
        cases q p <;> cases r i <;> cases c i <;> cases q i <;> rfl
    · obtain ⟨c, hj, hc⟩ := hom rows cols nd (by omega)
      refine ⟨c, hj, fun q hq => ?_⟩
      rcases List.mem_cons.mp hq with e | hq
      · subst e
        refine xsum_zero fun a ha => ?_
        cases hr : q a with
        | false => rfl
        | true => exact absurd ⟨a, ha, hr⟩ hz
      · exact hc q hq
termination_by rows => rows.length
decreasing_by all_goals simp
end
/-! ### vectors over n places -/
def dot (n : Nat) (p q : Nat → Bool) : Bool := xsum (fun x => p x && q x) (List.range n)
def turn (n : Nat) (M : Nat → Nat → Bool) (u : Nat → Bool) (j : Nat) : Bool := xsum (fun i => u i && M i j) (List.range n)
theorem dot_comm (n : Nat) (p q : Nat → Bool) : dot n p q = dot n q p := xsum_congr fun _ _ => Bool.and_comm _ _
theorem dot_xor (n : Nat) (p q r : Nat → Bool) : dot n (fun x => p x ^^ q x) r = (dot n p r ^^ dot n q r) := by
  unfold dot
  rw [← xsum_xor]
  exact xsum_congr fun x _ => by dsimp only; cases p x <;> cases q x <;> cases r x <;> rfl
theorem dot_congr {n : Nat} {p q r : Nat → Bool} (h : ∀ x, x < n → p x = q x) : dot n p r = dot n q r := xsum_congr fun x hx => by rw [h x (List.mem_range.mp hx)]
theorem turn_xor (n : Nat) (M : Nat → Nat → Bool) (p q : Nat → Bool) (j : Nat) : turn n M (fun x => p x ^^ q x) j = (turn n M p j ^^ turn n M q j) := by
  unfold turn
  rw [← xsum_xor]
  exact xsum_congr fun x _ => by dsimp only; cases p x <;> cases q x <;> cases M x j <;> rfl
theorem turn_one {n : Nat} (M : Nat → Nat → Bool) {k : Nat} (h : k < n) (j : Nat) : turn n M (fun x => decide (x = k)) j = M k j := by
  unfold turn
  rw [xsum_single List.nodup_range (List.mem_range.mpr h) fun b _ hb => by simp [hb]]
  simp
theorem turn_none (n : Nat) (M : Nat → Nat → Bool) (j : Nat) : turn n M (fun _ => false) j = false := xsum_zero fun _ _ => rfl
theorem dot_turn {n : Nat} {M : Nat → Nat → Bool} (sy : ∀ i j, M i j = M j i) (u q : Nat → Bool) : dot n (turn n M u) q = dot n u (turn n M q) := by
  unfold dot turn
  have e1 : xsum (fun x => xsum (fun i => u i && M i x) (List.range n) && q x) (List.range n) = xsum (fun x => xsum (fun i => (u i && M i x) && q x) (List.range n)) (List.range n) := xsum_congr fun x _ => by
    rw [Bool.and_comm, ← xsum_and]
    exact xsum_congr fun i _ => Bool.and_comm _ _
  rw [e1, xsum_comm]
  apply xsum_congr
  intro i _
  rw [← xsum_and]
  apply xsum_congr
  intro x _
  rw [sy i x]
  cases u i <;> cases q x <;> simp
def hdF (n : Nat) (p : Nat → Bool) : Option Nat := (List.range n).find? p
theorem hdF_some {n : Nat} {p : Nat → Bool} {h : Nat} (e : hdF n p = some h) : h < n ∧ p h = true := ⟨List.mem_range.mp (List.mem_of_find?_eq_some e), List.find?_some e⟩
theorem hdF_none {n : Nat} {p : Nat → Bool} (e : hdF n p = none) {j : Nat} (hj : j < n) : p j = false := by
  have := List.find?_eq_none.mp e j (List.mem_range.mpr hj)
  simpa using this
structure Ech (n : Nat) (M : Nat → Nat → Bool) (k : Nat) (t u : Nat → Nat → Bool) : Prop where
  tu : ∀ i, i < k → ∀ j, j < n → t i j = turn n M (u i) j
  own : ∀ i, i < k → u i i = true
  up : ∀ i, i < k → ∀ j, i < j → j < n → u i j = false
  hd : ∀ i h, hdF n (t i) = some h → ∀ i', i < i' → i' < k → t i' h = false
def red (n : Nat) (t u : Nat → Nat → Bool) : Nat → (Nat → Bool) × (Nat → Bool) → (Nat → Bool) × (Nat → Bool)
  | 0, x => x
  | k + 1, x =>
    let y := red n t u k x
    match hdF n (t k) with
    | some h => if y.1 h then (fun j => y.1 j ^^ t k j, fun j => y.2 j ^^ u k j) else y
    | none => y
section
variable {n : Nat} {M : Nat → Nat → Bool} {t u : Nat → Nat → Bool}
theorem red_keep {m : Nat} (E : Ech n M m t u) (x : (Nat → Bool) × (Nat → Bool)) : ∀ k, k ≤ m → ∀ j, j < n → ((red n t u k x).1 j ^^ turn n M (red n t u k x).2 j) = (x.1 j ^^ turn n M x.2 j)
  | 0, _, j, _ => rfl
  | k + 1, hk, j, hj => by
    have ih := red_keep E x k (by omega) j hj
    rw [red]
    try dsimp only
    cases hh : hdF n (t k) with
    | none => exact ih
    | some h =>
      dsimp only
      by_cases c : (red n t u k x).1 h = true
      · rw [if_pos c, ← ih]
        dsimp only
        rw [turn_xor, E.tu k (by omega) j hj]
        cases (red n t u k x).1 j <;> cases turn n M (u k) j <;> cases turn n M (red n t u k x).2 j <;> rfl
      · rw [if_neg c]
        exact ih
theorem red_low {m : Nat} (E : Ech n M m t u) (x : (Nat → Bool) × (Nat → Bool)) : ∀ k, k ≤ m → ∀ j, k ≤ j → j < n → (red n t u k x).2 j = x.2 j
  | 0, _, _, _, _ => rfl
  | k + 1, hk, j, hj, hn => by
    have ih := red_low E x k (by omega) j (by omega) hn
    rw [red]
    try dsimp only
    cases hh : hdF n (t k) with
    | none => exact ih
    | some h =>
      dsimp only
      by_cases c : (red n t u k x).1 h = true
      · rw [if_pos c]
        dsimp only
        rw [ih, E.up k (by omega) j (by omega) hn, Bool.xor_false]
      · rw [if_neg c]
        exact ih
theorem red_heads {m : Nat} (E : Ech n M m t u) (x : (Nat → Bool) × (Nat → Bool)) : ∀ k, k ≤ m → ∀ i, i < k → ∀ h, hdF n (t i) = some h → (red n t u k x).1 h = false
  | 0, _, i, hi, _, _ => absurd hi (by omega)
  | k + 1, hk, i, hi, h, eh => by
    rw [red]
    try dsimp only
    by_cases e : i = k
    · subst e
      rw [eh]
      dsimp only
      by_cases c : (red n t u i x).1 h = true
      · rw [if_pos c]
        dsimp only
        rw [c, (hdF_some eh).2]
        rfl
      · rw [if_neg c]
        simpa using c
    · have ih := red_heads E x k (by omega) i (by omega) h eh
      cases hh : hdF n (t k) with
      | none => exact ih
      | some h2 =>
        dsimp only
        by_cases c : (red n t u k x).1 h2 = true
        · rw [if_pos c]
          dsimp only
          rw [ih, E.hd i h eh k (by omega) (by omega)]
          rfl
        · rw [if_neg c]
          exact ih
theorem Ech.next {k : Nat} (E : Ech n M k t u) (hk : k < n) {t' u' : Nat → Nat → Bool} (ht : ∀ i, i < k → t' i = t i) (hu : ∀ i, i < k → u' i = u i)
    (et : ∀ j, j < n → t' k j = (red n t u k (M k, fun x => decide (x = k))).1 j) (eu : ∀ j, j < n → u' k j = (red n t u k (M k, fun x => decide (x = k))).2 j) : Ech n M (k + 1) t' u' := by
  have cg : ∀ {p q : Nat → Bool}, (∀ j, j < n → p j = q j) → ∀ j, turn n M p j = turn n M q j := fun h j => xsum_congr fun i hi => by rw [h i (List.mem_range.mp hi)]
  refine ⟨fun i hi j hj => ?_, fun i hi => ?_, fun i hi j hij hj => ?_, fun i h eh i' hii hi' => ?_⟩
  · by_cases e : i = k
    · subst e
      rw [et j hj, cg eu j]
      have := red_keep E (M i, fun x => decide (x = i)) i (Nat.le_refl _) j hj
      rw [turn_one M hk, Bool.xor_self] at this
      cases h1 : (red n t u i (M i, fun x => decide (x = i))).1 j <;> cases h2 : turn n M (red n t u i (M i, fun x => decide (x = i))).2 j <;> rw [h1, h2] at this <;> first | rfl | cases this
    · rw [ht i (by omega), hu i (by omega)]
      exact E.tu i (by omega) j hj
  · by_cases e : i = k
    · subst e
      rw [eu i hk, red_low E _ i (Nat.le_refl _) i (Nat.le_refl _) hk]
      exact decide_eq_true rfl
    · rw [hu i (by omega)]
      exact E.own i (by omega)
  · by_cases e : i = k
    · subst e
      rw [eu j hj, red_low E _ i (Nat.le_refl _) j (by omega) hj]
      exact decide_eq_false (by omega)
    · rw [hu i (by omega)]
      exact E.up i (by omega) j hij hj
  · have hik : i < k := by omega
    rw [ht i hik] at eh
    by_cases e : i' = k
    · subst e
      rw [et h (hdF_some eh).1]
      exact red_heads E _ i' (Nat.le_refl _) i hik h eh
    · rw [ht i' (by omega)]
      exact E.hd i h eh i' hii (by omega)
theorem Ech.zero : Ech n M 0 t u := ⟨fun i h => absurd h (by omega), fun i h => absurd h (by omega), fun i h => absurd h (by omega), fun i h e i' h1 h2 => absurd h2 (by omega)⟩
theorem Ech.solve (E : Ech n M n t u) (sy : ∀ i j, M i j = M j i) {D : Nat → Bool} (hq : ∀ z, z < n → hdF n (t z) = none → dot n (u z) D = false) :
    ∀ j, j < n → (red n t u n (D, fun _ => false)).1 j = false ∧ turn n M (red n t u n (D, fun _ => false)).2 j = D j := by
  generalize hw : (red n t u n (D, fun _ => false)).1 = w
  generalize hb : (red n t u n (D, fun _ => false)).2 = b
  have keep : ∀ j, j < n → (w j ^^ turn n M b j) = D j := fun j hj => by
    have := red_keep E (D, fun _ => false) n (Nat.le_refl _) j hj
    rw [hw, hb, turn_none, Bool.xor_false] at this
    exact this
  have heads : ∀ i, i < n → ∀ h, hdF n (t i) = some h → w h = false := fun i hi h e => by
    rw [← hw]
    exact red_heads E _ n (Nat.le_refl _) i hi h e
  have quiet : ∀ z, z < n → hdF n (t z) = none → dot n (u z) w = false := fun z hz e => by
    have q1 := hq z hz e
    have q2 : dot n (turn n M b) (u z) = false := by
      rw [dot_turn sy]
      unfold dot
      refine xsum_zero fun x hx => ?_
      rw [← E.tu z hz x (List.mem_range.mp hx), hdF_none e (List.mem_range.mp hx), Bool.and_false]
    have q3 : dot n D (u z) = (dot n w (u z) ^^ dot n (turn n M b) (u z)) := by
      rw [← dot_xor]
      exact dot_congr fun x hx => (keep x hx).symm
    rw [dot_comm n (u z) D, q3, q2, Bool.xor_false] at q1
    rw [dot_comm]
    exact q1
  have zero : ∀ j, j < n → w j = false := by
    intro x0 hx0
    cases hwx : w x0 with
    | false => rfl
    | true =>
      exfalso
      -- the n conditions
      let v : Nat → Nat → Bool := fun i x => match hdF n (t i) with | some h => decide (x = h) | none => u i x
      have vs : ∀ i h, hdF n (t i) = some h → v i = fun x => decide (x = h) := fun i h e => by
        show (fun x => match hdF n (t i) with | some h => decide (x = h) | none => u i x) = _
        rw [e]
      have vn : ∀ i, hdF n (t i) = none → v i = u i := fun i e => by
        show (fun x => match hdF n (t i) with | some h => decide (x = h) | none => u i x) = _
        rw [e]
      have vw : ∀ i, i < n → dot n (v i) w = false := fun i hi => by
        cases e : hdF n (t i) with
        | none =>
          rw [vn i e]
          exact quiet i hi e
        | some h =>
          rw [vs i h e]
          unfold dot
          refine xsum_zero fun x hx => ?_
          by_cases z : x = h
          · rw [z, heads i hi h e, Bool.and_false]
          · simp [z]
      obtain ⟨c, ⟨j0, hj0, cj0⟩, hc⟩ := hom (((List.range n).erase x0).map fun x i => v i x) (List.range n) List.nodup_range (by
        rw [List.length_map, List.length_erase_of_mem (List.mem_range.mpr hx0), List.length_range]
        omega)
      -- their sum
      let q : Nat → Bool := fun x => xsum (fun i => v i x && c i) (List.range n)
      have q0 : ∀ x, x < n → x ≠ x0 → q x = false := fun x hx hne => hc _ (List.mem_map.mpr ⟨x, (List.mem_erase_of_ne hne).mpr (List.mem_range.mpr hx), rfl⟩)
      have qw : dot n q w = false := by
        have e1 : dot n q w = xsum (fun i => c i && dot n (v i) w) (List.range n) := by
          unfold dot
          have e2 : xsum (fun x => q x && w x) (List.range n) = xsum (fun x => xsum (fun i => (v i x && c i) && w x) (List.range n)) (List.range n) := xsum_congr fun x _ => by
            rw [Bool.and_comm, ← xsum_and]
            exact xsum_congr fun i _ => Bool.and_comm _ _
          rw [e2, xsum_comm]
          apply xsum_congr
          intro i _
          rw [← xsum_and]
          apply xsum_congr
          intro x _
          cases v i x <;> cases c i <;> cases w x <;> rfl
        rw [e1]
        exact xsum_zero fun i hi => by rw [vw i (List.mem_range.mp hi), Bool.and_false]
      have qx0 : q x0 = false := by
        have e : dot n q w = (q x0 && w x0) := by
          unfold dot
          exact xsum_single List.nodup_range (List.mem_range.mpr hx0) fun b hb hne => by rw [q0 b (List.mem_range.mp hb) hne, Bool.false_and]
        rw [qw, hwx, Bool.and_true] at e
        exact e.symm
      have qz : ∀ x, x < n → q x = false := fun x hx => by
        by_cases e : x = x0
        · rw [e]
          exact qx0
        · exact q0 x hx e
      -- the quiet part
      let r : Nat → Bool := fun x => xsum (fun i => (if (hdF n (t i)).isNone then u i x else false) && c i) (List.range n)
      let g : Nat → Bool := fun x => xsum (fun i => (match hdF n (t i) with | some h => decide (x = h) | none => false) && c i) (List.range n)
      have qrg : ∀ x, q x = (r x ^^ g x) := fun x => by
        show _ = (xsum _ _ ^^ xsum _ _)
        rw [← xsum_xor]
        apply xsum_congr
        intro i _
        show (v i x && c i) = _
        cases e : hdF n (t i) with
        | none => rw [vn i e]; simp
        | some h => rw [vs i h e]; simp
      have rq : ∀ j, j < n → turn n M r j = false := fun j hj => by
        have e1 : turn n M r j = xsum (fun i => c i && (if (hdF n (t i)).isNone then turn n M (u i) j else false)) (List.range n) := by
          unfold turn
          have e2 : xsum (fun x => r x && M x j) (List.range n) = xsum (fun x => xsum (fun i => ((if (hdF n (t i)).isNone then u i x else false) && c i) && M x j) (List.range n)) (List.range n) := xsum_congr fun x _ => by
            rw [Bool.and_comm, ← xsum_and]
            exact xsum_congr fun i _ => Bool.and_comm _ _
          rw [e2, xsum_comm]
          apply xsum_congr
          intro i _
          cases hn : (hdF n (t i)).isNone with
          | false =>
            simp only [Bool.false_eq_true, ↓reduceIte, Bool.and_false, Bool.false_and]
            exact xsum_zero fun _ _ => rfl
          | true =>
            simp only [↓reduceIte]
            rw [← xsum_and]
            apply xsum_congr
            intro x _
            cases u i x <;> cases c i <;> cases M x j <;> rfl
        rw [e1]
        refine xsum_zero fun i hi => ?_
        cases hn : hdF n (t i) with
        | none =>
          rw [← E.tu i (List.mem_range.mp hi) j hj, hdF_none hn hj]
          simp
        | some h => simp
      have rg : ∀ x, x < n → r x = g x := fun x hx => by
        have := qz x hx
        rw [qrg x] at this
        cases h1 : r x <;> cases h2 : g x <;> rw [h1, h2] at this <;> first | rfl | cases this
      -- no head is in it
      have noh : ∀ m i, n - i ≤ m → i < n → (hdF n (t i)).isSome = true → c i = false := by
        intro m
        induction m with
        | zero => intro i h1 h2; omega
        | succ m ih =>
          intro i h1 hi hs
          obtain ⟨h, eh⟩ := Option.isSome_iff_exists.mp hs
          have e0 : dot n (t i) r = false := by
            have e1 : dot n (t i) r = dot n (turn n M (u i)) r := dot_congr fun x hx => E.tu i hi x hx
            rw [e1, dot_turn sy]
            unfold dot
            exact xsum_zero fun x hx => by rw [rq x (List.mem_range.mp hx), Bool.and_false]
          have e2 : dot n (t i) r = xsum (fun k => c k && (match hdF n (t k) with | some h => t i h | none => false)) (List.range n) := by
            have e3 : dot n (t i) r = dot n (t i) g := by
              rw [dot_comm, dot_comm n (t i) g]
              exact dot_congr rg
            rw [e3]
            unfold dot
            have e4 : xsum (fun x => t i x && g x) (List.range n) = xsum (fun x => xsum (fun k => t i x && ((match hdF n (t k) with | some h => decide (x = h) | none => false) && c k)) (List.range n)) (List.range n) := xsum_congr fun x _ => by
              rw [← xsum_and]
            rw [e4, xsum_comm]
            apply xsum_congr
            intro k _
            cases ek : hdF n (t k) with
            | none =>
              simp only [Bool.false_and, Bool.and_false]
              exact xsum_zero fun _ _ => rfl
            | some h' =>
              dsimp only
              rw [xsum_single List.nodup_range (List.mem_range.mpr (hdF_some ek).1) fun b _ hb => by simp [hb]]
              simp [Bool.and_comm]
          rw [e0] at e2
          have e5 := xsum_single (f := fun k => c k && (match hdF n (t k) with | some h => t i h | none => false)) List.nodup_range (List.mem_range.mpr hi) fun k hk hne => by
            cases ek : hdF n (t k) with
            | none => simp
            | some h' =>
              dsimp only
              rcases Nat.lt_or_ge k i with z | z
              · rw [E.hd k h' ek i z hi, Bool.and_false]
              · have hk' := List.mem_range.mp hk
                rw [ih k (by omega) hk' (by rw [ek]; rfl), Bool.false_and]
          rw [← e2, eh] at e5
          dsimp only at e5
          rw [(hdF_some eh).2, Bool.and_true] at e5
          exact e5.symm
      have noq : ∀ m z, n - z ≤ m → z < n → hdF n (t z) = none → c z = false := by
        intro m
        induction m with
        | zero => intro i h1 h2; omega
        | succ m ih =>
          intro z h1 hz ez
          have e0 : q z = false := qz z hz
          have e1 : q z = c z := by
            have : q z = (v z z && c z) := xsum_single (f := fun i => v i z && c i) List.nodup_range (List.mem_range.mpr hz) fun k hk hne => by
              have hk' := List.mem_range.mp hk
              cases ek : hdF n (t k) with
              | some h' => rw [noh n k (by omega) hk' (by rw [ek]; rfl), Bool.and_false]
              | none =>
                rcases Nat.lt_or_ge k z with y | y
                · rw [vn k ek, E.up k hk' z y hz, Bool.false_and]
                · rw [ih k (by omega) hk' ek, Bool.and_false]
            rw [this, vn z ez, E.own z hz, Bool.true_and]
          rw [e0] at e1
          exact e1.symm
      have hj0' := List.mem_range.mp hj0
      have : c j0 = false := by
        cases e : hdF n (t j0) with
        | none => exact noq n j0 (by omega) hj0' e
        | some h => exact noh n j0 (by omega) hj0' (by rw [e]; rfl)
      rw [cj0] at this
      cases this
  intro j hj
  refine ⟨zero j hj, ?_⟩
  rw [← keep j hj, zero j hj, Bool.false_xor]
end
end Lamp

/-! LAMP Q: rising lists, parities of a symmetric matrix -/
namespace Lamp
def selfs (M : Nat → Nat → Bool) (xs os : List Nat) : Nat := (xs.map fun i => (os.filter (M i)).length).sum
theorem selfs_cons (M : Nat → Nat → Bool) (hs : ∀ i j, M i j = M j i) (a : Nat) (l : List Nat) : ∀ xs : List Nat, selfs M xs (a :: l) = selfs M xs l + (xs.filter (M a)).length
  | [] => rfl
  | x :: xs => by
    have ih := selfs_cons M hs a l xs
    unfold selfs at ih ⊢
    rw [List.map_cons, List.sum_cons, List.map_cons, List.sum_cons, ih, List.filter_cons, List.filter_cons, hs x a]
    cases M a x <;> simp <;> omega
theorem selfs_parity (M : Nat → Nat → Bool) (hs : ∀ i j, M i j = M j i) : ∀ os : List Nat, (∀ o ∈ os, M o o = true) → selfs M os os % 2 = os.length % 2
  | [], _ => rfl
  | a :: l, hd => by
    have ih := selfs_parity M hs l fun o h => hd o (List.mem_cons_of_mem _ h)
    have e := selfs_cons M hs a l l
    have ha := hd a List.mem_cons_self
    have : selfs M (a :: l) (a :: l) = (l.filter (M a)).length + 1 + (selfs M l l + (l.filter (M a)).length) := by
      show ((a :: l).filter (M a)).length + selfs M l (a :: l) = _
      rw [e, List.filter_cons, if_pos ha, List.length_cons]
    rw [this, List.length_cons]
    omega
theorem selfs_even {M : Nat → Nat → Bool} {os : List Nat} : ∀ xs : List Nat, (∀ i ∈ xs, (os.filter (M i)).length % 2 = 0) → selfs M xs os % 2 = 0
  | [], _ => rfl
  | x :: xs, h => by
    have h1 := h x List.mem_cons_self
    have h2 := selfs_even xs fun i hi => h i (List.mem_cons_of_mem _ hi)
    show ((os.filter (M x)).length + selfs M xs os) % 2 = 0
    omega
theorem even_of_meets {M : Nat → Nat → Bool} (hs : ∀ i j, M i j = M j i) {os : List Nat} (hd : ∀ o ∈ os, M o o = true) (h : ∀ i ∈ os, (os.filter (M i)).length % 2 = 0) : os.length % 2 = 0 := by
  rw [← selfs_parity M hs os hd]
  exact selfs_even os h
theorem count_one {n a : Nat} (q : Nat → Bool) (h : a < n) : ((List.range n).filter fun x => q x && x == a).length = if q a = true then 1 else 0 := by
  induction n with
  | zero => omega
  | succ n ih =>
    rw [List.range_succ, List.filter_append, List.length_append]
    by_cases e : a = n
    · have z : ((List.range n).filter fun x => q x && x == a).length = 0 := by
        rw [List.length_eq_zero_iff, List.filter_eq_nil_iff]
        intro x hx
        have := List.mem_range.mp hx
        have : ¬ x = a := by omega
        simp [this]
      rw [z, ← e]
      cases hq : q a <;> simp [hq]
    · rw [ih (by omega)]
      have : ¬ n = a := fun z => e z.symm
      simp [this]
theorem count_split {n a : Nat} {l : List Nat} (q : Nat → Bool) (ha : a ∉ l) : ∀ xs : List Nat, (xs.filter fun x => q x && (a :: l).contains x).length = (xs.filter fun x => q x && x == a).length + (xs.filter fun x => q x && l.contains x).length
  | [] => rfl
  | x :: xs => by
    have ih := count_split (n := n) q ha xs
    by_cases e : x = a
    · have hl : l.contains x = false := by rw [e]; simpa using ha
      have e1 : (x == a) = true := by simpa using e
      have e3 : (a :: l).contains x = true := by rw [List.contains_cons, e1]; rfl
      rw [List.filter_cons, List.filter_cons, List.filter_cons, hl, e1, e3]
      cases hq : q x
      · exact ih
      · show (xs.filter fun x => q x && (a :: l).contains x).length + 1 = (xs.filter fun x => q x && x == a).length + 1 + (xs.filter fun x => q x && l.contains x).length
        omega
    · have e2 : (x == a) = false := by simpa using e
      have e3 : (a :: l).contains x = l.contains x := by rw [List.contains_cons, e2]; rfl
      rw [List.filter_cons, List.filter_cons, List.filter_cons, e3, e2]
      cases hq : q x
      · exact ih
      · cases hl : l.contains x
        · exact ih
        · show (xs.filter fun x => q x && (a :: l).contains x).length + 1 = (xs.filter fun x => q x && x == a).length + ((xs.filter fun x => q x && l.contains x).length + 1)
          omega
theorem count_same {n : Nat} (q : Nat → Bool) : ∀ {os : List Nat}, os.Nodup → (∀ o ∈ os, o < n) → ((List.range n).filter fun x => q x && os.contains x).length = (os.filter q).length
  | [], _, _ => by simp
  | a :: l, nd, h => by
    rw [List.nodup_cons] at nd
    rw [count_split (n := n) q nd.1, count_one q (h a List.mem_cons_self), count_same q nd.2 fun o ho => h o (List.mem_cons_of_mem _ ho), List.filter_cons]
    cases hq : q a <;> simp [hq] <;> omega
end Lamp

/-! ## the yard's defs -/
namespace Lp
open PySem L2 Lamp
def top (i : Nat) : Stmt := PySem.Challenge.pw_lampyard_k10_shy.main.body.getD i (.Pass ⟨0, 0, 0, 0⟩)
abbrev s_check_lamp : Stmt := top 21
abbrev s_check_pair : Stmt := top 22
abbrev s_untied_rows : Stmt := top 23
abbrev s_init : Stmt := inClass (top 24) 0
abbrev s_tie : Stmt := inClass (top 24) 1
abbrev s_untie : Stmt := inClass (top 24) 2
abbrev s_put_tie : Stmt := inClass (top 24) 3
abbrev s_is_tied : Stmt := inClass (top 24) 4
abbrev s_set_shy : Stmt := inClass (top 24) 5
abbrev s_is_shy : Stmt := inClass (top 24) 6
abbrev s_turns : Stmt := inClass (top 24) 7
theorem rgL {n : Nat} : -(2 ^ 62) ≤ (n : Int) := by omega
theorem rgU {n : Nat} (h : n ≤ 24) : (n : Int) < 2 ^ 62 := by omega
theorem r1000 {n : Nat} (h : n ≤ 24) : n ≤ 1000 := by omega
theorem tn0 (i : Nat) : (0 + (i : Int)).toNat = i := by omega
theorem filt_t {α : Type} (l : List α) : l.filter (fun _ => true) = l := List.filter_eq_self.mpr fun _ _ => rfl
def rowL (n : Nat) (f : Nat → Bool) : List Bool := (List.range n).map f
def rowV (n : Nat) (f : Nat → Bool) : List V := (rowL n f).map V.bl
def idM (i j : Nat) : Bool := decide (j = i)
theorem mr : ¬ (("many" : Str) = "rows") := by decide +kernel
def yf (n : Int) (r : Addr) : List (Str × V) := putF "rows" (.ref r) (putF "many" (.int n) [])
theorem yf_many (n : Int) (r : Addr) : (yf n r).lookup ("many" : Str) = some (.int n) := by
  unfold yf
  rw [lookup_putF, if_neg mr, lookup_putF, if_pos rfl]
theorem yf_rows (n : Int) (r : Addr) : (yf n r).lookup ("rows" : Str) = some (.ref r) := by
  unfold yf
  rw [lookup_putF, if_pos rfl]
theorem yf_no (n : Int) (r : Addr) {m : Str} (h1 : ¬ m = "rows") (h2 : ¬ m = "many") : (yf n r).lookup m = none := by
  unfold yf
  rw [lookup_putF, if_neg h1, lookup_putF, if_neg h2]
  all_goals rfl
theorem nodup_ix' {α : Type} {N : List α} (hN : N.Nodup) {i j : Nat} {x : α} (a : N[i]? = some x) (b : N[j]? = some x) : i = j := by
  obtain ⟨h1, e1⟩ := List.getElem?_eq_some_iff.mp a
  obtain ⟨h2, e2⟩ := List.getElem?_eq_some_iff.mp b
  exact (List.getElem_inj hN).mp (e1.trans e2.symm)
structure YardAt (C : Addr) (H : Hp) (p dx r : Addr) (qs : List Addr) (n : Nat) (M : Nat → Nat → Bool) : Prop where
  ob : H p = some (.ins C dx (yf n r))
  rw : H r = some (.lst (qs.map V.ref))
  ln : qs.length = n
  nd : qs.Nodup
  at_ : ∀ (i : Nat) q, qs[i]? = some q → H q = some (.lst (rowV n (M i)))
theorem YardAt.same {C : Addr} {H H' : Hp} {p dx r : Addr} {qs : List Addr} {n : Nat} {M : Nat → Nat → Bool} (Y : YardAt C H p dx r qs n M) (s : Same H H') : YardAt C H' p dx r qs n M :=
  ⟨s _ _ Y.ob, s _ _ Y.rw, Y.ln, Y.nd, fun i q e => s _ _ (Y.at_ i q e)⟩
theorem rowV_len (n : Nat) (f : Nat → Bool) : (rowV n f).length = n := by simp [rowV, rowL]
theorem rowV_at {n : Nat} (f : Nat → Bool) {j : Nat} (h : j < n) : (rowV n f)[j]? = some (.bl (f j)) := by simp [rowV, rowL, h]
theorem rowV_set {n : Nat} (f : Nat → Bool) (j : Nat) (v : Bool) : (rowV n f).set j (.bl v) = rowV n (fun k => if k = j then v else f k) := by
  apply List.ext_getElem?
  intro i
  by_cases hi : i < n
  · rw [rowV_at _ hi]
    by_cases hj : i = j
    · subst hj
      rw [List.getElem?_set_self (by rw [rowV_len]; exact hi), if_pos rfl]
    · rw [List.getElem?_set_ne (Ne.symm hj), rowV_at _ hi, if_neg hj]
  · rw [List.getElem?_eq_none (by rw [List.length_set, rowV_len]; omega), List.getElem?_eq_none (by rw [rowV_len]; omega)]
theorem rowV_congr {n : Nat} {f g : Nat → Bool} (h : ∀ j, j < n → f j = g j) : rowV n f = rowV n g := by
  unfold rowV rowL
  rw [List.map_map, List.map_map]
  apply List.map_congr_left
  intro j hj
  rw [Function.comp, Function.comp, h j (List.mem_range.mp hj)]
theorem atI_of {α : Type} {xs : List α} {a : Int} {v : α} (h0 : 0 ≤ a) (h : xs[a.toNat]? = some v) : atI xs a = some v := by
  have e : ((a.toNat : Nat) : Int) = a := by omega
  rw [← e]
  exact atI_nat h
theorem ixN_of {n : Nat} {a : Int} (h0 : 0 ≤ a) (h : a < n) : ixN n a = some a.toNat := by
  unfold ixN
  rw [if_pos h0, if_pos h]
theorem YardAt.row {C : Addr} {H : Hp} {p dx r : Addr} {qs : List Addr} {n : Nat} {M : Nat → Nat → Bool} (Y : YardAt C H p dx r qs n M) {a : Int} (h0 : 0 ≤ a) (h1 : a < n) :
    ∃ q, qs[a.toNat]? = some q ∧ atI (qs.map V.ref) a = some (.ref q) ∧ H q = some (.lst (rowV n (M a.toNat))) := by
  have hl : a.toNat < qs.length := by rw [Y.ln]; omega
  refine ⟨qs[a.toNat], by simp [hl], atI_of h0 (by simp [hl]), Y.at_ _ _ (by simp [hl])⟩
theorem YardAt.apart {C : Addr} {H : Hp} {p dx r : Addr} {qs : List Addr} {n : Nat} {M : Nat → Nat → Bool} (Y : YardAt C H p dx r qs n M) (hn : 0 < n) : p ∉ qs ∧ r ∉ qs ∧ p ≠ r := by
  refine ⟨fun z => ?_, fun z => ?_, ne_of Y.ob Y.rw (by intro z; cases z)⟩
  · obtain ⟨j, hj⟩ := List.getElem?_of_mem z
    have h := Y.at_ j p hj
    rw [Y.ob] at h
    cases h
  · obtain ⟨j, hj⟩ := List.getElem?_of_mem z
    have h := Y.at_ j r hj
    rw [Y.rw] at h
    have h' : qs.map V.ref = rowV n (M j) := by injection h with h; injection h
    have e := congrArg (fun l => l[0]?) h'
    have hl : 0 < qs.length := by rw [Y.ln]; exact hn
    simp [rowV_at _ hn, hl] at e
theorem YardAt.put {C : Addr} {H : Hp} {p dx r : Addr} {qs : List Addr} {n : Nat} {M : Nat → Nat → Bool} (Y : YardAt C H p dx r qs n M) {a b : Nat} (ha : a < n) (v : Bool) {q : Addr} (hq : qs[a]? = some q) :
    YardAt C (upd H q (.lst ((rowV n (M a)).set b (.bl v)))) p dx r qs n (fun i j => if i = a ∧ j = b then v else M i j) := by
  obtain ⟨h1, h2, _⟩ := Y.apart (by omega)
  have m := List.mem_of_getElem? hq
  have np : p ≠ q := fun z => h1 (z ▸ m)
  have nr : r ≠ q := fun z => h2 (z ▸ m)
  refine ⟨by rw [upd_ne np]; exact Y.ob, by rw [upd_ne nr]; exact Y.rw, Y.ln, Y.nd, fun i q' e => ?_⟩
  by_cases hi : i = a
  · subst hi
    rw [hq] at e
    cases e
    rw [upd_same, rowV_set]
    congr 2
    apply rowV_congr
    intro j _
    simp
  · have hne : q' ≠ q := fun z => hi (nodup_ix' Y.nd e (z ▸ hq))
    rw [upd_ne hne, Y.at_ i q' e]
    congr 2
    apply rowV_congr
    intro j _
    simp [hi]
structure YT (K : PySem.W.Frag) (mg : Str → Option Value) (C NL AL NY TD UT : Addr) : Prop where
  cl : Cls K C
  nM : NoAttr K C "many"
  nR : NoAttr K C "rows"
  mgC : mg "Yard" = some (.ref C)
  nl : mg "NoLamp" = some (.ref NL)
  xl : PySem.W.excIn K NL bmV "ValueError.__new__" = true
  al : mg "Alone" = some (.ref AL)
  xa : PySem.W.excIn K AL bmV "ValueError.__new__" = true
  ny : mg "NoYard" = some (.ref NY)
  xy : PySem.W.excIn K NY bmV "ValueError.__new__" = true
  td : mg "Tied" = some (.ref TD)
  xt : PySem.W.excIn K TD bmV "ValueError.__new__" = true
  ut : mg "Untied" = some (.ref UT)
  xu : PySem.W.excIn K UT bmV "ValueError.__new__" = true
  rng : mg "range" = none
  most : ∃ t, mg "MOST_LAMPS" = some (.int 24 t)
section
variable {P : Program} {w : World} {K : PySem.W.Frag} {mg : Str → Option Value} {base : Heap} {C NL AL NY TD UT : Addr}
/-! ### check_lamp -/
def spCheck (NL : Addr) : Sp := fun vs H Q E => ∃ l m : Int, vs = [.int l, .int m] ∧ (0 ≤ l ∧ l < m → Q .non H) ∧ (¬ (0 ≤ l ∧ l < m) → E (.ref NL) none H)
theorem sc_check_lamp : FnScope ["lamp", "many"] ["lamp", "many"] (defScope s_check_lamp) := ⟨rfl, rfl, rfl, by decide +kernel, rfl, by decide +kernel, by decide +kernel⟩
theorem ok_check_lamp {f : Addr} {fd : FuncData} (F : Fun K "check_lamp" "check_lamp" s_check_lamp f fd) (T : YT K mg C NL AL NY TD UT) : FnOk P w K mg base (CXE P w) 1 f fd ["lamp", "many"] (spCheck NL) := by
  refine F.okE sc_check_lamp (fun vs H Q E h => ?_) (fun cdv A outer s H vs Q E hr h => ?_)
  · obtain ⟨l, m, rfl, _⟩ := h
    rfl
  · obtain ⟨l, m, rfl, h1, h2⟩ := h
    refine ⟨_, pss_one (ps_if (PW.pt (pw_or (pt_cmpR op_lt (pv 0) pe_int (nomark _)) (pw_or1 (pt_cmpR op_ge (pv 0) (pv 1) (nomark _)))))
      (pss_one (ps_raise (R := fun _ H => E (.ref NL) none H) rfl rfl T.nl T.xl fun pins σ H s h1 e args I hm hR => raiseE I hm hR)) pss_nil), ?_⟩
    refine ⟨_, rfl, _, _, rfl, rfl, _, rfl, ?_⟩
    refine ite2 (fun c => iteT ?_) (fun c => ?_)
    · have c' : l < 0 := of_decide_eq_true c
      exact h2 (by omega)
    · have c' : ¬ l < 0 := fun z => c (decide_eq_true z)
      refine ⟨_, rfl, _, rfl, _, _, rfl, rfl, _, rfl, ?_⟩
      refine ite2 (fun d => ?_) (fun d => ?_)
      · have d' : m ≤ l := of_decide_eq_true d
        exact h2 (by omega)
      · have d' : ¬ m ≤ l := fun z => d (decide_eq_true z)
        exact h1 (by omega)
/-! ### check_pair -/
def spPair (NL AL : Addr) : Sp := fun vs H Q E => ∃ a b m : Int, vs = [.int a, .int b, .int m] ∧ ((0 ≤ a ∧ a < m) ∧ (0 ≤ b ∧ b < m) ∧ a ≠ b → Q .non H) ∧ (¬ ((0 ≤ a ∧ a < m) ∧ (0 ≤ b ∧ b < m)) → E (.ref NL) none H) ∧
  ((0 ≤ a ∧ a < m) ∧ (0 ≤ b ∧ b < m) ∧ a = b → E (.ref AL) none H)
theorem sc_check_pair : FnScope ["one", "other", "many"] ["one", "other", "many"] (defScope s_check_pair) := ⟨rfl, rfl, rfl, by decide +kernel, rfl, by decide +kernel, by decide +kernel⟩
theorem ok_check_pair {f f1 : Addr} {fd fd1 : FuncData} (F : Fun K "check_pair" "check_pair" s_check_pair f fd) (T : YT K mg C NL AL NY TD UT) (G : FnOk P w K mg base (CXE P w) 1 f1 fd1 ["lamp", "many"] (spCheck NL)) (b1 : Binds K fd1 ["lamp", "many"] [])
    (m1 : mg "check_lamp" = some (.ref f1)) (k1 : PySem.W.keepIn K (.ref f1) = true) : FnOk P w K mg base (CXE P w) 2 f fd ["one", "other", "many"] (spPair NL AL) := by
  refine F.okE sc_check_pair (fun vs H Q E h => ?_) (fun cdv A outer s H vs Q E hr h => ?_)
  · obtain ⟨a, b, m, rfl, _⟩ := h
    rfl
  · obtain ⟨a, b, m, rfl, h1, h2, h3⟩ := h
    refine ⟨_, pss_cons (ps_expr (pe_callS G hr rfl m1 k1 b1 .nil passE.s (pa_cons (pv 0) (pa_cons (pv 2) pa_nil))))
      (pss_cons (ps_expr (pe_callS G hr rfl m1 k1 b1 .nil passE.s (pa_cons (pv 1) (pa_cons (pv 2) pa_nil))))
      (pss_one (ps_if (pt_cmpR op_eq (pv 0) (pv 1) (nomark _)) (pss_one (ps_raise (R := fun _ H => E (.ref AL) none H) rfl rfl T.al T.xa fun pins σ H s h1 e args I hm hR => raiseE I hm hR)) pss_nil))), ?_⟩
    refine ⟨_, rfl, _, rfl, a, m, rfl, fun c1 => ?_, fun c1 => h2 (fun z => c1 z.1)⟩
    refine ⟨_, rfl, _, rfl, b, m, rfl, fun c2 => ?_, fun c2 => h2 (fun z => c2 z.2)⟩
    refine ⟨_, rfl, _, rfl, rfl, _, rfl, ?_⟩
    refine ite2 (fun d => ?_) (fun d => ?_)
    · have d' : V.int a = V.int b := of_decide_eq_true d
      exact h3 ⟨c1, c2, V.int.inj d'⟩
    · exact h1 ⟨c1, c2, fun z => d (decide_eq_true (congrArg V.int z))⟩
/-! ### untied_rows -/
def spRows : Sp := fun vs H Q _ => ∃ n : Nat, vs = [.int n] ∧ n ≤ 24 ∧ ∀ (r : Addr) (qs : List Addr) (H' : Hp), Same H H' → H r = none → (∀ q ∈ qs, H q = none) → qs.length = n → qs.Nodup → r ∉ qs → H' r = some (.lst (qs.map V.ref)) →
  (∀ (i : Nat) q, qs[i]? = some q → H' q = some (.lst (rowV n (idM i)))) → Q (.ref r) H'
theorem sc_untied_rows : FnScope ["many", "rows", "lamp"] ["many"] (defScope s_untied_rows) := ⟨rfl, rfl, rfl, by decide +kernel, rfl, by decide +kernel, by decide +kernel⟩
theorem ok_untied_rows {f : Addr} {fd : FuncData} (F : Fun K "untied_rows" "untied_rows" s_untied_rows f fd) (T : YT K mg C NL AL NY TD UT) : FnOk P w K mg base CX0 1 f fd ["many"] spRows := by
  refine F.ok sc_untied_rows (fun vs H Q E h => ?_) (fun cdv A outer s H vs Q E hr h => ?_)
  · obtain ⟨n, rfl, _⟩ := h
    rfl
  · obtain ⟨n, rfl, hn, k⟩ := h
    refine ⟨_, pss_cons (ps_set (i := 1) sc_untied_rows.nd rfl (Or.inl rfl) (pe_lst pa_nil))
      (pss_cons (ps_for PassesOwn.never rfl (pi_range1 rfl T.rng (pa_cons (pv 0) pa_nil)) (pg_name (i := 2) sc_untied_rows.nd rfl (Or.inr rfl))
        (pss_one (ps_expr (pe_bm PySem.F.plainAttrs_list PySem.F.slot_list_append PySem.F.type_list_append mt_append (pv 1) (pa_cons
          (pe_compN (js := [2]) rfl (by kernel_rfl) (pi_range1 rfl T.rng (pa_cons (pv 0) pa_nil)) (fun _ _ _ _ _ => pf_nil) (fun _ _ _ _ _ => pe_cmpR op_eq (pv 0) (pv 1) (nomark _))) pa_nil)))))
      (pss_one (ps_ret (pv 1)))), ?_⟩
    refine ⟨Nat.zero_le _, fun r hr0 => ?_⟩
    have s0 : Same H (upd H r (.lst [])) := fun b o e => by rw [upd_ne (ne_of_none e hr0)]; exact e
    refine ⟨_, rfl, n, rfl, rgL, rgU (by assumption), for_range (lo := 0) (n := n) (fun i σ H2 => ∃ (qs : List Addr) (v : Option V), σ = [some (.int n), some (.ref r), v] ∧ Same H H2 ∧ H2 r = some (.lst (qs.map V.ref)) ∧ qs.length = i ∧ qs.Nodup ∧ r ∉ qs ∧
      (∀ q ∈ qs, H q = none) ∧ ∀ (j : Nat) q, qs[j]? = some q → H2 q = some (.lst (rowV n (idM j)))) ⟨[], none, rfl, s0, upd_same, rfl, List.nodup_nil, List.not_mem_nil, fun q hq => absurd hq List.not_mem_nil, fun j q e => by simp at e⟩ ?_ ?_⟩
    · rintro i σ H2 hi ⟨qs, v, rfl, s2, hr2, hl, nd, hrq, hf, hat⟩
      refine ⟨_, rfl, .inl ⟨rfl, _, SqL.of hr2⟩, _, rfl, n, rfl, rgL, rgU (by assumption), comp_range (n := n) (fun _ => true) (fun j => V.bl (decide (j = i))) (r1000 (by assumption)) (fun j Hc k _ _ q => q) (fun j Hc k hj _ _ q => ?_) fun D hD => ?_⟩
      · have e : decide (V.int (0 + (j : Int)) = V.int (0 + (i : Int))) = decide (j = i) := by
          rw [Bool.eq_iff_iff]
          simp
          omega
        refine ⟨_, rfl, _, rfl, rfl, ?_⟩
        rw [e]
        exact q
      · have hDq : D ∉ qs := fun z => by
          obtain ⟨j, hj⟩ := List.getElem?_of_mem z
          rw [hat j D hj] at hD
          cases hD
        refine ⟨r, _, _, rfl, rfl, (by rw [upd_ne (ne_of_none hr2 hD)]; exact hr2), small1000 (by rw [List.length_map]; omega), qs ++ [D], _, rfl, fun b o e => ?_, ?_, by simp [hl], ?_, ?_, fun q hq => ?_, fun j q e => ?_⟩
        · have e2 := s2 b o e
          have hb : b ≠ r := ne_of_none e hr0
          rw [upd_ne hb, upd_ne (ne_of_none e2 hD)]
          exact e2
        · rw [upd_same, List.map_append]
          rfl
        · rw [List.nodup_append]
          refine ⟨nd, by simp, fun a ha b hb => ?_⟩
          have hb' : b = D := by simpa using hb
          rw [hb']
          rintro rfl
          exact hDq ha
        · intro z
          rcases List.mem_append.mp z with z | z
          · exact hrq z
          · have z' : r = D := by simpa using z
            rw [← z', hr2] at hD
            cases hD
        · rcases List.mem_append.mp hq with z | z
          · exact hf q z
          · have z' : q = D := by simpa using z
            rw [z']
            exact s2.free hD
        · by_cases hj : j < qs.length
          · rw [List.getElem?_append_left hj] at e
            have hq := hat j q e
            have n1 : q ≠ r := fun z => hrq (by rw [← z]; exact List.mem_of_getElem? e)
            rw [upd_ne n1, upd_ne (ne_of_none hq hD)]
            exact hq
          · rw [List.getElem?_append_right (by omega)] at e
            have hj0 : j - qs.length = 0 := by
              have := (List.getElem?_eq_some_iff.mp e).1
              simp at this
              omega
            rw [hj0] at e
            have e' : D = q := by simpa using e
            subst e'
            have n1 : D ≠ r := Ne.symm (ne_of_none hr2 hD)
            have hji : j = i := by omega
            subst hji
            rw [upd_ne n1, upd_same, rowV, rowL, List.map_map, filt_t]
            rfl
    · rintro σ H2 ⟨qs, v, rfl, s2, hr2, hl, nd, hrq, hf, hat⟩
      exact ⟨_, rfl, k r qs H2 s2 hr0 hf hl nd hrq hr2 hat⟩
/-! ### Yard.__init__ -/
def spInit (C NY : Addr) : Sp := fun vs H Q E => ∃ (p dx : Addr) (n : Int), vs = [.ref p, .int n] ∧ H p = some (.ins C dx []) ∧
  (1 ≤ n ∧ n ≤ 24 → ∀ (r : Addr) (qs : List Addr) (H' : Hp), YardAt C H' p dx r qs n.toNat idM → (∀ b o, H b = some o → b ≠ p → H' b = some o) → H r = none → (∀ q ∈ qs, H q = none) → r ∉ qs → Q .non H') ∧ (¬ (1 ≤ n ∧ n ≤ 24) → E (.ref NY) none H)
theorem sc_init : FnScope ["self", "many"] ["self", "many"] (defScope s_init) := ⟨rfl, rfl, rfl, by decide +kernel, rfl, by decide +kernel, by decide +kernel⟩
theorem ok_init {f f1 : Addr} {fd fd1 : FuncData} (F : Fun K "__init__" "Yard.__init__" s_init f fd) (T : YT K mg C NL AL NY TD UT) (G : FnOk P w K mg base CX0 1 f1 fd1 ["many"] spRows) (b1 : Binds K fd1 ["many"] [])
    (m1 : mg "untied_rows" = some (.ref f1)) (k1 : PySem.W.keepIn K (.ref f1) = true) : FnOk P w K mg base (CXE P w) 2 f fd ["self", "many"] (spInit C NY) := by
  obtain ⟨tk, hmost⟩ := T.most
  refine F.okE sc_init (fun vs H Q E h => ?_) (fun cdv A outer s H vs Q E hr h => ?_)
  · obtain ⟨p, dx, n, rfl, _⟩ := h
    rfl
  · obtain ⟨p, dx, n, rfl, hp, h1, h2⟩ := h
    refine ⟨_, pss_cons (ps_if (PW.pt (pw_or (pt_cmpR op_lt (pv 1) pe_int (nomark _)) (pw_or1 (pt_cmpR op_gt (pv 1) (pe_glob (v := .int 24) rfl hmost ⟨_, rfl⟩) (nomark _)))))
      (pss_one (ps_raise (R := fun _ H => E (.ref NY) none H) rfl rfl T.ny T.xy fun pins σ H s h1 e args I hm hR => raiseE I hm hR)) pss_nil)
      (pss_cons (ps_fld (pv 0) (pv 1) rfl)
      (pss_one (ps_fld (pv 0) (pe_call G hr rfl m1 k1 b1 .nil pass0 (pa_cons (pv 1) pa_nil)) rfl))), ?_⟩
    refine ⟨_, rfl, _, _, rfl, rfl, _, rfl, ?_⟩
    refine ite2 (fun c => iteT ?_) (fun c => ?_)
    · have c' : n < 1 := of_decide_eq_true c
      exact h2 (by omega)
    have c' : ¬ n < 1 := fun z => c (decide_eq_true z)
    refine ⟨_, rfl, _, _, rfl, rfl, _, rfl, ?_⟩
    refine ite2 (fun d => ?_) (fun d => ?_)
    · have d' : 24 < n := of_decide_eq_true d
      exact h2 (by omega)
    have d' : ¬ 24 < n := fun z => d (decide_eq_true z)
    have hn : ((n.toNat : Nat) : Int) = n := by omega
    refine ⟨_, rfl, _, rfl, p, C, dx, [], rfl, hp, T.cl, T.nM, (by show 0 < 1000; decide), ?_⟩
    refine ⟨_, rfl, n.toNat, by rw [hn]; rfl, by omega, fun r qs H' s' hr0 hq0 hl nd hrq hr' hat => ?_⟩
    have hp1 : (upd H p (.ins C dx (putF "many" (.int n) []))) p = some (.ins C dx (putF "many" (.int n) [])) := upd_same
    have hp2 := s' _ _ hp1
    refine ⟨_, rfl, p, C, dx, _, rfl, hp2, T.cl, T.nR, (by show 1 < 1000; decide), ?_⟩
    have npr : p ≠ r := ne_of_none hp1 hr0
    have npq : ∀ q ∈ qs, p ≠ q := fun q hq => ne_of_none hp1 (hq0 q hq)
    have fr : ∀ b, (upd H p (.ins C dx (putF "many" (.int n) []))) b = none → H b = none := fun b e => by
      have hb : b ≠ p := fun z => by rw [z, hp1] at e; cases e
      rw [upd_ne hb] at e
      exact e
    refine h1 (by omega) r qs _ ⟨?_, by rw [upd_ne npr.symm]; exact hr', hl, nd, fun i q e => ?_⟩ (fun b o e hb => ?_) (fr r hr0) (fun q hq => fr q (hq0 q hq)) hrq
    · rw [upd_same, hn]
      rfl
    · rw [upd_ne (npq q (List.mem_of_getElem? e)).symm]
      exact hat i q e
    · rw [upd_ne hb]
      exact s' b o (by rw [upd_ne hb]; exact e)
/-! ### is_tied -/
def okL (n : Nat) (a : Int) : Prop := 0 ≤ a ∧ a < n
theorem okI {n i : Nat} (h : i < n) : okL n (0 + (i : Int)) := ⟨by omega, by omega⟩
theorem ok00 {n : Nat} (h : 1 ≤ n) : okL n 0 := ⟨by omega, by omega⟩
theorem okN1 {n : Nat} (h : 1 ≤ n) : okL n ((n : Int) - 1) := ⟨by omega, by omega⟩
theorem lt_one {i j : Nat} (h : ¬ j = i) : (j < i + 1) = (j < i) := propext ⟨fun _ => by omega, fun _ => by omega⟩
def spIsTied (C NL AL : Addr) : Sp := fun vs H Q E => ∃ (p dx r : Addr) (qs : List Addr) (n : Nat) (M : Nat → Nat → Bool) (a b : Int), vs = [.ref p, .int a, .int b] ∧ YardAt C H p dx r qs n M ∧
  (okL n a ∧ okL n b ∧ a ≠ b → Q (.bl (M a.toNat b.toNat)) H) ∧ (¬ (okL n a ∧ okL n b) → E (.ref NL) none H) ∧ (okL n a ∧ okL n b ∧ a = b → E (.ref AL) none H)
theorem sc_is_tied : FnScope ["self", "one", "other"] ["self", "one", "other"] (defScope s_is_tied) := ⟨rfl, rfl, rfl, by decide +kernel, rfl, by decide +kernel, by decide +kernel⟩
theorem ok_is_tied {f f1 : Addr} {fd fd1 : FuncData} (F : Fun K "is_tied" "Yard.is_tied" s_is_tied f fd) (T : YT K mg C NL AL NY TD UT) (G : FnOk P w K mg base (CXE P w) 2 f1 fd1 ["one", "other", "many"] (spPair NL AL)) (b1 : Binds K fd1 ["one", "other", "many"] [])
    (m1 : mg "check_pair" = some (.ref f1)) (k1 : PySem.W.keepIn K (.ref f1) = true) : FnOk P w K mg base (CXE P w) 3 f fd ["self", "one", "other"] (spIsTied C NL AL) := by
  refine F.okE sc_is_tied (fun vs H Q E h => ?_) (fun cdv A outer s H vs Q E hr h => ?_)
  · obtain ⟨p, dx, r, qs, n, M, a, b, rfl, _⟩ := h
    rfl
  · obtain ⟨p, dx, r, qs, n, M, a, b, rfl, Y, h1, h2, h3⟩ := h
    refine ⟨_, pss_cons (ps_expr (pe_callS G hr rfl m1 k1 b1 .nil passE.s (pa_cons (pv 1) (pa_cons (pv 2) (pa_cons (pe_fld (pv 0) rfl) pa_nil)))))
      (pss_one (ps_ret (pe_ix ix_list (pe_ix ix_list (pe_fld (pv 0) rfl) (pv 1) (fun _ _ => rfl)) (pv 2) (fun _ _ => rfl)))), ?_⟩
    refine ⟨_, rfl, _, rfl, _, rfl, p, C, dx, _, _, rfl, Y.ob, T.cl, T.nM, yf_many _ _, a, b, n, rfl, fun ok => ?_, fun bad => h2 bad, fun al => h3 al⟩
    obtain ⟨q, _, hq, hrow⟩ := Y.row ok.1.1 ok.1.2
    refine ⟨_, rfl, p, C, dx, _, _, rfl, Y.ob, T.cl, T.nR, yf_rows _ _, _, rfl, r, _, a, _, rfl, rfl, SqL.of Y.rw, hq, _, rfl, q, _, b, _, rfl, rfl, SqL.of hrow, atI_of ok.2.1.1 (rowV_at _ (by have := ok.2.1.2; omega)), h1 ok⟩
/-! ### is_shy -/
def spIsShy (C NL : Addr) : Sp := fun vs H Q E => ∃ (p dx r : Addr) (qs : List Addr) (n : Nat) (M : Nat → Nat → Bool) (a : Int), vs = [.ref p, .int a] ∧ YardAt C H p dx r qs n M ∧
  (okL n a → Q (.bl (!M a.toNat a.toNat)) H) ∧ (¬ okL n a → E (.ref NL) none H)
theorem sc_is_shy : FnScope ["self", "lamp"] ["self", "lamp"] (defScope s_is_shy) := ⟨rfl, rfl, rfl, by decide +kernel, rfl, by decide +kernel, by decide +kernel⟩
theorem ok_is_shy {f f1 : Addr} {fd fd1 : FuncData} (F : Fun K "is_shy" "Yard.is_shy" s_is_shy f fd) (T : YT K mg C NL AL NY TD UT) (G : FnOk P w K mg base (CXE P w) 1 f1 fd1 ["lamp", "many"] (spCheck NL)) (b1 : Binds K fd1 ["lamp", "many"] [])
    (m1 : mg "check_lamp" = some (.ref f1)) (k1 : PySem.W.keepIn K (.ref f1) = true) : FnOk P w K mg base (CXE P w) 2 f fd ["self", "lamp"] (spIsShy C NL) := by
  refine F.okE sc_is_shy (fun vs H Q E h => ?_) (fun cdv A outer s H vs Q E hr h => ?_)
  · obtain ⟨p, dx, r, qs, n, M, a, rfl, _⟩ := h
    rfl
  · obtain ⟨p, dx, r, qs, n, M, a, rfl, Y, h1, h2⟩ := h
    refine ⟨_, pss_cons (ps_expr (pe_callS G hr rfl m1 k1 b1 .nil passE.s (pa_cons (pv 1) (pa_cons (pe_fld (pv 0) rfl) pa_nil))))
      (pss_one (ps_ret (pe_not (pe_ix ix_list (pe_ix ix_list (pe_fld (pv 0) rfl) (pv 1) (fun _ _ => rfl)) (pv 1) (fun _ _ => rfl))))), ?_⟩
    refine ⟨_, rfl, _, rfl, p, C, dx, _, _, rfl, Y.ob, T.cl, T.nM, yf_many _ _, a, n, rfl, fun ok => ?_, fun bad => h2 bad⟩
    obtain ⟨q, _, hq, hrow⟩ := Y.row ok.1 ok.2
    refine ⟨_, rfl, p, C, dx, _, _, rfl, Y.ob, T.cl, T.nR, yf_rows _ _, _, rfl, r, _, a, _, rfl, rfl, SqL.of Y.rw, hq, _, rfl, q, _, a, _, rfl, rfl, SqL.of hrow, atI_of ok.1 (rowV_at _ (by have := ok.1; have := ok.2; omega)), _, rfl, h1 ok⟩
/-! ### turns -/
def spTurns (C NL : Addr) : Sp := fun vs H Q E => ∃ (p dx r : Addr) (qs : List Addr) (n : Nat) (M : Nat → Nat → Bool) (a : Int), vs = [.ref p, .int a] ∧ YardAt C H p dx r qs n M ∧ n ≤ 24 ∧
  (okL n a → ∀ D, H D = none → Q (.ref D) (upd H D (.lst (((List.range n).filter (M a.toNat)).map fun j : Nat => V.int (j : Int))))) ∧ (¬ okL n a → E (.ref NL) none H)
theorem sc_turns : FnScope ["self", "lamp", "row"] ["self", "lamp"] (defScope s_turns) := ⟨rfl, rfl, rfl, by decide +kernel, rfl, by decide +kernel, by decide +kernel⟩
theorem ok_turns {f f1 : Addr} {fd fd1 : FuncData} (F : Fun K "turns" "Yard.turns" s_turns f fd) (T : YT K mg C NL AL NY TD UT) (G : FnOk P w K mg base (CXE P w) 1 f1 fd1 ["lamp", "many"] (spCheck NL)) (b1 : Binds K fd1 ["lamp", "many"] [])
    (m1 : mg "check_lamp" = some (.ref f1)) (k1 : PySem.W.keepIn K (.ref f1) = true) : FnOk P w K mg base (CXE P w) 2 f fd ["self", "lamp"] (spTurns C NL) := by
  refine F.okE sc_turns (fun vs H Q E h => ?_) (fun cdv A outer s H vs Q E hr h => ?_)
  · obtain ⟨p, dx, r, qs, n, M, a, rfl, _⟩ := h
    rfl
  · obtain ⟨p, dx, r, qs, n, M, a, rfl, Y, hn, h1, h2⟩ := h
    refine ⟨_, pss_cons (ps_expr (pe_callS G hr rfl m1 k1 b1 .nil passE.s (pa_cons (pv 1) (pa_cons (pe_fld (pv 0) rfl) pa_nil))))
      (pss_cons (ps_set (i := 2) sc_turns.nd rfl (Or.inr rfl) (pe_ix ix_list (pe_fld (pv 0) rfl) (pv 1) (fun _ _ => rfl)))
      (pss_one (ps_ret (pe_compN (js := [2]) rfl (by kernel_rfl) (pi_range1 rfl T.rng (pa_cons (pe_fld (pv 0) rfl) pa_nil)) (fun _ _ _ _ _ => pf_one (pt_val (pe_ix ixC (pv 1) (pv 0) (fun _ _ => rfl)))) (fun _ _ _ _ _ => pv 0))))), ?_⟩
    refine ⟨_, rfl, _, rfl, p, C, dx, _, _, rfl, Y.ob, T.cl, T.nM, yf_many _ _, a, n, rfl, fun ok => ?_, fun bad => h2 bad⟩
    obtain ⟨q, _, hq, hrow⟩ := Y.row ok.1 ok.2
    refine ⟨_, rfl, p, C, dx, _, _, rfl, Y.ob, T.cl, T.nR, yf_rows _ _, _, rfl, r, _, a, _, rfl, rfl, SqL.of Y.rw, hq, ?_⟩
    refine ⟨_, rfl, p, C, dx, _, _, rfl, Y.ob, T.cl, T.nM, yf_many _ _, n, rfl, rgL, rgU (by assumption), comp_range (n := n) (M a.toNat) (fun j => V.int (0 + j)) (r1000 (by assumption)) (fun j Hc k hj sm q' => ?_) (fun j Hc k hj hp sm q' => ⟨_, rfl, q'⟩) fun D hD => ?_⟩
    · refine ⟨_, rfl, _, rfl, q, _, _, _, rfl, rfl, SqL.of (sm _ _ hrow), atI_of (by omega) ?_, _, rfl, q'⟩
      rw [tn0 j]
      exact rowV_at _ hj
    · have e : (fun j : Nat => V.int (0 + (j : Int))) = fun j : Nat => V.int j := by funext j; rw [Int.zero_add]
      rw [e]
      exact h1 ok D hD
/-! ### put_tie -/
def spPut (C : Addr) : Sp := fun vs H Q _ => ∃ (p dx r : Addr) (qs : List Addr) (n : Nat) (M : Nat → Nat → Bool) (a b : Int) (v : Bool), vs = [.ref p, .int a, .int b, .bl v] ∧ YardAt C H p dx r qs n M ∧ okL n a ∧ okL n b ∧ a ≠ b ∧
  ∀ H', YardAt C H' p dx r qs n (put2 M a.toNat b.toNat v) → (∀ c o, H c = some o → c ∉ qs → H' c = some o) → Q .non H'
theorem sc_put_tie : FnScope ["self", "one", "other", "answer"] ["self", "one", "other", "answer"] (defScope s_put_tie) := ⟨rfl, rfl, rfl, by decide +kernel, rfl, by decide +kernel, by decide +kernel⟩
theorem ok_put_tie {f : Addr} {fd : FuncData} (F : Fun K "put_tie" "Yard.put_tie" s_put_tie f fd) (T : YT K mg C NL AL NY TD UT) : FnOk P w K mg base CX0 1 f fd ["self", "one", "other", "answer"] (spPut C) := by
  refine F.ok sc_put_tie (fun vs H Q E h => ?_) (fun cdv A outer s H vs Q E hr h => ?_)
  · obtain ⟨p, dx, r, qs, n, M, a, b, v, rfl, _⟩ := h
    rfl
  · obtain ⟨p, dx, r, qs, n, M, a, b, v, rfl, Y, ha, hb, hab, k⟩ := h
    refine ⟨_, pss_cons (ps_asg (pv 3) (pg_sub (pe_ix ix_list (pe_fld (pv 0) rfl) (pv 1) (fun _ _ => rfl)) (pv 2) set_list))
      (pss_one (ps_asg (pv 3) (pg_sub (pe_ix ix_list (pe_fld (pv 0) rfl) (pv 2) (fun _ _ => rfl)) (pv 1) set_list))), ?_⟩
    obtain ⟨q1, hq1, hx1, hrow1⟩ := Y.row ha.1 ha.2
    have hlt1 : a.toNat < n := by have := ha.2; have := ha.1; omega
    have hlt2 : b.toNat < n := by have := hb.2; have := hb.1; omega
    have Y1 := Y.put (b := b.toNat) hlt1 v hq1
    obtain ⟨q2, hq2, hx2, hrow2⟩ := Y1.row hb.1 hb.2
    have Y2 := Y1.put (b := a.toNat) hlt2 v hq2
    refine ⟨_, rfl, _, rfl, p, C, dx, _, _, rfl, Y.ob, T.cl, T.nR, yf_rows _ _, _, rfl, r, _, a, _, rfl, rfl, SqL.of Y.rw, hx1, _, rfl, q1, _, b, b.toNat, rfl, rfl, hrow1, (by rw [rowV_len]; exact ixN_of hb.1 hb.2), ?_⟩
    refine ⟨_, rfl, _, rfl, p, C, dx, _, _, rfl, Y1.ob, T.cl, T.nR, yf_rows _ _, _, rfl, r, _, b, _, rfl, rfl, SqL.of Y1.rw, hx2, _, rfl, q2, _, a, a.toNat, rfl, rfl, hrow2, (by rw [rowV_len]; exact ixN_of ha.1 ha.2), ?_⟩
    refine k _ ?_ (fun c o e hc => ?_)
    · have e : (put2 M a.toNat b.toNat v) = (fun i j => if i = b.toNat ∧ j = a.toNat then v else if i = a.toNat ∧ j = b.toNat then v else M i j) := by
        funext i j
        unfold put2
        by_cases c1 : i = b.toNat ∧ j = a.toNat
        · simp [c1]
        · by_cases c2 : i = a.toNat ∧ j = b.toNat
          · simp [c2]
          · simp [c1, c2]
      rw [e]
      exact Y2
    · have n1 : c ≠ q1 := fun z => hc (z ▸ List.mem_of_getElem? hq1)
      have n2 : c ≠ q2 := fun z => hc (z ▸ List.mem_of_getElem? hq2)
      rw [upd_ne n2, upd_ne n1]
      exact e
/-! ### tie, untie -/
def spTie (C NL AL TD : Addr) (v : Bool) : Sp := fun vs H Q E => ∃ (p dx r : Addr) (qs : List Addr) (n : Nat) (M : Nat → Nat → Bool) (a b : Int), vs = [.ref p, .int a, .int b] ∧ YardAt C H p dx r qs n M ∧
  (okL n a ∧ okL n b ∧ a ≠ b ∧ M a.toNat b.toNat = !v → ∀ H', YardAt C H' p dx r qs n (put2 M a.toNat b.toNat v) → (∀ c o, H c = some o → c ∉ qs → H' c = some o) → Q .non H') ∧
  (¬ (okL n a ∧ okL n b) → E (.ref NL) none H) ∧ (okL n a ∧ okL n b ∧ a = b → E (.ref AL) none H) ∧ (okL n a ∧ okL n b ∧ a ≠ b ∧ M a.toNat b.toNat = v → E (.ref TD) none H)
theorem sc_tie : FnScope ["self", "one", "other"] ["self", "one", "other"] (defScope s_tie) := ⟨rfl, rfl, rfl, by decide +kernel, rfl, by decide +kernel, by decide +kernel⟩
theorem ok_tie {f f1 f2 : Addr} {fd fd1 fd2 : FuncData} (F : Fun K "tie" "Yard.tie" s_tie f fd) (T : YT K mg C NL AL NY TD UT) (G : FnOk P w K mg base (CXE P w) 3 f1 fd1 ["self", "one", "other"] (spIsTied C NL AL)) (b1 : Binds K fd1 ["self", "one", "other"] []) (M1 : Meth K C "is_tied" f1)
    (G2 : FnOk P w K mg base CX0 1 f2 fd2 ["self", "one", "other", "answer"] (spPut C)) (b2 : Binds K fd2 ["self", "one", "other", "answer"] []) (M2 : Meth K C "put_tie" f2) : FnOk P w K mg base (CXE P w) 4 f fd ["self", "one", "other"] (spTie C NL AL TD true) := by
  refine F.okE sc_tie (fun vs H Q E h => ?_) (fun cdv A outer s H vs Q E hr h => ?_)
  · obtain ⟨p, dx, r, qs, n, M, a, b, rfl, _⟩ := h
    rfl
  · obtain ⟨p, dx, r, qs, n, M, a, b, rfl, Y, h1, h2, h3, h4⟩ := h
    refine ⟨_, pss_cons (ps_if (pt_val (pe_methS (pv 0) T.cl M1 G hr b1 .nil passE.s (pa_cons (pv 1) (pa_cons (pv 2) pa_nil))))
      (pss_one (ps_raise (R := fun _ H => E (.ref TD) none H) rfl rfl T.td T.xt fun pins σ H s h1 e args I hm hR => raiseE I hm hR)) pss_nil)
      (pss_one (ps_expr (pe_meth (pv 0) T.cl M2 G2 (hr.mono (by decide)) b2 .nil pass0 (pa_cons (pv 1) (pa_cons (pv 2) (pa_cons pe_bl pa_nil)))))), ?_⟩
    refine ⟨_, rfl, p, dx, _, rfl, Y.ob, yf_no _ _ (by decide +kernel) (by decide +kernel), _, rfl, _, rfl, p, dx, r, qs, n, M, a, b, rfl, Y, fun ok => ?_, h2, h3⟩
    refine ⟨_, rfl, ?_⟩
    cases hM : M a.toNat b.toNat with
    | true => exact iteT (h4 ⟨ok.1, ok.2.1, ok.2.2, hM⟩)
    | false => exact iteF ⟨_, rfl, p, dx, _, rfl, Y.ob, yf_no _ _ (by decide +kernel) (by decide +kernel), _, rfl, _, rfl, p, dx, r, qs, n, M, a, b, true, rfl, Y, ok.1, ok.2.1, ok.2.2, fun H' Y' fr => h1 ⟨ok.1, ok.2.1, ok.2.2, hM⟩ H' Y' fr⟩
theorem sc_untie : FnScope ["self", "one", "other"] ["self", "one", "other"] (defScope s_untie) := ⟨rfl, rfl, rfl, by decide +kernel, rfl, by decide +kernel, by decide +kernel⟩
theorem ok_untie {f f1 f2 : Addr} {fd fd1 fd2 : FuncData} (F : Fun K "untie" "Yard.untie" s_untie f fd) (T : YT K mg C NL AL NY TD UT) (G : FnOk P w K mg base (CXE P w) 3 f1 fd1 ["self", "one", "other"] (spIsTied C NL AL)) (b1 : Binds K fd1 ["self", "one", "other"] []) (M1 : Meth K C "is_tied" f1)
    (G2 : FnOk P w K mg base CX0 1 f2 fd2 ["self", "one", "other", "answer"] (spPut C)) (b2 : Binds K fd2 ["self", "one", "other", "answer"] []) (M2 : Meth K C "put_tie" f2) : FnOk P w K mg base (CXE P w) 4 f fd ["self", "one", "other"] (spTie C NL AL UT false) := by
  refine F.okE sc_untie (fun vs H Q E h => ?_) (fun cdv A outer s H vs Q E hr h => ?_)
  · obtain ⟨p, dx, r, qs, n, M, a, b, rfl, _⟩ := h
    rfl
  · obtain ⟨p, dx, r, qs, n, M, a, b, rfl, Y, h1, h2, h3, h4⟩ := h
    refine ⟨_, pss_cons (ps_if (pt_not (pt_val (pe_methS (pv 0) T.cl M1 G hr b1 .nil passE.s (pa_cons (pv 1) (pa_cons (pv 2) pa_nil)))))
      (pss_one (ps_raise (R := fun _ H => E (.ref UT) none H) rfl rfl T.ut T.xu fun pins σ H s h1 e args I hm hR => raiseE I hm hR)) pss_nil)
      (pss_one (ps_expr (pe_meth (pv 0) T.cl M2 G2 (hr.mono (by decide)) b2 .nil pass0 (pa_cons (pv 1) (pa_cons (pv 2) (pa_cons pe_bl pa_nil)))))), ?_⟩
    refine ⟨_, rfl, p, dx, _, rfl, Y.ob, yf_no _ _ (by decide +kernel) (by decide +kernel), _, rfl, _, rfl, p, dx, r, qs, n, M, a, b, rfl, Y, fun ok => ?_, h2, h3⟩
    refine ⟨_, rfl, ?_⟩
    cases hM : M a.toNat b.toNat with
    | false => exact iteT (h4 ⟨ok.1, ok.2.1, ok.2.2, hM⟩)
    | true => exact iteF ⟨_, rfl, p, dx, _, rfl, Y.ob, yf_no _ _ (by decide +kernel) (by decide +kernel), _, rfl, _, rfl, p, dx, r, qs, n, M, a, b, false, rfl, Y, ok.1, ok.2.1, ok.2.2, fun H' Y' fr => h1 ⟨ok.1, ok.2.1, ok.2.2, hM⟩ H' Y' fr⟩
/-! ### set_shy -/
def spShy (C NL : Addr) : Sp := fun vs H Q E => ∃ (p dx r : Addr) (qs : List Addr) (n : Nat) (M : Nat → Nat → Bool) (a : Int) (v : Bool), vs = [.ref p, .int a, .bl v] ∧ YardAt C H p dx r qs n M ∧
  (okL n a → ∀ H', YardAt C H' p dx r qs n (putD M a.toNat (!v)) → (∀ c o, H c = some o → c ∉ qs → H' c = some o) → Q .non H') ∧ (¬ okL n a → E (.ref NL) none H)
theorem sc_set_shy : FnScope ["self", "lamp", "answer"] ["self", "lamp", "answer"] (defScope s_set_shy) := ⟨rfl, rfl, rfl, by decide +kernel, rfl, by decide +kernel, by decide +kernel⟩
theorem ok_set_shy {f f1 : Addr} {fd fd1 : FuncData} (F : FunD K "set_shy" "Yard.set_shy" s_set_shy f fd [.bool true]) (T : YT K mg C NL AL NY TD UT) (G : FnOk P w K mg base (CXE P w) 1 f1 fd1 ["lamp", "many"] (spCheck NL)) (b1 : Binds K fd1 ["lamp", "many"] [])
    (m1 : mg "check_lamp" = some (.ref f1)) (k1 : PySem.W.keepIn K (.ref f1) = true) : FnOk P w K mg base (CXE P w) 2 f fd ["self", "lamp", "answer"] (spShy C NL) := by
  refine F.okE sc_set_shy (fun vs H Q E h => ?_) (fun cdv A outer s H vs Q E hr h => ?_)
  · obtain ⟨p, dx, r, qs, n, M, a, v, rfl, _⟩ := h
    rfl
  · obtain ⟨p, dx, r, qs, n, M, a, v, rfl, Y, h1, h2⟩ := h
    refine ⟨_, pss_cons (ps_expr (pe_callS G hr rfl m1 k1 b1 .nil passE.s (pa_cons (pv 1) (pa_cons (pe_fld (pv 0) rfl) pa_nil))))
      (pss_one (ps_asg (pe_not (pv 2)) (pg_sub (pe_ix ix_list (pe_fld (pv 0) rfl) (pv 1) (fun _ _ => rfl)) (pv 1) set_list))), ?_⟩
    refine ⟨_, rfl, _, rfl, p, C, dx, _, _, rfl, Y.ob, T.cl, T.nM, yf_many _ _, a, n, rfl, fun ok => ?_, h2⟩
    obtain ⟨q, hq, hx, hrow⟩ := Y.row ok.1 ok.2
    have hlt : a.toNat < n := by have := ok.2; have := ok.1; omega
    refine ⟨_, rfl, _, rfl, _, rfl, p, C, dx, _, _, rfl, Y.ob, T.cl, T.nR, yf_rows _ _, _, rfl, r, _, a, _, rfl, rfl, SqL.of Y.rw, hx, _, rfl, q, _, a, a.toNat, rfl, rfl, hrow, (by rw [rowV_len]; exact ixN_of ok.1 ok.2), ?_⟩
    refine h1 ok _ (Y.put (b := a.toNat) hlt (!v) hq) (fun c o e hc => ?_)
    have n1 : c ≠ q := fun z => hc (z ▸ List.mem_of_getElem? hq)
    rw [upd_ne n1]
    exact e
theorem two_of {l : List Value} (h : l.length = 2) : ∃ a b, l = [a, b] := by
  cases l with
  | nil => cases h
  | cons a l =>
    cases l with
    | nil => cases h
    | cons b l =>
      cases l with
      | nil => exact ⟨a, b, rfl⟩
      | cons c l => cases h
theorem three_of {l : List Value} (h : l.length = 3) : ∃ a b c, l = [a, b, c] := by
  cases l with
  | nil => cases h
  | cons a l =>
    obtain ⟨b, c, rfl⟩ := two_of (Nat.succ.inj h)
    exact ⟨a, b, c, rfl⟩
theorem binds_shy2 {f : Addr} {fd : FuncData} (F : FunD K "set_shy" "Yard.set_shy" s_set_shy f fd [.bool true]) : Binds K fd ["self", "lamp", "answer"] [.bool true] := by
  obtain ⟨oc, od, T, kV, doc, pm, an, cdv, ct, osl, ot, nt, rfl, lk, hcd, lT, hd⟩ := F.ex
  intro s us X hl
  have hl' : us.length = 2 := by
    rw [List.length_append] at hl
    have h1 : ([Value.bool true] : List Value).length = 1 := rfl
    have h2 : (["self", "lamp", "answer"] : List Str).length = 3 := rfl
    omega
  obtain ⟨u1, u2, rfl⟩ := two_of hl'
  exact PySem.W.binds_K X rfl lT hd rfl rfl
theorem binds_shy3 {f : Addr} {fd : FuncData} (F : FunD K "set_shy" "Yard.set_shy" s_set_shy f fd [.bool true]) : Binds K fd ["self", "lamp", "answer"] [] := by
  obtain ⟨oc, od, T, kV, doc, pm, an, cdv, ct, osl, ot, nt, rfl, lk, hcd, lT, hd⟩ := F.ex
  intro s us X hl
  rw [List.append_nil] at hl ⊢
  obtain ⟨u1, u2, u3, rfl⟩ := three_of hl
  exact PySem.W.binds_K X rfl lT hd rfl rfl
end
end Lp

/-! ## pressing -/
namespace Lp
open PySem L2 Lamp
abbrev s_turned : Stmt := (.Pass ⟨0, 0, 0, 0⟩)
abbrev s_pressed : Stmt := (.Pass ⟨0, 0, 0, 0⟩)
def natV (os : List Nat) : List V := os.map fun j : Nat => V.int (j : Int)
theorem natV_flat (os : List Nat) : (natV os).all flatV = true := by simp [natV, flatV]
theorem inV_nat (os : List Nat) (i : Nat) : inV (.int i) (natV os) = os.contains i := by
  unfold inV natV
  rw [Bool.eq_iff_iff]
  simp [eqV]
  constructor
  · rintro ⟨a, ha, e⟩
    have e' : a = i := by omega
    rw [← e']; exact ha
  · intro h
    exact ⟨i, h, rfl⟩
theorem rowV_flat (n : Nat) (f : Nat → Bool) : (rowV n f).all flatV = true := by simp [rowV, flatV]
section
variable {P : Program} {w : World} {K : PySem.W.Frag} {mg : Str → Option Value} {base : Heap} {C NL : Addr}
/-! ### turned -/
/-! ### pressed -/
end
end Lp

/-! ## the law's own draws -/
namespace Lp
open PySem L2 Lamp
abbrev s_cell : Stmt := top 26
abbrev s_mix : Stmt := top 27
abbrev s_many : Stmt := top 28
abbrev s_drawn : Stmt := top 29
def cellF (ns : List Int) (k : Int) : Int := if k < ns.length then ns.getD k.toNat 0 else 0
def mix1 (c k : Int) : Int := (c + 7919 * (k + 3)) % 2147483647
def mix2 (c k : Int) : Int := (mix1 c k * mix1 c k + 104729 * k + 5) % 2147483629
def mixF (c k : Int) : Int := mix2 c k * mix2 c k % 2147483587
def manyF (c : Int) : Int := if c % 4 = 3 then 1 + c / 4 % 24 else 1 + c / 4 % 10
theorem manyF_ok (c : Int) : 1 ≤ manyF c ∧ manyF c ≤ 24 := by
  unfold manyF
  split <;> omega
theorem mix1_ok (c k : Int) : -(2 ^ 64) < mix1 c k ∧ mix1 c k < 2 ^ 64 := by
  unfold mix1
  omega
theorem mix2_ok (c k : Int) : -(2 ^ 64) < mix2 c k ∧ mix2 c k < 2 ^ 64 := by
  unfold mix2
  omega
section
variable {P : Program} {w : World} {K : PySem.W.Frag} {mg : Str → Option Value} {base : Heap}
def spCell (K : PySem.W.Frag) : Sp := fun vs H Q _ => ∃ (a : Addr) (ns : List Int) (k : Int), vs = [.ref a, .int k] ∧ 0 ≤ k ∧ SqL K H a (ns.map V.int) ∧ Q (.int (cellF ns k)) H
theorem sc_cell : FnScope ["script", "k"] ["script", "k"] (defScope s_cell) := ⟨rfl, rfl, rfl, by decide +kernel, rfl, by decide +kernel, by decide +kernel⟩
theorem ok_cell {f : Addr} {fd : FuncData} (F : Fun K "_law_cell_at" "_law_cell_at" s_cell f fd) (T : LB mg) : FnOk P w K mg base CX0 1 f fd ["script", "k"] (spCell K) := by
  refine F.ok sc_cell (fun vs H Q E h => ?_) (fun cdv A outer s H vs Q E hr h => ?_)
  · obtain ⟨a, ns, k, rfl, _⟩ := h
    rfl
  · obtain ⟨a, ns, k, rfl, hk, hs, q⟩ := h
    refine ⟨_, pss_cons (ps_if (pt_cmpR op_lt (pv 1) (pe_callB call_len_seq rfl T.b_len PySem.boot_len (pa_cons (pv 0) pa_nil)) (nomark _)) (pss_one (ps_ret (pe_ix ix_list (pv 0) (pv 1) (fun _ _ => rfl)))) pss_nil) (pss_one (ps_ret pe_int)), ?_⟩
    refine ⟨_, rfl, _, rfl, a, _, rfl, .inl hs, _, _, rfl, rfl, _, rfl, ?_⟩
    refine ite2 (fun c => ?_) (fun c => ?_)
    · have c' : k < ns.length := by
        have := of_decide_eq_true c
        rwa [List.length_map] at this
      refine ⟨_, rfl, _, rfl, a, _, k, .int (cellF ns k), rfl, rfl, hs, atI_of hk ?_, q⟩
      have hlt : k.toNat < ns.length := by omega
      unfold cellF
      rw [if_pos c', List.getElem?_map, List.getD_eq_getElem?_getD]
      simp [hlt]
    · have c' : ¬ k < ns.length := fun z => c (decide_eq_true (by rw [List.length_map]; exact z))
      have e : cellF ns k = 0 := by unfold cellF; rw [if_neg c']
      rw [e] at q
      exact q
def spMix : Sp := fun vs H Q _ => ∃ c k : Int, vs = [.int c, .int k] ∧ Q (.int (mixF c k)) H
theorem sc_mix : FnScope ["cell", "k", "seed"] ["cell", "k"] (defScope s_mix) := ⟨rfl, rfl, rfl, by decide +kernel, rfl, by decide +kernel, by decide +kernel⟩
theorem ok_mix {f : Addr} {fd : FuncData} (F : Fun K "_law_mix" "_law_mix" s_mix f fd) : FnOk P w K mg base CX0 1 f fd ["cell", "k"] spMix := by
  refine F.ok sc_mix (fun vs H Q E h => ?_) (fun cdv A outer s H vs Q E hr h => ?_)
  · obtain ⟨c, k, rfl, _⟩ := h
    rfl
  · obtain ⟨c, k, rfl, q⟩ := h
    refine ⟨_, pss_cons (ps_set (i := 2) sc_mix.nd rfl (Or.inl rfl) (pe_op op_mod (pe_op op_add (pv 0) (pe_op op_mul pe_int (pe_op op_add (pv 1) pe_int))) pe_int))
      (pss_cons (ps_set (i := 2) sc_mix.nd rfl (Or.inl rfl) (pe_op op_mod (pe_op op_add (pe_op op_add (pe_op op_mul (pv 2) (pv 2)) (pe_op op_mul pe_int (pv 1))) pe_int) pe_int))
      (pss_one (ps_ret (pe_op op_mod (pe_op op_mul (pv 2) (pv 2)) pe_int)))), ?_⟩
    refine ⟨_, rfl, _, rfl, _, _, rfl, rfl, _, _, rfl, rfl, .inl ⟨by decide, by decide⟩, _, _, rfl, rfl, _, _, rfl, rfl, posI rfl, ?_⟩
    refine ⟨_, rfl, _, rfl, mix1 c k, mix1 c k, rfl, rfl, .inl (mix1_ok c k), _, rfl, _, _, rfl, rfl, .inl ⟨by decide, by decide⟩, _, _, rfl, rfl, _, _, rfl, rfl, _, _, rfl, rfl, posI rfl, ?_⟩
    exact ⟨_, rfl, _, rfl, mix2 c k, mix2 c k, rfl, rfl, .inl (mix2_ok c k), _, _, rfl, rfl, posI rfl, q⟩
def spMany : Sp := fun vs H Q _ => ∃ c : Int, vs = [.int c] ∧ Q (.int (manyF c)) H
theorem sc_many : FnScope ["cell"] ["cell"] (defScope s_many) := ⟨rfl, rfl, rfl, by decide +kernel, rfl, by decide +kernel, by decide +kernel⟩
theorem ok_many {f : Addr} {fd : FuncData} (F : Fun K "_law_many" "_law_many" s_many f fd) : FnOk P w K mg base CX0 1 f fd ["cell"] spMany := by
  refine F.ok sc_many (fun vs H Q E h => ?_) (fun cdv A outer s H vs Q E hr h => ?_)
  · obtain ⟨c, rfl, _⟩ := h
    rfl
  · obtain ⟨c, rfl, q⟩ := h
    refine ⟨_, pss_cons (ps_if (pt_cmpR op_eq (pe_op op_mod (pv 0) pe_int) pe_int (nomark _)) (pss_one (ps_ret (pe_op op_add pe_int (pe_op op_mod (pe_op op_fdiv (pv 0) pe_int) pe_int)))) pss_nil)
      (pss_one (ps_ret (pe_op op_add pe_int (pe_op op_mod (pe_op op_fdiv (pv 0) pe_int) pe_int)))), ?_⟩
    refine ⟨_, rfl, _, _, rfl, rfl, posI rfl, rfl, _, rfl, ?_⟩
    refine ite2 (fun z => ?_) (fun z => ?_)
    · have z' : c % 4 = 3 := by
        have := of_decide_eq_true z
        exact V.int.inj this
      unfold manyF at q
      rw [if_pos z'] at q
      exact ⟨_, rfl, _, _, rfl, rfl, ⟨by decide, by decide⟩, _, _, rfl, rfl, posI rfl, _, _, rfl, rfl, q⟩
    · have z' : ¬ c % 4 = 3 := fun y => z (decide_eq_true (congrArg V.int y))
      unfold manyF at q
      rw [if_neg z'] at q
      exact ⟨_, rfl, _, _, rfl, rfl, ⟨by decide, by decide⟩, _, _, rfl, rfl, posI rfl, _, _, rfl, rfl, q⟩
end
structure TiesP (H : Hp) (lt : Addr) (zs : List (Addr × Nat × Nat)) (p : Nat → Nat → Prop) : Prop where
  top : H lt = some (.lst (zs.map fun z => V.ref z.1))
  at_ : ∀ z ∈ zs, H z.1 = some (.tup [.int (z.2.1 : Int), .int (z.2.2 : Int)])
  nd : (zs.map (·.2)).Nodup
  ok : ∀ z ∈ zs, z.2.1 < z.2.2 ∧ p z.2.1 z.2.2
abbrev TiesAt (H : Hp) (lt : Addr) (zs : List (Addr × Nat × Nat)) (n : Nat) : Prop := TiesP H lt zs fun _ b => b < n
theorem TiesP.same {H H' : Hp} {lt : Addr} {zs : List (Addr × Nat × Nat)} {p : Nat → Nat → Prop} (T : TiesP H lt zs p) (s : Same H H') : TiesP H' lt zs p := ⟨s _ _ T.top, fun z hz => s _ _ (T.at_ z hz), T.nd, T.ok⟩
theorem TiesP.mono {H : Hp} {lt : Addr} {zs : List (Addr × Nat × Nat)} {p q : Nat → Nat → Prop} (T : TiesP H lt zs p) (h : ∀ a b, p a b → q a b) : TiesP H lt zs q := ⟨T.top, T.at_, T.nd, fun z hz => ⟨(T.ok z hz).1, h _ _ (T.ok z hz).2⟩⟩
theorem TiesP.push {H : Hp} {lt t : Addr} {zs : List (Addr × Nat × Nat)} {p q : Nat → Nat → Prop} {a b : Nat} (T : TiesP H lt zs p) (ht : H t = none) (hab : a < b) (hn : ¬ p a b) (hpq : ∀ x y, p x y → q x y) (hq : q a b) :
    TiesP (upd (upd H t (.tup [.int (a : Int), .int (b : Int)])) lt (.lst ((zs.map fun z => V.ref z.1) ++ [.ref t]))) lt (zs ++ [(t, a, b)]) q := by
  have nlt : lt ≠ t := ne_of_none T.top ht
  refine ⟨by rw [upd_same]; simp, fun z hz => ?_, ?_, fun z hz => ?_⟩
  · rcases List.mem_append.mp hz with hz | hz
    · have h := T.at_ z hz
      have n1 : z.1 ≠ lt := ne_of h T.top (by intro e; cases e)
      rw [upd_ne n1, upd_ne (ne_of_none h ht)]
      exact h
    · have e : z = (t, a, b) := by simpa using hz
      subst e
      rw [upd_ne nlt.symm, upd_same]
  · rw [List.map_append, List.nodup_append]
    refine ⟨T.nd, by simp, fun x hx y hy => ?_⟩
    have hy' : y = (a, b) := by simpa using hy
    rw [hy']
    rintro rfl
    obtain ⟨z, hz, e⟩ := List.mem_map.mp hx
    have := (T.ok z hz).2
    rw [e] at this
    exact hn this
  · rcases List.mem_append.mp hz with hz | hz
    · exact ⟨(T.ok z hz).1, hpq _ _ (T.ok z hz).2⟩
    · have e : z = (t, a, b) := by simpa using hz
      subst e
      exact ⟨hab, hq⟩
theorem atI_ints {xs : List Int} {m : Int} (h0 : 0 ≤ m) (h : m < xs.length) : atI (xs.map V.int) m = some (.int (xs.getD m.toNat 0)) := by
  refine atI_of h0 ?_
  have hl : m.toNat < xs.length := by omega
  rw [List.getElem?_map, List.getD_eq_getElem?_getD]
  simp [hl]
theorem rowV_comp (n : Nat) (f : Nat → Bool) : ((List.range n).filter (fun _ => true)).map (fun j => V.bl (f j)) = rowV n f := by
  rw [filt_t, rowV, rowL, List.map_map]
  rfl
section
variable {P : Program} {w : World} {K : PySem.W.Frag} {mg : Str → Option Value} {base : Heap}
def spDrawn (K : PySem.W.Frag) : Sp := fun vs H Q _ => ∃ (a : Addr) (ns : List Int), vs = [.ref a] ∧ SqL K H a (ns.map V.int) ∧ ∀ (t lt ls : Addr) (zs : List (Addr × Nat × Nat)) (n : Nat) (f : Nat → Bool) (H' : Hp), Same H H' → 1 ≤ n → n ≤ 24 →
  H' t = some (.tup [.int (n : Int), .ref lt, .ref ls]) → TiesAt H' lt zs n → zs.length ≤ 600 → H' ls = some (.lst (rowV n f)) → H lt = none → H ls = none → Q (.ref t) H'
def spDrawnN (K : PySem.W.Frag) : Sp := fun vs H Q _ => ∃ (a : Addr) (ns : List Int), vs = [.ref a] ∧ SqL K H a (ns.map V.int) ∧ ∀ (t lt ls : Addr) (zs : List (Addr × Nat × Nat)) (n : Nat) (f : Nat → Bool) (H' : Hp), Same H H' → 1 ≤ n → n ≤ 24 →
  H' t = some (.tup [.int (n : Int), .ref lt, .ref ls]) → TiesAt H' lt zs n → zs.length ≤ 600 → H' ls = some (.lst (rowV n f)) → H lt = none → H ls = none → (n : Int) = manyF (cellF ns 0) → Q (.ref t) H'
theorem fn_weaken {CX : CXT} {k : Nat} {f : Addr} {fd : FuncData} {ps : List Str} {sp sp' : Sp} (F : FnOk P w K mg base CX k f fd ps sp') (h : ∀ vs H Q E, sp vs H Q E → sp' vs H Q E) : FnOk P w K mg base CX k f fd ps sp :=
  ⟨fun vs H Q E x => F.len _ _ _ _ (h _ _ _ _ x), fun A outer s H args us vs Q E hr e0 hb r x => F.run A outer s H args us vs Q E hr e0 hb r (h _ _ _ _ x)⟩
theorem sc_drawn : FnScope ["script", "many", "much", "ties", "other", "one", "drawn", "shy"] ["script"] (defScope s_drawn) := ⟨rfl, rfl, rfl, by decide +kernel, rfl, by decide +kernel, by decide +kernel⟩
theorem ok_drawnN {f : Addr} {fd : FuncData} (F : Fun K "_law_drawn" "_law_drawn" s_drawn f fd) (T : LB mg) (hC : Has P w K mg base CX0 1 "_law_cell_at" ["script", "k"] (spCell K)) (hM : Has P w K mg base CX0 1 "_law_many" ["cell"] spMany) (hX : Has P w K mg base CX0 1 "_law_mix" ["cell", "k"] spMix) :
    FnOk P w K mg base CX0 2 f fd ["script"] (spDrawnN K) := by
  refine F.ok sc_drawn (fun vs H Q E h => ?_) (fun cdv A outer s H vs Q E hr h => ?_)
  · obtain ⟨a, ns, rfl, _⟩ := h
    rfl
  · obtain ⟨a, ns, rfl, hs, k⟩ := h
    refine ⟨_, (L2.pss_cons (ps_set (i := 1) sc_drawn.nd rfl (Or.inl rfl) (pe_callH hM hr rfl pass0S (E := fun _ => E0) (L2.pa_cons (pe_callH hC hr rfl pass0S (E := fun _ => E0) (L2.pa_cons (pv 0) (L2.pa_cons (pe_int) L2.pa_nil))) L2.pa_nil))) (L2.pss_cons (ps_set (i := 2) sc_drawn.nd rfl (Or.inl rfl) (pe_op op_mod (pe_callH hC hr rfl pass0S (E := fun _ => E0) (L2.pa_cons (pv 0) (L2.pa_cons (pe_int) L2.pa_nil))) pe_int)) (L2.pss_cons (ps_set (i := 3) sc_drawn.nd rfl (Or.inl rfl) (pe_lst L2.pa_nil)) (L2.pss_cons (ps_for PassesOwn.never rfl (pi_range1 rfl T.b_range (L2.pa_cons (pv 1) L2.pa_nil)) (pg_name (i := 4) sc_drawn.nd rfl (Or.inl rfl)) (L2.pss_one (ps_for PassesOwn.never rfl (pi_range1 rfl T.b_range (L2.pa_cons (pv 4) L2.pa_nil)) (pg_name (i := 5) sc_drawn.nd rfl (Or.inl rfl)) (L2.pss_cons (ps_set (i := 6) sc_drawn.nd rfl (Or.inl rfl) (pe_op op_fdiv (pe_callH hX hr rfl pass0S (E := fun _ => E0) (L2.pa_cons (pe_op op_add (pe_callH hC hr rfl pass0S (E := fun _ => E0) (L2.pa_cons (pv 0) (L2.pa_cons (pe_op op_add pe_int (pe_op op_mod (pv 4) pe_int)) L2.pa_nil))) (pe_op op_mul pe_int (pv 4))) (L2.pa_cons (pv 5) L2.pa_nil))) pe_int)) (L2.pss_one (ps_if (pt_cmpR op_lt (pe_op op_mod (pv 6) pe_int) (pe_ix ix_list (pe_lst (L2.pa_cons (pe_int) (L2.pa_cons (pe_int) (L2.pa_cons (pe_int) (L2.pa_cons (pe_int) (L2.pa_cons (pe_int) L2.pa_nil)))))) (pv 2) (fun _ _ => rfl)) (nomark _))
            (L2.pss_one (ps_expr (pe_bm PySem.F.plainAttrs_list PySem.F.slot_list_append PySem.F.type_list_append mt_append (pv 3) (L2.pa_cons (pe_tup (L2.pa_cons (pv 5) (L2.pa_cons (pv 4) L2.pa_nil))) L2.pa_nil)))) pss_nil)))))) (L2.pss_cons (ps_compN (i := 7) (js := []) sc_drawn.nd rfl (Or.inl rfl) rfl (by kernel_rfl) (pi_range1 rfl T.b_range (L2.pa_cons (pv 1) L2.pa_nil)) (fun _ _ _ _ _ => pf_nil) (fun _ _ _ _ _ => pe_bl)) (L2.pss_cons (ps_if (pt_cmpR op_eq (pe_op op_mod (pe_op op_fdiv (pe_callH hC hr rfl pass0S (E := fun _ => E0) (L2.pa_cons (pv 0) (L2.pa_cons (pe_int) L2.pa_nil))) pe_int) pe_int) pe_int (nomark _))
        (L2.pss_one (ps_compN (i := 7) (js := [0]) sc_drawn.nd rfl (Or.inl rfl) rfl (by kernel_rfl) (pi_range1 rfl T.b_range (L2.pa_cons (pv 1) L2.pa_nil)) (fun _ _ _ _ _ => pf_nil)
          (fun _ _ _ _ _ => pe_cmpR op_eq (pe_op op_mod (pe_op op_fdiv (pe_callH hX hr rfl pass0S (E := fun _ => E0) (L2.pa_cons (pe_callH hC hr rfl pass0S (E := fun _ => E0) (L2.pa_cons (pv 1) (L2.pa_cons (pe_int) L2.pa_nil))) (L2.pa_cons (pv 0) L2.pa_nil))) pe_int) pe_int) pe_int (nomark _)))) pss_nil) (L2.pss_one (ps_ret (pe_tup (L2.pa_cons (pv 1) (L2.pa_cons (pv 3) (L2.pa_cons (pv 7) L2.pa_nil)))))))))))), ?_⟩
    obtain ⟨m1, m2⟩ := manyF_ok (cellF ns 0)
    generalize hN : manyF (cellF ns 0) = N at m1 m2
    have en : ((N.toNat : Nat) : Int) = N := by omega
    refine ⟨_, rfl, a, ns, 0, rfl, by decide, hs, _, rfl, ?_⟩
    rw [hN]
    refine ⟨_, rfl, a, ns, 1, rfl, by decide, hs, _, _, rfl, rfl, posI rfl, ?_⟩
    have u1 : 0 ≤ cellF ns 1 % 5 := by omega
    have u2 : cellF ns 1 % 5 < 5 := by omega
    refine ⟨Nat.zero_le _, fun lt hlt => ?_⟩
    have s0 : Same H (upd H lt (.lst [])) := Same.laid hlt
    refine ⟨_, rfl, N, rfl, by omega, by omega, for_range (lo := 0) (n := N.toNat) (fun i σ H2 => ∃ (zs : List (Addr × Nat × Nat)) (v4 v5 v6 : Option V), σ = [some (.ref a), some (.int N), some (.int (cellF ns 1 % 5)), some (.ref lt), v4, v5, v6, none] ∧ Same H H2 ∧ TiesP H2 lt zs (fun _ y => y < i) ∧ zs.length ≤ 24 * i)
      ⟨[], none, none, none, rfl, s0, ⟨upd_same, fun z hz => absurd hz List.not_mem_nil, List.nodup_nil, fun z hz => absurd hz List.not_mem_nil⟩, Nat.zero_le _⟩ ?_ ?_⟩
    · rintro i σ H2 hi ⟨zs, v4, v5, v6, rfl, s2, T2, hz⟩
      refine ⟨_, rfl, 0 + (i : Int), rfl, by omega, by omega, for_range (lo := 0) (n := (0 + (i : Int)).toNat) (fun j σ H3 => ∃ (zs : List (Addr × Nat × Nat)) (v5 v6 : Option V), σ = [some (.ref a), some (.int N), some (.int (cellF ns 1 % 5)), some (.ref lt), some (.int (0 + (i : Int))), v5, v6, none] ∧ Same H H3 ∧ TiesP H3 lt zs (fun x y => y < i ∨ (y = i ∧ x < j)) ∧ zs.length ≤ 24 * i + j)
        ⟨zs, v5, v6, rfl, s2, T2.mono fun x y h => .inl h, by omega⟩ ?_ ?_⟩
      · rintro j σ H3 hj ⟨zs, v5, v6, rfl, s3, T3, hz⟩
        have hj' : j < i := by omega
        refine ⟨_, rfl, _, rfl, _, _, rfl, rfl, posI rfl, _, _, rfl, rfl, a, ns, _, rfl, by omega, s3.seq hs, _, rfl, _, _, rfl, rfl, mulL rfl, _, _, rfl, rfl, _, rfl, _, _, rfl, _, _, rfl, rfl, divI rfl, ?_⟩
        refine ⟨_, rfl, _, _, rfl, rfl, posI rfl, (by show 5 ≤ sizeLine; decide), fun p hp => ?_⟩
        refine ⟨_, rfl, p, _, cellF ns 1 % 5, _, rfl, rfl, SqL.of upd_same, atI_ints (xs := [0, 2, 4, 6, 12]) u1 (by simpa using u2), _, _, rfl, rfl, _, rfl, ?_⟩
        have s4 : Same H3 (upd H3 p (.lst [.int 0, .int 2, .int 4, .int 6, .int 12])) := Same.laid hp
        have T4 := T3.same s4
        refine ite2 (fun c => ?_) (fun c => ?_)
        · refine ⟨_, rfl, .inl ⟨rfl, _, SqL.of T4.top⟩, _, rfl, _, rfl, (by show 2 ≤ sizeLine; decide), fun t ht => ?_⟩
          have nlt : lt ≠ t := ne_of_none T4.top ht
          refine ⟨lt, _, _, rfl, rfl, (by rw [upd_ne nlt]; exact T4.top), small1000 (by rw [List.length_map]; omega), ?_⟩
          rw [show V.int (0 + (j : Int)) = V.int (j : Int) by rw [Int.zero_add], show V.int (0 + (i : Int)) = V.int (i : Int) by rw [Int.zero_add]]
          refine ⟨zs ++ [(t, j, i)], _, _, rfl, fun b o e => ?_, T4.push ht hj' (by omega) (fun x y h => by omega) (by omega), by simp; omega⟩
          rw [upd_ne (ne_of_none e hlt), upd_ne (ne_of_none (s4 _ _ (s3 _ _ e)) ht)]
          exact s4 _ _ (s3 _ _ e)
        · exact ⟨zs, _, _, rfl, s3.trans s4, T4.mono (fun x y h => by omega), by omega⟩
      · rintro σ H3 ⟨zs, v5, v6, rfl, s3, T3, hz⟩
        exact ⟨zs, _, v5, v6, rfl, s3, ⟨T3.top, T3.at_, T3.nd, fun z hz => ⟨(T3.ok z hz).1, by
          have h1 := (T3.ok z hz).1
          have h2 := (T3.ok z hz).2
          omega⟩⟩, by omega⟩
    · rintro σ H2 ⟨zs, v4, v5, v6, rfl, s2, T2, hz⟩
      have fin : ∀ (ls : Addr) (g : Nat → Bool) (H3 : Hp), Same H2 H3 → H3 ls = some (.lst (rowV N.toNat g)) → H2 ls = none → ∀ p, H3 p = none → Q (.ref p) (upd H3 p (.tup [.int N, .ref lt, .ref ls])) := fun ls g H3 s3 hls nls p hp => by
        have s4 : Same H3 (upd H3 p (.tup [.int N, .ref lt, .ref ls])) := Same.laid hp
        refine k p lt ls zs N.toNat g _ ((s2.trans s3).trans s4) (by omega) (by omega) (by rw [upd_same, en]) ((T2.same s3).same s4) (by omega) (s4 _ _ hls) hlt (s2.free nls) (by rw [en, hN])
      refine ⟨_, rfl, N, rfl, by omega, by omega, comp_range (n := N.toNat) (fun _ => true) (fun _ => V.bl false) (by omega) (fun j Hc k _ _ q => q) (fun j Hc k _ _ _ q => q) fun ls hls => ?_⟩
      rw [show ((List.range N.toNat).filter (fun _ => true)).map (fun _ => V.bl false) = rowV N.toNat (fun _ => false) from rowV_comp _ _]
      have s3 : Same H2 (upd H2 ls (.lst (rowV N.toNat fun _ => false))) := Same.laid hls
      refine ⟨_, rfl, a, ns, 1, rfl, by decide, (s2.trans s3).seq hs, _, _, rfl, rfl, divI rfl, _, _, rfl, rfl, posI rfl, rfl, _, rfl, ?_⟩
      refine ite2 (fun c => ?_) (fun c => ?_)
      · refine ⟨_, rfl, N, rfl, by omega, by omega, comp_range (n := N.toNat) (fun _ => true) (fun j => V.bl (decide (V.int (mixF (cellF ns 10) (0 + (j : Int)) / 7 % 3) = V.int 0))) (by omega) (fun j Hc k _ _ q => q) (fun j Hc k _ _ sm q => ?_) fun l2 hl2 => ?_⟩
        · exact ⟨_, rfl, a, ns, 10, rfl, by decide, ((s2.trans s3).trans sm).seq hs, _, rfl, _, _, rfl, _, _, rfl, rfl, divI rfl, _, _, rfl, rfl, posI rfl, rfl, q⟩
        · rw [rowV_comp]
          exact ⟨_, rfl, _, rfl, _, rfl, (by show 3 ≤ sizeLine; decide), fin l2 _ _ (s3.trans (Same.laid hl2)) upd_same (s3.free hl2)⟩
      · exact ⟨_, rfl, _, rfl, _, rfl, (by show 3 ≤ sizeLine; decide), fin ls _ _ s3 upd_same hls⟩
theorem ok_drawn {f : Addr} {fd : FuncData} (F : Fun K "_law_drawn" "_law_drawn" s_drawn f fd) (T : LB mg) (hC : Has P w K mg base CX0 1 "_law_cell_at" ["script", "k"] (spCell K)) (hM : Has P w K mg base CX0 1 "_law_many" ["cell"] spMany) (hX : Has P w K mg base CX0 1 "_law_mix" ["cell", "k"] spMix) :
    FnOk P w K mg base CX0 2 f fd ["script"] (spDrawn K) := fn_weaken (ok_drawnN F T hC hM hX) fun vs H Q E ⟨a, ns, e, hs, k⟩ => ⟨a, ns, e, hs, fun t lt ls zs n f H' h1 h2 h3 h4 h5 h6 h7 h8 h9 _ => k t lt ls zs n f H' h1 h2 h3 h4 h5 h6 h7 h8 h9⟩
end
end Lp

/-! ## the law's own yard, its turns, lights and presses -/
namespace Lp
open PySem L2 Lamp
abbrev s_built : Stmt := top 30
theorem YardAt.congr {C : Addr} {H : Hp} {p dx r : Addr} {qs : List Addr} {n : Nat} {M N : Nat → Nat → Bool} (Y : YardAt C H p dx r qs n M) (h : ∀ i j, i < n → j < n → M i j = N i j) : YardAt C H p dx r qs n N :=
  ⟨Y.ob, Y.rw, Y.ln, Y.nd, fun i q e => by
    have hi : i < n := by rw [← Y.ln]; exact (List.getElem?_eq_some_iff.mp e).1
    rw [Y.at_ i q e, rowV_congr fun j hj => h i j hi hj]⟩
def Left (qs : List Addr) (H H' : Hp) : Prop := ∀ c o, H c = some o → c ∉ qs → H' c = some o
theorem Left.same {qs : List Addr} {H0 H H' : Hp} (l : Left qs H H') (s : Same H0 H) (fr : ∀ q ∈ qs, H0 q = none) : Same H0 H' := fun b o e => l b o (s b o e) fun z => by
  rw [fr b z] at e
  cases e
theorem tie_facts {ts : List (Nat × Nat)} {g : Nat → Bool} {x y n a b : Nat} (ho : a = x ∧ b = y ∨ a = y ∧ b = x) (hxy : x < y) (hy : y < n) (h1 : (x, y) ∉ ts) (h2 : (y, x) ∉ ts) :
    okL n (a : Int) ∧ okL n (b : Int) ∧ (a : Int) ≠ (b : Int) ∧ mat ts g (a : Int).toNat (b : Int).toNat = false ∧ put2 (mat ts g) (a : Int).toNat (b : Int).toNat true = mat (ts ++ [(x, y)]) g := by
  have ne : x ≠ y := by omega
  rcases ho with ⟨rfl, rfl⟩ | ⟨rfl, rfl⟩
  · exact ⟨⟨by omega, by omega⟩, ⟨by omega, by omega⟩, by omega, mat_none (by simpa using ne) h1 h2, (mat_push ne).symm⟩
  · refine ⟨⟨by omega, by omega⟩, ⟨by omega, by omega⟩, by omega, mat_none (by simpa using ne.symm) h2 h1, ?_⟩
    rw [mat_push ne, put2_comm]
    rfl
theorem TiesP.fresh {H : Hp} {lt : Addr} {zs : List (Addr × Nat × Nat)} {p : Nat → Nat → Prop} (T : TiesP H lt zs p) {i : Nat} {z : Addr × Nat × Nat} (hz : zs[i]? = some z) : (z.2.1, z.2.2) ∉ (zs.take i).map (·.2) := fun m => by
  obtain ⟨u, hu, e⟩ := List.mem_map.mp m
  obtain ⟨j, hj⟩ := List.getElem?_of_mem hu
  have hji : j < i := by
    have := (List.getElem?_eq_some_iff.mp hj).1
    rw [List.length_take] at this
    omega
  rw [List.getElem?_take_of_lt hji] at hj
  have a1 : (zs.map (·.2))[j]? = some u.2 := by rw [List.getElem?_map, hj]; rfl
  have a2 : (zs.map (·.2))[i]? = some u.2 := by rw [List.getElem?_map, hz, e]; rfl
  have := nodup_ix' T.nd a1 a2
  omega
theorem TiesP.turned {H : Hp} {lt : Addr} {zs us : List (Addr × Nat × Nat)} {p : Nat → Nat → Prop} (T : TiesP H lt zs p) (h : ∀ u ∈ us, u ∈ zs) {x y : Nat} (hxy : x < y) : (y, x) ∉ us.map (·.2) := fun m => by
  obtain ⟨u, hu, e⟩ := List.mem_map.mp m
  have := (T.ok u (h u hu)).1
  rw [e] at this
  exact absurd this (by show ¬ y < x; omega)
section
variable {P : Program} {w : World} {K : PySem.W.Frag} {mg : Str → Option Value} {base : Heap} {C NL AL NY TD UT : Addr}
def spBuilt (C : Addr) : Sp := fun vs H Q _ => ∃ (lt ls : Addr) (zs : List (Addr × Nat × Nat)) (n : Nat) (f : Nat → Bool), vs = [.int (n : Int), .ref lt, .ref ls] ∧ 1 ≤ n ∧ n ≤ 24 ∧ TiesAt H lt zs n ∧ zs.length ≤ 600 ∧ H ls = some (.lst (rowV n f)) ∧
  ∀ (p dx r : Addr) (qs : List Addr) (H' : Hp), Same H H' → YardAt C H' p dx r qs n (mat (zs.map (·.2)) f) → H p = none → H r = none → (∀ q ∈ qs, H q = none) → Q (.ref p) H'
theorem sc_built : FnScope ["many", "ties", "shy", "yard", "k", "lamp"] ["many", "ties", "shy"] (defScope s_built) := ⟨rfl, rfl, rfl, by decide +kernel, rfl, by decide +kernel, by decide +kernel⟩
theorem ok_built {f : Addr} {fd : FuncData} (F : Fun K "_law_built" "_law_built" s_built f fd) (T : LB mg) (hY : HasC P w K mg base (CXE P w) 2 C "Yard" ["self", "many"] (spInit C NY))
    (hT : HasM P w K mg base (CXE P w) 4 C "tie" ["self", "one", "other"] [] (spTie C NL AL TD true)) (hU : HasM P w K mg base (CXE P w) 4 C "untie" ["self", "one", "other"] [] (spTie C NL AL UT false))
    (hS2 : HasM P w K mg base (CXE P w) 2 C "set_shy" ["self", "lamp", "answer"] [.bl true] (spShy C NL)) (hS3 : HasM P w K mg base (CXE P w) 2 C "set_shy" ["self", "lamp", "answer"] [] (spShy C NL)) :
    FnOk P w K mg base CX0 5 f fd ["many", "ties", "shy"] (spBuilt C) := by
  refine F.ok sc_built (fun vs H Q E h => ?_) (fun cdv A outer s H vs Q E hr h => ?_)
  · obtain ⟨lt, ls, zs, n, f, rfl, _⟩ := h
    rfl
  · obtain ⟨lt, ls, zs, n, f, rfl, hn1, hn2, hT0, hzl, hS0, k⟩ := h
    have hr2 : Room 2 _ := hr.mono (by decide)
    have hr3 : Room 3 _ := hr.mono (by decide)
    have hu : (A.deeper (PyProof.Rows.envOfC "_law_built" (defScope s_built) s.heap.objs.size _ cdv)).in1.units < cLine := (hr3.in1).units0
    refine ⟨_, (L2.pss_cons (ps_set (i := 3) sc_built.nd rfl (Or.inl rfl) (pe_makeH hY hr3 rfl passN (L2.pa_cons (pv 0) L2.pa_nil))) (L2.pss_cons (ps_for PassesOwn.never rfl (pi_range1 rfl T.b_range (L2.pa_cons (pe_callB call_len_seq rfl T.b_len PySem.boot_len (L2.pa_cons (pv 1) L2.pa_nil)) L2.pa_nil)) (pg_name (i := 4) sc_built.nd rfl (Or.inl rfl))
        (L2.pss_one (ps_expr (pe_methH (pv 3) hT hr passN (L2.pa_cons (pe_ix ix_tup (pe_ix ix_list (pv 1) (pv 4) (fun _ _ => rfl)) (pe_op op_mod (pv 4) pe_int) (fun _ _ => rfl)) (L2.pa_cons (pe_ix ix_tup (pe_ix ix_list (pv 1) (pv 4) (fun _ _ => rfl)) (pe_op op_sub pe_int (pe_op op_mod (pv 4) pe_int)) (fun _ _ => rfl)) L2.pa_nil)))))) (L2.pss_cons (ps_for PassesOwn.never rfl (pi_range1 rfl T.b_range (L2.pa_cons (pv 0) L2.pa_nil)) (pg_name (i := 5) sc_built.nd rfl (Or.inl rfl))
        (L2.pss_one (ps_if (pt_val (pe_ix ix_list (pv 2) (pv 5) (fun _ _ => rfl))) (L2.pss_one (ps_expr (pe_methH (pv 3) hS2 hr2 passN (L2.pa_cons (pv 5) L2.pa_nil)))) pss_nil))) (L2.pss_cons (ps_expr (pe_methH (pv 3) hS3 hr2 passN (L2.pa_cons (pe_int) (L2.pa_cons (pe_not (pe_ix ix_list (pv 2) pe_int (fun _ _ => rfl))) L2.pa_nil)))) (L2.pss_cons (ps_expr (pe_methH (pv 3) hS3 hr2 passN (L2.pa_cons (pe_int) (L2.pa_cons (pe_ix ix_list (pv 2) pe_int (fun _ _ => rfl)) L2.pa_nil)))) (L2.pss_cons (ps_if (PW.pt (pw_and (pt_cmpR op_gt (pv 0) pe_int (nomark _)) (pw_and1 (pt_cmpR (op_notIn_tups hu) (pe_tup (L2.pa_cons (pe_int) (L2.pa_cons (pe_op op_sub (pv 0) pe_int) L2.pa_nil))) (pv 1) rfl))))
        (L2.pss_cons (ps_expr (pe_methH (pv 3) hT hr passN (L2.pa_cons (pe_op op_sub (pv 0) pe_int) (L2.pa_cons (pe_int) L2.pa_nil)))) (L2.pss_one (ps_expr (pe_methH (pv 3) hU hr passN (L2.pa_cons (pe_int) (L2.pa_cons (pe_op op_sub (pv 0) pe_int) L2.pa_nil)))))) pss_nil) (L2.pss_one (ps_ret (pv 3))))))))), ?_⟩
    -- yard = Yard(many)
    refine ⟨_, rfl, fun x dx hx hdx hne => ⟨x, dx, n, rfl, upd_same, fun ok r qs H1 Y1 kp hr0 hq0 hrq => ⟨rfl, ?_⟩, fun bad => absurd (by omega) bad⟩⟩
    have Y1 : YardAt C H1 x dx r qs n idM := Y1
    have s0 : Same H (upd (upd H dx (.own x)) x (.ins C dx [])) := fun b o e => by
      rw [upd_ne (ne_of_none e hx), upd_ne (ne_of_none e hdx)]
      exact e
    have s1 : Same H H1 := fun b o e => kp b o (s0 b o e) (ne_of_none e hx)
    have hrf : H r = none := s0.free hr0
    have hqf : ∀ q ∈ qs, H q = none := fun q hq => s0.free (hq0 q hq)
    have hlen : ((zs.map fun z => V.ref z.1).length : Int).toNat = zs.length := by simp
    -- the ties
    refine ⟨_, rfl, lt, _, rfl, .inl (SqL.of (s1 _ _ hT0.top)), _, rfl, (by rw [List.length_map]; omega), (by rw [List.length_map]; omega), for_range (lo := 0) (fun i σ H2 => ∃ (v4 : Option V), σ = [some (.int (n : Int)), some (.ref lt), some (.ref ls), some (.ref x), v4, none] ∧ Same H H2 ∧ YardAt C H2 x dx r qs n (mat ((zs.take i).map (·.2)) fun _ => false))
      ⟨none, rfl, s1, Y1.congr fun i j _ _ => ?_⟩ ?_ ?_⟩
    · unfold idM mat
      by_cases hij : i = j
      · simp [hij]
      · have : ¬ j = i := fun z => hij z.symm
        simp [hij, this]
    · rintro i σ H2 hi ⟨v4, rfl, s2, Y⟩
      rw [hlen] at hi
      have hz : zs[i]? = some zs[i] := by simp [hi]
      generalize zs[i] = z at hz
      have hm : z ∈ zs := List.mem_of_getElem? hz
      have hat := s2 _ _ (hT0.at_ z hm)
      obtain ⟨hxy, hyn⟩ := hT0.ok z hm
      have tk : (zs.take (i + 1)).map (·.2) = (zs.take i).map (·.2) ++ [(z.2.1, z.2.2)] := by
        rw [List.take_add_one, hz, List.map_append]
        rfl
      have hrow : atI (zs.map fun z => V.ref z.1) (0 + (i : Int)) = some (.ref z.1) := atI_of (by omega) (by
        rw [tn0 i, List.getElem?_map, hz]
        rfl)
      have n1 := hT0.fresh hz
      have n2 := hT0.turned (us := zs.take i) (fun u hu => List.mem_of_mem_take hu) hxy
      have step : ∀ (a b : Nat), (a = z.2.1 ∧ b = z.2.2 ∨ a = z.2.2 ∧ b = z.2.1) → spTie C NL AL TD true [.ref x, .int (a : Int), .int (b : Int)] H2 (fun _ H' => ∃ (v4 : Option V), [some (V.int (n : Int)), some (.ref lt), some (.ref ls), some (.ref x), some (.int (0 + (i : Int))), none] = [some (.int (n : Int)), some (.ref lt), some (.ref ls), some (.ref x), v4, none] ∧ Same H H' ∧ YardAt C H' x dx r qs n (mat ((zs.take (i + 1)).map (·.2)) fun _ => false)) E0 := fun a b ho => by
        obtain ⟨o1, o2, o3, o4, o5⟩ := tie_facts (g := fun _ => false) ho hxy hyn n1 n2
        refine ⟨x, dx, r, qs, n, _, a, b, rfl, Y, fun _ H3 Y3 fr => ⟨_, rfl, Left.same fr s2 hqf, ?_⟩, fun bad => absurd ⟨o1, o2⟩ bad, fun al => absurd al.2.2 o3, fun td => by rw [td.2.2.2] at o4; cases o4⟩
        rw [tk, ← o5]
        exact Y3
      have pr : (0 + (i : Int)) % 2 = 0 ∨ (0 + (i : Int)) % 2 = 1 := by omega
      rcases pr with e | e
      · exact ⟨_, rfl, x, dx, _, rfl, Y.ob, yf_no _ _ (by decide +kernel) (by decide +kernel), _, rfl, _, rfl, lt, _, _, _, rfl, rfl, SqL.of (s2 _ _ hT0.top), hrow, _, rfl, _, _, rfl, rfl, posI rfl, z.1, _, _, _, rfl, rfl, SqT.of hat, atI_pair0 e,
          _, rfl, _, rfl, lt, _, _, _, rfl, rfl, SqL.of (s2 _ _ hT0.top), hrow, _, rfl, _, _, rfl, rfl, posI rfl, _, _, rfl, rfl, z.1, _, _, _, rfl, rfl, SqT.of hat, atI_pair1 (by rw [e]; rfl), step _ _ (.inl ⟨rfl, rfl⟩)⟩
      · exact ⟨_, rfl, x, dx, _, rfl, Y.ob, yf_no _ _ (by decide +kernel) (by decide +kernel), _, rfl, _, rfl, lt, _, _, _, rfl, rfl, SqL.of (s2 _ _ hT0.top), hrow, _, rfl, _, _, rfl, rfl, posI rfl, z.1, _, _, _, rfl, rfl, SqT.of hat, atI_pair1 e,
          _, rfl, _, rfl, lt, _, _, _, rfl, rfl, SqL.of (s2 _ _ hT0.top), hrow, _, rfl, _, _, rfl, rfl, posI rfl, _, _, rfl, rfl, z.1, _, _, _, rfl, rfl, SqT.of hat, atI_pair0 (by rw [e]; rfl), step _ _ (.inr ⟨rfl, rfl⟩)⟩
    · rintro σ H2 ⟨v4, rfl, s2, Y⟩
      rw [hlen, List.take_of_length_le (Nat.le_refl _)] at Y
      generalize hts : zs.map (·.2) = ts at Y k
      -- the shy ones
      refine ⟨_, rfl, _, rfl, rgL, rgU hn2, for_range (lo := 0) (fun i σ H3 => ∃ (v5 : Option V), σ = [some (.int (n : Int)), some (.ref lt), some (.ref ls), some (.ref x), v4, v5] ∧ Same H H3 ∧ YardAt C H3 x dx r qs n (mat ts fun j => f j && decide (j < i)))
        ⟨none, rfl, s2, Y.congr fun i j hi _ => mat_congr (fun j _ => by simp) i j hi⟩ ?_ ?_⟩
      · rintro i σ H3 hi ⟨v5, rfl, s3, Y⟩
        have hi' : i < n := by omega
        have ix : atI (rowV n f) (0 + (i : Int)) = some (.bl (f i)) := atI_of (by omega) (by rw [tn0 i]; exact rowV_at f hi')
        refine ⟨_, rfl, _, rfl, ls, _, _, _, rfl, rfl, SqL.of (s3 _ _ hS0), ix, _, rfl, ?_⟩
        cases hf : f i with
        | true =>
          refine iteT ⟨_, rfl, x, dx, _, rfl, Y.ob, yf_no _ _ (by decide +kernel) (by decide +kernel), _, rfl, x, dx, r, qs, n, _, _, true, rfl, Y, fun _ H4 Y4 fr => ⟨_, rfl, Left.same fr s3 hqf, ?_⟩, fun bad => absurd (okI hi') bad⟩
          rw [mat_putD, tn0 i] at Y4
          refine Y4.congr fun a b ha _ => mat_congr (n := n) (fun j _ => ?_) a b ha
          by_cases hj : j = i
          · subst hj
            simp [hf]
          · have : (j < i + 1) = (j < i) := lt_one hj
            simp [hj, this]
        | false =>
          refine iteF ⟨_, rfl, s3, Y.congr fun a b ha _ => mat_congr (n := n) (fun j _ => ?_) a b ha⟩
          by_cases hj : j = i
          · subst hj
            simp [hf]
          · have : (j < i + 1) = (j < i) := lt_one hj
            simp [this]
      · rintro σ H3 ⟨v5, rfl, s3, Y⟩
        have Y := Y.congr (N := mat ts f) fun a b ha _ => mat_congr (n := n) (fun j hj => by
          simp [hj]) a b ha
        have ix : atI (rowV n f) 0 = some (.bl (f 0)) := atI_of (by omega) (rowV_at f (by omega))
        -- shy set, and set again
        refine ⟨_, rfl, x, dx, _, rfl, Y.ob, yf_no _ _ (by decide +kernel) (by decide +kernel), _, rfl, ls, _, _, _, rfl, rfl, SqL.of (s3 _ _ hS0), ix, _, rfl, x, dx, r, qs, n, _, 0, _, rfl, Y, fun _ H4 Y4 fr => ?_, fun bad => absurd (ok00 hn1) bad⟩
        have s4 : Same H H4 := Left.same fr s3 hqf
        refine ⟨_, rfl, x, dx, _, rfl, Y4.ob, yf_no _ _ (by decide +kernel) (by decide +kernel), _, rfl, ls, _, _, _, rfl, rfl, SqL.of (s4 _ _ hS0), ix, x, dx, r, qs, n, _, 0, _, rfl, Y4, fun _ H5 Y5 fr => ?_, fun bad => absurd (ok00 hn1) bad⟩
        have s5 : Same H H5 := Left.same fr s4 hqf
        rw [mat_putD, mat_putD] at Y5
        have Y5 := Y5.congr (N := mat ts f) fun a b ha _ => mat_congr (n := n) (fun j hj => by
          by_cases h0 : j = 0
          · subst h0
            simp
          · simp [h0]) a b ha
        -- the tie put in and taken out
        refine ⟨_, rfl, _, _, rfl, rfl, _, rfl, ?_⟩
        refine ite2 (fun c => ?_) (fun c => ?_)
        · have c' : (1 : Int) < n := of_decide_eq_true c
          refine ⟨_, rfl, _, _, rfl, rfl, (by show 2 ≤ sizeLine; decide), fun t ht => ?_⟩
          have s6 : Same H (upd H5 t (.tup [.int 0, .int ((n : Int) - 1)])) := s5.trans (Same.laid ht)
          have Y6 := Y5.same (Same.laid (o := .tup [.int 0, .int ((n : Int) - 1)]) ht)
          have T6 := hT0.same s6
          refine ⟨_, rfl, t, _, lt, zs.map (·.1), rfl, SqT.of upd_same, rfl, rfl, SqL.of (by rw [T6.top, List.map_map]; rfl), (fun a ha => ?_), _, rfl, ?_⟩
          · obtain ⟨z, hz, rfl⟩ := List.mem_map.mp ha
            rw [tupAt_of (T6.at_ z hz)]
            exact ⟨T6.at_ z hz, rfl⟩
          · rw [if_pos rfl]
            refine ite2 (fun d => ?_) (fun d => ⟨_, rfl, k x dx r qs _ s6 Y6 hx hrf hqf⟩)
            have no : (0, n - 1) ∉ ts := fun m => by
              rw [← hts] at m
              obtain ⟨z, hz, e⟩ := List.mem_map.mp m
              have hany : ((zs.map (·.1)).any fun a => eqVs (tupAt (upd H5 t (.tup [.int 0, .int ((n : Int) - 1)])) a) [.int 0, .int ((n : Int) - 1)]) = true := by
                rw [List.any_eq_true]
                refine ⟨z.1, List.mem_map.mpr ⟨z, hz, rfl⟩, ?_⟩
                rw [tupAt_of (T6.at_ z hz), e]
                have : ((n - 1 : Nat) : Int) = (n : Int) - 1 := by omega
                simp [eqVs, eqV, this]
              rw [hany] at d
              cases d
            have no2 : (n - 1, 0) ∉ ts := by
              rw [← hts]
              exact hT0.turned (us := zs) (fun u hu => hu) (by omega)
            have en : ((n : Int) - 1).toNat = n - 1 := by omega
            have m1 : mat ts f (n - 1) 0 = false := mat_none (by omega) no2 no
            have m2 : mat ts f 0 (n - 1) = false := mat_none (by omega) no no2
            refine ⟨_, rfl, x, dx, _, rfl, Y6.ob, yf_no _ _ (by decide +kernel) (by decide +kernel), _, rfl, _, _, rfl, rfl, x, dx, r, qs, n, _, _, _, rfl, Y6, fun _ H7 Y7 fr => ?_, fun bad => absurd ⟨okN1 hn1, ok00 hn1⟩ bad, fun al => absurd al.2.2 (by omega), fun td => ?_⟩
            · have s7 : Same H H7 := Left.same fr s6 hqf
              refine ⟨_, rfl, x, dx, _, rfl, Y7.ob, yf_no _ _ (by decide +kernel) (by decide +kernel), _, rfl, _, _, rfl, rfl, x, dx, r, qs, n, _, _, _, rfl, Y7, fun _ H8 Y8 fr => ?_, fun bad => absurd ⟨ok00 hn1, okN1 hn1⟩ bad, fun al => absurd al.2.2 (by omega), fun td => ?_⟩
              · have s8 : Same H H8 := Left.same fr s7 hqf
                rw [en, show ((0 : Int)).toNat = 0 from rfl, put2_back m1 m2] at Y8
                exact ⟨_, rfl, k x dx r qs _ s8 Y8 hx hrf hqf⟩
              · have td := td.2.2.2
                rw [en] at td
                simp [put2] at td
            · have td := td.2.2.2
              rw [en, show ((0 : Int)).toNat = 0 from rfl, m1] at td
              cases td
        · exact iteF ⟨_, rfl, k x dx r qs _ s5 Y5 hx hrf hqf⟩
end
end Lp

/-! ## the law's own turns, lights and presses -/
namespace Lp
open PySem L2 Lamp
abbrev s_turnsL : Stmt := top 31
abbrev s_light : Stmt := (.Pass ⟨0, 0, 0, 0⟩)
abbrev s_pressedL : Stmt := top 32
abbrev s_alike_light : Stmt := (.Pass ⟨0, 0, 0, 0⟩)
theorem natV_len (os : List Nat) : (natV os).length = os.length := by simp [natV]
theorem natV_at {os : List Nat} {i : Nat} {x : V} (h : (natV os)[i]? = some x) : ∃ o, os[i]? = some o ∧ x = .int (o : Int) := by
  rw [natV, List.getElem?_map] at h
  cases e : os[i]? with
  | none => rw [e] at h; cases h
  | some o =>
    rw [e] at h
    cases h
    exact ⟨o, rfl, rfl⟩
theorem comp_nat {n : Nat} (p : Nat → Bool) : ((List.range n).filter p).map (fun j : Nat => V.int (0 + (j : Int))) = natV ((List.range n).filter p) := by
  rw [natV]
  apply List.map_congr_left
  intro j _
  rw [Int.zero_add]
section
variable {P : Program} {w : World} {K : PySem.W.Frag} {mg : Str → Option Value} {base : Heap}
/-! ### turns -/
def spTurnsL : Sp := fun vs H Q _ => ∃ (lt ls : Addr) (zs : List (Addr × Nat × Nat)) (n : Nat) (f : Nat → Bool), vs = [.int (n : Int), .ref lt, .ref ls] ∧ n ≤ 24 ∧ TiesAt H lt zs n ∧ zs.length ≤ 600 ∧ H ls = some (.lst (rowV n f)) ∧
  ∀ (D : Addr) (qs : List Addr) (H' : Hp), Same H H' → RowsAt H' D qs n (fun i => natV ((List.range n).filter (mat (zs.map (·.2)) f i))) → H D = none → (∀ q ∈ qs, H q = none) → Q (.ref D) H'
theorem sc_turnsL : FnScope ["many", "ties", "shy", "found", "one", "other"] ["many", "ties", "shy"] (defScope s_turnsL) := ⟨rfl, rfl, rfl, by decide +kernel, rfl, by decide +kernel, by decide +kernel⟩
theorem ok_turnsL {f : Addr} {fd : FuncData} (F : Fun K "_law_turns" "_law_turns" s_turnsL f fd) (T : LB mg) : FnOk P w K mg base CX0 1 f fd ["many", "ties", "shy"] spTurnsL := by
  refine F.ok sc_turnsL (fun vs H Q E h => ?_) (fun cdv A outer s H vs Q E hr h => ?_)
  · obtain ⟨lt, ls, zs, n, f, rfl, _⟩ := h
    rfl
  · obtain ⟨lt, ls, zs, n, f, rfl, hn, hT, hz, hS, k⟩ := h
    refine ⟨_, ((L2.pss_cons (ps_compN (i := 3) (js := [0, 2]) sc_turnsL.nd rfl (by first | exact Or.inl rfl | exact Or.inr rfl) rfl (by kernel_rfl) (pi_range1 rfl T.b_range (L2.pa_cons ((pv 0)) L2.pa_nil)) (fun _ _ _ _ _ => pf_nil) (fun _ _ _ _ _ => (pe_compN (js := [0, 2]) rfl (by kernel_rfl) (pi_range1 rfl T.b_range (L2.pa_cons ((pv 1)) L2.pa_nil)) (fun _ _ _ _ _ => pf_nil) (fun _ _ _ _ _ => (pe_and (pe_not (pe_ix (ixLK K) (pv 2) (pv 1) (fun _ _ => rfl))) (pe_one (pe_cmpR op_eq (pv 1) (pv 0) (nomark _)))))))) (L2.pss_cons (ps_for PassesOwn.never rfl (piLK K (pv 1)) (pg_tup rfl (pgs_cons (pg_name (i := 4) sc_turnsL.nd rfl (by first | exact Or.inl rfl | exact Or.inr rfl)) (pgs_cons (pg_name (i := 5) sc_turnsL.nd rfl (by first | exact Or.inl rfl | exact Or.inr rfl)) (pgs_nil)))) ((L2.pss_cons (ps_asg (pe_bl) (pg_sub (pe_ix (ixLK K) (pv 3) (pv 4) (fun _ _ => rfl)) (pv 5) set_list)) (L2.pss_one (ps_asg (pe_bl) (pg_sub (pe_ix (ixLK K) (pv 3) (pv 5) (fun _ _ => rfl)) (pv 4) set_list)))))) (L2.pss_one (ps_ret (pe_compN (js := [0]) rfl (by kernel_rfl) (piLK K (pv 3)) (fun _ _ _ _ _ => pf_nil) (fun _ _ _ _ _ => (pe_compN (js := [0]) rfl (by kernel_rfl) (pi_range1 rfl T.b_range (L2.pa_cons ((pv 1)) L2.pa_nil)) (fun _ _ _ _ _ => pf_one (pt_val (pe_ix (ixLK K) (pv 1) (pv 0) (fun _ _ => rfl)))) (fun _ _ _ _ _ => (pv 0)))))))))), ?_⟩
    refine ⟨_, rfl, n, rfl, rgL, rgU (by assumption), comp_new (n := n) (fun i => .int (0 + (i : Int))) (fun i => rowV n fun j => !f i && decide (i = j)) (r1000 (by assumption)) itr_new (fun i Hc k' hi sm hk => ?_) fun D qs H1 hD s1 R fr => ?_⟩
    · have ix : atI (rowV n f) (0 + (i : Int)) = some (.bl (f i)) := atI_of (by omega) (by rw [tn0 i]; exact rowV_at f hi)
      refine ⟨_, rfl, n, rfl, rgL, rgU (by assumption), comp_range (n := n) (fun _ => true) (fun j => V.bl (!f i && decide (i = j))) (r1000 (by assumption)) (fun j Hd k2 _ _ q => q) (fun j Hd k2 hj _ sm2 q => ?_) fun q hq => ?_⟩
      · refine ⟨_, rfl, _, rfl, ls, _, _, _, rfl, rfl, SqL.of (sm2 _ _ (sm _ _ hS)), ix, _, rfl, _, rfl, ?_⟩
        cases hf : f i with
        | true =>
          rw [hf] at q
          exact iteF q
        | false =>
          rw [hf] at q
          refine iteT ⟨_, rfl, _, rfl, rfl, ?_⟩
          have e : decide (V.int (0 + (i : Int)) = V.int (0 + (j : Int))) = decide (i = j) := by
            rw [Bool.eq_iff_iff]
            simp
            omega
          rw [e]
          exact q
      · rw [rowV_comp]
        exact hk q hq
    -- the ties
    have len : (zs.map fun z => V.ref z.1).length = zs.length := by simp
    refine ⟨_, rfl, lt, rfl, ⟨_, SqL.of (s1 _ _ hT.top)⟩, for_list (xs := zs.map fun z => V.ref z.1) (fun i σ H2 => ∃ v4 v5, σ = [some (.int (n : Int)), some (.ref lt), some (.ref ls), some (.ref D), v4, v5] ∧ Same H H2 ∧ RowsAt H2 D qs n (fun a => rowV n (mat ((zs.take i).map (·.2)) f a)))
      ⟨none, none, rfl, s1, R.congr fun i hi => rowV_congr fun j hj => ?_⟩ (fun i σ H2 _ ⟨_, _, _, s2, _⟩ => SqL.of (s2 _ _ hT.top)) ?_ ?_⟩
    · unfold mat
      by_cases hij : i = j
      · simp [hij]
      · simp [hij]
    · rintro i x σ H2 hx ⟨v4, v5, rfl, s2, R2⟩
      rw [List.getElem?_map] at hx
      cases hz' : zs[i]? with
      | none => rw [hz'] at hx; cases hx
      | some z =>
        rw [hz'] at hx
        cases hx
        have hm : z ∈ zs := List.mem_of_getElem? hz'
        have hat := s2 _ _ (hT.at_ z hm)
        obtain ⟨hxy, hyn⟩ := hT.ok z hm
        obtain ⟨q1, hq1, hx1, hrow1⟩ := R2.row (a := z.2.1) (by omega)
        have R3 := R2.set hq1 ((rowV n (mat ((zs.take i).map (·.2)) f z.2.1)).set z.2.2 (.bl true))
        obtain ⟨q2, hq2, hx2, hrow2⟩ := R3.row (a := z.2.2) (by omega)
        have R4 := R3.set hq2 ((rowV n (mat ((zs.take i).map (·.2)) f z.2.2)).set z.2.1 (.bl true))
        rw [if_neg (by omega)] at hrow2
        refine ⟨z.1, _, rfl, SqT.of hat, rfl, _, _, rfl, _, _, rfl, rfl, ?_⟩
        refine ⟨_, rfl, _, rfl, D, _, _, _, rfl, rfl, SqL.of R2.top, hx1, _, rfl, q1, _, _, z.2.2, rfl, rfl, hrow1, (by rw [rowV_len]; exact ixN_of (by omega) (by omega)), ?_⟩
        refine ⟨_, rfl, _, rfl, D, _, _, _, rfl, rfl, SqL.of R3.top, hx2, _, rfl, q2, _, _, z.2.1, rfl, rfl, hrow2, (by rw [rowV_len]; exact ixN_of (by omega) (by omega)), ?_⟩
        have f1 := fr q1 (List.mem_of_getElem? hq1)
        have f2 := fr q2 (List.mem_of_getElem? hq2)
        refine ⟨_, _, rfl, fun b o e => ?_, R4.congr fun a ha => ?_⟩
        · have e2 := s2 b o e
          rw [upd_ne (ne_of_none e f2), upd_ne (ne_of_none e f1)]
          exact e2
        · have tk : (zs.take (i + 1)).map (·.2) = (zs.take i).map (·.2) ++ [(z.2.1, z.2.2)] := by
            rw [List.take_add_one, hz', List.map_append]
            rfl
          rw [tk, mat_push (by omega)]
          by_cases ha2 : a = z.2.2
          · rw [if_pos ha2, rowV_set]
            apply rowV_congr
            intro j hj
            subst ha2
            unfold put2
            by_cases hj1 : j = z.2.1
            · simp [hj1]
            · have : ¬ z.2.2 = z.2.1 := by omega
              simp [hj1, this]
          · rw [if_neg ha2]
            by_cases ha1 : a = z.2.1
            · rw [if_pos ha1, rowV_set]
              apply rowV_congr
              intro j hj
              subst ha1
              unfold put2
              by_cases hj1 : j = z.2.2
              · simp [hj1]
              · simp [hj1, ha2]
            · rw [if_neg ha1]
              apply rowV_congr
              intro j hj
              unfold put2
              simp [ha1, ha2]
    · rintro σ H2 ⟨v4, v5, rfl, s2, R2⟩
      rw [len, List.take_of_length_le (Nat.le_refl _)] at R2
      have hql : (qs.map V.ref).length = n := by rw [List.length_map, R2.ln]
      refine ⟨_, rfl, D, rfl, ⟨_, SqL.of R2.top⟩, comp_new (n := n) (fun i => (qs.map V.ref).getD i .non) (fun i => natV ((List.range n).filter (mat (zs.map (·.2)) f i))) (r1000 (by assumption))
        (fun i H3 sm => by have := itl_new (K := K) (a := D) (xs := qs.map V.ref) (H1 := H2) (SqL.of R2.top) i H3 sm; rwa [hql] at this) (fun i Hc k' hi sm hk => ?_) fun D2 qs2 H3 hD2 s3 R3 fr3 => k D2 qs2 H3 (s2.trans s3) R3 (s2.free hD2) fun q hq => s2.free (fr3 q hq)⟩
      obtain ⟨q, hq, _, hrow⟩ := R2.row hi
      have eg : (qs.map V.ref).getD i .non = .ref q := by rw [List.getD_eq_getElem?_getD, List.getElem?_map, hq]; rfl
      rw [eg]
      refine ⟨_, rfl, n, rfl, rgL, rgU (by assumption), comp_range (n := n) (mat (zs.map (·.2)) f i) (fun j => V.int (0 + (j : Int))) (r1000 (by assumption)) (fun j Hd k2 hj sm2 q' => ?_) (fun j Hd k2 _ _ _ q => ⟨_, rfl, q⟩) fun q' hq' => ?_⟩
      · refine ⟨_, rfl, _, rfl, q, _, _, _, rfl, rfl, SqL.of (sm2 _ _ (sm _ _ hrow)), atI_of (by omega) ?_, _, rfl, q'⟩
        rw [tn0 j]
        exact rowV_at _ hj
      · rw [comp_nat]
        exact hk q' hq'
/-! ### light -/
/-! ### pressed, as the law reckons it -/
def spPressedL (K : PySem.W.Frag) : Sp := fun vs H Q _ => ∃ (a D b : Addr) (qs : List Addr) (n : Nat) (M : Nat → Nat → Bool) (f : Nat → Bool) (ps : List Nat), vs = [.ref a, .ref D, .ref b] ∧ n ≤ 24 ∧ SqL K H a (rowV n f) ∧ RowsAt H D qs n (fun i => natV ((List.range n).filter (M i))) ∧
  SqL K H b (natV ps) ∧ (∀ p ∈ ps, p < n) ∧ ∀ (L : Addr) (H' : Hp), H L = none → Same H H' → H' L = some (.lst (rowV n fun j => f j ^^ par M ps j)) → Q (.ref L) H'
theorem par_push (M : Nat → Nat → Bool) (ps : List Nat) (p j : Nat) : par M (ps ++ [p]) j = (par M ps j ^^ M p j) := by
  rw [par_append]
  simp [par]
theorem sc_pressedL : FnScope ["light", "turns", "presses", "lamp", "other"] ["light", "turns", "presses"] (defScope s_pressedL) := ⟨rfl, rfl, rfl, by decide +kernel, rfl, by decide +kernel, by decide +kernel⟩
theorem ok_pressedL {f : Addr} {fd : FuncData} (F : Fun K "_law_pressed" "_law_pressed" s_pressedL f fd) (T : LB mg) : FnOk P w K mg base CX0 1 f fd ["light", "turns", "presses"] (spPressedL K) := by
  refine F.ok sc_pressedL (fun vs H Q E h => ?_) (fun cdv A outer s H vs Q E hr h => ?_)
  · obtain ⟨a, D, b, qs, n, M, f, ps, rfl, _⟩ := h
    rfl
  · obtain ⟨a, D, b, qs, n, M, f, ps, rfl, hn, ha, R, hb, hp, k⟩ := h
    refine ⟨_, ((L2.pss_cons (ps_set (i := 0) sc_pressedL.nd rfl (by first | exact Or.inl rfl | exact Or.inr rfl) (pe_callTy (listK K) rfl T.b_list bootB_list (L2.pa_cons ((pv 0)) L2.pa_nil))) (L2.pss_cons (ps_for PassesOwn.never rfl (piLK K (pv 2)) (pg_name (i := 3) sc_pressedL.nd rfl (by first | exact Or.inl rfl | exact Or.inr rfl)) ((L2.pss_one (ps_for PassesOwn.never rfl (piLK K (pe_ix (ixLK K) (pv 1) (pv 3) (fun _ _ => rfl))) (pg_name (i := 4) sc_pressedL.nd rfl (by first | exact Or.inl rfl | exact Or.inr rfl)) ((L2.pss_one (ps_asg (pe_not (pe_ix (ixLK K) (pv 0) (pv 4) (fun _ _ => rfl))) (pg_sub (pv 0) (pv 4) set_list)))))))) (L2.pss_one (ps_ret (pv 0)))))), ?_⟩
    refine ⟨_, rfl, a, _, rfl, .inl ha, fun L hL => ?_⟩
    have s0 : Same H (upd H L (.lst (rowV n f))) := Same.laid hL
    refine ⟨_, rfl, b, rfl, ⟨_, s0.seq hb⟩, for_list (xs := natV ps) (fun i σ H2 => ∃ v3 v4, σ = [some (.ref L), some (.ref D), some (.ref b), v3, v4] ∧ Same H H2 ∧ H2 L = some (.lst (rowV n fun j => f j ^^ par M (ps.take i) j)))
      ⟨none, none, rfl, s0, by rw [upd_same]; simp [par]⟩ (fun i σ H2 _ ⟨_, _, _, s2, _⟩ => s2.seq hb) ?_ ?_⟩
    · rintro i x σ H2 hx ⟨v3, v4, rfl, s2, hL2⟩
      obtain ⟨p, hp', rfl⟩ := natV_at hx
      have hpn : p < n := hp p (List.mem_of_getElem? hp')
      obtain ⟨q, hq, hxq, hrow⟩ := R.row hpn
      have nd : ((List.range n).filter (M p)).Nodup := List.nodup_range.filter _
      refine ⟨_, rfl, _, rfl, D, _, _, _, rfl, rfl, SqL.of (s2 _ _ R.top), hxq, q, rfl, ⟨_, SqL.of (s2 _ _ hrow)⟩,
        for_list (xs := natV ((List.range n).filter (M p))) (fun t σ H3 => ∃ v4, σ = [some (.ref L), some (.ref D), some (.ref b), some (.int (p : Int)), v4] ∧ Same H H3 ∧ H3 L = some (.lst (rowV n (flips (fun j => f j ^^ par M (ps.take i) j) (((List.range n).filter (M p)).take t)))))
          ⟨v4, rfl, s2, by rw [hL2]; rfl⟩ (fun t σ H3 _ ⟨_, _, s3, _⟩ => SqL.of (s3 _ _ hrow)) ?_ ?_⟩
      · rintro t x σ H3 hx3 ⟨v4, rfl, s3, hL3⟩
        obtain ⟨o, ho, rfl⟩ := natV_at hx3
        have hon : o < n := List.mem_range.mp (List.mem_filter.mp (List.mem_of_getElem? ho)).1
        refine ⟨_, rfl, _, rfl, L, _, _, _, rfl, rfl, SqL.of hL3, atI_nat (rowV_at _ hon), _, rfl, _, rfl, _, rfl, L, _, _, o, rfl, rfl, hL3, (by rw [rowV_len]; exact ixN_of (by omega) (by omega)), ?_⟩
        refine ⟨_, rfl, fun c u e => ?_, ?_⟩
        · rw [upd_ne (ne_of_none e hL)]
          exact s3 _ _ e
        · rw [upd_same, rowV_set, List.take_add_one, ho]
          show some (HO.lst _) = some (.lst (rowV n (flips _ (_ ++ [o]))))
          rw [flips_push]
          congr 2
          apply rowV_congr
          intro j _
          by_cases hj : j = o
          · subst hj; simp
          · simp [hj]
      · rintro σ H3 ⟨v4, rfl, s3, hL3⟩
        rw [natV_len, List.take_of_length_le (Nat.le_refl _)] at hL3
        refine ⟨_, _, rfl, s3, ?_⟩
        rw [hL3]
        congr 2
        apply rowV_congr
        intro j hj
        rw [flips_of _ _ _ nd, List.take_add_one, hp']
        show _ = (f j ^^ par M (ps.take i ++ [p]) j)
        rw [par_push]
        by_cases hm : M p j = true
        · rw [if_pos (List.mem_filter.mpr ⟨List.mem_range.mpr hj, hm⟩), hm]
          cases f j <;> cases par M (ps.take i) j <;> rfl
        · have hm' : M p j = false := by simpa using hm
          rw [if_neg (fun z => hm (List.mem_filter.mp z).2), hm']
          cases f j <;> cases par M (ps.take i) j <;> rfl
    · rintro σ H2 ⟨v3, v4, rfl, s2, hL2⟩
      rw [natV_len, List.take_of_length_le (Nat.le_refl _)] at hL2
      exact ⟨_, rfl, k L H2 hL s2 hL2⟩
/-! ### two lights alike -/
end
end Lp

/-! ## what the laws share -/
namespace Lp
open PySem L2 Lamp
def spLaw (K : PySem.W.Frag) : Sp := fun vs H Q _ => ∃ (a : Addr) (ns : List Int), vs = [.ref a] ∧ SqL K H a (ns.map V.int) ∧ ns.length ≤ 63 ∧ ∀ H', Q (.bl true) H'
end Lp

/-! ## whole numbers, lists of them -/
namespace Lp
open PySem L2 Lamp
abbrev s_whole : Stmt := top 33
abbrev s_alike : Stmt := (.Pass ⟨0, 0, 0, 0⟩)
section
variable {P : Program} {w : World} {K : PySem.W.Frag} {mg : Str → Option Value} {base : Heap}
def spWhole : Sp := fun vs H Q _ => ∃ i : Int, vs = [.int i] ∧ Q (.bl true) H
theorem sc_whole : FnScope ["found"] ["found"] (defScope s_whole) := ⟨rfl, rfl, rfl, by decide +kernel, rfl, by decide +kernel, by decide +kernel⟩
theorem ok_whole {f : Addr} {fd : FuncData} (F : Fun K "_law_whole" "_law_whole" s_whole f fd) (T : LB mg) : FnOk P w K mg base CX0 1 f fd ["found"] spWhole := by
  refine F.ok sc_whole (fun vs H Q E h => ?_) (fun cdv A outer s H vs Q E hr h => ?_)
  · obtain ⟨i, rfl, _⟩ := h
    rfl
  · obtain ⟨i, rfl, q⟩ := h
    refine ⟨_, ((L2.pss_one (ps_ret (pe_and (pe_callB (isiK K) rfl T.b_isinstance bootB_isinstance (L2.pa_cons ((pv 0)) (L2.pa_cons ((pe_tyB rfl T.b_int bootB_int)) L2.pa_nil))) (pe_one (pe_not (pe_callB (isiK K) rfl T.b_isinstance bootB_isinstance (L2.pa_cons ((pv 0)) (L2.pa_cons ((pe_tyB rfl T.b_bool bootB_bool)) L2.pa_nil))))))))), ?_⟩
    exact ⟨_, rfl, _, _, _, _, true, rfl, .inl ⟨_, rfl, rfl⟩, .int _, kit_same, _, rfl, iteT ⟨_, rfl, _, _, _, _, false, rfl, .inl ⟨_, rfl, rfl⟩, .int _, kit_ii, _, rfl, q⟩⟩
end
end Lp

/-! ## what the laws of stage 2 share -/
namespace Lp
open PySem L2 Lamp
abbrev s_wished : Stmt := (.Pass ⟨0, 0, 0, 0⟩)
abbrev s_lamps : Stmt := top 34
abbrev s_differ : Stmt := (.Pass ⟨0, 0, 0, 0⟩)
theorem iteFe {c : Bool} {A B : Prop} (e : c = false) (h : B) : if c = true then A else B := by
  subst e
  exact iteF h
theorem iteTe {c : Bool} {A B : Prop} (e : c = true) (h : A) : if c = true then A else B := by
  subst e
  exact iteT h
theorem ne_bl (x y : Bool) : (!decide (V.bl x = V.bl y)) = (x != y) := by cases x <;> cases y <;> rfl
def asc (os : List Nat) : Prop := ∀ (i a b : Nat), os[i]? = some a → os[i + 1]? = some b → a < b
theorem asc.tail {a : Nat} {l : List Nat} (h : asc (a :: l)) : asc l := fun i x y e1 e2 => h (i + 1) x y (by simpa using e1) (by simpa using e2)
theorem asc.lt : ∀ {l : List Nat} {a : Nat}, asc (a :: l) → ∀ x ∈ l, a < x
  | [], _, _, x, hx => absurd hx List.not_mem_nil
  | b :: l, a, h, x, hx => by
    have ab : a < b := h 0 a b rfl rfl
    rcases List.mem_cons.mp hx with e | hx
    · omega
    · have := asc.lt h.tail x hx
      omega
theorem asc.nodup : ∀ {l : List Nat}, asc l → l.Nodup
  | [], _ => List.nodup_nil
  | a :: l, h => List.nodup_cons.mpr ⟨fun z => Nat.lt_irrefl _ (h.lt a z), h.tail.nodup⟩
theorem asc_of {l : List Nat} (h : l.Pairwise (· < ·)) : asc l := fun i a b e1 e2 => by
  obtain ⟨h1, e1⟩ := List.getElem?_eq_some_iff.mp e1
  obtain ⟨h2, e2⟩ := List.getElem?_eq_some_iff.mp e2
  have := List.pairwise_iff_getElem.mp h i (i + 1) h1 h2 (by omega)
  omega
theorem asc_range (n : Nat) (p : Nat → Bool) : asc ((List.range n).filter p) := asc_of ((List.pairwise_lt_range).filter _)
section
variable {P : Program} {w : World} {K : PySem.W.Frag} {mg : Str → Option Value} {base : Heap}
def spLamps : Sp := fun vs H Q _ => ∃ (a : Addr) (os : List Nat) (n : Nat), vs = [.ref a, .int (n : Int)] ∧ H a = some (.lst (natV os)) ∧ os.length ≤ 900 ∧ (∀ o ∈ os, o < n) ∧ asc os ∧ Q (.bl true) H
theorem sc_lamps : FnScope ["found", "many", "k"] ["found", "many"] (defScope s_lamps) := ⟨rfl, rfl, rfl, by decide +kernel, rfl, by decide +kernel, by decide +kernel⟩
theorem ok_lamps {f : Addr} {fd : FuncData} (F : Fun K "_law_lamps" "_law_lamps" s_lamps f fd) (T : LB mg) (hF_whole : Has P w K mg base (CXE P w) 1 "_law_whole" ["found"] spWhole) : FnOk P w K mg base CX0 2 f fd ["found", "many"] spLamps := by
  refine F.ok sc_lamps (fun vs H Q E h => ?_) (fun cdv A outer s H vs Q E hr h => ?_)
  · obtain ⟨a, os, n, rfl, _⟩ := h
    rfl
  · obtain ⟨a, os, n, rfl, ha, hl, ho, as, q⟩ := h
    refine ⟨_, ((L2.pss_cons (ps_if (pt_not (pt_val (pe_callB (isiK K) rfl T.b_isinstance bootB_isinstance (L2.pa_cons ((pv 0)) (L2.pa_cons ((pe_tyB rfl T.b_list bootB_list)) L2.pa_nil))))) ((L2.pss_one (ps_ret (pe_bl)))) pss_nil) (L2.pss_cons (ps_for PassesOwn.never rfl (pi_range1 rfl T.b_range (L2.pa_cons ((pe_callB (lenK K) rfl T.b_len bootB_len (L2.pa_cons ((pv 0)) L2.pa_nil))) L2.pa_nil)) (pg_name (i := 2) sc_lamps.nd rfl (by first | exact Or.inl rfl | exact Or.inr rfl)) ((L2.pss_cons (ps_if (PW.pt (pw_or (pt_not (pt_val (pe_callH hF_whole (hr.mono (by decide)) rfl (passN) (L2.pa_cons ((pe_ix (ixLK K) (pv 0) (pv 2) (fun _ _ => rfl))) L2.pa_nil)))) (pw_or1 (pt_not (pt_chain op_le op_lt (pe_int) (pe_ix (ixLK K) (pv 0) (pv 2) (fun _ _ => rfl)) (pv 1)))))) ((L2.pss_one (ps_ret (pe_bl)))) pss_nil) (L2.pss_one (ps_if (PW.pt (pw_and (pt_cmpR op_gt (pv 2) (pe_int) (nomark _)) (pw_and1 (pt_cmpR op_ge (pe_ix (ixLK K) (pv 0) (pe_op op_sub (pv 2) (pe_int)) (fun _ _ => rfl)) (pe_ix (ixLK K) (pv 0) (pv 2) (fun _ _ => rfl)) (nomark _))))) ((L2.pss_one (ps_ret (pe_bl)))) pss_nil))))) (L2.pss_one (ps_ret (pe_bl)))))), ?_⟩
    have at0 : ∀ {i o : Nat} {m : Int}, os[i]? = some o → m = (i : Int) → atI (natV os) m = some (.int (o : Int)) := fun e em => atI_of (by omega) (by rw [em, natV, List.getElem?_map, Int.toNat_natCast, e]; rfl)
    refine ⟨_, rfl, _, _, _, _, true, rfl, .inl ⟨_, rfl, rfl⟩, .lst ha, kit_same, _, rfl, iteF ?_⟩
    refine ⟨_, rfl, a, _, rfl, .inl (SqL.of ha), _, rfl, (by rw [natV_len]; omega), (by rw [natV_len]; omega), ?_⟩
    rw [natV_len]
    refine for_range (lo := 0) (n := os.length) (fun i σ H' => (∃ v, σ = [some (.ref a), some (.int (n : Int)), v]) ∧ H' = H) ⟨⟨_, rfl⟩, rfl⟩ ?_ ?_
    · rintro i σ H' hi ⟨⟨v, rfl⟩, rfl⟩
      have io : os[i]? = some os[i] := by simp [hi]
      have hin : os[i] < n := ho _ (List.getElem_mem hi)
      generalize os[i] = o at io hin
      refine ⟨_, rfl, _, rfl, a, _, _, _, rfl, rfl, SqL.of ha, at0 io (by omega), _, rfl, _, rfl, iteF ?_⟩
      refine ⟨_, rfl, _, rfl, a, _, _, _, rfl, rfl, SqL.of ha, at0 io (by omega), _, _, rfl, rfl, _, rfl, ite2 (fun z => ⟨_, rfl, _, _, rfl, rfl, _, rfl, ?_⟩) (fun z => absurd (decide_eq_true (by omega)) z)⟩
      refine ite2 (fun z => ?_) (fun z => ?_)
      · rw [decide_eq_true (show (o : Int) < n by omega)] at z
        cases z
      · refine ⟨_, rfl, _, _, rfl, rfl, _, rfl, ite2 (fun z => ?_) (fun z => iteF ⟨⟨_, rfl⟩, rfl⟩)⟩
        have i0 : (0 + (i : Int)) > 0 := of_decide_eq_true z
        obtain ⟨j, rfl⟩ : ∃ j, i = j + 1 := ⟨i - 1, by omega⟩
        have jo : os[j]? = some os[j] := by
          have : j < os.length := by omega
          simp [this]
        have lt := as j _ _ jo io
        refine ⟨_, rfl, _, rfl, _, _, rfl, rfl, a, _, _, _, rfl, rfl, SqL.of ha, at0 jo (by omega), _, rfl, _, rfl, a, _, _, _, rfl, rfl, SqL.of ha, at0 io (by omega), _, _, rfl, rfl, _, rfl, ite2 (fun z => ?_) (fun z => ⟨⟨_, rfl⟩, rfl⟩)⟩
        have := of_decide_eq_true z
        omega
    · rintro σ H' ⟨⟨v, rfl⟩, rfl⟩
      exact q
end
end Lp

/-! ## way: what it is to keep; the law's look at it -/
namespace Lp
open PySem L2 Lamp
abbrev s_holds : Stmt := (.Pass ⟨0, 0, 0, 0⟩)
abbrev s_other_ties : Stmt := (.Pass ⟨0, 0, 0, 0⟩)
def meets (xs os : List Nat) : Nat := (xs.filter fun x => os.contains x).length
def kindW (way : Bool) : Str := if way = true then "way" else "reason"
def Told (n : Nat) (M : Nat → Nat → Bool) (f g : Nat → Bool) (way : Bool) (os : List Nat) : Prop :=
  os.length ≤ n ∧ (∀ o ∈ os, o < n) ∧ asc os ∧ (way = true → ∀ j, j < n → (f j ^^ par M os j) = g j) ∧
  (way = false → (∀ i, i < n → meets ((List.range n).filter (M i)) os % 2 = 0) ∧ meets ((List.range n).filter fun i => f i != g i) os % 2 = 1)
section
variable {P : Program} {w : World} {K : PySem.W.Frag} {mg : Str → Option Value} {base : Heap} {C : Addr}
def spWay (K : PySem.W.Frag) (C : Addr) : Sp := fun vs H Q _ => ∃ (p dx r : Addr) (qs : List Addr) (n : Nat) (M : Nat → Nat → Bool) (a b : Addr) (f g : Nat → Bool), vs = [.ref p, .ref a, .ref b] ∧ YardAt C H p dx r qs n M ∧ 1 ≤ n ∧ n ≤ 24 ∧ (∀ i j, M i j = M j i) ∧
  SqL K H a (rowV n f) ∧ SqL K H b (rowV n g) ∧ ∀ (t D : Addr) (os : List Nat) (way : Bool) (H' : Hp), H t = none → H D = none → Same H H' → H' t = some (.tup [.str (kindW way), .ref D]) → H' D = some (.lst (natV os)) → Told n M f g way os → Q (.ref t) H'
end
end Lp

/-! ## ways: differing, together, reduced, steps_of, quiet_sets -/
namespace Lp
open PySem L2 Lamp
abbrev s_differing : Stmt := top 12
abbrev s_together : Stmt := top 13
abbrev s_reduced : Stmt := top 14
abbrev s_steps_of : Stmt := top 15
abbrev s_quiet_sets : Stmt := top 16
def flt (n : Nat) (p : Nat → Bool) : List Nat := (List.range n).filter p
theorem flt_mem {n : Nat} {p : Nat → Bool} {x : Nat} : x ∈ flt n p ↔ x < n ∧ p x = true := by
  unfold flt
  rw [List.mem_filter, List.mem_range]
theorem flt_len (n : Nat) (p : Nat → Bool) : (flt n p).length ≤ n := Nat.le_trans (List.length_filter_le _ _) (by simp)
theorem flt_nd (n : Nat) (p : Nat → Bool) : (flt n p).Nodup := List.nodup_range.filter _
theorem flt_head (n : Nat) (p : Nat → Bool) : (flt n p)[0]? = hdF n p := by
  unfold flt hdF
  induction List.range n with
  | nil => rfl
  | cons a l ih =>
    rw [List.filter_cons, List.find?_cons]
    cases p a with
    | true => rfl
    | false => exact ih
theorem flt_contains {n : Nat} {p : Nat → Bool} {h : Nat} (hh : h < n) : (flt n p).contains h = p h := by
  rw [Bool.eq_iff_iff, List.contains_iff_mem, flt_mem]
  exact ⟨fun z => z.2, fun z => ⟨hh, z⟩⟩
def nI (os : List Nat) : List Int := os.map fun j : Nat => (j : Int)
theorem nI_mem {os : List Nat} {x : Int} : x ∈ nI os ↔ ∃ j ∈ os, (j : Int) = x := List.mem_map
theorem nI_nd {os : List Nat} (h : os.Nodup) : (nI os).Nodup := by
  unfold nI List.Nodup
  rw [List.pairwise_map]
  exact h.imp fun z e => z (by omega)
theorem lt_ext : ∀ {l m : List Int}, l.Pairwise (· < ·) → m.Pairwise (· < ·) → (∀ x, x ∈ l ↔ x ∈ m) → l = m
  | [], [], _, _, _ => rfl
  | [], b :: m, _, _, h => absurd ((h b).mpr List.mem_cons_self) List.not_mem_nil
  | a :: l, [], _, _, h => absurd ((h a).mp List.mem_cons_self) List.not_mem_nil
  | a :: l, b :: m, hl, hm, h => by
    obtain ⟨l1, l2⟩ := List.pairwise_cons.mp hl
    obtain ⟨m1, m2⟩ := List.pairwise_cons.mp hm
    have e : a = b := by
      have h1 := (h a).mp List.mem_cons_self
      have h2 := (h b).mpr List.mem_cons_self
      rcases List.mem_cons.mp h1 with e | h1
      · exact e
      · rcases List.mem_cons.mp h2 with e | h2
        · exact e.symm
        · have := l1 b h2
          have := m1 a h1
          omega
    subst e
    rw [lt_ext l2 m2 fun x => ⟨fun hx => ?_, fun hx => ?_⟩]
    · rcases List.mem_cons.mp ((h x).mp (List.mem_cons_of_mem _ hx)) with e | z
      · have := l1 x hx
        omega
      · exact z
    · rcases List.mem_cons.mp ((h x).mpr (List.mem_cons_of_mem _ hx)) with e | z
      · have := m1 x hx
        omega
      · exact z
theorem sorted_lt {l : List Int} (h1 : l.Pairwise (· ≤ ·)) (h2 : l.Nodup) : l.Pairwise (· < ·) := h1.imp₂ (fun a b h1 h2 => by omega) h2
theorem nI_flt_lt (n : Nat) (p : Nat → Bool) : (nI (flt n p)).Pairwise (· < ·) := by
  unfold nI flt
  rw [List.pairwise_map]
  exact (List.pairwise_lt_range.filter _).imp fun h => by omega
theorem sorted_flt {n : Nat} {p : Nat → Bool} {ms ns : List Int} (nd : ms.Nodup) (hp : ns.Perm ms) (hs : ns.Pairwise (· ≤ ·)) (hm : ∀ x : Int, x ∈ ms ↔ x ∈ nI (flt n p)) : ns = nI (flt n p) :=
  lt_ext (sorted_lt hs (hp.nodup_iff.mpr nd)) (nI_flt_lt n p) fun x => by rw [hp.mem_iff, hm x]
theorem natV_nI (os : List Nat) : natV os = (nI os).map V.int := by
  unfold natV nI
  rw [List.map_map]
  rfl
section
variable {P : Program} {w : World} {K : PySem.W.Frag} {mg : Str → Option Value} {base : Heap} {C NL : Addr}
def spTogether (K : PySem.W.Frag) : Sp := fun vs H Q _ => ∃ (a b : Addr) (n : Nat) (p q : Nat → Bool), vs = [.ref a, .ref b] ∧ n ≤ 24 ∧ SqL K H a (natV (flt n p)) ∧ SqL K H b (natV (flt n q)) ∧
  ∀ D H', H D = none → Same H H' → H' D = some (.lst (natV (flt n fun x => p x ^^ q x))) → Q (.ref D) H'
theorem sc_together : FnScope ["one", "other"] ["one", "other"] (defScope s_together) := ⟨rfl, rfl, rfl, by decide +kernel, rfl, by decide +kernel, by decide +kernel⟩
theorem ok_together {f : Addr} {fd : FuncData} (F : Fun K "together" "together" s_together f fd) (T : LB mg) : FnOk P w K mg base CX0 1 f fd ["one", "other"] (spTogether K) := by
  refine F.ok sc_together (fun vs H Q E h => ?_) (fun cdv A outer s H vs Q E hr h => ?_)
  · obtain ⟨a, b, n, p, q, rfl, _⟩ := h
    rfl
  · obtain ⟨a, b, n, p, q, rfl, hn, ha, hb, k⟩ := h
    refine ⟨_, ((L2.pss_one (ps_ret (pe_callB (sortedK w rfl) rfl T.b_sorted bootB_sorted (L2.pa_cons ((pe_op (xorK w) (pe_callTy (setK K w rfl) rfl T.b_set bootB_set (L2.pa_cons ((pv 0)) L2.pa_nil)) (pe_callTy (setK K w rfl) rfl T.b_set bootB_set (L2.pa_cons ((pv 1)) L2.pa_nil)))) L2.pa_nil))))), ?_⟩
    have hlp := flt_len n p
    have hlq := flt_len n q
    refine ⟨_, rfl, a, nI (flt n p), rfl, (by rw [← natV_nI]; exact ha), nI_nd (flt_nd n p), (by unfold nI; rw [List.length_map]; omega), fun s1 hs1 => ?_⟩
    have t1 := Same.laid (o := setO w s1 (nI (flt n p))) hs1
    refine ⟨_, rfl, b, nI (flt n q), rfl, (by rw [← natV_nI]; exact t1.seq hb), nI_nd (flt_nd n q), (by unfold nI; rw [List.length_map]; omega), fun s2 hs2 => ?_⟩
    have t2 := Same.laid (o := setO w s2 (nI (flt n q))) hs2
    refine ⟨s1, s2, _, _, rfl, rfl, t2 _ _ upd_same, upd_same, (by unfold nI; rw [List.length_map]; omega), (by unfold nI; rw [List.length_map]; omega), fun x hx => ?_, fun s3 ms hs3 nd hm => ?_⟩
    · obtain ⟨j, hj, rfl⟩ := nI_mem.mp hx
      have := (flt_mem.mp hj).1
      omega
    have t3 := Same.laid (o := setO w s3 ms) hs3
    have hmem : ∀ x : Int, x ∈ ms ↔ x ∈ nI (flt n fun x => p x ^^ q x) := fun x => by
      rw [hm x, nI_mem, nI_mem, nI_mem]
      constructor
      · intro z
        by_cases h1 : ∃ j ∈ flt n p, (j : Int) = x
        · obtain ⟨j, hj, rfl⟩ := h1
          have h2 : ¬ ∃ i ∈ flt n q, (i : Int) = (j : Int) := fun y => z ⟨fun _ => y, fun _ => ⟨j, hj, rfl⟩⟩
          obtain ⟨g1, g2⟩ := flt_mem.mp hj
          refine ⟨j, flt_mem.mpr ⟨g1, ?_⟩, rfl⟩
          cases hq : q j with
          | false => rw [g2]; rfl
          | true => exact absurd ⟨j, flt_mem.mpr ⟨g1, hq⟩, rfl⟩ h2
        · by_cases h2 : ∃ j ∈ flt n q, (j : Int) = x
          · obtain ⟨j, hj, rfl⟩ := h2
            obtain ⟨g1, g2⟩ := flt_mem.mp hj
            refine ⟨j, flt_mem.mpr ⟨g1, ?_⟩, rfl⟩
            cases hp : p j with
            | false => rw [g2]; rfl
            | true => exact absurd ⟨j, flt_mem.mpr ⟨g1, hp⟩, rfl⟩ h1
          · exact absurd ⟨fun y => absurd y h1, fun y => absurd y h2⟩ z
      · rintro ⟨j, hj, rfl⟩ z
        obtain ⟨g1, g2⟩ := flt_mem.mp hj
        cases hp : p j with
        | true =>
          obtain ⟨i, hi, e⟩ := z.mp ⟨j, flt_mem.mpr ⟨g1, hp⟩, rfl⟩
          have e' : i = j := by omega
          subst e'
          rw [hp, (flt_mem.mp hi).2] at g2
          cases g2
        | false =>
          have hq : q j = true := by rw [hp] at g2; simpa using g2
          obtain ⟨i, hi, e⟩ := z.mpr ⟨j, flt_mem.mpr ⟨g1, hq⟩, rfl⟩
          have e' : i = j := by omega
          subst e'
          rw [(flt_mem.mp hi).2] at hp
          cases hp
    have len : ms.length < 64 := by
      have : ms.length = (nI (flt n fun x => p x ^^ q x)).length := by
        refine List.Perm.length_eq ?_
        exact (List.perm_ext_iff_of_nodup nd (nI_nd (flt_nd _ _))).mpr hmem
      have := flt_len n fun x => p x ^^ q x
      unfold nI at *
      rw [List.length_map] at *
      omega
    refine ⟨s3, ms, rfl, upd_same, len, fun D ns hD hp hs => ?_⟩
    have e := sorted_flt nd hp hs hmem
    subst e
    refine k D _ (((t1.trans t2).trans t3).free hD) (((t1.trans t2).trans t3).trans (Same.laid hD)) ?_
    rw [upd_same, natV_nI]
def spDiffering (K : PySem.W.Frag) : Sp := fun vs H Q _ => ∃ (a b : Addr) (n : Nat) (f g : Nat → Bool), vs = [.ref a, .ref b] ∧ n ≤ 24 ∧ SqL K H a (rowV n f) ∧ SqL K H b (rowV n g) ∧
  ∀ D H', H D = none → Same H H' → H' D = some (.lst (natV (flt n fun i => f i != g i))) → Q (.ref D) H'
theorem sc_differing : FnScope ["light", "wished"] ["light", "wished"] (defScope s_differing) := ⟨rfl, rfl, rfl, by decide +kernel, rfl, by decide +kernel, by decide +kernel⟩
theorem ok_differing {f : Addr} {fd : FuncData} (F : Fun K "differing" "differing" s_differing f fd) (T : LB mg) : FnOk P w K mg base CX0 1 f fd ["light", "wished"] (spDiffering K) := by
  refine F.ok sc_differing (fun vs H Q E h => ?_) (fun cdv A outer s H vs Q E hr h => ?_)
  · obtain ⟨a, b, n, f, g, rfl, _⟩ := h
    rfl
  · obtain ⟨a, b, n, f, g, rfl, hn, ha, hb, k⟩ := h
    refine ⟨_, ((L2.pss_one (ps_ret (pe_compP (js := [1]) rfl (by kernel_rfl) (piEK K rfl T.b_enumerate (L2.pa_cons ((pv 0)) L2.pa_nil)) (fun _ _ _ _ _ => pf_one (pt_cmpR op_ne (pv 1) (pe_ix (ixLK K) (pv 2) (pv 0) (fun _ _ => rfl)) (nomark _))) (fun _ _ _ _ _ => (pv 0)))))), ?_⟩
    refine ⟨_, rfl, a, rfl, ⟨_, ha⟩, comp_enumF (xs := rowV n f) (fun i => f i != g i) (fun i => .int i) (by rw [rowV_len]; omega) ha (fun i x Hc k' hx sm q => ?_) (fun i x Hc k' hx hp sm q => ⟨_, rfl, q⟩) fun D H2 hD sm hd => ?_⟩
    · have hi : i < n := by
        have := (List.getElem?_eq_some_iff.mp hx).1
        rwa [rowV_len] at this
      rw [rowV_at f hi] at hx
      cases hx
      refine ⟨_, rfl, _, rfl, _, rfl, b, _, _, _, rfl, rfl, sm.seq hb, atI_of (by omega) (by rw [show ((i : Nat) : Int).toNat = i by omega]; exact rowV_at g hi), rfl, _, rfl, ?_⟩
      rw [ne_bl]
      exact q
    · rw [rowV_len] at hd
      exact k D H2 hD sm hd
structure StepsAt (H : Hp) (S : Addr) (zs : List (Addr × V × V)) (n : Nat) (t u : Nat → Nat → Bool) : Prop where
  top : H S = some (.lst (zs.map fun z => V.ref z.1))
  at_ : ∀ (i : Nat) z, zs[i]? = some z → ∃ b c, z.2.1 = .ref b ∧ z.2.2 = .ref c ∧ H z.1 = some (.tup [.ref b, .ref c]) ∧ H b = some (.lst (natV (flt n (t i)))) ∧ H c = some (.lst (natV (flt n (u i))))
theorem StepsAt.same {H H' : Hp} {S : Addr} {zs : List (Addr × V × V)} {n : Nat} {t u : Nat → Nat → Bool} (A : StepsAt H S zs n t u) (s : Same H H') : StepsAt H' S zs n t u := ⟨s _ _ A.top, fun i z e => by
  obtain ⟨b, c, e1, e2, e3, e4, e5⟩ := A.at_ i z e
  exact ⟨b, c, e1, e2, s _ _ e3, s _ _ e4, s _ _ e5⟩⟩
def spReduced (K : PySem.W.Frag) : Sp := fun vs H Q _ => ∃ (S l b : Addr) (zs : List (Addr × V × V)) (n : Nat) (t u : Nat → Nat → Bool) (p q : Nat → Bool), vs = [.ref S, .ref l, .ref b] ∧ n ≤ 24 ∧ zs.length ≤ 24 ∧ StepsAt H S zs n t u ∧ H l = some (.lst (natV (flt n p))) ∧ H b = some (.lst (natV (flt n q))) ∧
  ∀ (R l' b' : Addr) (H' : Hp), H R = none → Same H H' → (l' = l ∨ H l' = none) → (b' = b ∨ H b' = none) → H' R = some (.tup [.ref l', .ref b']) → H' l' = some (.lst (natV (flt n (red n t u zs.length (p, q)).1))) → H' b' = some (.lst (natV (flt n (red n t u zs.length (p, q)).2))) → Q (.ref R) H'
theorem sc_reduced : FnScope ["steps", "lamps", "buttons", "turned", "used"] ["steps", "lamps", "buttons"] (defScope s_reduced) := ⟨rfl, rfl, rfl, by decide +kernel, rfl, by decide +kernel, by decide +kernel⟩
theorem ok_reduced {f : Addr} {fd : FuncData} (F : Fun K "reduced" "reduced" s_reduced f fd) (T : LB mg) (hF_together : Has P w K mg base (CXE P w) 1 "together" ["one", "other"] (spTogether K)) : FnOk P w K mg base CX0 2 f fd ["steps", "lamps", "buttons"] (spReduced K) := by
  refine F.ok sc_reduced (fun vs H Q E h => ?_) (fun cdv A outer s H vs Q E hr h => ?_)
  · obtain ⟨S, l, b, zs, n, t, u, p, q, rfl, _⟩ := h
    rfl
  · obtain ⟨S, l, b, zs, n, t, u, p, q, rfl, hn, hz, A0, hl, hb, k⟩ := h
    refine ⟨_, ((L2.pss_cons (ps_for PassesOwn.never rfl (piLK K (pv 0)) (pg_tup rfl (pgs_cons (pg_name (i := 3) sc_reduced.nd rfl (by first | exact Or.inl rfl | exact Or.inr rfl)) (pgs_cons (pg_name (i := 4) sc_reduced.nd rfl (by first | exact Or.inl rfl | exact Or.inr rfl)) (pgs_nil)))) ((L2.pss_one (ps_if (PW.pt (pw_and (pt_cmpR op_gt (pe_callB (lenK K) rfl T.b_len bootB_len (L2.pa_cons ((pv 3)) L2.pa_nil)) (pe_int) (nomark _)) (pw_and1 (pt_cmpR (inSK K) (pe_ix (ixLK K) (pv 3) (pe_int) (fun _ _ => rfl)) (pv 1) rfl)))) ((L2.pss_cons (ps_set (i := 1) sc_reduced.nd rfl (by first | exact Or.inl rfl | exact Or.inr rfl) (pe_callH hF_together (hr.mono (by decide)) rfl (passN) (L2.pa_cons ((pv 1)) (L2.pa_cons ((pv 3)) L2.pa_nil)))) (L2.pss_one (ps_set (i := 2) sc_reduced.nd rfl (by first | exact Or.inl rfl | exact Or.inr rfl) (pe_callH hF_together (hr.mono (by decide)) rfl (passN) (L2.pa_cons ((pv 2)) (L2.pa_cons ((pv 4)) L2.pa_nil))))))) pss_nil)))) (L2.pss_one (ps_ret (pe_tup (L2.pa_cons ((pv 1)) (L2.pa_cons ((pv 2)) L2.pa_nil))))))), ?_⟩
    have len : (zs.map fun z => V.ref z.1).length = zs.length := by simp
    refine ⟨_, rfl, S, rfl, ⟨_, SqL.of A0.top⟩, for_list (xs := zs.map fun z => V.ref z.1) (fun i σ H2 => ∃ (l' b' : Addr) (v3 v4 : Option V), σ = [some (.ref S), some (.ref l'), some (.ref b'), v3, v4] ∧ Same H H2 ∧ (l' = l ∨ H l' = none) ∧ (b' = b ∨ H b' = none) ∧
        H2 l' = some (.lst (natV (flt n (red n t u i (p, q)).1))) ∧ H2 b' = some (.lst (natV (flt n (red n t u i (p, q)).2))))
      ⟨l, b, none, none, rfl, Same.refl _, .inl rfl, .inl rfl, hl, hb⟩ (fun i σ H2 _ ⟨_, _, _, _, _, s2, _⟩ => SqL.of (s2 _ _ A0.top)) ?_ ?_⟩
    · rintro i x σ H2 hx ⟨l', b', v3, v4, rfl, s2, fl, fb, hl2, hb2⟩
      rw [List.getElem?_map] at hx
      cases hz' : zs[i]? with
      | none => rw [hz'] at hx; cases hx
      | some z =>
        rw [hz'] at hx
        cases hx
        obtain ⟨tb, ub, e1, e2, e3, e4, e5⟩ := (A0.same s2).at_ i z hz'
        refine ⟨z.1, _, rfl, SqT.of e3, rfl, _, _, rfl, _, _, rfl, rfl, ?_⟩
        -- len(turned) > 0
        refine ⟨_, rfl, tb, _, rfl, .inl (SqL.of e4), _, _, rfl, rfl, _, rfl, ?_⟩
        have hd := flt_head n (t i)
        cases hh : hdF n (t i) with
        | none =>
          have e0 : flt n (t i) = [] := by
            rw [hh] at hd
            cases hf : flt n (t i) with
            | nil => rfl
            | cons a l => rw [hf] at hd; cases hd
          refine iteFe (by rw [e0]; rfl) (iteF ?_)
          refine ⟨l', b', _, _, rfl, s2, fl, fb, ?_, ?_⟩
          · rw [red]
            simp only [hh]
            exact hl2
          · rw [red]
            simp only [hh]
            exact hb2
        | some h =>
          rw [hh] at hd
          have hpos : 0 < (flt n (t i)).length := (List.getElem?_eq_some_iff.mp hd).1
          have hlt := (hdF_some hh).1
          refine iteTe (decide_eq_true (by rw [natV_len]; omega)) ?_
          refine ⟨_, rfl, tb, _, _, .int (h : Int), rfl, rfl, SqL.of e4, atI_of (by decide) (by
            show (natV (flt n (t i)))[0]? = _
            unfold natV
            rw [List.getElem?_map, hd]
            rfl), _, rfl, l', _, rfl, .inl (SqL.of hl2), rfl, natV_flat _, _, rfl, ?_⟩
          rw [if_neg Bool.false_ne_true, inV_nat, flt_contains hlt]
          by_cases c : (red n t u i (p, q)).1 h = true
          · refine iteTe c ?_
            refine ⟨_, rfl, _, rfl, l', tb, n, _, _, rfl, hn, SqL.of hl2, SqL.of e4, fun D1 H3 hD1 s3 h3 => ?_⟩
            refine ⟨_, rfl, _, rfl, b', ub, n, _, _, rfl, hn, SqL.of (s3 _ _ hb2), SqL.of (s3 _ _ e5), fun D2 H4 hD2 s4 h4 => ?_⟩
            refine ⟨D1, D2, _, _, rfl, (s2.trans s3).trans s4, .inr (s2.free hD1), .inr ((s2.trans s3).free hD2), ?_, ?_⟩
            · rw [red]
              simp only [hh]
              rw [if_pos c]
              exact s4 _ _ h3
            · rw [red]
              simp only [hh]
              rw [if_pos c]
              exact h4
          · refine iteFe (by simpa using c) ?_
            refine ⟨l', b', _, _, rfl, s2, fl, fb, ?_, ?_⟩
            · rw [red]
              simp only [hh]
              rw [if_neg c]
              exact hl2
            · rw [red]
              simp only [hh]
              rw [if_neg c]
              exact hb2
    · rintro σ H2 ⟨l', b', v3, v4, rfl, s2, fl, fb, hl2, hb2⟩
      rw [len] at hl2 hb2
      refine ⟨_, rfl, _, rfl, (by show 2 ≤ sizeLine; decide), fun R hR => ?_⟩
      have t1 := Same.laid (o := .tup [.ref l', .ref b']) hR
      exact k R l' b' _ (s2.free hR) (s2.trans t1) fl fb upd_same (t1 _ _ hl2) (t1 _ _ hb2)
def spSteps (C : Addr) : Sp := fun vs H Q _ => ∃ (p dx r : Addr) (qs : List Addr) (n : Nat) (M : Nat → Nat → Bool), vs = [.ref p] ∧ YardAt C H p dx r qs n M ∧ 1 ≤ n ∧ n ≤ 24 ∧
  ∀ (S : Addr) (zs : List (Addr × V × V)) (t u : Nat → Nat → Bool) (H' : Hp), H S = none → Same H H' → StepsAt H' S zs n t u → zs.length = n → Ech n M n t u → (∀ z ∈ zs, ∀ c, z.2.2 = .ref c → H c = none) → Q (.ref S) H'
theorem sc_steps_of : FnScope ["yard", "steps", "lamp"] ["yard"] (defScope s_steps_of) := ⟨rfl, rfl, rfl, by decide +kernel, rfl, by decide +kernel, by decide +kernel⟩
theorem ok_steps_of {f : Addr} {fd : FuncData} (F : Fun K "steps_of" "steps_of" s_steps_of f fd) (T : LB mg) (Y0 : Cls K C) (nM : NoAttr K C "many") (hF_reduced : Has P w K mg base (CXE P w) 2 "reduced" ["steps", "lamps", "buttons"] (spReduced K)) (hM_turns : HasM P w K mg base (CXE P w) 2 C "turns" ["self", "lamp"] [] (spTurns C NL)) : FnOk P w K mg base CX0 3 f fd ["yard"] (spSteps C) := by
  refine F.ok sc_steps_of (fun vs H Q E h => ?_) (fun cdv A outer s H vs Q E hr h => ?_)
  · obtain ⟨p, dx, r, qs, n, M, rfl, _⟩ := h
    rfl
  · obtain ⟨p, dx, r, qs, n, M, rfl, Y, hn1, hn, k⟩ := h
    refine ⟨_, ((L2.pss_cons (ps_set (i := 1) sc_steps_of.nd rfl (by first | exact Or.inl rfl | exact Or.inr rfl) (pe_lst L2.pa_nil)) (L2.pss_cons (ps_for PassesOwn.never rfl (pi_range1 rfl T.b_range (L2.pa_cons ((fldK K (pv 0))) L2.pa_nil)) (pg_name (i := 2) sc_steps_of.nd rfl (by first | exact Or.inl rfl | exact Or.inr rfl)) ((L2.pss_one (ps_expr (pe_bm PySem.F.plainAttrs_list PySem.F.slot_list_append PySem.F.type_list_append mt_append (pv 1) (L2.pa_cons ((pe_callH hF_reduced (hr.mono (by decide)) rfl (passN) (L2.pa_cons ((pv 1)) (L2.pa_cons ((pe_methH (pv 0) hM_turns (hr.mono (by decide)) (passN) (L2.pa_cons ((pv 2)) L2.pa_nil))) (L2.pa_cons ((pe_lst (L2.pa_cons ((pv 2)) L2.pa_nil))) L2.pa_nil))))) L2.pa_nil)))))) (L2.pss_one (ps_ret (pv 1)))))), ?_⟩
    refine ⟨Nat.zero_le _, fun S hS => ?_⟩
    have s0 : Same H (upd H S (.lst [])) := Same.laid hS
    refine ⟨_, rfl, p, C, dx, _, _, rfl, (Y.same s0).ob, Y0, nM, yf_many _ _, n, rfl, rgL, rgU (by assumption), for_range (lo := 0) (n := n) (fun i σ H2 => ∃ (zs : List (Addr × V × V)) (t u : Nat → Nat → Bool) (v2 : Option V), σ = [some (.ref p), some (.ref S), v2] ∧ Same H H2 ∧ StepsAt H2 S zs n t u ∧ zs.length = i ∧ Ech n M i t u ∧ (∀ z ∈ zs, ∀ c, z.2.2 = .ref c → H c = none))
      ⟨[], fun _ _ => false, fun _ _ => false, none, rfl, s0, ⟨upd_same, fun i z e => by simp at e⟩, rfl, Ech.zero, fun z hz => absurd hz List.not_mem_nil⟩ ?_ ?_⟩
    · rintro i σ H2 hi ⟨zs, t, u, v2, rfl, s2, A2, hlen, E2, fz⟩
      have Y2 := Y.same s2
      refine ⟨_, rfl, .inl ⟨rfl, _, SqL.of A2.top⟩, _, rfl, _, rfl, p, dx, _, rfl, Y2.ob, yf_no _ _ (by decide +kernel) (by decide +kernel), _, rfl, p, dx, r, qs, n, M, _, rfl, Y2, hn, fun ok D hD => ?_, fun bad => absurd (okI hi) bad⟩
      have eD : ((List.range n).filter (M (0 + (i : Int)).toNat)).map (fun j : Nat => V.int (j : Int)) = natV (flt n (M i)) := by
        rw [tn0 i]
        rfl
      rw [eD]
      have t1 := Same.laid (o := .lst (natV (flt n (M i)))) hD
      refine ⟨_, rfl, (by show 1 ≤ sizeLine; decide), fun O hO => ?_⟩
      have eO : [V.int (0 + (i : Int))] = natV (flt n fun x => decide (x = i)) := by
        unfold flt
        rw [filter_one (by omega)]
        simp [natV]
      rw [eO]
      have t2 := Same.laid (o := .lst (natV (flt n fun x => decide (x = i)))) hO
      have s13 := t1.trans t2
      refine ⟨S, D, O, zs, n, t, u, M i, fun x => decide (x = i), rfl, hn, by omega, A2.same s13, t2 _ _ upd_same, upd_same, fun R l' b' H4 hR s4 fl fb h1 h2 h3 => ?_⟩
      have s24 := s13.trans s4
      have A4 := A2.same s24
      have nS : ∀ c o, H c = some o → c ≠ S := fun c o e => ne_of_none e hS
      have nRS : R ≠ S := fun z => by
        have e := (A2.same s13).top
        rw [← z, hR] at e
        cases e
      have nl : ∀ c ys, H4 c = some (.lst ys) → ys ≠ zs.map (fun z => V.ref z.1) → c ≠ S := fun c ys e ne z => by
        rw [z, A4.top] at e
        cases e
        exact ne rfl
      have ndS : ∀ c, (c = D ∨ (upd (upd H2 D (.lst (natV (flt n (M i))))) O (.lst (natV (flt n fun x => decide (x = i))))) c = none) → c ≠ S := fun c hc z => by
        rcases hc with e | e
        · rw [← e, z, A2.top] at hD
          cases hD
        · rw [z, (A2.same s13).top] at e
          cases e
      have ndO : ∀ c, (c = O ∨ (upd (upd H2 D (.lst (natV (flt n (M i))))) O (.lst (natV (flt n fun x => decide (x = i))))) c = none) → c ≠ S := fun c hc z => by
        rcases hc with e | e
        · rw [← e, z, (A2.same t1).top] at hO
          cases hO
        · rw [z, (A2.same s13).top] at e
          cases e
      have l'S := ndS l' fl
      have b'S := ndO b' fb
      refine ⟨S, _, _, rfl, rfl, A4.top, small1000 (by rw [List.length_map]; omega), ?_⟩
      refine ⟨zs ++ [(R, .ref l', .ref b')], fun m => if m = i then (red n t u i (M i, fun x => decide (x = i))).1 else t m, fun m => if m = i then (red n t u i (M i, fun x => decide (x = i))).2 else u m, _, rfl, fun c o e => ?_, ⟨?_, fun m z e => ?_⟩, by simp [hlen], ?_, fun z hz c ec => ?_⟩
      · rw [upd_ne (nS c o e)]
        exact s24 _ _ (s2 _ _ e)
      · rw [upd_same, List.map_append]
        rfl
      · by_cases hm : m < zs.length
        · rw [List.getElem?_append_left hm] at e
          obtain ⟨b, c, e1, e2, e3, e4, e5⟩ := A4.at_ m z e
          have hne : ¬ m = i := by omega
          rw [if_neg hne, if_neg hne]
          refine ⟨b, c, e1, e2, ?_, ?_, ?_⟩
          · rw [upd_ne (ne_of e3 A4.top (by intro z; cases z))]
            exact e3
          · have : b ≠ S := fun z => by
              obtain ⟨b0, c0, f1, f2, f3, f4, f5⟩ := A2.at_ m _ e
              rw [f1] at e1
              cases e1
              rw [z, A2.top] at f4
              injection f4 with f4
              injection f4 with f4
              have l1 := congrArg List.length f4
              cases hzs : zs with
              | nil => rw [hzs] at hm; simp at hm
              | cons a l =>
                rw [hzs, List.map_cons] at f4
                cases hf : flt n (t m) with
                | nil => rw [hf] at f4; cases f4
                | cons a' l' => rw [hf] at f4; cases f4
            rw [upd_ne this]
            exact e4
          · have : c ≠ S := fun z => by
              obtain ⟨b0, c0, f1, f2, f3, f4, f5⟩ := A2.at_ m _ e
              rw [f2] at e2
              cases e2
              rw [z, A2.top] at f5
              injection f5 with f5
              injection f5 with f5
              cases hzs : zs with
              | nil => rw [hzs] at hm; simp at hm
              | cons a l =>
                rw [hzs, List.map_cons] at f5
                cases hf : flt n (u m) with
                | nil => rw [hf] at f5; cases f5
                | cons a' l' => rw [hf] at f5; cases f5
            rw [upd_ne this]
            exact e5
        · rw [List.getElem?_append_right (by omega)] at e
          have hm0 : m - zs.length = 0 := by
            have := (List.getElem?_eq_some_iff.mp e).1
            simp at this
            omega
          rw [hm0] at e
          have e' : (R, V.ref l', V.ref b') = z := by simpa using e
          subst e'
          have hmi : m = i := by omega
          subst hmi
          rw [if_pos rfl, if_pos rfl]
          rw [hlen] at h2 h3
          refine ⟨l', b', rfl, rfl, ?_, ?_, ?_⟩
          · rw [upd_ne nRS]
            exact h1
          · rw [upd_ne l'S]
            exact h2
          · rw [upd_ne b'S]
            exact h3
      · exact E2.next (by omega) (fun m hm => by rw [if_neg (by omega)]) (fun m hm => by rw [if_neg (by omega)]) (fun j _ => by rw [if_pos rfl]) (fun j _ => by rw [if_pos rfl])
      · rcases List.mem_append.mp hz with hz | hz
        · exact fz z hz c ec
        · have e' : z = (R, V.ref l', V.ref b') := by simpa using hz
          rw [e'] at ec
          cases ec
          rcases fb with e | e
          · rw [e]
            exact (s2.trans t1).free hO
          · exact (s2.trans s13).free e
    · rintro σ H2 ⟨zs, t, u, v2, rfl, s2, A2, hlen, E2, fz⟩
      exact ⟨_, rfl, k S zs t u H2 hS s2 A2 hlen E2 fz⟩
def lstAt (H : Hp) (v : V) : List V := match v with
  | .ref a => (match H a with | some (.lst xs) => xs | _ => [])
  | _ => []
theorem lstAt_of {H : Hp} {a : Addr} {xs : List V} (h : H a = some (.lst xs)) : lstAt H (.ref a) = xs := by unfold lstAt; dsimp only; rw [h]
def spQuietSets (K : PySem.W.Frag) : Sp := fun vs H Q _ => ∃ (S : Addr) (zs : List (Addr × V × V)) (n : Nat) (t u : Nat → Nat → Bool), vs = [.ref S] ∧ n ≤ 24 ∧ zs.length ≤ 24 ∧ StepsAt H S zs n t u ∧
  ∀ D, H D = none → Q (.ref D) (upd H D (.lst ((zs.filter fun z => (lstAt H z.2.1).isEmpty).map fun z => z.2.2)))
theorem sc_quiet_sets : FnScope ["steps"] ["steps"] (defScope s_quiet_sets) := ⟨rfl, rfl, rfl, by decide +kernel, rfl, by decide +kernel, by decide +kernel⟩
theorem ok_quiet_sets {f : Addr} {fd : FuncData} (F : Fun K "quiet_sets" "quiet_sets" s_quiet_sets f fd) (T : LB mg) : FnOk P w K mg base CX0 1 f fd ["steps"] (spQuietSets K) := by
  refine F.ok sc_quiet_sets (fun vs H Q E h => ?_) (fun cdv A outer s H vs Q E hr h => ?_)
  · obtain ⟨S, zs, n, t, u, rfl, _⟩ := h
    rfl
  · obtain ⟨S, zs, n, t, u, rfl, hn, hz, A0, k⟩ := h
    refine ⟨_, ((L2.pss_one (ps_ret (pe_compP (js := []) rfl (by kernel_rfl) (piLK K (pv 0)) (fun _ _ _ _ _ => pf_one (pt_cmpR op_eq (pe_callB (lenK K) rfl T.b_len bootB_len (L2.pa_cons ((pv 0)) L2.pa_nil)) (pe_int) (nomark _))) (fun _ _ _ _ _ => (pv 1)))))), ?_⟩
    refine ⟨_, rfl, S, rfl, ⟨_, SqL.of A0.top⟩, comp_pairs (zs := zs) (fun z => (lstAt H z.2.1).isEmpty) (fun z => z.2.2) (by omega) (SqL.of A0.top) (fun z hm => ?_) (fun z Hc k' hm sm q => ?_) (fun z Hc k' hm hp sm q => ⟨_, rfl, q⟩) fun D hD => k D hD⟩
    · obtain ⟨i, hi⟩ := List.getElem?_of_mem hm
      obtain ⟨b, c, e1, e2, e3, e4, e5⟩ := A0.at_ i z hi
      rw [e1, e2]
      exact e3
    · obtain ⟨i, hi⟩ := List.getElem?_of_mem hm
      obtain ⟨b, c, e1, e2, e3, e4, e5⟩ := A0.at_ i z hi
      rw [e1] at q ⊢
      refine ⟨_, rfl, b, _, rfl, .inl (SqL.of (sm _ _ e4)), rfl, _, rfl, ?_⟩
      rw [lstAt_of e4] at q
      have e : decide (V.int ((natV (flt n (t i))).length : Int) = V.int 0) = (natV (flt n (t i))).isEmpty := by
        cases natV (flt n (t i)) with
        | nil => rfl
        | cons a l =>
          apply decide_eq_false
          intro z
          have := V.int.inj z
          simp at this
          omega
      rw [e]
      exact q
end
end Lp

/-! ## way -/
namespace Lp
open PySem L2 Lamp
abbrev s_way : Stmt := top 17
theorem par_xsum (M : Nat → Nat → Bool) (j : Nat) : ∀ ps : List Nat, par M ps j = xsum (fun l => M l j) ps
  | [] => rfl
  | a :: l => by rw [par, xsum, par_xsum M j l]
theorem par_flt (n : Nat) (M : Nat → Nat → Bool) (p : Nat → Bool) (j : Nat) : par M (flt n p) j = turn n M p j := by
  rw [par_xsum]
  unfold flt turn
  rw [xsum_filter]
theorem meets_flt (n : Nat) (p q : Nat → Bool) : meets ((List.range n).filter p) (flt n q) = ((List.range n).filter fun x => p x && q x).length := by
  unfold meets
  rw [List.filter_filter]
  congr 1
  apply List.filter_congr
  intro x hx
  rw [flt_contains (List.mem_range.mp hx), Bool.and_comm]
theorem dot_odd (n : Nat) (p q : Nat → Bool) : dot n p q = decide (((List.range n).filter fun x => p x && q x).length % 2 = 1) := xsum_count _ _
theorem both_len {n : Nat} {p q : Nat → Bool} {ms : List Int} (nd : ms.Nodup) (hm : ∀ x, x ∈ ms ↔ (x ∈ nI (flt n p) ∧ x ∈ nI (flt n q))) : ms.length = ((List.range n).filter fun x => p x && q x).length := by
  have h : ms.Perm (nI (flt n fun x => p x && q x)) := (List.perm_ext_iff_of_nodup nd (nI_nd (flt_nd _ _))).mpr fun x => by
    rw [hm x, nI_mem, nI_mem, nI_mem]
    constructor
    · rintro ⟨⟨j, hj, rfl⟩, ⟨i, hi, e⟩⟩
      have e' : i = j := by omega
      subst e'
      exact ⟨i, flt_mem.mpr ⟨(flt_mem.mp hj).1, by rw [(flt_mem.mp hj).2, (flt_mem.mp hi).2]; rfl⟩, rfl⟩
    · rintro ⟨j, hj, rfl⟩
      obtain ⟨g1, g2⟩ := flt_mem.mp hj
      rw [Bool.and_eq_true] at g2
      exact ⟨⟨j, flt_mem.mpr ⟨g1, g2.1⟩, rfl⟩, ⟨j, flt_mem.mpr ⟨g1, g2.2⟩, rfl⟩⟩
  rw [h.length_eq]
  unfold nI
  rw [List.length_map]
  rfl
theorem natV_inj : ∀ {l m : List Nat}, natV l = natV m → l = m
  | [], [], _ => rfl
  | [], _ :: _, h => by cases h
  | _ :: _, [], h => by cases h
  | a :: l, b :: m, h => by
    unfold natV at h
    rw [List.map_cons, List.map_cons] at h
    injection h with h1 h2
    have := V.int.inj h1
    have e : a = b := by omega
    rw [e, natV_inj h2]
theorem flt_inj {n : Nat} {p q : Nat → Bool} (h : flt n p = flt n q) {x : Nat} (hx : x < n) : p x = q x := by
  rw [← flt_contains (p := p) hx, h, flt_contains hx]
theorem told_reason {n : Nat} {M : Nat → Nat → Bool} {f g u : Nat → Bool} (sy : ∀ i j, M i j = M j i) (hq : ∀ j, j < n → turn n M u j = false) (hd : dot n u (fun i => f i != g i) = true) : Told n M f g false (flt n u) := by
  refine ⟨flt_len n u, fun o ho => (flt_mem.mp ho).1, asc_range _ _, (fun z => nomatch z), fun _ => ⟨fun i hi => ?_, ?_⟩⟩
  · rw [meets_flt]
    have e : dot n (M i) u = false := by
      rw [← hq i hi]
      unfold dot turn
      exact xsum_congr fun x _ => by rw [sy i x, Bool.and_comm]
    rw [dot_odd] at e
    have := of_decide_eq_false e
    omega
  · rw [meets_flt]
    have e : dot n (fun i => f i != g i) u = true := by rw [dot_comm]; exact hd
    rw [dot_odd] at e
    exact of_decide_eq_true e
theorem told_way {n : Nat} {M : Nat → Nat → Bool} {f g b : Nat → Bool} (h : ∀ j, j < n → turn n M b j = (f j != g j)) : Told n M f g true (flt n b) := by
  refine ⟨flt_len n b, fun o ho => (flt_mem.mp ho).1, asc_range _ _, fun _ j hj => ?_, fun z => nomatch z⟩
  rw [par_flt, h j hj]
  cases f j <;> cases g j <;> rfl
section
variable {P : Program} {w : World} {K : PySem.W.Frag} {mg : Str → Option Value} {base : Heap} {C NL : Addr}
theorem sc_way : FnScope ["yard", "light", "wished", "apart", "steps", "lamps"] ["yard", "light", "wished"] (defScope s_way) := ⟨rfl, rfl, rfl, by decide +kernel, rfl, by decide +kernel, by decide +kernel⟩
theorem ok_way {f : Addr} {fd : FuncData} (F : Fun K "way" "way" s_way f fd) (T : LB mg) (hF_differing : Has P w K mg base (CXE P w) 1 "differing" ["light", "wished"] (spDiffering K)) (hF_steps_of : Has P w K mg base (CXE P w) 3 "steps_of" ["yard"] (spSteps C))
    (hF_quiet_sets : Has P w K mg base (CXE P w) 1 "quiet_sets" ["steps"] (spQuietSets K)) (hF_reduced : Has P w K mg base (CXE P w) 2 "reduced" ["steps", "lamps", "buttons"] (spReduced K)) : FnOk P w K mg base CX0 4 f fd ["yard", "light", "wished"] (spWay K C) := by
  refine F.ok sc_way (fun vs H Q E h => ?_) (fun cdv A outer s H vs Q E hr h => ?_)
  · obtain ⟨p, dx, r, qs, n, M, a, b, f, g, rfl, _⟩ := h
    rfl
  · obtain ⟨p, dx, r, qs, n, M, a, b, f, g, rfl, Y, hn1, hn, sy, ha, hb, k⟩ := h
    refine ⟨_, ((L2.pss_cons (ps_set (i := 3) sc_way.nd rfl (by first | exact Or.inl rfl | exact Or.inr rfl) (pe_callH hF_differing (hr.mono (by decide)) rfl (passN) (L2.pa_cons ((pv 1)) (L2.pa_cons ((pv 2)) L2.pa_nil)))) (L2.pss_cons (ps_set (i := 4) sc_way.nd rfl (by first | exact Or.inl rfl | exact Or.inr rfl) (pe_callH hF_steps_of (hr.mono (by decide)) rfl (passN) (L2.pa_cons ((pv 0)) L2.pa_nil))) (L2.pss_cons (ps_for PassesOwn.never rfl (piLK K (pe_callH hF_quiet_sets (hr.mono (by decide)) rfl (passN) (L2.pa_cons ((pv 4)) L2.pa_nil))) (pg_name (i := 5) sc_way.nd rfl (by first | exact Or.inl rfl | exact Or.inr rfl)) ((L2.pss_one (ps_if (pt_cmpR op_eq (pe_op op_mod (pe_callB (lenSK w) rfl T.b_len bootB_len (L2.pa_cons ((pe_op (andK w) (pe_callTy (setK K w rfl) rfl T.b_set bootB_set (L2.pa_cons ((pv 5)) L2.pa_nil)) (pe_callTy (setK K w rfl) rfl T.b_set bootB_set (L2.pa_cons ((pv 3)) L2.pa_nil)))) L2.pa_nil)) (pe_int)) (pe_int) (nomark _)) ((L2.pss_one (ps_ret (pe_tup (L2.pa_cons ((pe_str)) (L2.pa_cons ((pv 5)) L2.pa_nil)))))) pss_nil)))) (L2.pss_one (ps_ret (pe_tup (L2.pa_cons ((pe_str)) (L2.pa_cons ((pe_ix (ixTK K) (pe_callH hF_reduced (hr.mono (by decide)) rfl (passN) (L2.pa_cons ((pv 4)) (L2.pa_cons ((pv 3)) (L2.pa_cons ((pe_lst L2.pa_nil)) L2.pa_nil)))) (pe_int) (fun _ _ => rfl))) L2.pa_nil))))))))), ?_⟩
    -- apart
    refine ⟨_, rfl, _, rfl, a, b, n, f, g, rfl, hn, ha, hb, fun Ap H1 hAp s1 h1 => ?_⟩
    -- steps
    refine ⟨_, rfl, p, dx, r, qs, n, M, rfl, Y.same s1, hn1, hn, fun S zs t u H2 hS s2 A2 hlen Ec fz => ?_⟩
    -- quiet sets
    refine ⟨_, rfl, S, zs, n, t, u, rfl, hn, by omega, A2, fun D0 hD0 => ?_⟩
    have s3 := Same.laid (o := .lst ((zs.filter fun z => (lstAt H2 z.2.1).isEmpty).map fun z => z.2.2)) hD0
    have A3 := A2.same s3
    have s13 := s2.trans s3
    have hq0 : ∀ (m : Nat) z, zs[m]? = some z → ((lstAt H2 z.2.1).isEmpty = true ↔ hdF n (t m) = none) := fun m z e => by
      obtain ⟨b, c, e1, e2, e3, e4, e5⟩ := A2.at_ m z e
      rw [e1, lstAt_of e4, ← flt_head]
      unfold natV
      cases flt n (t m) <;> simp
    refine ⟨D0, rfl, ⟨_, SqL.of upd_same⟩, for_list (xs := (zs.filter fun z => (lstAt H2 z.2.1).isEmpty).map fun z => z.2.2) (fun i σ H4 => ∃ (v5 : Option V), σ = [some (.ref p), some (.ref a), some (.ref b), some (.ref Ap), some (.ref S), v5] ∧ Same (upd H2 D0 (.lst ((zs.filter fun z => (lstAt H2 z.2.1).isEmpty).map fun z => z.2.2))) H4 ∧
        ∀ j z, j < i → (zs.filter fun z => (lstAt H2 z.2.1).isEmpty)[j]? = some z → ∃ m, zs[m]? = some z ∧ dot n (u m) (fun i => f i != g i) = false)
      ⟨none, rfl, Same.refl _, fun j z hj => absurd hj (by omega)⟩ (fun i σ H4 _ ⟨_, _, s4, _⟩ => SqL.of (s4 _ _ upd_same)) ?_ ?_⟩
    · rintro i x σ H4 hx ⟨v5, rfl, s4, ev⟩
      rw [List.getElem?_map] at hx
      cases hz' : (zs.filter fun z => (lstAt H2 z.2.1).isEmpty)[i]? with
      | none => rw [hz'] at hx; cases hx
      | some z =>
        rw [hz'] at hx
        have hx' : x = z.2.2 := by cases hx; rfl
        obtain ⟨hmz, hpz⟩ := List.mem_filter.mp (List.mem_of_getElem? hz')
        obtain ⟨m, hm⟩ := List.getElem?_of_mem hmz
        have hmn : m < n := by rw [← hlen]; exact (List.getElem?_eq_some_iff.mp hm).1
        have hnone := (hq0 m z hm).mp hpz
        obtain ⟨bb, c, e1, e2, e3, e4, e5⟩ := (A3.same s4).at_ m z hm
        rw [e2] at hx'
        subst hx'
        have hAp4 := s4 _ _ (s13 _ _ h1)
        refine ⟨_, rfl, c, nI (flt n (u m)), rfl, (by rw [← natV_nI]; exact SqL.of e5), nI_nd (flt_nd _ _), (by have := flt_len n (u m); unfold nI; rw [List.length_map]; omega), fun c1 hc1 => ?_⟩
        have t1 := Same.laid (o := setO w c1 (nI (flt n (u m)))) hc1
        refine ⟨_, rfl, Ap, nI (flt n fun i => f i != g i), rfl, (by rw [← natV_nI]; exact SqL.of (t1 _ _ hAp4)), nI_nd (flt_nd _ _), (by have := flt_len n (fun i => f i != g i); unfold nI; rw [List.length_map]; omega), fun c2 hc2 => ?_⟩
        have t2 := Same.laid (o := setO w c2 (nI (flt n fun i => f i != g i))) hc2
        refine ⟨c1, c2, _, _, rfl, rfl, (ne_of_none upd_same hc2), t2 _ _ upd_same, upd_same, fun c3 ms hc3 nd hms => ?_⟩
        have t3 := Same.laid (o := setO w c3 ms) hc3
        refine ⟨c3, ms, rfl, upd_same, _, _, rfl, rfl, posI rfl, rfl, _, rfl, ?_⟩
        have el := both_len nd hms
        have s5 : Same H4 _ := (t1.trans t2).trans t3
        refine ite2 (fun z1 => ?_) (fun z1 => ?_)
        · have z2 : ((ms.length : Int) % 2) = 1 := V.int.inj (of_decide_eq_true z1)
          have odd : dot n (u m) (fun i => f i != g i) = true := by
            rw [dot_odd, ← el]
            exact decide_eq_true (by omega)
          refine ⟨_, rfl, (by show 2 ≤ sizeLine; decide), fun tt htt => ?_⟩
          have t6 := Same.laid (o := .tup [.str "reason", .ref c]) htt
          have sA : Same H _ := ((s1.trans s13).trans s4).trans s5
          refine k tt c (flt n (u m)) false _ (sA.free htt) (s1.free (fz z hmz c e2)) (sA.trans t6) upd_same (t6 _ _ (s5 _ _ e5)) (told_reason sy (fun j hj => ?_) odd)
          rw [← Ec.tu m hmn j hj, hdF_none hnone hj]
        · refine ⟨_, rfl, s4.trans s5, fun j z' hj hz2 => ?_⟩
          by_cases hji : j = i
          · subst hji
            rw [hz'] at hz2
            cases hz2
            refine ⟨m, hm, ?_⟩
            rw [dot_odd, ← el]
            refine decide_eq_false fun y => z1 (decide_eq_true (congrArg V.int ?_))
            omega
          · exact ev j z' (by omega) hz2
    · rintro σ H4 ⟨v5, rfl, s4, ev⟩
      have A4 := A3.same s4
      have hAp4 := s4 _ _ (s13 _ _ h1)
      refine ⟨_, rfl, _, rfl, Nat.zero_le _, fun e0 he0 => ?_⟩
      have t1 := Same.laid (o := .lst []) he0
      have en : natV (flt n fun _ => false) = [] := by
        unfold flt
        rw [List.filter_eq_nil_iff.mpr (fun _ _ => Bool.false_ne_true)]
        rfl
      refine ⟨S, Ap, e0, zs, n, t, u, fun i => f i != g i, fun _ => false, rfl, hn, by omega, A4.same t1, t1 _ _ hAp4, (by rw [en]; exact upd_same), fun R l' b' H5 hR s5 fl fb r1 r2 r3 => ?_⟩
      rw [hlen] at r2 r3
      refine ⟨R, _, _, _, rfl, rfl, SqT.of r1, atI_pair1 rfl, (by show 2 ≤ sizeLine; decide), fun tt htt => ?_⟩
      have t6 := Same.laid (o := .tup [.str "way", .ref b']) htt
      have sA : Same H _ := (s1.trans s13).trans s4
      have sB := (sA.trans t1).trans s5
      have fb' : H b' = none := by
        rcases fb with e | e
        · rw [e]
          exact sA.free he0
        · exact (sA.trans t1).free e
      refine k tt b' _ true _ (sB.free htt) fb' (sB.trans t6) upd_same (t6 _ _ r3) (told_way fun j hj => ?_)
      refine (Ec.solve sy (fun z hz e => ?_) j hj).2
      have ez : zs[z]? = some zs[z] := List.getElem?_eq_getElem (by omega)
      generalize zs[z] = zz at ez
      have hmem : zz ∈ zs.filter fun z => (lstAt H2 z.2.1).isEmpty := List.mem_filter.mpr ⟨List.mem_of_getElem? ez, (hq0 z zz ez).mpr e⟩
      obtain ⟨j', hj'⟩ := List.getElem?_of_mem hmem
      obtain ⟨m, hm, hdm⟩ := ev j' zz (by rw [List.length_map]; exact (List.getElem?_eq_some_iff.mp hj').1) hj'
      rw [← hdm]
      obtain ⟨b1, c1, x1, x2, x3, x4, x5⟩ := A4.at_ z zz ez
      obtain ⟨b2, c2, y1, y2, y3, y4, y5⟩ := A4.at_ m zz hm
      rw [x2] at y2
      cases y2
      rw [x5] at y5
      injection y5 with y5
      injection y5 with y5
      have := natV_inj y5
      exact dot_congr fun x hx => flt_inj this hx
end
end Lp

/-! ## all_out -/
namespace Lp
open PySem L2 Lamp
abbrev s_all_out : Stmt := top 18
theorem rep_row (n : Nat) (v : Bool) : (List.replicate n [V.bl v]).flatten = rowV n fun _ => v := by
  unfold rowV rowL
  induction n with
  | zero => rfl
  | succ n ih =>
    rw [List.replicate_succ', List.flatten_append, ih, List.range_succ, List.map_append, List.map_append]
    rfl
theorem told_out {n : Nat} {M : Nat → Nat → Bool} (sy : ∀ i j, M i j = M j i) (hd : ∀ i, i < n → M i i = true) {way : Bool} {os : List Nat} (T : Told n M (fun _ => true) (fun _ => false) way os) : way = true := by
  obtain ⟨ol, om, ao, hy, hno⟩ := T
  cases way with
  | true => rfl
  | false =>
    obtain ⟨ev, od⟩ := hno rfl
    have nd := ao.nodup
    have m1 : ∀ q : Nat → Bool, meets ((List.range n).filter q) os = (os.filter q).length := fun q => by
      unfold meets
      rw [List.filter_filter, ← count_same q nd om]
      congr 1
      apply List.filter_congr
      intro x _
      exact Bool.and_comm _ _
    have e1 := even_of_meets sy (fun o ho => hd o (om o ho)) (fun i hi => by rw [← m1]; exact ev i (om i hi))
    rw [m1] at od
    have e2 : (os.filter fun i : Nat => (fun _ => true) i != (fun _ => false) i) = os := List.filter_eq_self.mpr fun _ _ => rfl
    rw [e2] at od
    omega
section
variable {P : Program} {w : World} {K : PySem.W.Frag} {mg : Str → Option Value} {base : Heap} {C NL SH : Addr}
def spAllOut (C SH : Addr) : Sp := fun vs H Q E => ∃ (p dx r : Addr) (qs : List Addr) (n : Nat) (M : Nat → Nat → Bool), vs = [.ref p] ∧ YardAt C H p dx r qs n M ∧ 1 ≤ n ∧ n ≤ 24 ∧ (∀ i j, M i j = M j i) ∧
  ((∀ i, i < n → M i i = true) → ∀ (D : Addr) (os : List Nat) (H' : Hp), H D = none → Same H H' → H' D = some (.lst (natV os)) → os.length ≤ n → (∀ o ∈ os, o < n) → asc os → (∀ j, j < n → par M os j = true) → Q (.ref D) H') ∧
  (¬ (∀ i, i < n → M i i = true) → ∀ H', Same H H' → E (.ref SH) none H')
theorem sc_all_out : FnScope ["yard"] ["yard"] (defScope s_all_out) := ⟨rfl, rfl, rfl, by decide +kernel, rfl, by decide +kernel, by decide +kernel⟩
theorem ok_all_out {f : Addr} {fd : FuncData} (F : Fun K "all_out" "all_out" s_all_out f fd) (T : LB mg) (Y0 : Cls K C) (nM : NoAttr K C "many") (gS : mg "Shy" = some (.ref SH)) (xS : PySem.W.excIn K SH bmV "ValueError.__new__" = true)
    (hM_is_shy : HasM P w K mg base (CXE P w) 2 C "is_shy" ["self", "lamp"] [] (spIsShy C NL)) (hF_way : Has P w K mg base (CXE P w) 4 "way" ["yard", "light", "wished"] (spWay K C)) : FnOk P w K mg base (CXE P w) 5 f fd ["yard"] (spAllOut C SH) := by
  refine F.okE sc_all_out (fun vs H Q E h => ?_) (fun cdv A outer s H vs Q E hr h => ?_)
  · obtain ⟨p, dx, r, qs, n, M, rfl, _⟩ := h
    rfl
  · obtain ⟨p, dx, r, qs, n, M, rfl, Y, hn1, hn, sy, k1, k2⟩ := h
    refine ⟨_, ((L2.pss_cons (ps_if (pt_val (pe_callB (anyK K rfl) rfl T.b_any bootB_any (L2.pa_cons ((pe_compN (js := [0]) rfl (by kernel_rfl) (pi_range1 rfl T.b_range (L2.pa_cons ((fldK K (pv 0))) L2.pa_nil)) (fun _ _ _ _ _ => pf_nil) (fun _ _ _ _ _ => (pe_methH (pv 1) hM_is_shy (hr.mono (by decide)) (passN) (L2.pa_cons ((pv 0)) L2.pa_nil))))) L2.pa_nil))) ((L2.pss_one ((ps_raise (R := fun _ H => E (.ref SH) none H) rfl rfl gS xS fun pins σ H s h1 e args I hm hR => raiseE I hm hR)))) pss_nil) (L2.pss_one (ps_ret (pe_ix (ixTK K) (pe_callH hF_way (hr.mono (by decide)) rfl (passE.s) (L2.pa_cons ((pv 0)) (L2.pa_cons ((pe_op op_rep (pe_lst (L2.pa_cons ((pe_bl)) L2.pa_nil)) (fldK K (pv 0)))) (L2.pa_cons ((pe_op op_rep (pe_lst (L2.pa_cons ((pe_bl)) L2.pa_nil)) (fldK K (pv 0)))) L2.pa_nil)))) (pe_int) (fun _ _ => rfl)))))), ?_⟩
    refine ⟨_, rfl, p, C, dx, _, _, rfl, Y.ob, Y0, nM, yf_many _ _, n, rfl, rgL, rgU (by assumption), comp_range (n := n) (fun _ => true) (fun i => V.bl (!M i i)) (r1000 (by assumption)) (fun j Hc k' _ _ q => q) (fun j Hc k' hj _ sm q => ?_) fun D hD => ?_⟩
    · refine ⟨_, rfl, p, dx, _, rfl, (Y.same sm).ob, yf_no _ _ (by decide +kernel) (by decide +kernel), _, rfl, p, dx, r, qs, n, M, _, rfl, Y.same sm, fun _ => ?_, fun bad => absurd (okI hj) bad⟩
      rw [tn0 j]
      exact q
    · rw [rowV_comp n fun i => !M i i]
      have t1 := Same.laid (o := .lst (rowV n fun i => !M i i)) hD
      refine ⟨D, rowL n fun i => !M i i, rfl, SqL.of upd_same, _, rfl, ?_⟩
      cases hany : (rowL n fun i => !M i i).any id with
      | true =>
        refine iteT (k2 (fun z => ?_) _ t1)
        obtain ⟨x, hx, ex⟩ := List.any_eq_true.mp hany
        unfold rowL at hx
        obtain ⟨i, hi, rfl⟩ := List.mem_map.mp hx
        rw [z i (List.mem_range.mp hi)] at ex
        cases ex
      | false =>
        have hd : ∀ i, i < n → M i i = true := fun i hi => by
          have := List.any_eq_false.mp hany (!M i i) (List.mem_map.mpr ⟨i, List.mem_range.mpr hi, rfl⟩)
          simpa using this
        have Y1 := Y.same t1
        refine iteF ⟨_, rfl, (by show 1 ≤ sizeLine; decide), fun l1 hl1 => ?_⟩
        have t2 := Same.laid (o := .lst [.bl true]) hl1
        have Y2 := Y1.same t2
        refine ⟨_, rfl, p, C, dx, _, _, rfl, Y2.ob, Y0, nM, yf_many _ _, l1, _, _, rfl, rfl, upd_same, by omega, by omega, (by show 1 * n ≤ sizeLine; rw [sizeLine_eq]; omega), fun A1 hA1 => ?_⟩
        rw [Int.toNat_natCast, rep_row]
        have t3 := Same.laid (o := .lst (rowV n fun _ => true)) hA1
        refine ⟨(by show 1 ≤ sizeLine; decide), fun l2 hl2 => ?_⟩
        have t4 := Same.laid (o := .lst [.bl false]) hl2
        have Y4 := (Y2.same t3).same t4
        refine ⟨_, rfl, p, C, dx, _, _, rfl, Y4.ob, Y0, nM, yf_many _ _, l2, _, _, rfl, rfl, upd_same, by omega, by omega, (by show 1 * n ≤ sizeLine; rw [sizeLine_eq]; omega), fun A2 hA2 => ?_⟩
        rw [Int.toNat_natCast, rep_row]
        have t5 := Same.laid (o := .lst (rowV n fun _ => false)) hA2
        have s15 : Same H _ := (((t1.trans t2).trans t3).trans t4).trans t5
        refine ⟨p, dx, r, qs, n, M, A1, A2, fun _ => true, fun _ => false, rfl, Y4.same t5, hn1, hn, sy, SqL.of (t5 _ _ (t4 _ _ upd_same)), SqL.of upd_same, fun tt D2 os way H6 htt hD2 s6 h6 h7 Tl => ?_⟩
        refine ⟨tt, _, _, _, rfl, rfl, SqT.of h6, atI_pair1 rfl, ?_⟩
        have hw := told_out sy hd Tl
        subst hw
        obtain ⟨ol, om, ao, hy, _⟩ := Tl
        refine k1 hd D2 os H6 (s15.free hD2) (s15.trans s6) h7 ol om ao fun j hj => ?_
        have := hy rfl j hj
        simpa using this
end
end Lp

/-! ## law k10, over a promise of all_out -/
namespace Lp
open PySem L2 Lamp
abbrev s_others : Stmt := top 35
abbrev s_refused : Stmt := top 36
abbrev s_law : Stmt := top 37
structure G10 (K : PySem.W.Frag) (mg : Str → Option Value) (SH LE AL NL NN NP NY TD TM UT : Addr) : Prop where
  g_Shy : mg "Shy" = some (.ref SH)
  g_LampError : mg "LampError" = some (.ref LE)
  g_Alone : mg "Alone" = some (.ref AL)
  g_NoLamp : mg "NoLamp" = some (.ref NL)
  g_NoNote : mg "NoNote" = some (.ref NN)
  g_NoPress : mg "NoPress" = some (.ref NP)
  g_NoYard : mg "NoYard" = some (.ref NY)
  g_Tied : mg "Tied" = some (.ref TD)
  g_TooMany : mg "TooMany" = some (.ref TM)
  g_Untied : mg "Untied" = some (.ref UT)
  et : ExcT K SH
  ex : PySem.W.exmOne K (.ref SH) (.ref SH) = some true
  kLE : PySem.W.kitOne K (.ref SH) (.ref LE) = some true
  kVE : PySem.W.kitOne K (.ref SH) (.type "ValueError") = some true
  kAL : PySem.W.kitOne K (.ref SH) (.ref AL) = some false
  kNL : PySem.W.kitOne K (.ref SH) (.ref NL) = some false
  kNN : PySem.W.kitOne K (.ref SH) (.ref NN) = some false
  kNP : PySem.W.kitOne K (.ref SH) (.ref NP) = some false
  kNY : PySem.W.kitOne K (.ref SH) (.ref NY) = some false
  kTD : PySem.W.kitOne K (.ref SH) (.ref TD) = some false
  kTM : PySem.W.kitOne K (.ref SH) (.ref TM) = some false
  kUT : PySem.W.kitOne K (.ref SH) (.ref UT) = some false
section
variable {P : Program} {w : World} {K : PySem.W.Frag} {mg : Str → Option Value} {base : Heap} {C NY LE AL NL NN NP SH TD TM UT : Addr}
def spOthers (SH : Addr) (hv : Option Value) : Sp := fun vs H Q _ => ∃ ea : Addr, hv = some (.ref ea) ∧ vs = [.ref ea] ∧ H ea = some (excO ea (.ref SH)) ∧ ∀ H', Same H H' → Q (.bl false) H'
theorem sc_others : FnScope ["e", "kinds"] ["e"] (defScope s_others) := ⟨rfl, rfl, rfl, by decide +kernel, rfl, by decide +kernel, by decide +kernel⟩
theorem ok_others {f : Addr} {fd : FuncData} (F : Fun K "_law_others" "_law_others" s_others f fd) (T : LB mg) (G : G10 K mg SH LE AL NL NN NP NY TD TM UT) : FnOkT P w K mg base 1 f fd ["e"] (spOthers SH) := by
  refine F.okT sc_others (fun hv vs H Q E h => ?_) (fun cdv A outer s H vs Q E hr h => ?_)
  · obtain ⟨ea, _, rfl, _⟩ := h
    rfl
  · obtain ⟨ea, hA, rfl, he, k⟩ := h
    refine ⟨_, ((L2.pss_cons (ps_set (i := 1) sc_others.nd rfl (by first | exact Or.inl rfl | exact Or.inr rfl) (pe_lst (L2.pa_cons ((pe_callB (isiXK K) rfl T.b_isinstance bootB_isinstance (L2.pa_cons ((pv 0)) (L2.pa_cons ((pe_cls rfl G.g_Alone)) L2.pa_nil)))) (L2.pa_cons ((pe_callB (isiXK K) rfl T.b_isinstance bootB_isinstance (L2.pa_cons ((pv 0)) (L2.pa_cons ((pe_cls rfl G.g_NoLamp)) L2.pa_nil)))) (L2.pa_cons ((pe_callB (isiXK K) rfl T.b_isinstance bootB_isinstance (L2.pa_cons ((pv 0)) (L2.pa_cons ((pe_cls rfl G.g_NoNote)) L2.pa_nil)))) (L2.pa_cons ((pe_callB (isiXK K) rfl T.b_isinstance bootB_isinstance (L2.pa_cons ((pv 0)) (L2.pa_cons ((pe_cls rfl G.g_NoPress)) L2.pa_nil)))) L2.pa_nil)))))) (L2.pss_cons (ps_set (i := 1) sc_others.nd rfl (by first | exact Or.inl rfl | exact Or.inr rfl) (pe_op op_cat (pv 1) (pe_lst (L2.pa_cons ((pe_callB (isiXK K) rfl T.b_isinstance bootB_isinstance (L2.pa_cons ((pv 0)) (L2.pa_cons ((pe_cls rfl G.g_NoYard)) L2.pa_nil)))) (L2.pa_cons ((pe_callB (isiXK K) rfl T.b_isinstance bootB_isinstance (L2.pa_cons ((pv 0)) (L2.pa_cons ((pe_cls rfl G.g_Tied)) L2.pa_nil)))) (L2.pa_cons ((pe_callB (isiXK K) rfl T.b_isinstance bootB_isinstance (L2.pa_cons ((pv 0)) (L2.pa_cons ((pe_cls rfl G.g_TooMany)) L2.pa_nil)))) (L2.pa_cons ((pe_callB (isiXK K) rfl T.b_isinstance bootB_isinstance (L2.pa_cons ((pv 0)) (L2.pa_cons ((pe_cls rfl G.g_Untied)) L2.pa_nil)))) L2.pa_nil))))))) (L2.pss_one (ps_ret (pe_callB (anyHK K hA) rfl T.b_any bootB_any (L2.pa_cons ((pv 1)) L2.pa_nil))))))), ?_⟩
    refine ⟨_, rfl, ea, SH, _, _, false, rfl, .inr ⟨_, rfl, rfl⟩, he, G.et, G.kAL, _, rfl, ea, SH, _, _, false, rfl, .inr ⟨_, rfl, rfl⟩, he, G.et, G.kNL, _, rfl, ea, SH, _, _, false, rfl, .inr ⟨_, rfl, rfl⟩, he, G.et, G.kNN, _, rfl, ea, SH, _, _, false, rfl, .inr ⟨_, rfl, rfl⟩, he, G.et, G.kNP, (by show 4 ≤ sizeLine; decide), fun l hl => ?_⟩
    have s1 : Same H (upd H l (.lst [.bl false, .bl false, .bl false, .bl false])) := Same.laid hl
    have he1 := s1 _ _ he
    refine ⟨_, rfl, _, rfl, ea, SH, _, _, false, rfl, .inr ⟨_, rfl, rfl⟩, he1, G.et, G.kNY, _, rfl, ea, SH, _, _, false, rfl, .inr ⟨_, rfl, rfl⟩, he1, G.et, G.kTD, _, rfl, ea, SH, _, _, false, rfl, .inr ⟨_, rfl, rfl⟩, he1, G.et, G.kTM, _, rfl, ea, SH, _, _, false, rfl, .inr ⟨_, rfl, rfl⟩, he1, G.et, G.kUT, (by show 4 ≤ sizeLine; decide), fun l2 hl2 => ?_⟩
    have n1 : l ≠ l2 := ne_of_none upd_same hl2
    refine ⟨l, l2, _, _, rfl, rfl, (by rw [upd_ne n1]; exact upd_same), upd_same, (by show 8 ≤ sizeLine; decide), fun l3 hl3 => ?_⟩
    have s3 := (s1.trans (Same.laid hl2)).trans (Same.laid (o := .lst ([.bl false, .bl false, .bl false, .bl false] ++ [.bl false, .bl false, .bl false, .bl false])) hl3)
    exact ⟨_, rfl, l3, [false, false, false, false, false, false, false, false], _, rfl, SqL.of upd_same, s3 _ _ he, k _ s3⟩
def spRefused10 (C : Addr) : Sp := fun vs H Q _ => ∃ (p dx r : Addr) (qs : List Addr) (n : Nat) (M : Nat → Nat → Bool), vs = [.ref p] ∧ YardAt C H p dx r qs n M ∧ 1 ≤ n ∧ n ≤ 24 ∧ (∀ i j, M i j = M j i) ∧ ¬ (∀ i, i < n → M i i = true) ∧ ∀ H', Same H H' → Q (.bl true) H'
theorem sc_refused : FnScope ["yard", "turn", "e"] ["yard"] (defScope s_refused) := ⟨rfl, rfl, rfl, by decide +kernel, rfl, by decide +kernel, by decide +kernel⟩
theorem ok_refused {k' : Nat} (hk : k' ≤ 30) {f : Addr} {fd : FuncData} (F : Fun K "_law_refused" "_law_refused" s_refused f fd) (T : LB mg) (G : G10 K mg SH LE AL NL NN NP NY TD TM UT) (hF_all_out : Has P w K mg base (CXE P w) k' "all_out" ["yard"] (spAllOut C SH))
    (hT_others : HasT P w K mg base 1 "_law_others" ["e"] (spOthers SH)) : FnOk P w K mg base CX0 32 f fd ["yard"] (spRefused10 C) := by
  refine F.ok sc_refused (fun vs H Q E h => ?_) (fun cdv A outer s H vs Q E hr h => ?_)
  · obtain ⟨p, dx, r, qs, n, M, rfl, _⟩ := h
    rfl
  · obtain ⟨p, dx, r, qs, n, M, rfl, Y, hn1, hn2, sy, bad, k⟩ := h
    refine ⟨_, ((L2.pss_cons (ps_for PassesOwn.never rfl (pi_range1 rfl T.b_range (L2.pa_cons ((pe_int)) L2.pa_nil)) (pg_name (i := 1) sc_refused.nd rfl (by first | exact Or.inl rfl | exact Or.inr rfl)) ((L2.pss_one (ps_tryT (i := 2) K sc_refused.nd rfl rfl rfl rfl rfl rfl G.g_Shy (fun _ _ => ((L2.pss_cons (ps_expr (pe_callH hF_all_out (hr.mono (by omega)) rfl (passT) (L2.pa_cons ((pv 0)) L2.pa_nil))) (L2.pss_one (ps_ret (pe_bl)))))) (fun _ => ((L2.pss_one (ps_if (PW.pt (pw_or (pt_not (pt_val (pe_callB (isiXK K) rfl T.b_isinstance bootB_isinstance (L2.pa_cons ((pv 2)) (L2.pa_cons ((pe_cls rfl G.g_LampError)) L2.pa_nil))))) (pw_or (pt_not (pt_val (pe_callB (isiXK K) rfl T.b_isinstance bootB_isinstance (L2.pa_cons ((pv 2)) (L2.pa_cons ((pe_tyB rfl T.b_ValueError bootB_ValueError)) L2.pa_nil))))) (pw_or1 (pt_val (pe_callHT hT_others (hr.suite _ (by decide)) rfl (L2.pa_cons ((pv 2)) L2.pa_nil))))))) ((L2.pss_one (ps_ret (pe_bl)))) pss_nil)))))))) (L2.pss_one (ps_ret (pe_bl))))), ?_⟩
    refine ⟨2, rfl, by decide, by decide, for_range (lo := 0) (n := 2) (fun i σ H2 => Same H H2 ∧ ∃ v, σ = [some (.ref p), v, none]) ⟨Same.refl _, none, rfl⟩ ?_ ?_⟩
    · rintro i σ H2 hi ⟨s2, v, rfl⟩
      refine ⟨fun σ cls _ H2 => cls = .ref SH ∧ Same H H2 ∧ ∃ v, σ = [some (.ref p), some v, none], ⟨_, rfl, p, dx, r, qs, n, M, rfl, Y.same s2, hn1, hn2, sy, fun ok => absurd ok bad, fun _ H3 s3 => ⟨rfl, s2.trans s3, _, rfl⟩⟩, ?_⟩
      rintro σ' cls H3 ⟨rfl, s3, v2, rfl⟩
      refine ⟨G.ex, fun ea hea => ?_⟩
      have s4 : Same H (upd H3 ea (excO ea (.ref SH))) := s3.trans (Same.laid hea)
      refine ⟨_, rfl, ea, SH, _, _, true, rfl, .inr ⟨_, rfl, rfl⟩, upd_same, G.et, G.kLE, _, rfl, iteF ?_⟩
      refine ⟨_, rfl, ea, SH, _, _, true, rfl, .inl ⟨_, rfl, rfl⟩, upd_same, G.et, G.kVE, _, rfl, iteF ?_⟩
      exact ⟨_, rfl, ea, rfl, rfl, upd_same, fun H5 s5 => ⟨_, rfl, iteF ⟨s4.trans s5, _, rfl⟩⟩⟩
    · rintro σ H2 ⟨s2, v, rfl⟩
      exact k H2 s2
theorem st_law (x0 : V) : start ["script", "many", "ties", "shy", "yard", "bold", "lamp", "found", "lit"] [x0] = [some x0, none, none, none, none, none, none, none, none] := rfl
theorem sc_law : FnScope ["script", "many", "ties", "shy", "yard", "bold", "lamp", "found", "lit"] ["script"] (defScope s_law) := ⟨rfl, rfl, rfl, by decide +kernel, rfl, by decide +kernel, by decide +kernel⟩
theorem ok_law {k' : Nat} {f : Addr} {fd : FuncData} (F : Fun K "law" "law" s_law f fd) (hk : k' ≤ 30) (T : LB mg) (hF_cell_at : Has P w K mg base (CXE P w) 1 "_law_cell_at" ["script", "k"] (spCell K))
    (hF_drawn : Has P w K mg base (CXE P w) 2 "_law_drawn" ["script"] (spDrawn K)) (hF_built : Has P w K mg base (CXE P w) 5 "_law_built" ["many", "ties", "shy"] (spBuilt C))
    (hF_turns : Has P w K mg base (CXE P w) 1 "_law_turns" ["many", "ties", "shy"] spTurnsL) (hF_pressed : Has P w K mg base (CXE P w) 1 "_law_pressed" ["light", "turns", "presses"] (spPressedL K))
    (hF_lamps : Has P w K mg base (CXE P w) 2 "_law_lamps" ["found", "many"] spLamps) (hF_refused : Has P w K mg base (CXE P w) 32 "_law_refused" ["yard"] (spRefused10 C))
    (hM_set_shy3 : HasM P w K mg base (CXE P w) 2 C "set_shy" ["self", "lamp", "answer"] [] (spShy C NL)) (hF_all_out : Has P w K mg base (CXE P w) k' "all_out" ["yard"] (spAllOut C SH)) :
    FnOk P w K mg base CX0 34 f fd ["script"] (spLaw K) := by
  refine F.ok sc_law (fun vs H Q E h => ?_) (fun cdv A outer s H vs Q E hr h => ?_)
  · obtain ⟨a, ns, rfl, _⟩ := h
    rfl
  · obtain ⟨a, ns, rfl, hs, hl, k⟩ := h
    have hu := hr.units0
    refine ⟨_, ((L2.pss_cons (ps_asg (pe_callH hF_drawn (hr.mono (by omega)) rfl (passN) (L2.pa_cons ((pv 0)) L2.pa_nil)) (pg_tup rfl (pgs_cons (pg_name (i := 1) sc_law.nd rfl (by first | exact Or.inl rfl | exact Or.inr rfl)) (pgs_cons (pg_name (i := 2) sc_law.nd rfl (by first | exact Or.inl rfl | exact Or.inr rfl)) (pgs_cons (pg_name (i := 3) sc_law.nd rfl (by first | exact Or.inl rfl | exact Or.inr rfl)) (pgs_nil)))))) (L2.pss_cons (ps_asg (pe_bl) (pg_sub (pv 3) (pe_op op_mod (pe_callH hF_cell_at (hr.mono (by omega)) rfl (passN) (L2.pa_cons ((pv 0)) (L2.pa_cons ((pe_int)) L2.pa_nil))) (pv 1)) set_list)) (L2.pss_cons (ps_set (i := 4) sc_law.nd rfl (by first | exact Or.inl rfl | exact Or.inr rfl) (pe_callH hF_built (hr.mono (by omega)) rfl (passN) (L2.pa_cons ((pv 1)) (L2.pa_cons ((pv 2)) (L2.pa_cons ((pv 3)) L2.pa_nil))))) (L2.pss_cons (ps_if (pt_not (pt_val (pe_callH hF_refused (hr.mono (by omega)) rfl (passN) (L2.pa_cons ((pv 4)) L2.pa_nil)))) ((L2.pss_one (ps_ret (pe_bl)))) pss_nil) (L2.pss_cons (ps_compN (i := 5) (js := []) sc_law.nd rfl (by first | exact Or.inl rfl | exact Or.inr rfl) rfl (by kernel_rfl) (pi_range1 rfl T.b_range (L2.pa_cons ((pv 1)) L2.pa_nil)) (fun _ _ _ _ _ => pf_nil) (fun _ _ _ _ _ => (pe_bl))) (L2.pss_cons (ps_for PassesOwn.never rfl (pi_range1 rfl T.b_range (L2.pa_cons ((pv 1)) L2.pa_nil)) (pg_name (i := 6) sc_law.nd rfl (by first | exact Or.inl rfl | exact Or.inr rfl)) ((L2.pss_one (ps_expr (pe_methH (pv 4) hM_set_shy3 (hr.mono (by omega)) (passN) (L2.pa_cons ((pv 6)) (L2.pa_cons ((pe_bl)) L2.pa_nil))))))) (L2.pss_cons (ps_set (i := 7) sc_law.nd rfl (by first | exact Or.inl rfl | exact Or.inr rfl) (pe_callH hF_all_out (hr.mono (by omega)) rfl (passN) (L2.pa_cons ((pv 4)) L2.pa_nil))) (L2.pss_cons (ps_compN (i := 8) (js := []) sc_law.nd rfl (by first | exact Or.inl rfl | exact Or.inr rfl) rfl (by kernel_rfl) (pi_range1 rfl T.b_range (L2.pa_cons ((pv 1)) L2.pa_nil)) (fun _ _ _ _ _ => pf_nil) (fun _ _ _ _ _ => (pe_bl))) (L2.pss_cons (ps_if (pt_not (pt_val (pe_callH hF_lamps (hr.mono (by omega)) rfl (passN) (L2.pa_cons ((pv 7)) (L2.pa_cons ((pv 1)) L2.pa_nil))))) ((L2.pss_one (ps_ret (pe_bl)))) pss_nil) (L2.pss_one (ps_ret (pe_cmpR (eqSK K hu) (pe_callH hF_pressed (hr.mono (by omega)) rfl (passN) (L2.pa_cons ((pv 8)) (L2.pa_cons ((pe_callH hF_turns (hr.mono (by omega)) rfl (passN) (L2.pa_cons ((pv 1)) (L2.pa_cons ((pv 2)) (L2.pa_cons ((pv 5)) L2.pa_nil))))) (L2.pa_cons ((pv 7)) L2.pa_nil)))) (pv 5) (nomark _)))))))))))))), ?_⟩
    -- drawn
    refine ⟨_, rfl, a, ns, rfl, hs, fun t lt ls zs n fs H1 s1 hn1 hn2 ht hT hz hS flt fls => ?_⟩
    refine ⟨t, _, rfl, SqT.of ht, rfl, _, _, rfl, _, _, rfl, _, _, rfl, rfl, ?_⟩
    -- one lamp shy
    try dsimp only [st_law, List.set_cons_zero, List.set_cons_succ]
    have np : (0 : Int) < n := by omega
    obtain ⟨l, hl'⟩ : ∃ l, l = cellF ns 11 % (n : Int) := ⟨_, rfl⟩
    have l0 : 0 ≤ l := by rw [hl']; exact Int.emod_nonneg _ (by omega)
    have l1 : l < n := by rw [hl']; exact Int.emod_lt_of_pos _ np
    refine ⟨_, rfl, _, rfl, a, ns, 11, rfl, by decide, s1.seq hs, _, rfl, _, _, rfl, rfl, np, ?_⟩
    dsimp only
    rw [← hl']
    refine ⟨ls, _, _, l.toNat, rfl, rfl, hS, (by rw [rowV_len]; exact ixN_of l0 l1), ?_⟩
    rw [rowV_set]
    obtain ⟨f2, hf2⟩ : ∃ f2 : Nat → Bool, f2 = fun k => if k = l.toNat then true else fs k := ⟨_, rfl⟩
    rw [← hf2]
    have nlt : lt ≠ ls := fun e => by
      have h1 := hT.top
      rw [e, hS] at h1
      have h2 := rowV_at fs (show 0 < n by omega)
      rw [HO.lst.inj (Option.some.inj h1), List.getElem?_map] at h2
      cases hz0 : zs[0]? with
      | none => rw [hz0] at h2; cases h2
      | some z => rw [hz0] at h2; cases h2
    have nz : ∀ z ∈ zs, z.1 ≠ ls := fun z h e => by
      have h1 := hT.at_ z h
      rw [e, hS] at h1
      cases h1
    have T2 : TiesAt (upd H1 ls (.lst (rowV n f2))) lt zs n := ⟨by rw [upd_ne nlt]; exact hT.top, fun z h => by rw [upd_ne (nz z h)]; exact hT.at_ z h, hT.nd, hT.ok⟩
    have hS2 : (upd H1 ls (.lst (rowV n f2))) ls = some (.lst (rowV n f2)) := upd_same
    generalize (upd H1 ls (.lst (rowV n f2))) = H2 at T2 hS2
    -- yard
    try dsimp only [st_law, List.set_cons_zero, List.set_cons_succ]
    refine ⟨_, rfl, _, rfl, _, rfl, lt, ls, zs, n, f2, rfl, hn1, hn2, T2, hz, hS2, fun p dx r qs H3 s3 Y3 fp frr fq => ?_⟩
    have fl : f2 l.toNat = true := by rw [hf2]; simp
    refine ⟨_, rfl, p, dx, r, qs, n, _, rfl, Y3, hn1, hn2, mat_symm _ _, (fun z => ?_), fun H4 s4 => ⟨_, rfl, iteF ?_⟩⟩
    · have h1 := z l.toNat (by omega)
      unfold mat at h1
      rw [if_pos rfl, fl] at h1
      cases h1
    -- bold
    try dsimp only [st_law, List.set_cons_zero, List.set_cons_succ]
    refine ⟨_, rfl, n, rfl, rgL, rgU (by assumption), comp_range (n := n) (fun _ => true) (fun _ => V.bl false) (r1000 (by assumption)) (fun j Hc k _ _ q => q) (fun j Hc k _ _ _ q => q) fun B hB => ?_⟩
    rw [show ((List.range n).filter (fun _ => true)).map (fun _ => V.bl false) = rowV n (fun _ => false) from rowV_comp _ _]
    have t5 := Same.laid (o := .lst (rowV n fun _ => false)) hB
    have hB5 : (upd H4 B (.lst (rowV n fun _ => false))) B = some (.lst (rowV n fun _ => false)) := upd_same
    have Y5 := (Y3.same s4).same t5
    have s25 : Same H2 (upd H4 B (.lst (rowV n fun _ => false))) := (s3.trans s4).trans t5
    have nB : B ∉ qs := fun z => by
      obtain ⟨i, hi⟩ := List.getElem?_of_mem z
      have := s4 _ _ (Y3.at_ i B hi)
      rw [hB] at this
      cases this
    generalize (upd H4 B (.lst (rowV n fun _ => false))) = H5 at hB5 Y5 s25
    have T5 := T2.same s25
    -- all bold
    try dsimp only [st_law, List.set_cons_zero, List.set_cons_succ]
    refine ⟨_, rfl, n, rfl, rgL, rgU (by assumption), for_range (lo := 0) (fun i σ H' => (∃ v6, σ = [some (.ref a), some (.int (n : Int)), some (.ref lt), some (.ref ls), some (.ref p), some (.ref B), v6, none, none]) ∧ Left qs H5 H' ∧ ∃ g, YardAt C H' p dx r qs n (mat (zs.map (·.2)) g) ∧ ∀ j, j < i → g j = false) ⟨⟨_, rfl⟩, (fun _ _ e _ => e), f2, Y5, fun j h => absurd h (Nat.not_lt_zero _)⟩ ?_ ?_⟩
    · rintro i σ H' hi ⟨⟨v6, rfl⟩, fr, g, Y', hg⟩
      have okI : okL n (0 + (i : Int)) := okI hi
      refine ⟨_, rfl, p, dx, _, rfl, Y'.ob, yf_no _ _ (by decide +kernel) (by decide +kernel), _, rfl, p, dx, r, qs, n, _, _, _, rfl, Y', fun _ H8 Y8 fr8 => ?_, fun bad => absurd okI bad⟩
      rw [mat_putD] at Y8
      refine ⟨⟨_, rfl⟩, (fun b o e h => fr8 _ _ (fr b o e h) h), _, Y8, fun j hj => ?_⟩
      by_cases e : j = (0 + (i : Int)).toNat
      · simp [e]
      · simp only [e, if_false]
        exact hg j (by omega)
    · rintro σ H6 ⟨⟨v6, rfl⟩, fr, g, Y', hg⟩
      have hg' : ∀ j, j < n → g j = false := fun j hj => hg j (by omega)
      have Y6 := Y'.congr (N := mat (zs.map (·.2)) fun _ => false) fun i j hi _ => mat_congr (n := n) (fun k hk => hg' k hk) i j hi
      have lift : ∀ b o, H5 b = some o → (∀ q ∈ qs, b ≠ q) → H6 b = some o := fun b o e h => fr b o e fun z => h b z rfl
      have hB6 : H6 B = some (.lst (rowV n fun _ => false)) := fr _ _ hB5 nB
      have ltq : lt ∉ qs := fun z => by
        have h1 := fq lt z
        rw [T2.top] at h1
        cases h1
      have zq : ∀ z ∈ zs, z.1 ∉ qs := fun z h h' => by
        have h1 := fq z.1 h'
        rw [T2.at_ z h] at h1
        cases h1
      have T6 : TiesAt H6 lt zs n := ⟨fr _ _ T5.top ltq, fun z h => fr _ _ (T5.at_ z h) (zq z h), hT.nd, hT.ok⟩
      -- found
      refine ⟨_, rfl, p, dx, r, qs, n, _, rfl, Y6, hn1, hn2, mat_symm _ _, fun _ D os H7 hD s7 hD7 ol om ao po => ?_, fun bad => absurd (fun i _ => by unfold mat; rw [if_pos rfl]; rfl) bad⟩
      -- lit
      refine ⟨_, rfl, n, rfl, rgL, rgU (by assumption), comp_range (n := n) (fun _ => true) (fun _ => V.bl true) (r1000 (by assumption)) (fun j Hc k _ _ q => q) (fun j Hc k _ _ _ q => q) fun Lt hLt => ?_⟩
      rw [show ((List.range n).filter (fun _ => true)).map (fun _ => V.bl true) = rowV n (fun _ => true) from rowV_comp _ _]
      have t8 := Same.laid (o := .lst (rowV n fun _ => true)) hLt
      have hL8 : (upd H7 Lt (.lst (rowV n fun _ => true))) Lt = some (.lst (rowV n fun _ => true)) := upd_same
      have s68 := s7.trans t8
      have hD8 := t8 _ _ hD7
      generalize (upd H7 Lt (.lst (rowV n fun _ => true))) = H8 at hL8 s68 hD8
      refine ⟨_, rfl, _, rfl, D, os, n, rfl, hD8, by omega, om, ao, _, rfl, iteF ?_⟩
      refine ⟨_, rfl, _, rfl, _, rfl, _, rfl, lt, B, zs, n, (fun _ => false), rfl, hn2, T6.same s68, hz, s68 _ _ hB6, fun DT qT H9 s9 R9 _ _ => ?_⟩
      refine ⟨_, rfl, Lt, DT, D, qT, n, _, _, os, rfl, hn2, SqL.of (s9 _ _ hL8), R9, SqL.of (s9 _ _ hD8), om, fun L H10 hL s10 hL10 => ?_⟩
      refine ⟨_, rfl, L, B, _, _, rfl, rfl, .inl ⟨SqL.of hL10, SqL.of (s10 _ _ (s9 _ _ (s68 _ _ hB6)))⟩, rowV_flat _ _, rowV_flat _ _, ?_⟩
      rw [if_neg Bool.false_ne_true, rowV_congr (g := fun _ => false) (fun j hj => by rw [po j hj]; rfl), eqVs_refl (rowV_flat _ _)]
      exact k _
end
end Lp

/-! ## the glue -/
namespace Lp
open PySem L2 Lamp
theorem len_1 {α : Type} {l : List α} (h : l.length = 1) : ∃ x0, l = [x0] := by
  match l, h with
  | [x0], _ => exact ⟨x0, rfl⟩
theorem len_2 {α : Type} {l : List α} (h : l.length = 2) : ∃ x0 x1, l = [x0, x1] := by
  match l, h with
  | [x0, x1], _ => exact ⟨x0, x1, rfl⟩
theorem len_3 {α : Type} {l : List α} (h : l.length = 3) : ∃ x0 x1 x2, l = [x0, x1, x2] := by
  match l, h with
  | [x0, x1, x2], _ => exact ⟨x0, x1, x2, rfl⟩
theorem len_4 {α : Type} {l : List α} (h : l.length = 4) : ∃ x0 x1 x2 x3, l = [x0, x1, x2, x3] := by
  match l, h with
  | [x0, x1, x2, x3], _ => exact ⟨x0, x1, x2, x3, rfl⟩
theorem all_mk {l : PySem.W.OpenLaw} {w : World} {K : PySem.W.Frag} {h : Heap} {mg : Str → Option Value} {fa : Addr}
    {C : Addr}
    {NL : Addr}
    {AL : Addr}
    {NY : Addr}
    {TD : Addr}
    {UT : Addr}
    {LE : Addr}
    {NP : Addr}
    {TM : Addr}
    {SH : Addr}
    {NN : Addr}
    {tM : Tok}
    {cd_Shy : ClassData}
    {f_differing : Addr} {oc_differing kV_differing dc_differing pm_differing cd_differing ct_differing : Value} {od_differing an_differing : Option Addr} {sl_differing : Array (Option Value)}
    {f_together : Addr} {oc_together kV_together dc_together pm_together cd_together ct_together : Value} {od_together an_together : Option Addr} {sl_together : Array (Option Value)}
    {f_reduced : Addr} {oc_reduced kV_reduced dc_reduced pm_reduced cd_reduced ct_reduced : Value} {od_reduced an_reduced : Option Addr} {sl_reduced : Array (Option Value)}
    {f_steps_of : Addr} {oc_steps_of kV_steps_of dc_steps_of pm_steps_of cd_steps_of ct_steps_of : Value} {od_steps_of an_steps_of : Option Addr} {sl_steps_of : Array (Option Value)}
    {f_quiet_sets : Addr} {oc_quiet_sets kV_quiet_sets dc_quiet_sets pm_quiet_sets cd_quiet_sets ct_quiet_sets : Value} {od_quiet_sets an_quiet_sets : Option Addr} {sl_quiet_sets : Array (Option Value)}
    {f_way : Addr} {oc_way kV_way dc_way pm_way cd_way ct_way : Value} {od_way an_way : Option Addr} {sl_way : Array (Option Value)}
    {f_all_out : Addr} {oc_all_out kV_all_out dc_all_out pm_all_out cd_all_out ct_all_out : Value} {od_all_out an_all_out : Option Addr} {sl_all_out : Array (Option Value)}
    {f_check_lamp : Addr} {oc_check_lamp kV_check_lamp dc_check_lamp pm_check_lamp cd_check_lamp ct_check_lamp : Value} {od_check_lamp an_check_lamp : Option Addr} {sl_check_lamp : Array (Option Value)}
    {f_check_pair : Addr} {oc_check_pair kV_check_pair dc_check_pair pm_check_pair cd_check_pair ct_check_pair : Value} {od_check_pair an_check_pair : Option Addr} {sl_check_pair : Array (Option Value)}
    {f_untied_rows : Addr} {oc_untied_rows kV_untied_rows dc_untied_rows pm_untied_rows cd_untied_rows ct_untied_rows : Value} {od_untied_rows an_untied_rows : Option Addr} {sl_untied_rows : Array (Option Value)}
    {f_Y___init__ : Addr} {oc_Y___init__ kV_Y___init__ dc_Y___init__ pm_Y___init__ cd_Y___init__ ct_Y___init__ : Value} {od_Y___init__ an_Y___init__ : Option Addr} {sl_Y___init__ : Array (Option Value)}
    {f_Y_tie : Addr} {oc_Y_tie kV_Y_tie dc_Y_tie pm_Y_tie cd_Y_tie ct_Y_tie : Value} {od_Y_tie an_Y_tie : Option Addr} {sl_Y_tie : Array (Option Value)}
    {f_Y_untie : Addr} {oc_Y_untie kV_Y_untie dc_Y_untie pm_Y_untie cd_Y_untie ct_Y_untie : Value} {od_Y_untie an_Y_untie : Option Addr} {sl_Y_untie : Array (Option Value)}
    {f_Y_put_tie : Addr} {oc_Y_put_tie kV_Y_put_tie dc_Y_put_tie pm_Y_put_tie cd_Y_put_tie ct_Y_put_tie : Value} {od_Y_put_tie an_Y_put_tie : Option Addr} {sl_Y_put_tie : Array (Option Value)}
    {f_Y_is_tied : Addr} {oc_Y_is_tied kV_Y_is_tied dc_Y_is_tied pm_Y_is_tied cd_Y_is_tied ct_Y_is_tied : Value} {od_Y_is_tied an_Y_is_tied : Option Addr} {sl_Y_is_tied : Array (Option Value)}
    {f_Y_set_shy : Addr} {oc_Y_set_shy kV_Y_set_shy dc_Y_set_shy pm_Y_set_shy cd_Y_set_shy ct_Y_set_shy : Value} {od_Y_set_shy an_Y_set_shy : Option Addr} {sl_Y_set_shy : Array (Option Value)}
    {Td_Y_set_shy : Addr} {ocT_Y_set_shy : Value} {odT_Y_set_shy : Option Addr} {nt_Y_set_shy : Nat} {slT_Y_set_shy : Array (Option Value)}
    {f_Y_is_shy : Addr} {oc_Y_is_shy kV_Y_is_shy dc_Y_is_shy pm_Y_is_shy cd_Y_is_shy ct_Y_is_shy : Value} {od_Y_is_shy an_Y_is_shy : Option Addr} {sl_Y_is_shy : Array (Option Value)}
    {f_Y_turns : Addr} {oc_Y_turns kV_Y_turns dc_Y_turns pm_Y_turns cd_Y_turns ct_Y_turns : Value} {od_Y_turns an_Y_turns : Option Addr} {sl_Y_turns : Array (Option Value)}
    {f_cell_at : Addr} {oc_cell_at kV_cell_at dc_cell_at pm_cell_at cd_cell_at ct_cell_at : Value} {od_cell_at an_cell_at : Option Addr} {sl_cell_at : Array (Option Value)}
    {f_mix : Addr} {oc_mix kV_mix dc_mix pm_mix cd_mix ct_mix : Value} {od_mix an_mix : Option Addr} {sl_mix : Array (Option Value)}
    {f_many : Addr} {oc_many kV_many dc_many pm_many cd_many ct_many : Value} {od_many an_many : Option Addr} {sl_many : Array (Option Value)}
    {f_drawn : Addr} {oc_drawn kV_drawn dc_drawn pm_drawn cd_drawn ct_drawn : Value} {od_drawn an_drawn : Option Addr} {sl_drawn : Array (Option Value)}
    {f_built : Addr} {oc_built kV_built dc_built pm_built cd_built ct_built : Value} {od_built an_built : Option Addr} {sl_built : Array (Option Value)}
    {f_turns : Addr} {oc_turns kV_turns dc_turns pm_turns cd_turns ct_turns : Value} {od_turns an_turns : Option Addr} {sl_turns : Array (Option Value)}
    {f_pressed : Addr} {oc_pressed kV_pressed dc_pressed pm_pressed cd_pressed ct_pressed : Value} {od_pressed an_pressed : Option Addr} {sl_pressed : Array (Option Value)}
    {f_whole : Addr} {oc_whole kV_whole dc_whole pm_whole cd_whole ct_whole : Value} {od_whole an_whole : Option Addr} {sl_whole : Array (Option Value)}
    {f_lamps : Addr} {oc_lamps kV_lamps dc_lamps pm_lamps cd_lamps ct_lamps : Value} {od_lamps an_lamps : Option Addr} {sl_lamps : Array (Option Value)}
    {f_others : Addr} {oc_others kV_others dc_others pm_others cd_others ct_others : Value} {od_others an_others : Option Addr} {sl_others : Array (Option Value)}
    {f_refused : Addr} {oc_refused kV_refused dc_refused pm_refused cd_refused ct_refused : Value} {od_refused an_refused : Option Addr} {sl_refused : Array (Option Value)}
    {f_law : Addr} {oc_law kV_law dc_law pm_law cd_law ct_law : Value} {od_law an_law : Option Addr} {sl_law : Array (Option Value)}
    (X : K.In h) (G : h.Ns mainGlobals mg) (hfa : mg "law" = some (.ref fa))
    (aC : PySem.W.nsIn K mainGlobals "Yard" = some (some (.ref C)))
    (g_NoLamp : PySem.W.nsIn K mainGlobals "NoLamp" = some (some (.ref NL)))
    (g_Alone : PySem.W.nsIn K mainGlobals "Alone" = some (some (.ref AL)))
    (g_NoYard : PySem.W.nsIn K mainGlobals "NoYard" = some (some (.ref NY)))
    (g_Tied : PySem.W.nsIn K mainGlobals "Tied" = some (some (.ref TD)))
    (g_Untied : PySem.W.nsIn K mainGlobals "Untied" = some (some (.ref UT)))
    (g_LampError : PySem.W.nsIn K mainGlobals "LampError" = some (some (.ref LE)))
    (g_NoPress : PySem.W.nsIn K mainGlobals "NoPress" = some (some (.ref NP)))
    (g_TooMany : PySem.W.nsIn K mainGlobals "TooMany" = some (some (.ref TM)))
    (g_Shy : PySem.W.nsIn K mainGlobals "Shy" = some (some (.ref SH)))
    (g_NoNote : PySem.W.nsIn K mainGlobals "NoNote" = some (some (.ref NN)))
    (x_NoLamp : PySem.W.excIn K NL bmV "ValueError.__new__" = true)
    (x_Alone : PySem.W.excIn K AL bmV "ValueError.__new__" = true)
    (x_NoYard : PySem.W.excIn K NY bmV "ValueError.__new__" = true)
    (x_Tied : PySem.W.excIn K TD bmV "ValueError.__new__" = true)
    (x_Untied : PySem.W.excIn K UT bmV "ValueError.__new__" = true)
    (x_Shy : PySem.W.excIn K SH bmV "ValueError.__new__" = true)
    (pg : PySem.W.plainGet K C Str.empty = true)
    (hd : PySem.W.hasDictIn K C = true)
    (po : PySem.W.plainOver K C = true)
    (sa : PySem.W.findIn K (.ref C) "__setattr__" = some (some (.builtin "object.__setattr__")))
    (mk : PySem.W.makesIn K C = true)
    (kc : PySem.W.keepIn K (.ref C) = true)
    (nM : PySem.W.findIn K (.ref C) "many" = some none)
    (nR : PySem.W.findIn K (.ref C) "rows" = some none)
    (aM : PySem.W.nsIn K mainGlobals "MOST_LAMPS" = some (some (.int 24 tM)))
    (z_len : PySem.W.nsIn K mainGlobals "len" = some none)
    (z_list : PySem.W.nsIn K mainGlobals "list" = some none)
    (z_bool : PySem.W.nsIn K mainGlobals "bool" = some none)
    (z_int : PySem.W.nsIn K mainGlobals "int" = some none)
    (z_isinstance : PySem.W.nsIn K mainGlobals "isinstance" = some none)
    (z_all : PySem.W.nsIn K mainGlobals "all" = some none)
    (z_any : PySem.W.nsIn K mainGlobals "any" = some none)
    (z_range : PySem.W.nsIn K mainGlobals "range" = some none)
    (z_enumerate : PySem.W.nsIn K mainGlobals "enumerate" = some none)
    (z_ValueError : PySem.W.nsIn K mainGlobals "ValueError" = some none)
    (z_reversed : PySem.W.nsIn K mainGlobals "reversed" = some none)
    (z_str : PySem.W.nsIn K mainGlobals "str" = some none)
    (z_tuple : PySem.W.nsIn K mainGlobals "tuple" = some none)
    (z_set : PySem.W.nsIn K mainGlobals "set" = some none)
    (z_sorted : PySem.W.nsIn K mainGlobals "sorted" = some none)
    (z_min : PySem.W.nsIn K mainGlobals "min" = some none)
    (eg : PySem.W.specialIn K (.builtin "object.__class__") "__get__" = some (some (.builtin "getset_descriptor.__get__")))
    (et : PySem.W.takesIn K (.builtin "object.__class__") = some true)
    (ep_Shy : PySem.W.findIn K (.ref SH) "__getattribute__" = some (some (.builtin "BaseException.__getattribute__")))
    (eh_Shy : PySem.W.findIn K (.ref SH) "__getattr__" = some none)
    (eb_Shy : PySem.W.mroIn K SH (.type "BaseException") = some true)
    (ec_Shy : PySem.W.clsIn K SH = some cd_Shy)
    (ea_Shy : PySem.W.findIn K (.ref SH) "__class__" = some (some (.builtin "object.__class__")))
    (em_Shy : PySem.W.mroIn K SH (.type "object") = some true)
    (k_Shy_LampError : PySem.W.kitOne K (.ref SH) (.ref LE) = some true)
    (k_Shy_ValueError : PySem.W.kitOne K (.ref SH) (.type "ValueError") = some true)
    (k_Shy_Alone : PySem.W.kitOne K (.ref SH) (.ref AL) = some false)
    (k_Shy_NoLamp : PySem.W.kitOne K (.ref SH) (.ref NL) = some false)
    (k_Shy_NoNote : PySem.W.kitOne K (.ref SH) (.ref NN) = some false)
    (k_Shy_NoPress : PySem.W.kitOne K (.ref SH) (.ref NP) = some false)
    (k_Shy_NoYard : PySem.W.kitOne K (.ref SH) (.ref NY) = some false)
    (k_Shy_Tied : PySem.W.kitOne K (.ref SH) (.ref TD) = some false)
    (k_Shy_TooMany : PySem.W.kitOne K (.ref SH) (.ref TM) = some false)
    (k_Shy_Untied : PySem.W.kitOne K (.ref SH) (.ref UT) = some false)
    (m_Shy_Shy : PySem.W.exmOne K (.ref SH) (.ref SH) = some true)
    (a_differing : PySem.W.nsIn K mainGlobals "differing" = some (some (.ref f_differing)))
    (l_differing : K.lookup f_differing = some ⟨oc_differing, od_differing, .func (PySem.W.fnOf "differing" "differing" (defArgs s_differing) (defBody s_differing) (defScope s_differing) .none kV_differing dc_differing pm_differing an_differing cd_differing ct_differing), sl_differing⟩)
    (c_differing : PySem.W.codeIn K cd_differing "differing" = true)
    (k_differing : PySem.W.keepIn K (.ref f_differing) = true)
    (a_together : PySem.W.nsIn K mainGlobals "together" = some (some (.ref f_together)))
    (l_together : K.lookup f_together = some ⟨oc_together, od_together, .func (PySem.W.fnOf "together" "together" (defArgs s_together) (defBody s_together) (defScope s_together) .none kV_together dc_together pm_together an_together cd_together ct_together), sl_together⟩)
    (c_together : PySem.W.codeIn K cd_together "together" = true)
    (k_together : PySem.W.keepIn K (.ref f_together) = true)
    (a_reduced : PySem.W.nsIn K mainGlobals "reduced" = some (some (.ref f_reduced)))
    (l_reduced : K.lookup f_reduced = some ⟨oc_reduced, od_reduced, .func (PySem.W.fnOf "reduced" "reduced" (defArgs s_reduced) (defBody s_reduced) (defScope s_reduced) .none kV_reduced dc_reduced pm_reduced an_reduced cd_reduced ct_reduced), sl_reduced⟩)
    (c_reduced : PySem.W.codeIn K cd_reduced "reduced" = true)
    (k_reduced : PySem.W.keepIn K (.ref f_reduced) = true)
    (a_steps_of : PySem.W.nsIn K mainGlobals "steps_of" = some (some (.ref f_steps_of)))
    (l_steps_of : K.lookup f_steps_of = some ⟨oc_steps_of, od_steps_of, .func (PySem.W.fnOf "steps_of" "steps_of" (defArgs s_steps_of) (defBody s_steps_of) (defScope s_steps_of) .none kV_steps_of dc_steps_of pm_steps_of an_steps_of cd_steps_of ct_steps_of), sl_steps_of⟩)
    (c_steps_of : PySem.W.codeIn K cd_steps_of "steps_of" = true)
    (k_steps_of : PySem.W.keepIn K (.ref f_steps_of) = true)
    (a_quiet_sets : PySem.W.nsIn K mainGlobals "quiet_sets" = some (some (.ref f_quiet_sets)))
    (l_quiet_sets : K.lookup f_quiet_sets = some ⟨oc_quiet_sets, od_quiet_sets, .func (PySem.W.fnOf "quiet_sets" "quiet_sets" (defArgs s_quiet_sets) (defBody s_quiet_sets) (defScope s_quiet_sets) .none kV_quiet_sets dc_quiet_sets pm_quiet_sets an_quiet_sets cd_quiet_sets ct_quiet_sets), sl_quiet_sets⟩)
    (c_quiet_sets : PySem.W.codeIn K cd_quiet_sets "quiet_sets" = true)
    (k_quiet_sets : PySem.W.keepIn K (.ref f_quiet_sets) = true)
    (a_way : PySem.W.nsIn K mainGlobals "way" = some (some (.ref f_way)))
    (l_way : K.lookup f_way = some ⟨oc_way, od_way, .func (PySem.W.fnOf "way" "way" (defArgs s_way) (defBody s_way) (defScope s_way) .none kV_way dc_way pm_way an_way cd_way ct_way), sl_way⟩)
    (c_way : PySem.W.codeIn K cd_way "way" = true)
    (k_way : PySem.W.keepIn K (.ref f_way) = true)
    (a_all_out : PySem.W.nsIn K mainGlobals "all_out" = some (some (.ref f_all_out)))
    (l_all_out : K.lookup f_all_out = some ⟨oc_all_out, od_all_out, .func (PySem.W.fnOf "all_out" "all_out" (defArgs s_all_out) (defBody s_all_out) (defScope s_all_out) .none kV_all_out dc_all_out pm_all_out an_all_out cd_all_out ct_all_out), sl_all_out⟩)
    (c_all_out : PySem.W.codeIn K cd_all_out "all_out" = true)
    (k_all_out : PySem.W.keepIn K (.ref f_all_out) = true)
    (a_check_lamp : PySem.W.nsIn K mainGlobals "check_lamp" = some (some (.ref f_check_lamp)))
    (l_check_lamp : K.lookup f_check_lamp = some ⟨oc_check_lamp, od_check_lamp, .func (PySem.W.fnOf "check_lamp" "check_lamp" (defArgs s_check_lamp) (defBody s_check_lamp) (defScope s_check_lamp) .none kV_check_lamp dc_check_lamp pm_check_lamp an_check_lamp cd_check_lamp ct_check_lamp), sl_check_lamp⟩)
    (c_check_lamp : PySem.W.codeIn K cd_check_lamp "check_lamp" = true)
    (k_check_lamp : PySem.W.keepIn K (.ref f_check_lamp) = true)
    (a_check_pair : PySem.W.nsIn K mainGlobals "check_pair" = some (some (.ref f_check_pair)))
    (l_check_pair : K.lookup f_check_pair = some ⟨oc_check_pair, od_check_pair, .func (PySem.W.fnOf "check_pair" "check_pair" (defArgs s_check_pair) (defBody s_check_pair) (defScope s_check_pair) .none kV_check_pair dc_check_pair pm_check_pair an_check_pair cd_check_pair ct_check_pair), sl_check_pair⟩)
    (c_check_pair : PySem.W.codeIn K cd_check_pair "check_pair" = true)
    (k_check_pair : PySem.W.keepIn K (.ref f_check_pair) = true)
    (a_untied_rows : PySem.W.nsIn K mainGlobals "untied_rows" = some (some (.ref f_untied_rows)))
    (l_untied_rows : K.lookup f_untied_rows = some ⟨oc_untied_rows, od_untied_rows, .func (PySem.W.fnOf "untied_rows" "untied_rows" (defArgs s_untied_rows) (defBody s_untied_rows) (defScope s_untied_rows) .none kV_untied_rows dc_untied_rows pm_untied_rows an_untied_rows cd_untied_rows ct_untied_rows), sl_untied_rows⟩)
    (c_untied_rows : PySem.W.codeIn K cd_untied_rows "untied_rows" = true)
    (k_untied_rows : PySem.W.keepIn K (.ref f_untied_rows) = true)
    (a_Y___init__ : PySem.W.findIn K (.ref C) "__init__" = some (some (.ref f_Y___init__)))
    (i_Y___init__ : PySem.W.isFn K (.ref f_Y___init__) = true)
    (l_Y___init__ : K.lookup f_Y___init__ = some ⟨oc_Y___init__, od_Y___init__, .func (PySem.W.fnOf "__init__" "Yard.__init__" (defArgs s_init) (defBody s_init) (defScope s_init) .none kV_Y___init__ dc_Y___init__ pm_Y___init__ an_Y___init__ cd_Y___init__ ct_Y___init__), sl_Y___init__⟩)
    (c_Y___init__ : PySem.W.codeIn K cd_Y___init__ "Yard.__init__" = true)
    (k_Y___init__ : PySem.W.keepIn K (.ref f_Y___init__) = true)
    (a_Y_tie : PySem.W.findIn K (.ref C) "tie" = some (some (.ref f_Y_tie)))
    (i_Y_tie : PySem.W.isFn K (.ref f_Y_tie) = true)
    (l_Y_tie : K.lookup f_Y_tie = some ⟨oc_Y_tie, od_Y_tie, .func (PySem.W.fnOf "tie" "Yard.tie" (defArgs s_tie) (defBody s_tie) (defScope s_tie) .none kV_Y_tie dc_Y_tie pm_Y_tie an_Y_tie cd_Y_tie ct_Y_tie), sl_Y_tie⟩)
    (c_Y_tie : PySem.W.codeIn K cd_Y_tie "Yard.tie" = true)
    (k_Y_tie : PySem.W.keepIn K (.ref f_Y_tie) = true)
    (a_Y_untie : PySem.W.findIn K (.ref C) "untie" = some (some (.ref f_Y_untie)))
    (i_Y_untie : PySem.W.isFn K (.ref f_Y_untie) = true)
    (l_Y_untie : K.lookup f_Y_untie = some ⟨oc_Y_untie, od_Y_untie, .func (PySem.W.fnOf "untie" "Yard.untie" (defArgs s_untie) (defBody s_untie) (defScope s_untie) .none kV_Y_untie dc_Y_untie pm_Y_untie an_Y_untie cd_Y_untie ct_Y_untie), sl_Y_untie⟩)
    (c_Y_untie : PySem.W.codeIn K cd_Y_untie "Yard.untie" = true)
    (k_Y_untie : PySem.W.keepIn K (.ref f_Y_untie) = true)
    (a_Y_put_tie : PySem.W.findIn K (.ref C) "put_tie" = some (some (.ref f_Y_put_tie)))
    (i_Y_put_tie : PySem.W.isFn K (.ref f_Y_put_tie) = true)
    (l_Y_put_tie : K.lookup f_Y_put_tie = some ⟨oc_Y_put_tie, od_Y_put_tie, .func (PySem.W.fnOf "put_tie" "Yard.put_tie" (defArgs s_put_tie) (defBody s_put_tie) (defScope s_put_tie) .none kV_Y_put_tie dc_Y_put_tie pm_Y_put_tie an_Y_put_tie cd_Y_put_tie ct_Y_put_tie), sl_Y_put_tie⟩)
    (c_Y_put_tie : PySem.W.codeIn K cd_Y_put_tie "Yard.put_tie" = true)
    (k_Y_put_tie : PySem.W.keepIn K (.ref f_Y_put_tie) = true)
    (a_Y_is_tied : PySem.W.findIn K (.ref C) "is_tied" = some (some (.ref f_Y_is_tied)))
    (i_Y_is_tied : PySem.W.isFn K (.ref f_Y_is_tied) = true)
    (l_Y_is_tied : K.lookup f_Y_is_tied = some ⟨oc_Y_is_tied, od_Y_is_tied, .func (PySem.W.fnOf "is_tied" "Yard.is_tied" (defArgs s_is_tied) (defBody s_is_tied) (defScope s_is_tied) .none kV_Y_is_tied dc_Y_is_tied pm_Y_is_tied an_Y_is_tied cd_Y_is_tied ct_Y_is_tied), sl_Y_is_tied⟩)
    (c_Y_is_tied : PySem.W.codeIn K cd_Y_is_tied "Yard.is_tied" = true)
    (k_Y_is_tied : PySem.W.keepIn K (.ref f_Y_is_tied) = true)
    (a_Y_set_shy : PySem.W.findIn K (.ref C) "set_shy" = some (some (.ref f_Y_set_shy)))
    (i_Y_set_shy : PySem.W.isFn K (.ref f_Y_set_shy) = true)
    (l_Y_set_shy : K.lookup f_Y_set_shy = some ⟨oc_Y_set_shy, od_Y_set_shy, .func (PySem.W.fnOf "set_shy" "Yard.set_shy" (defArgs s_set_shy) (defBody s_set_shy) (defScope s_set_shy) (.ref Td_Y_set_shy) kV_Y_set_shy dc_Y_set_shy pm_Y_set_shy an_Y_set_shy cd_Y_set_shy ct_Y_set_shy), sl_Y_set_shy⟩)
    (c_Y_set_shy : PySem.W.codeIn K cd_Y_set_shy "Yard.set_shy" = true)
    (k_Y_set_shy : PySem.W.keepIn K (.ref f_Y_set_shy) = true)
    (lT_Y_set_shy : K.lookup Td_Y_set_shy = some ⟨ocT_Y_set_shy, odT_Y_set_shy, .seq [Value.bool true].toArray nt_Y_set_shy, slT_Y_set_shy⟩)
    (a_Y_is_shy : PySem.W.findIn K (.ref C) "is_shy" = some (some (.ref f_Y_is_shy)))
    (i_Y_is_shy : PySem.W.isFn K (.ref f_Y_is_shy) = true)
    (l_Y_is_shy : K.lookup f_Y_is_shy = some ⟨oc_Y_is_shy, od_Y_is_shy, .func (PySem.W.fnOf "is_shy" "Yard.is_shy" (defArgs s_is_shy) (defBody s_is_shy) (defScope s_is_shy) .none kV_Y_is_shy dc_Y_is_shy pm_Y_is_shy an_Y_is_shy cd_Y_is_shy ct_Y_is_shy), sl_Y_is_shy⟩)
    (c_Y_is_shy : PySem.W.codeIn K cd_Y_is_shy "Yard.is_shy" = true)
    (k_Y_is_shy : PySem.W.keepIn K (.ref f_Y_is_shy) = true)
    (a_Y_turns : PySem.W.findIn K (.ref C) "turns" = some (some (.ref f_Y_turns)))
    (i_Y_turns : PySem.W.isFn K (.ref f_Y_turns) = true)
    (l_Y_turns : K.lookup f_Y_turns = some ⟨oc_Y_turns, od_Y_turns, .func (PySem.W.fnOf "turns" "Yard.turns" (defArgs s_turns) (defBody s_turns) (defScope s_turns) .none kV_Y_turns dc_Y_turns pm_Y_turns an_Y_turns cd_Y_turns ct_Y_turns), sl_Y_turns⟩)
    (c_Y_turns : PySem.W.codeIn K cd_Y_turns "Yard.turns" = true)
    (k_Y_turns : PySem.W.keepIn K (.ref f_Y_turns) = true)
    (a_cell_at : PySem.W.nsIn K mainGlobals "_law_cell_at" = some (some (.ref f_cell_at)))
    (l_cell_at : K.lookup f_cell_at = some ⟨oc_cell_at, od_cell_at, .func (PySem.W.fnOf "_law_cell_at" "_law_cell_at" (defArgs s_cell) (defBody s_cell) (defScope s_cell) .none kV_cell_at dc_cell_at pm_cell_at an_cell_at cd_cell_at ct_cell_at), sl_cell_at⟩)
    (c_cell_at : PySem.W.codeIn K cd_cell_at "_law_cell_at" = true)
    (k_cell_at : PySem.W.keepIn K (.ref f_cell_at) = true)
    (a_mix : PySem.W.nsIn K mainGlobals "_law_mix" = some (some (.ref f_mix)))
    (l_mix : K.lookup f_mix = some ⟨oc_mix, od_mix, .func (PySem.W.fnOf "_law_mix" "_law_mix" (defArgs s_mix) (defBody s_mix) (defScope s_mix) .none kV_mix dc_mix pm_mix an_mix cd_mix ct_mix), sl_mix⟩)
    (c_mix : PySem.W.codeIn K cd_mix "_law_mix" = true)
    (k_mix : PySem.W.keepIn K (.ref f_mix) = true)
    (a_many : PySem.W.nsIn K mainGlobals "_law_many" = some (some (.ref f_many)))
    (l_many : K.lookup f_many = some ⟨oc_many, od_many, .func (PySem.W.fnOf "_law_many" "_law_many" (defArgs s_many) (defBody s_many) (defScope s_many) .none kV_many dc_many pm_many an_many cd_many ct_many), sl_many⟩)
    (c_many : PySem.W.codeIn K cd_many "_law_many" = true)
    (k_many : PySem.W.keepIn K (.ref f_many) = true)
    (a_drawn : PySem.W.nsIn K mainGlobals "_law_drawn" = some (some (.ref f_drawn)))
    (l_drawn : K.lookup f_drawn = some ⟨oc_drawn, od_drawn, .func (PySem.W.fnOf "_law_drawn" "_law_drawn" (defArgs s_drawn) (defBody s_drawn) (defScope s_drawn) .none kV_drawn dc_drawn pm_drawn an_drawn cd_drawn ct_drawn), sl_drawn⟩)
    (c_drawn : PySem.W.codeIn K cd_drawn "_law_drawn" = true)
    (k_drawn : PySem.W.keepIn K (.ref f_drawn) = true)
    (a_built : PySem.W.nsIn K mainGlobals "_law_built" = some (some (.ref f_built)))
    (l_built : K.lookup f_built = some ⟨oc_built, od_built, .func (PySem.W.fnOf "_law_built" "_law_built" (defArgs s_built) (defBody s_built) (defScope s_built) .none kV_built dc_built pm_built an_built cd_built ct_built), sl_built⟩)
    (c_built : PySem.W.codeIn K cd_built "_law_built" = true)
    (k_built : PySem.W.keepIn K (.ref f_built) = true)
    (a_turns : PySem.W.nsIn K mainGlobals "_law_turns" = some (some (.ref f_turns)))
    (l_turns : K.lookup f_turns = some ⟨oc_turns, od_turns, .func (PySem.W.fnOf "_law_turns" "_law_turns" (defArgs s_turnsL) (defBody s_turnsL) (defScope s_turnsL) .none kV_turns dc_turns pm_turns an_turns cd_turns ct_turns), sl_turns⟩)
    (c_turns : PySem.W.codeIn K cd_turns "_law_turns" = true)
    (k_turns : PySem.W.keepIn K (.ref f_turns) = true)
    (a_pressed : PySem.W.nsIn K mainGlobals "_law_pressed" = some (some (.ref f_pressed)))
    (l_pressed : K.lookup f_pressed = some ⟨oc_pressed, od_pressed, .func (PySem.W.fnOf "_law_pressed" "_law_pressed" (defArgs s_pressedL) (defBody s_pressedL) (defScope s_pressedL) .none kV_pressed dc_pressed pm_pressed an_pressed cd_pressed ct_pressed), sl_pressed⟩)
    (c_pressed : PySem.W.codeIn K cd_pressed "_law_pressed" = true)
    (k_pressed : PySem.W.keepIn K (.ref f_pressed) = true)
    (a_whole : PySem.W.nsIn K mainGlobals "_law_whole" = some (some (.ref f_whole)))
    (l_whole : K.lookup f_whole = some ⟨oc_whole, od_whole, .func (PySem.W.fnOf "_law_whole" "_law_whole" (defArgs s_whole) (defBody s_whole) (defScope s_whole) .none kV_whole dc_whole pm_whole an_whole cd_whole ct_whole), sl_whole⟩)
    (c_whole : PySem.W.codeIn K cd_whole "_law_whole" = true)
    (k_whole : PySem.W.keepIn K (.ref f_whole) = true)
    (a_lamps : PySem.W.nsIn K mainGlobals "_law_lamps" = some (some (.ref f_lamps)))
    (l_lamps : K.lookup f_lamps = some ⟨oc_lamps, od_lamps, .func (PySem.W.fnOf "_law_lamps" "_law_lamps" (defArgs s_lamps) (defBody s_lamps) (defScope s_lamps) .none kV_lamps dc_lamps pm_lamps an_lamps cd_lamps ct_lamps), sl_lamps⟩)
    (c_lamps : PySem.W.codeIn K cd_lamps "_law_lamps" = true)
    (k_lamps : PySem.W.keepIn K (.ref f_lamps) = true)
    (a_others : PySem.W.nsIn K mainGlobals "_law_others" = some (some (.ref f_others)))
    (l_others : K.lookup f_others = some ⟨oc_others, od_others, .func (PySem.W.fnOf "_law_others" "_law_others" (defArgs s_others) (defBody s_others) (defScope s_others) .none kV_others dc_others pm_others an_others cd_others ct_others), sl_others⟩)
    (c_others : PySem.W.codeIn K cd_others "_law_others" = true)
    (k_others : PySem.W.keepIn K (.ref f_others) = true)
    (a_refused : PySem.W.nsIn K mainGlobals "_law_refused" = some (some (.ref f_refused)))
    (l_refused : K.lookup f_refused = some ⟨oc_refused, od_refused, .func (PySem.W.fnOf "_law_refused" "_law_refused" (defArgs s_refused) (defBody s_refused) (defScope s_refused) .none kV_refused dc_refused pm_refused an_refused cd_refused ct_refused), sl_refused⟩)
    (c_refused : PySem.W.codeIn K cd_refused "_law_refused" = true)
    (k_refused : PySem.W.keepIn K (.ref f_refused) = true)
    (a_law : PySem.W.nsIn K mainGlobals "law" = some (some (.ref f_law)))
    (l_law : K.lookup f_law = some ⟨oc_law, od_law, .func (PySem.W.fnOf "law" "law" (defArgs s_law) (defBody s_law) (defScope s_law) .none kV_law dc_law pm_law an_law cd_law ct_law), sl_law⟩)
    (c_law : PySem.W.codeIn K cd_law "law" = true)
    (k_law : PySem.W.keepIn K (.ref f_law) = true)
    : ∃ fd : FuncData, (∀ (s : Shared) (v : Value), BindsTo s fd ⟨[v], []⟩ [("script", v)]) ∧ ∀ base : Heap, K.In base → base.Ns mainGlobals mg → FnOk l.prog w K mg base CX0 34 fa fd ["script"] (spLaw K) := by
  have e := hfa.symm.trans (PySem.W.mg_of X G a_law)
  cases e
  have T : LB mg := ⟨PySem.W.mg_none_of X G z_len, PySem.W.mg_none_of X G z_list, PySem.W.mg_none_of X G z_bool, PySem.W.mg_none_of X G z_int, PySem.W.mg_none_of X G z_isinstance, PySem.W.mg_none_of X G z_all, PySem.W.mg_none_of X G z_any, PySem.W.mg_none_of X G z_range, PySem.W.mg_none_of X G z_enumerate, PySem.W.mg_none_of X G z_ValueError, PySem.W.mg_none_of X G z_reversed, PySem.W.mg_none_of X G z_str, PySem.W.mg_none_of X G z_tuple, PySem.W.mg_none_of X G z_set, PySem.W.mg_none_of X G z_sorted, PySem.W.mg_none_of X G z_min⟩
  have Y0 : YT K mg C NL AL NY TD UT := ⟨⟨pg, hd, po, sa⟩, nM, nR, PySem.W.mg_of X G aC, PySem.W.mg_of X G g_NoLamp, x_NoLamp, PySem.W.mg_of X G g_Alone, x_Alone, PySem.W.mg_of X G g_NoYard, x_NoYard, PySem.W.mg_of X G g_Tied, x_Tied, PySem.W.mg_of X G g_Untied, x_Untied, PySem.W.mg_none_of X G z_range, ⟨tM, PySem.W.mg_of X G aM⟩⟩
  have E_Shy : ExcT K SH := ⟨ep_Shy, eh_Shy, eb_Shy, by rw [ec_Shy]; rfl, ea_Shy, eg, et, em_Shy⟩
  have G10_ : G10 K mg SH LE AL NL NN NP NY TD TM UT := ⟨PySem.W.mg_of X G g_Shy, PySem.W.mg_of X G g_LampError, PySem.W.mg_of X G g_Alone, PySem.W.mg_of X G g_NoLamp, PySem.W.mg_of X G g_NoNote, PySem.W.mg_of X G g_NoPress, PySem.W.mg_of X G g_NoYard, PySem.W.mg_of X G g_Tied, PySem.W.mg_of X G g_TooMany, PySem.W.mg_of X G g_Untied, E_Shy, m_Shy_Shy, k_Shy_LampError, k_Shy_ValueError, k_Shy_Alone, k_Shy_NoLamp, k_Shy_NoNote, k_Shy_NoPress, k_Shy_NoYard, k_Shy_Tied, k_Shy_TooMany, k_Shy_Untied⟩
  have F_differing := fun_mk (st := s_differing) l_differing c_differing k_differing
  have b_differing := F_differing.binds (ps := ["light", "wished"]) fun _ _ _ _ _ _ us hl => by obtain ⟨x0, x1, rfl⟩ := len_2 hl; rfl
  have m_differing := PySem.W.mg_of X G a_differing
  have F_together := fun_mk (st := s_together) l_together c_together k_together
  have b_together := F_together.binds (ps := ["one", "other"]) fun _ _ _ _ _ _ us hl => by obtain ⟨x0, x1, rfl⟩ := len_2 hl; rfl
  have m_together := PySem.W.mg_of X G a_together
  have F_reduced := fun_mk (st := s_reduced) l_reduced c_reduced k_reduced
  have b_reduced := F_reduced.binds (ps := ["steps", "lamps", "buttons"]) fun _ _ _ _ _ _ us hl => by obtain ⟨x0, x1, x2, rfl⟩ := len_3 hl; rfl
  have m_reduced := PySem.W.mg_of X G a_reduced
  have F_steps_of := fun_mk (st := s_steps_of) l_steps_of c_steps_of k_steps_of
  have b_steps_of := F_steps_of.binds (ps := ["yard"]) fun _ _ _ _ _ _ us hl => by obtain ⟨x0, rfl⟩ := len_1 hl; rfl
  have m_steps_of := PySem.W.mg_of X G a_steps_of
  have F_quiet_sets := fun_mk (st := s_quiet_sets) l_quiet_sets c_quiet_sets k_quiet_sets
  have b_quiet_sets := F_quiet_sets.binds (ps := ["steps"]) fun _ _ _ _ _ _ us hl => by obtain ⟨x0, rfl⟩ := len_1 hl; rfl
  have m_quiet_sets := PySem.W.mg_of X G a_quiet_sets
  have F_way := fun_mk (st := s_way) l_way c_way k_way
  have b_way := F_way.binds (ps := ["yard", "light", "wished"]) fun _ _ _ _ _ _ us hl => by obtain ⟨x0, x1, x2, rfl⟩ := len_3 hl; rfl
  have m_way := PySem.W.mg_of X G a_way
  have F_all_out := fun_mk (st := s_all_out) l_all_out c_all_out k_all_out
  have b_all_out := F_all_out.binds (ps := ["yard"]) fun _ _ _ _ _ _ us hl => by obtain ⟨x0, rfl⟩ := len_1 hl; rfl
  have m_all_out := PySem.W.mg_of X G a_all_out
  have F_check_lamp := fun_mk (st := s_check_lamp) l_check_lamp c_check_lamp k_check_lamp
  have b_check_lamp := F_check_lamp.binds (ps := ["lamp", "many"]) fun _ _ _ _ _ _ us hl => by obtain ⟨x0, x1, rfl⟩ := len_2 hl; rfl
  have m_check_lamp := PySem.W.mg_of X G a_check_lamp
  have F_check_pair := fun_mk (st := s_check_pair) l_check_pair c_check_pair k_check_pair
  have b_check_pair := F_check_pair.binds (ps := ["one", "other", "many"]) fun _ _ _ _ _ _ us hl => by obtain ⟨x0, x1, x2, rfl⟩ := len_3 hl; rfl
  have m_check_pair := PySem.W.mg_of X G a_check_pair
  have F_untied_rows := fun_mk (st := s_untied_rows) l_untied_rows c_untied_rows k_untied_rows
  have b_untied_rows := F_untied_rows.binds (ps := ["many"]) fun _ _ _ _ _ _ us hl => by obtain ⟨x0, rfl⟩ := len_1 hl; rfl
  have m_untied_rows := PySem.W.mg_of X G a_untied_rows
  have F_Y___init__ := fun_mk (st := s_init) l_Y___init__ c_Y___init__ k_Y___init__
  have b_Y___init__ := F_Y___init__.binds (ps := ["self", "many"]) fun _ _ _ _ _ _ us hl => by obtain ⟨x0, x1, rfl⟩ := len_2 hl; rfl
  have M_Y___init__ : Meth K C "__init__" f_Y___init__ := ⟨a_Y___init__, i_Y___init__, k_Y___init__⟩
  have F_Y_tie := fun_mk (st := s_tie) l_Y_tie c_Y_tie k_Y_tie
  have b_Y_tie := F_Y_tie.binds (ps := ["self", "one", "other"]) fun _ _ _ _ _ _ us hl => by obtain ⟨x0, x1, x2, rfl⟩ := len_3 hl; rfl
  have M_Y_tie : Meth K C "tie" f_Y_tie := ⟨a_Y_tie, i_Y_tie, k_Y_tie⟩
  have F_Y_untie := fun_mk (st := s_untie) l_Y_untie c_Y_untie k_Y_untie
  have b_Y_untie := F_Y_untie.binds (ps := ["self", "one", "other"]) fun _ _ _ _ _ _ us hl => by obtain ⟨x0, x1, x2, rfl⟩ := len_3 hl; rfl
  have M_Y_untie : Meth K C "untie" f_Y_untie := ⟨a_Y_untie, i_Y_untie, k_Y_untie⟩
  have F_Y_put_tie := fun_mk (st := s_put_tie) l_Y_put_tie c_Y_put_tie k_Y_put_tie
  have b_Y_put_tie := F_Y_put_tie.binds (ps := ["self", "one", "other", "answer"]) fun _ _ _ _ _ _ us hl => by obtain ⟨x0, x1, x2, x3, rfl⟩ := len_4 hl; rfl
  have M_Y_put_tie : Meth K C "put_tie" f_Y_put_tie := ⟨a_Y_put_tie, i_Y_put_tie, k_Y_put_tie⟩
  have F_Y_is_tied := fun_mk (st := s_is_tied) l_Y_is_tied c_Y_is_tied k_Y_is_tied
  have b_Y_is_tied := F_Y_is_tied.binds (ps := ["self", "one", "other"]) fun _ _ _ _ _ _ us hl => by obtain ⟨x0, x1, x2, rfl⟩ := len_3 hl; rfl
  have M_Y_is_tied : Meth K C "is_tied" f_Y_is_tied := ⟨a_Y_is_tied, i_Y_is_tied, k_Y_is_tied⟩
  have F_Y_set_shy := funD_mk (st := s_set_shy) (ds := [.bool true]) l_Y_set_shy c_Y_set_shy k_Y_set_shy lT_Y_set_shy
  have M_Y_set_shy : Meth K C "set_shy" f_Y_set_shy := ⟨a_Y_set_shy, i_Y_set_shy, k_Y_set_shy⟩
  have F_Y_is_shy := fun_mk (st := s_is_shy) l_Y_is_shy c_Y_is_shy k_Y_is_shy
  have b_Y_is_shy := F_Y_is_shy.binds (ps := ["self", "lamp"]) fun _ _ _ _ _ _ us hl => by obtain ⟨x0, x1, rfl⟩ := len_2 hl; rfl
  have M_Y_is_shy : Meth K C "is_shy" f_Y_is_shy := ⟨a_Y_is_shy, i_Y_is_shy, k_Y_is_shy⟩
  have F_Y_turns := fun_mk (st := s_turns) l_Y_turns c_Y_turns k_Y_turns
  have b_Y_turns := F_Y_turns.binds (ps := ["self", "lamp"]) fun _ _ _ _ _ _ us hl => by obtain ⟨x0, x1, rfl⟩ := len_2 hl; rfl
  have M_Y_turns : Meth K C "turns" f_Y_turns := ⟨a_Y_turns, i_Y_turns, k_Y_turns⟩
  have F_cell_at := fun_mk (st := s_cell) l_cell_at c_cell_at k_cell_at
  have b_cell_at := F_cell_at.binds (ps := ["script", "k"]) fun _ _ _ _ _ _ us hl => by obtain ⟨x0, x1, rfl⟩ := len_2 hl; rfl
  have m_cell_at := PySem.W.mg_of X G a_cell_at
  have F_mix := fun_mk (st := s_mix) l_mix c_mix k_mix
  have b_mix := F_mix.binds (ps := ["cell", "k"]) fun _ _ _ _ _ _ us hl => by obtain ⟨x0, x1, rfl⟩ := len_2 hl; rfl
  have m_mix := PySem.W.mg_of X G a_mix
  have F_many := fun_mk (st := s_many) l_many c_many k_many
  have b_many := F_many.binds (ps := ["cell"]) fun _ _ _ _ _ _ us hl => by obtain ⟨x0, rfl⟩ := len_1 hl; rfl
  have m_many := PySem.W.mg_of X G a_many
  have F_drawn := fun_mk (st := s_drawn) l_drawn c_drawn k_drawn
  have b_drawn := F_drawn.binds (ps := ["script"]) fun _ _ _ _ _ _ us hl => by obtain ⟨x0, rfl⟩ := len_1 hl; rfl
  have m_drawn := PySem.W.mg_of X G a_drawn
  have F_built := fun_mk (st := s_built) l_built c_built k_built
  have b_built := F_built.binds (ps := ["many", "ties", "shy"]) fun _ _ _ _ _ _ us hl => by obtain ⟨x0, x1, x2, rfl⟩ := len_3 hl; rfl
  have m_built := PySem.W.mg_of X G a_built
  have F_turns := fun_mk (st := s_turnsL) l_turns c_turns k_turns
  have b_turns := F_turns.binds (ps := ["many", "ties", "shy"]) fun _ _ _ _ _ _ us hl => by obtain ⟨x0, x1, x2, rfl⟩ := len_3 hl; rfl
  have m_turns := PySem.W.mg_of X G a_turns
  have F_pressed := fun_mk (st := s_pressedL) l_pressed c_pressed k_pressed
  have b_pressed := F_pressed.binds (ps := ["light", "turns", "presses"]) fun _ _ _ _ _ _ us hl => by obtain ⟨x0, x1, x2, rfl⟩ := len_3 hl; rfl
  have m_pressed := PySem.W.mg_of X G a_pressed
  have F_whole := fun_mk (st := s_whole) l_whole c_whole k_whole
  have b_whole := F_whole.binds (ps := ["found"]) fun _ _ _ _ _ _ us hl => by obtain ⟨x0, rfl⟩ := len_1 hl; rfl
  have m_whole := PySem.W.mg_of X G a_whole
  have F_lamps := fun_mk (st := s_lamps) l_lamps c_lamps k_lamps
  have b_lamps := F_lamps.binds (ps := ["found", "many"]) fun _ _ _ _ _ _ us hl => by obtain ⟨x0, x1, rfl⟩ := len_2 hl; rfl
  have m_lamps := PySem.W.mg_of X G a_lamps
  have F_others := fun_mk (st := s_others) l_others c_others k_others
  have b_others := F_others.binds (ps := ["e"]) fun _ _ _ _ _ _ us hl => by obtain ⟨x0, rfl⟩ := len_1 hl; rfl
  have m_others := PySem.W.mg_of X G a_others
  have F_refused := fun_mk (st := s_refused) l_refused c_refused k_refused
  have b_refused := F_refused.binds (ps := ["yard"]) fun _ _ _ _ _ _ us hl => by obtain ⟨x0, rfl⟩ := len_1 hl; rfl
  have m_refused := PySem.W.mg_of X G a_refused
  have F_law := fun_mk (st := s_law) l_law c_law k_law
  refine ⟨PySem.W.fnOf "law" "law" (defArgs s_law) (defBody s_law) (defScope s_law) .none kV_law dc_law pm_law an_law cd_law ct_law, fun s v => .of_eq rfl, fun base _ _ => ?_⟩
  have G_check_lamp : FnOk l.prog w K mg base (CXE l.prog w) 1 f_check_lamp _ ["lamp", "many"] (spCheck NL) := ok_check_lamp F_check_lamp Y0
  have hF_check_lamp : Has l.prog w K mg base (CXE l.prog w) 1 "check_lamp" ["lamp", "many"] (spCheck NL) := Has.mk' (G_check_lamp) b_check_lamp m_check_lamp k_check_lamp
  have G_check_pair : FnOk l.prog w K mg base (CXE l.prog w) 2 f_check_pair _ ["one", "other", "many"] (spPair NL AL) := ok_check_pair F_check_pair Y0 G_check_lamp b_check_lamp m_check_lamp k_check_lamp
  have hF_check_pair : Has l.prog w K mg base (CXE l.prog w) 2 "check_pair" ["one", "other", "many"] (spPair NL AL) := Has.mk' (G_check_pair) b_check_pair m_check_pair k_check_pair
  have G_untied_rows : FnOk l.prog w K mg base CX0 1 f_untied_rows _ ["many"] (spRows) := ok_untied_rows F_untied_rows Y0
  have hF_untied_rows : Has l.prog w K mg base (CXE l.prog w) 1 "untied_rows" ["many"] (spRows) := Has.mk' (G_untied_rows.lift) b_untied_rows m_untied_rows k_untied_rows
  have h0F_untied_rows : Has l.prog w K mg base CX0 1 "untied_rows" ["many"] (spRows) := Has.mk' G_untied_rows b_untied_rows m_untied_rows k_untied_rows
  have G_Y___init__ : FnOk l.prog w K mg base (CXE l.prog w) 2 f_Y___init__ _ ["self", "many"] (spInit C NY) := ok_init F_Y___init__ Y0 G_untied_rows b_untied_rows m_untied_rows k_untied_rows
  have hC_Yard : HasC l.prog w K mg base (CXE l.prog w) 2 C "Yard" ["self", "many"] (spInit C NY) := ⟨⟨_, _, G_Y___init__, b_Y___init__, ⟨mk, a_Y___init__, i_Y___init__, kc⟩⟩, PySem.W.mg_of X G aC⟩
  have G_Y_is_tied : FnOk l.prog w K mg base (CXE l.prog w) 3 f_Y_is_tied _ ["self", "one", "other"] (spIsTied C NL AL) := ok_is_tied F_Y_is_tied Y0 G_check_pair b_check_pair m_check_pair k_check_pair
  have hM_is_tied : HasM l.prog w K mg base (CXE l.prog w) 3 C "is_tied" ["self", "one", "other"] [] (spIsTied C NL AL) := ⟨⟨_, _, _, G_Y_is_tied, b_Y_is_tied, .nil, M_Y_is_tied⟩, Y0.cl⟩
  have G_Y_is_shy : FnOk l.prog w K mg base (CXE l.prog w) 2 f_Y_is_shy _ ["self", "lamp"] (spIsShy C NL) := ok_is_shy F_Y_is_shy Y0 G_check_lamp b_check_lamp m_check_lamp k_check_lamp
  have hM_is_shy : HasM l.prog w K mg base (CXE l.prog w) 2 C "is_shy" ["self", "lamp"] [] (spIsShy C NL) := ⟨⟨_, _, _, G_Y_is_shy, b_Y_is_shy, .nil, M_Y_is_shy⟩, Y0.cl⟩
  have G_Y_turns : FnOk l.prog w K mg base (CXE l.prog w) 2 f_Y_turns _ ["self", "lamp"] (spTurns C NL) := ok_turns F_Y_turns Y0 G_check_lamp b_check_lamp m_check_lamp k_check_lamp
  have hM_turns : HasM l.prog w K mg base (CXE l.prog w) 2 C "turns" ["self", "lamp"] [] (spTurns C NL) := ⟨⟨_, _, _, G_Y_turns, b_Y_turns, .nil, M_Y_turns⟩, Y0.cl⟩
  have G_Y_put_tie : FnOk l.prog w K mg base CX0 1 f_Y_put_tie _ ["self", "one", "other", "answer"] (spPut C) := ok_put_tie F_Y_put_tie Y0
  have hM_put_tie : HasM l.prog w K mg base (CXE l.prog w) 1 C "put_tie" ["self", "one", "other", "answer"] [] (spPut C) := ⟨⟨_, _, _, G_Y_put_tie.lift, b_Y_put_tie, .nil, M_Y_put_tie⟩, Y0.cl⟩
  have G_Y_tie : FnOk l.prog w K mg base (CXE l.prog w) 4 f_Y_tie _ ["self", "one", "other"] (spTie C NL AL TD true) := ok_tie F_Y_tie Y0 G_Y_is_tied b_Y_is_tied M_Y_is_tied G_Y_put_tie b_Y_put_tie M_Y_put_tie
  have hM_tie : HasM l.prog w K mg base (CXE l.prog w) 4 C "tie" ["self", "one", "other"] [] (spTie C NL AL TD true) := ⟨⟨_, _, _, G_Y_tie, b_Y_tie, .nil, M_Y_tie⟩, Y0.cl⟩
  have G_Y_untie : FnOk l.prog w K mg base (CXE l.prog w) 4 f_Y_untie _ ["self", "one", "other"] (spTie C NL AL UT false) := ok_untie F_Y_untie Y0 G_Y_is_tied b_Y_is_tied M_Y_is_tied G_Y_put_tie b_Y_put_tie M_Y_put_tie
  have hM_untie : HasM l.prog w K mg base (CXE l.prog w) 4 C "untie" ["self", "one", "other"] [] (spTie C NL AL UT false) := ⟨⟨_, _, _, G_Y_untie, b_Y_untie, .nil, M_Y_untie⟩, Y0.cl⟩
  have G_Y_set_shy : FnOk l.prog w K mg base (CXE l.prog w) 2 f_Y_set_shy _ ["self", "lamp", "answer"] (spShy C NL) := ok_set_shy F_Y_set_shy Y0 G_check_lamp b_check_lamp m_check_lamp k_check_lamp
  have hM_set_shy2 : HasM l.prog w K mg base (CXE l.prog w) 2 C "set_shy" ["self", "lamp", "answer"] [.bl true] (spShy C NL) := ⟨⟨_, _, _, G_Y_set_shy, binds_shy2 F_Y_set_shy, .cons rfl .nil, M_Y_set_shy⟩, Y0.cl⟩
  have hM_set_shy3 : HasM l.prog w K mg base (CXE l.prog w) 2 C "set_shy" ["self", "lamp", "answer"] [] (spShy C NL) := ⟨⟨_, _, _, G_Y_set_shy, binds_shy3 F_Y_set_shy, .nil, M_Y_set_shy⟩, Y0.cl⟩
  have G_differing : FnOk l.prog w K mg base CX0 1 f_differing _ ["light", "wished"] (spDiffering K) := ok_differing F_differing T
  have hF_differing : Has l.prog w K mg base (CXE l.prog w) 1 "differing" ["light", "wished"] (spDiffering K) := Has.mk' (G_differing.lift) b_differing m_differing k_differing
  have h0F_differing : Has l.prog w K mg base CX0 1 "differing" ["light", "wished"] (spDiffering K) := Has.mk' G_differing b_differing m_differing k_differing
  have G_together : FnOk l.prog w K mg base CX0 1 f_together _ ["one", "other"] (spTogether K) := ok_together F_together T
  have hF_together : Has l.prog w K mg base (CXE l.prog w) 1 "together" ["one", "other"] (spTogether K) := Has.mk' (G_together.lift) b_together m_together k_together
  have h0F_together : Has l.prog w K mg base CX0 1 "together" ["one", "other"] (spTogether K) := Has.mk' G_together b_together m_together k_together
  have G_reduced : FnOk l.prog w K mg base CX0 2 f_reduced _ ["steps", "lamps", "buttons"] (spReduced K) := ok_reduced F_reduced T hF_together
  have hF_reduced : Has l.prog w K mg base (CXE l.prog w) 2 "reduced" ["steps", "lamps", "buttons"] (spReduced K) := Has.mk' (G_reduced.lift) b_reduced m_reduced k_reduced
  have h0F_reduced : Has l.prog w K mg base CX0 2 "reduced" ["steps", "lamps", "buttons"] (spReduced K) := Has.mk' G_reduced b_reduced m_reduced k_reduced
  have G_steps_of : FnOk l.prog w K mg base CX0 3 f_steps_of _ ["yard"] (spSteps C) := ok_steps_of (NL := NL) F_steps_of T Y0.cl Y0.nM hF_reduced hM_turns
  have hF_steps_of : Has l.prog w K mg base (CXE l.prog w) 3 "steps_of" ["yard"] (spSteps C) := Has.mk' (G_steps_of.lift) b_steps_of m_steps_of k_steps_of
  have h0F_steps_of : Has l.prog w K mg base CX0 3 "steps_of" ["yard"] (spSteps C) := Has.mk' G_steps_of b_steps_of m_steps_of k_steps_of
  have G_quiet_sets : FnOk l.prog w K mg base CX0 1 f_quiet_sets _ ["steps"] (spQuietSets K) := ok_quiet_sets F_quiet_sets T
  have hF_quiet_sets : Has l.prog w K mg base (CXE l.prog w) 1 "quiet_sets" ["steps"] (spQuietSets K) := Has.mk' (G_quiet_sets.lift) b_quiet_sets m_quiet_sets k_quiet_sets
  have h0F_quiet_sets : Has l.prog w K mg base CX0 1 "quiet_sets" ["steps"] (spQuietSets K) := Has.mk' G_quiet_sets b_quiet_sets m_quiet_sets k_quiet_sets
  have G_way : FnOk l.prog w K mg base CX0 4 f_way _ ["yard", "light", "wished"] (spWay K C) := ok_way F_way T hF_differing hF_steps_of hF_quiet_sets hF_reduced
  have hF_way : Has l.prog w K mg base (CXE l.prog w) 4 "way" ["yard", "light", "wished"] (spWay K C) := Has.mk' (G_way.lift) b_way m_way k_way
  have h0F_way : Has l.prog w K mg base CX0 4 "way" ["yard", "light", "wished"] (spWay K C) := Has.mk' G_way b_way m_way k_way
  have G_all_out : FnOk l.prog w K mg base (CXE l.prog w) 5 f_all_out _ ["yard"] (spAllOut C SH) := ok_all_out (NL := NL) F_all_out T Y0.cl Y0.nM (PySem.W.mg_of X G g_Shy) x_Shy hM_is_shy hF_way
  have hF_all_out : Has l.prog w K mg base (CXE l.prog w) 5 "all_out" ["yard"] (spAllOut C SH) := Has.mk' (G_all_out) b_all_out m_all_out k_all_out
  have G_cell_at : FnOk l.prog w K mg base CX0 1 f_cell_at _ ["script", "k"] (spCell K) := ok_cell F_cell_at T
  have hF_cell_at : Has l.prog w K mg base (CXE l.prog w) 1 "_law_cell_at" ["script", "k"] (spCell K) := Has.mk' (G_cell_at.lift) b_cell_at m_cell_at k_cell_at
  have h0F_cell_at : Has l.prog w K mg base CX0 1 "_law_cell_at" ["script", "k"] (spCell K) := Has.mk' G_cell_at b_cell_at m_cell_at k_cell_at
  have G_mix : FnOk l.prog w K mg base CX0 1 f_mix _ ["cell", "k"] (spMix) := ok_mix F_mix
  have hF_mix : Has l.prog w K mg base (CXE l.prog w) 1 "_law_mix" ["cell", "k"] (spMix) := Has.mk' (G_mix.lift) b_mix m_mix k_mix
  have h0F_mix : Has l.prog w K mg base CX0 1 "_law_mix" ["cell", "k"] (spMix) := Has.mk' G_mix b_mix m_mix k_mix
  have G_many : FnOk l.prog w K mg base CX0 1 f_many _ ["cell"] (spMany) := ok_many F_many
  have hF_many : Has l.prog w K mg base (CXE l.prog w) 1 "_law_many" ["cell"] (spMany) := Has.mk' (G_many.lift) b_many m_many k_many
  have h0F_many : Has l.prog w K mg base CX0 1 "_law_many" ["cell"] (spMany) := Has.mk' G_many b_many m_many k_many
  have G_drawn : FnOk l.prog w K mg base CX0 2 f_drawn _ ["script"] (spDrawn K) := ok_drawn F_drawn T h0F_cell_at h0F_many h0F_mix
  have hF_drawn : Has l.prog w K mg base (CXE l.prog w) 2 "_law_drawn" ["script"] (spDrawn K) := Has.mk' (G_drawn.lift) b_drawn m_drawn k_drawn
  have h0F_drawn : Has l.prog w K mg base CX0 2 "_law_drawn" ["script"] (spDrawn K) := Has.mk' G_drawn b_drawn m_drawn k_drawn
  have G_built : FnOk l.prog w K mg base CX0 5 f_built _ ["many", "ties", "shy"] (spBuilt C) := ok_built (NL := NL) (AL := AL) (NY := NY) (TD := TD) (UT := UT) F_built T hC_Yard hM_tie hM_untie hM_set_shy2 hM_set_shy3
  have hF_built : Has l.prog w K mg base (CXE l.prog w) 5 "_law_built" ["many", "ties", "shy"] (spBuilt C) := Has.mk' (G_built.lift) b_built m_built k_built
  have h0F_built : Has l.prog w K mg base CX0 5 "_law_built" ["many", "ties", "shy"] (spBuilt C) := Has.mk' G_built b_built m_built k_built
  have G_turns : FnOk l.prog w K mg base CX0 1 f_turns _ ["many", "ties", "shy"] (spTurnsL) := ok_turnsL F_turns T
  have hF_turns : Has l.prog w K mg base (CXE l.prog w) 1 "_law_turns" ["many", "ties", "shy"] (spTurnsL) := Has.mk' (G_turns.lift) b_turns m_turns k_turns
  have h0F_turns : Has l.prog w K mg base CX0 1 "_law_turns" ["many", "ties", "shy"] (spTurnsL) := Has.mk' G_turns b_turns m_turns k_turns
  have G_pressed : FnOk l.prog w K mg base CX0 1 f_pressed _ ["light", "turns", "presses"] (spPressedL K) := ok_pressedL F_pressed T
  have hF_pressed : Has l.prog w K mg base (CXE l.prog w) 1 "_law_pressed" ["light", "turns", "presses"] (spPressedL K) := Has.mk' (G_pressed.lift) b_pressed m_pressed k_pressed
  have h0F_pressed : Has l.prog w K mg base CX0 1 "_law_pressed" ["light", "turns", "presses"] (spPressedL K) := Has.mk' G_pressed b_pressed m_pressed k_pressed
  have G_whole : FnOk l.prog w K mg base CX0 1 f_whole _ ["found"] (spWhole) := ok_whole F_whole T
  have hF_whole : Has l.prog w K mg base (CXE l.prog w) 1 "_law_whole" ["found"] (spWhole) := Has.mk' (G_whole.lift) b_whole m_whole k_whole
  have h0F_whole : Has l.prog w K mg base CX0 1 "_law_whole" ["found"] (spWhole) := Has.mk' G_whole b_whole m_whole k_whole
  have G_lamps : FnOk l.prog w K mg base CX0 2 f_lamps _ ["found", "many"] (spLamps) := ok_lamps F_lamps T hF_whole
  have hF_lamps : Has l.prog w K mg base (CXE l.prog w) 2 "_law_lamps" ["found", "many"] (spLamps) := Has.mk' (G_lamps.lift) b_lamps m_lamps k_lamps
  have h0F_lamps : Has l.prog w K mg base CX0 2 "_law_lamps" ["found", "many"] (spLamps) := Has.mk' G_lamps b_lamps m_lamps k_lamps
  have G_others : FnOkT l.prog w K mg base 1 f_others _ ["e"] (spOthers SH) := ok_others F_others T G10_
  have hT_others : HasT l.prog w K mg base 1 "_law_others" ["e"] (spOthers SH) := HasT.mk' G_others b_others m_others k_others
  have G_refused : FnOk l.prog w K mg base CX0 32 f_refused _ ["yard"] (spRefused10 C) := ok_refused (by decide) F_refused T G10_ hF_all_out hT_others
  have hF_refused : Has l.prog w K mg base (CXE l.prog w) 32 "_law_refused" ["yard"] (spRefused10 C) := Has.mk' (G_refused.lift) b_refused m_refused k_refused
  have h0F_refused : Has l.prog w K mg base CX0 32 "_law_refused" ["yard"] (spRefused10 C) := Has.mk' G_refused b_refused m_refused k_refused
  exact ok_law F_law (by decide) T hF_cell_at hF_drawn hF_built hF_turns hF_pressed hF_lamps hF_refused hM_set_shy3 hF_all_out
theorem walk {l : PySem.W.OpenLaw} {q : Program} {loose : List Str} {XP : (Str → Option Value) → Heap → Prop} {YP : World → Heap → Prop} {d : DefRec} {K : Params → PySem.W.Frag} (hn : l.most = some 63) (hdf : d.params.defaults = [])
    (hY : ∀ (w : World) (h : Heap), YP w h → (K w.params).In h)
    (F : ∀ (w : World) (mg : Str → Option Value) (fa : Addr) (h : Heap), (K w.params).In h → h.Ns mainGlobals mg → mg d.name = some (.ref fa) →
      ∃ fd : FuncData, (∀ (s : Shared) (u : Value), BindsTo s fd ⟨[u], []⟩ [("script", u)]) ∧ ∀ base : Heap, (K w.params).In base → base.Ns mainGlobals mg → FnOk l.prog w (K w.params) mg base CX0 34 fa fd ["script"] (spLaw (K w.params))) :
    PySem.W.WalkO q loose XP YP l.row.toRowW d [] (fun f vs => PySem.call f vs) :=
  L2.walk_of (n := 63) (k := 34) (x := "script") (CX := fun _ => CX0) (sp := fun w => spLaw (K w.params)) hn (by decide) hdf ⟨rfl, by decide, by decide⟩ hY F (fun _ _ a ns hl _ hS => ⟨a, ns, rfl, hS, hl, fun _ => rfl⟩) fun _ _ _ _ _ z => z
end Lp
open PySem PySem.W PyProof.Rows
set_option maxRecDepth 100000 in
set_option maxHeartbeats 0 in
theorem PySem.Challenge.cw_lampyard_k10_shy_holds : PySem.Challenge.rw_lampyard_k10_shy.Holds := by
  w_on; o_law; k_head; (case hw => w_witness2)
  k_fill
  refine Lp.walk (l := PySem.Challenge.rw_lampyard_k10_shy) rfl rfl (fun w h Y => PySem.W.kIn_of Y) ?F
  case F =>
    intro w mg fa h KX G hmg
    refine' Lp.all_mk KX G hmg ?aC ?g_NoLamp ?g_Alone ?g_NoYard ?g_Tied ?g_Untied ?g_LampError ?g_NoPress ?g_TooMany ?g_Shy ?g_NoNote ?x_NoLamp ?x_Alone ?x_NoYard ?x_Tied ?x_Untied ?x_Shy ?pg ?hd ?po ?sa ?mk ?kc ?nM ?nR ?aM ?z_len ?z_list ?z_bool ?z_int ?z_isinstance ?z_all ?z_any ?z_range ?z_enumerate ?z_ValueError ?z_reversed ?z_str ?z_tuple ?z_set ?z_sorted ?z_min ?eg ?et ?ep_Shy ?eh_Shy ?eb_Shy ?ec_Shy ?ea_Shy ?em_Shy ?k_Shy_LampError ?k_Shy_ValueError ?k_Shy_Alone ?k_Shy_NoLamp ?k_Shy_NoNote ?k_Shy_NoPress ?k_Shy_NoYard ?k_Shy_Tied ?k_Shy_TooMany ?k_Shy_Untied ?m_Shy_Shy ?a_differing ?l_differing ?c_differing ?k_differing ?a_together ?l_together ?c_together ?k_together ?a_reduced ?l_reduced ?c_reduced ?k_reduced ?a_steps_of ?l_steps_of ?c_steps_of ?k_steps_of ?a_quiet_sets ?l_quiet_sets ?c_quiet_sets ?k_quiet_sets ?a_way ?l_way ?c_way ?k_way ?a_all_out ?l_all_out ?c_all_out ?k_all_out ?a_check_lamp ?l_check_lamp ?c_check_lamp ?k_check_lamp ?a_check_pair ?l_check_pair ?c_check_pair ?k_check_pair ?a_untied_rows ?l_untied_rows ?c_untied_rows ?k_untied_rows ?a_Y___init__ ?i_Y___init__ ?l_Y___init__ ?c_Y___init__ ?k_Y___init__ ?a_Y_tie ?i_Y_tie ?l_Y_tie ?c_Y_tie ?k_Y_tie ?a_Y_untie ?i_Y_untie ?l_Y_untie ?c_Y_untie ?k_Y_untie ?a_Y_put_tie ?i_Y_put_tie ?l_Y_put_tie ?c_Y_put_tie ?k_Y_put_tie ?a_Y_is_tied ?i_Y_is_tied ?l_Y_is_tied ?c_Y_is_tied ?k_Y_is_tied ?a_Y_set_shy ?i_Y_set_shy ?l_Y_set_shy ?c_Y_set_shy ?k_Y_set_shy ?lT_Y_set_shy ?a_Y_is_shy ?i_Y_is_shy ?l_Y_is_shy ?c_Y_is_shy ?k_Y_is_shy ?a_Y_turns ?i_Y_turns ?l_Y_turns ?c_Y_turns ?k_Y_turns ?a_cell_at ?l_cell_at ?c_cell_at ?k_cell_at ?a_mix ?l_mix ?c_mix ?k_mix ?a_many ?l_many ?c_many ?k_many ?a_drawn ?l_drawn ?c_drawn ?k_drawn ?a_built ?l_built ?c_built ?k_built ?a_turns ?l_turns ?c_turns ?k_turns ?a_pressed ?l_pressed ?c_pressed ?k_pressed ?a_whole ?l_whole ?c_whole ?k_whole ?a_lamps ?l_lamps ?c_lamps ?k_lamps ?a_others ?l_others ?c_others ?k_others ?a_refused ?l_refused ?c_refused ?k_refused ?a_law ?l_law ?c_law ?k_law
    (case aC => k_is)
    (case g_NoLamp => k_is)
    (case g_Alone => k_is)
    (case g_NoYard => k_is)
    (case g_Tied => k_is)
    (case g_Untied => k_is)
    (case g_LampError => k_is)
    (case g_NoPress => k_is)
    (case g_TooMany => k_is)
    (case g_Shy => k_is)
    (case g_NoNote => k_is)
    (case x_NoLamp => k_exc)
    (case x_Alone => k_exc)
    (case x_NoYard => k_exc)
    (case x_Tied => k_exc)
    (case x_Untied => k_exc)
    (case x_Shy => k_exc)
    (case pg => k_is)
    (case hd => k_is)
    (case po => k_is)
    (case sa => k_is)
    (case mk => k_is)
    (case kc => k_is)
    (case nM => k_is)
    (case nR => k_is)
    (case aM => k_is)
    (case z_len => k_is)
    (case z_list => k_is)
    (case z_bool => k_is)
    (case z_int => k_is)
    (case z_isinstance => k_is)
    (case z_all => k_is)
    (case z_any => k_is)
    (case z_range => k_is)
    (case z_enumerate => k_is)
    (case z_ValueError => k_is)
    (case z_reversed => k_is)
    (case z_str => k_is)
    (case z_tuple => k_is)
    (case z_set => k_is)
    (case z_sorted => k_is)
    (case z_min => k_is)
    (case eg => k_is)
    (case et => k_is)
    (case ep_Shy => k_is)
    (case eh_Shy => k_is)
    (case eb_Shy => k_is)
    (case ec_Shy => k_is)
    (case ea_Shy => k_is)
    (case em_Shy => k_is)
    (case k_Shy_LampError => kit_is)
    (case k_Shy_ValueError => kit_is)
    (case k_Shy_Alone => kit_is)
    (case k_Shy_NoLamp => kit_is)
    (case k_Shy_NoNote => kit_is)
    (case k_Shy_NoPress => kit_is)
    (case k_Shy_NoYard => kit_is)
    (case k_Shy_Tied => kit_is)
    (case k_Shy_TooMany => kit_is)
    (case k_Shy_Untied => kit_is)
    (case m_Shy_Shy => kts_exm)
    (case a_differing => k_is)
    (case l_differing => k_is)
    (case c_differing => k_is)
    (case k_differing => k_is)
    (case a_together => k_is)
    (case l_together => k_is)
    (case c_together => k_is)
    (case k_together => k_is)
    (case a_reduced => k_is)
    (case l_reduced => k_is)
    (case c_reduced => k_is)
    (case k_reduced => k_is)
    (case a_steps_of => k_is)
    (case l_steps_of => k_is)
    (case c_steps_of => k_is)
    (case k_steps_of => k_is)
    (case a_quiet_sets => k_is)
    (case l_quiet_sets => k_is)
    (case c_quiet_sets => k_is)
    (case k_quiet_sets => k_is)
    (case a_way => k_is)
    (case l_way => k_is)
    (case c_way => k_is)
    (case k_way => k_is)
    (case a_all_out => k_is)
    (case l_all_out => k_is)
    (case c_all_out => k_is)
    (case k_all_out => k_is)
    (case a_check_lamp => k_is)
    (case l_check_lamp => k_is)
    (case c_check_lamp => k_is)
    (case k_check_lamp => k_is)
    (case a_check_pair => k_is)
    (case l_check_pair => k_is)
    (case c_check_pair => k_is)
    (case k_check_pair => k_is)
    (case a_untied_rows => k_is)
    (case l_untied_rows => k_is)
    (case c_untied_rows => k_is)
    (case k_untied_rows => k_is)
    (case a_Y___init__ => k_is)
    (case i_Y___init__ => k_is)
    (case l_Y___init__ => k_is)
    (case c_Y___init__ => k_is)
    (case k_Y___init__ => k_is)
    (case a_Y_tie => k_is)
    (case i_Y_tie => k_is)
    (case l_Y_tie => k_is)
    (case c_Y_tie => k_is)
    (case k_Y_tie => k_is)
    (case a_Y_untie => k_is)
    (case i_Y_untie => k_is)
    (case l_Y_untie => k_is)
    (case c_Y_untie => k_is)
    (case k_Y_untie => k_is)
    (case a_Y_put_tie => k_is)
    (case i_Y_put_tie => k_is)
    (case l_Y_put_tie => k_is)
    (case c_Y_put_tie => k_is)
    (case k_Y_put_tie => k_is)
    (case a_Y_is_tied => k_is)
    (case i_Y_is_tied => k_is)
    (case l_Y_is_tied => k_is)
    (case c_Y_is_tied => k_is)
    (case k_Y_is_tied => k_is)
    (case a_Y_set_shy => k_is)
    (case i_Y_set_shy => k_is)
    (case l_Y_set_shy => k_is)
    (case c_Y_set_shy => k_is)
    (case k_Y_set_shy => k_is)
    (case lT_Y_set_shy => k_is)
    (case a_Y_is_shy => k_is)
    (case i_Y_is_shy => k_is)
    (case l_Y_is_shy => k_is)
    (case c_Y_is_shy => k_is)
    (case k_Y_is_shy => k_is)
    (case a_Y_turns => k_is)
    (case i_Y_turns => k_is)
    (case l_Y_turns => k_is)
    (case c_Y_turns => k_is)
    (case k_Y_turns => k_is)
    (case a_cell_at => k_is)
    (case l_cell_at => k_is)
    (case c_cell_at => k_is)
    (case k_cell_at => k_is)
    (case a_mix => k_is)
    (case l_mix => k_is)
    (case c_mix => k_is)
    (case k_mix => k_is)
    (case a_many => k_is)
    (case l_many => k_is)
    (case c_many => k_is)
    (case k_many => k_is)
    (case a_drawn => k_is)
    (case l_drawn => k_is)
    (case c_drawn => k_is)
    (case k_drawn => k_is)
    (case a_built => k_is)
    (case l_built => k_is)
    (case c_built => k_is)
    (case k_built => k_is)
    (case a_turns => k_is)
    (case l_turns => k_is)
    (case c_turns => k_is)
    (case k_turns => k_is)
    (case a_pressed => k_is)
    (case l_pressed => k_is)
    (case c_pressed => k_is)
    (case k_pressed => k_is)
    (case a_whole => k_is)
    (case l_whole => k_is)
    (case c_whole => k_is)
    (case k_whole => k_is)
    (case a_lamps => k_is)
    (case l_lamps => k_is)
    (case c_lamps => k_is)
    (case k_lamps => k_is)
    (case a_others => k_is)
    (case l_others => k_is)
    (case c_others => k_is)
    (case k_others => k_is)
    (case a_refused => k_is)
    (case l_refused => k_is)
    (case c_refused => k_is)
    (case k_refused => k_is)
    (case a_law => k_is)
    (case l_law => k_is)
    (case c_law => k_is)
    (case k_law => k_is)

end
