import PyProof.Rows.All
import Wide.All
import OpenK.AllK
import Wide.FinOn
import Lean
import PyProof.EqAt
import PyProof.EqKinds
import PyProof.TupleCall
import PyProof.NeKinds
import KE.KLam
import KE.KMinKey
import PyProof.FactsAll.list_2
import PyProof.FactsAll.tuple_2
import PyProof.Rows.SortShell
import PyProof.MinMaxWalk
import PyProof.WalkInts
import KE.KNestM
import KE.BitLaws
import PySem.Challenge.RW_lampyard_k13_whole_fewest
set_option Elab.async false
set_option linter.all false
set_option maxRecDepth 100000
set_option maxHeartbeats 4000000
/-! THE HAND LAYER, for ints, bools, texts, own classes, LISTS and tuples (index, slices, in, append, pop ..), calls, loops. Paste it whole ahead of your own text; what your proof does not reach may be deleted. -/
namespace L2
open PySem PySem.Spec PyProof.Rows

abbrev Key := Sum Int Str
def keyIs : Key → Value → Bool
  | .inl k, v => Value.isInt k v
  | .inr x, v => Value.isStrOf x v
def keyH (w : World) : Key → Int
  | .inl k => hashInt k
  | .inr x => hashStr w x
theorem keyIs_shape : ∀ {k : Key} {v : Value}, keyIs k v = true → (∃ i t, k = Sum.inl i ∧ v = Value.int i t) ∨ (∃ x t, k = Sum.inr x ∧ v = Value.str x t)
  | .inl i, v, h => by
    obtain ⟨t, e⟩ := Value.isInt_shape (k := i) (v := v) h
    exact .inl ⟨i, t, rfl, e⟩
  | .inr x, v, h => by
    obtain ⟨t, e⟩ := Value.isStrOf_shape (x := x) (v := v) h
    exact .inr ⟨x, t, rfl, e⟩
theorem key_ll (a b : Int) : decide ((Sum.inl a : Key) = Sum.inl b) = (a == b) := by
  by_cases e : a = b
  · subst e; simp
  · have h : ¬ (Sum.inl a : Key) = Sum.inl b := fun q => e (Sum.inl.inj q)
    rw [decide_eq_false h]
    exact (beq_eq_false_iff_ne.mpr e).symm
theorem key_rr (a b : Str) : decide ((Sum.inr a : Key) = Sum.inr b) = decide (a = b) := by
  by_cases e : a = b
  · subst e; simp
  · have h : ¬ (Sum.inr a : Key) = Sum.inr b := fun q => e (Sum.inr.inj q)
    rw [decide_eq_false h, decide_eq_false e]
theorem key_lr (a : Int) (b : Str) : decide ((Sum.inl a : Key) = Sum.inr b) = false := decide_eq_false (fun q => nomatch q)
theorem key_rl (a : Str) (b : Int) : decide ((Sum.inr a : Key) = Sum.inl b) = false := decide_eq_false (fun q => nomatch q)

def mixKind (prog : Program) (w : World) : PySem.KeyKind prog w Key where
  is := keyIs
  hash := keyH w
  inj := fun v a b ha hb => by
    rcases keyIs_shape ha with ⟨i, t, rfl, rfl⟩ | ⟨x, t, rfl, rfl⟩
    · rcases keyIs_shape hb with ⟨j, u, rfl, e⟩ | ⟨y, u, rfl, e⟩
      · injection e with e1 _; rw [e1]
      · exact nomatch e
    · rcases keyIs_shape hb with ⟨j, u, rfl, e⟩ | ⟨y, u, rfl, e⟩
      · exact nomatch e
      · injection e with e1 _; rw [e1]
  byValue := fun k v h => by
    rcases keyIs_shape h with ⟨i, t, rfl, rfl⟩ | ⟨x, t, rfl, rfl⟩ <;> rfl
  pyHash := fun hv h => by
    rcases keyIs_shape hv with ⟨i, t, rfl, rfl⟩ | ⟨x, t, rfl, rfl⟩
    · exact wpAny_pyHash_int h
    · exact wpAny_pyHash_str h
  eqBool := fun hu hv h => by
    rcases keyIs_shape hu with ⟨i, t, rfl, rfl⟩ | ⟨x, t, rfl, rfl⟩
    · rcases keyIs_shape hv with ⟨j, u, rfl, rfl⟩ | ⟨y, u, rfl, rfl⟩
      · rw [key_ll] at h; exact wpAny_eqBool_int h
      · rw [key_lr] at h; exact SeqAt.EqAt.int_str i t y u _ _ _ _ h
    · rcases keyIs_shape hv with ⟨j, u, rfl, rfl⟩ | ⟨y, u, rfl, rfl⟩
      · rw [key_rl] at h; exact SeqAt.EqAt.str_int x t j u _ _ _ _ h
      · rw [key_rr] at h; exact wpAny_eqBool_str h
  «strs» := fun k x t v h => by
    rcases keyIs_shape h with ⟨i, u, rfl, e⟩ | ⟨y, u, rfl, e⟩
    · exact nomatch e
    · injection e with e1 _
      subst e1
      cases v <;> rfl

end L2

namespace L2
open PySem PySem.Spec PyProof.Rows

inductive V where
  | non | bl (b : Bool) | int (i : Int) | str (x : Str) | byt (b : Array UInt8) | flt (b : UInt64) | ref (a : Addr) | ty (n : String)
  deriving DecidableEq

def RelV : V → Value → Prop
  | .non, u => u = Value.none
  | .bl b, u => u = Value.bool b
  | .int i, u => ∃ t, u = Value.int i t
  | .str x, u => ∃ t, u = Value.str x t
  | .byt b, u => ∃ t, u = Value.bytes b t
  | .flt b, u => ∃ t, u = Value.float b t
  | .ref a, u => u = Value.ref a
  | .ty n, u => u = Value.type n

abbrev Vals : List V → List Value → Prop := Paired RelV
theorem Vals.length {xs : List V} {us : List Value} (r : Vals xs us) : xs.length = us.length := Paired.length r
theorem Vals.get : ∀ {xs : List V} {us : List Value} {i : Nat} {x : V}, Vals xs us → xs[i]? = some x → ∃ u, us[i]? = some u ∧ RelV x u
  | _, _, _, _, .nil, e => by simp at e
  | _, _, 0, _, .cons r _, e => by simp at e; subst e; exact ⟨_, rfl, r⟩
  | _, _, i + 1, x, .cons _ t, e => by
    obtain ⟨u, h1, h2⟩ := Vals.get (i := i) (x := x) t (by simpa using e)
    exact ⟨u, by simpa using h1, h2⟩
theorem Vals.set {x : V} {u : Value} (r : RelV x u) : ∀ {xs : List V} {us : List Value} (i : Nat), Vals xs us → Vals (xs.set i x) (us.set i u)
  | _, _, _, .nil => .nil
  | _, _, 0, .cons _ t => .cons r t
  | _, _, i + 1, .cons q t => .cons q (Vals.set r i t)
theorem Vals.append : ∀ {xs ys : List V} {us ws : List Value}, Vals xs us → Vals ys ws → Vals (xs ++ ys) (us ++ ws)
  | _, _, _, _, .nil, s => s
  | _, _, _, _, .cons r t, s => .cons r (Vals.append t s)
theorem Vals.take : ∀ {xs : List V} {us : List Value} (n : Nat), Vals xs us → Vals (xs.take n) (us.take n)
  | _, _, 0, _ => .nil
  | _, _, _ + 1, .nil => .nil
  | _, _, n + 1, .cons r t => .cons r (Vals.take n t)
theorem Vals.drop : ∀ {xs : List V} {us : List Value} (n : Nat), Vals xs us → Vals (xs.drop n) (us.drop n)
  | _, _, 0, r => r
  | _, _, _ + 1, .nil => .nil
  | _, _, n + 1, .cons _ t => Vals.drop n t

def RelO : Option V → Option Value → Prop
  | some v, some u => RelV v u
  | none, none => True
  | _, _ => False
def KV {κ : Type} : List (κ × V) → List (κ × Value) → Prop := Paired fun (p : κ × V) (q : κ × Value) => p.1 = q.1 ∧ RelV p.2 q.2

def kV : Key → V
  | .inl i => .int i
  | .inr x => .str x

inductive HO where
  | lst (xs : List V)
  | tup (xs : List V)
  | dK (kvs : List (Key × V)) | dT (kvs : List (List Key × V))
  | set (S : Int → Bool) (n : Nat)
  | ins (C dx : Addr) (fs : List (Str × V))
  | own (x : Addr)
  | xd (fs : List (Str × V))
  | met (f x : Addr)
  | rng (lo hi : Int)
  | frz (o : Obj) (u : HO)
  | tbl (ps : Array Value)
  | ext (φ : Heap → Prop)

abbrev Hp := Addr → Option HO
def upd (H : Hp) (a : Addr) (o : HO) : Hp := fun b => if b = a then some o else H b
theorem upd_same {H : Hp} {a : Addr} {o : HO} : upd H a o a = some o := by unfold upd; rw [if_pos rfl]
theorem upd_ne {H : Hp} {a b : Addr} {o : HO} (h : b ≠ a) : upd H a o b = H b := by unfold upd; rw [if_neg h]
theorem upd_upd {H : Hp} {a : Addr} {o u : HO} : upd (upd H a o) a u = upd H a u := by
  funext b; unfold upd; split <;> rfl
theorem ne_of {H : Hp} {a b : Addr} {o u : HO} (h : H a = some o) (h' : H b = some u) (d : o ≠ u) : a ≠ b := by
  intro e; subst e; rw [h] at h'; exact d (Option.some.inj h')
theorem ne_of_none {H : Hp} {a b : Addr} {o : HO} (h : H a = some o) (h' : H b = none) : a ≠ b := by
  intro e; subst e; rw [h] at h'; cases h'

section
variable (P : Program) (w : World)
def ObjOk (H : Hp) (h : Heap) (a : Addr) : HO → Prop
  | .lst xs => xs.length ≤ sizeLine ∧ ∃ (its : List Value) (n : Nat), Vals xs its ∧ h.get? a = some { cls := .type "list", data := .seq its.toArray n }
  | .tup xs => xs.length ≤ sizeLine ∧ ∃ its : List Value, Vals xs its ∧ IsTup h a its.toArray
  | .dK kvs => kvs.length ≤ sizeLine ∧ (a == sysModules) = false ∧ ∃ vs, KV kvs vs ∧ h.DictOf (mixKind P w) a vs
  | .dT kvs => kvs.length ≤ sizeLine ∧ (a == sysModules) = false ∧ ∃ xs : List (List Key × Addr × Value),
      Paired (fun (p : List Key × V) (q : List Key × Addr × Value) => p.1 = q.1 ∧ H q.2.1 = some (.tup (p.1.map kV)) ∧ RelV p.2 q.2.2) kvs xs ∧
      ∃ o es ep, h.get? a = some o ∧ o.ExactDict ∧ o.data = .dict es ep ∧ es.toList = xs.map (entryOfKey (tupleKind (mixKind P w))) ∧ (xs.map (·.1)).Nodup
  | .set S n => h.SetOf (intKind P w) a S n
  | .ins C dx fs => H dx = some (.own a) ∧ fs.length ≤ 1000 ∧ dx ≠ a ∧ h.get? a = some (PySem.W.instObj C dx) ∧
      ∃ mA, h.Ns1 dx mA ∧ (∀ f, RelO (fs.lookup f) (mA f)) ∧ PySem.Within mA (fs.map (·.1))
  | .own _ => ∃ o, h.get? a = some o
  | .xd fs => ∃ mA, h.Ns1 a mA ∧ ∀ f, RelO (fs.lookup f) (mA f)
  | .rng lo hi => ∃ t u v, h.get? a = some { cls := .type "range", data := .fields #[.int lo t, .int hi u, .int 1 v] }
  | .frz o u => h.get? a = some o ∧ ObjOk H h a u
  | .tbl ps => h.get? a = some { cls := .none, data := .fields ps }
  | .met f x => h.get? a = some (PySem.W.methodObj (.ref f) (.ref x))
  | .ext φ => φ h ∧ (∃ o, h.get? a = some o) ∧ ∀ h1 h2 : Heap, φ h1 → (∀ o, h1.get? a = some o → h2.get? a = some o) → φ h2
def HOk (H : Hp) (h : Heap) : Prop := ∀ a o, H a = some o → ObjOk P w H h a o
end

section
variable {P : Program} {w : World} {H H' : Hp} {h h' : Heap} {a : Addr} {o : HO}
theorem ObjOk.lt (x : ObjOk P w H h a o) : a < h.objs.size := by
  cases o with
  | lst xs => obtain ⟨_, _, _, _, e⟩ := x; exact Heap.lt_size e
  | tup xs => obtain ⟨_, _, _, p⟩ := x; exact p.lt
  | dK kvs => obtain ⟨_, _, _, _, o, _, _, e, _⟩ := x; exact Heap.lt_size e
  | dT kvs => obtain ⟨_, _, _, _, o, _, _, e, _⟩ := x; exact Heap.lt_size e
  | set S n => obtain ⟨o, _, _, _, e, _⟩ := x; exact Heap.lt_size e
  | ins C dx fs => obtain ⟨_, _, _, e, _⟩ := x; exact Heap.lt_size e
  | own y => obtain ⟨_, e⟩ := x; exact Heap.lt_size e
  | xd fs => obtain ⟨_, ⟨_, _, _, e, _⟩, _⟩ := x; exact Heap.lt_size e
  | rng lo hi => obtain ⟨_, _, _, e⟩ := x; exact Heap.lt_size e
  | frz ob u => obtain ⟨e, _⟩ := x; exact Heap.lt_size e
  | tbl ps => exact Heap.lt_size (show h.get? a = some _ from x)
  | met f y => exact Heap.lt_size (show h.get? a = some _ from x)
  | ext φ => obtain ⟨_, ⟨_, e⟩, _⟩ := x; exact Heap.lt_size e
theorem Paired.mapP {α β : Type} {F G : α → β → Prop} : ∀ {l₁ : List α} {l₂ : List β}, Paired F l₁ l₂ → (∀ a b, F a b → G a b) → Paired G l₁ l₂
  | _, _, .nil, _ => .nil
  | _, _, .cons r t, f => .cons (f _ _ r) (Paired.mapP t f)
theorem ObjOk.stay (x : ObjOk P w H h a o) (k : ∀ b u, (b = a ∨ H b = some (.own a)) → h.get? b = some u → h'.get? b = some u)
    (ho : ∀ b, H b = some (.own a) → H' b = some (.own a)) (ht : ∀ b xs, H b = some (.tup xs) → H' b = some (.tup xs)) : ObjOk P w H' h' a o := by
  induction o with
  | lst xs => obtain ⟨z, its, n, r, e⟩ := x; exact ⟨z, its, n, r, k _ _ (.inl rfl) e⟩
  | tup xs => obtain ⟨z, its, r, ob, e, c⟩ := x; exact ⟨z, its, r, ob, k _ _ (.inl rfl) e, c⟩
  | dK kvs => obtain ⟨z, y, vs, r, ob, es, ep, e, c⟩ := x; exact ⟨z, y, vs, r, ob, es, ep, k _ _ (.inl rfl) e, c⟩
  | dT kvs =>
    obtain ⟨z, y, xs, r, ob, es, ep, e, c⟩ := x
    exact ⟨z, y, xs, Paired.mapP r fun p q z => ⟨z.1, ht _ _ z.2.1, z.2.2⟩, ob, es, ep, k _ _ (.inl rfl) e, c⟩
  | set S n => obtain ⟨ob, es, ep, t, e, c⟩ := x; exact ⟨ob, es, ep, t, k _ _ (.inl rfl) e, c⟩
  | ins C dx fs =>
    obtain ⟨d, z, ne, e, mA, ⟨od, es, ep, e2, c⟩, r⟩ := x
    exact ⟨ho _ d, z, ne, k _ _ (.inl rfl) e, mA, ⟨od, es, ep, k _ _ (.inr d) e2, c⟩, r⟩
  | own y => obtain ⟨ob, e⟩ := x; exact ⟨ob, k _ _ (.inl rfl) e⟩
  | xd fs => obtain ⟨mA, ⟨od, es, ep, e, c⟩, r⟩ := x; exact ⟨mA, ⟨od, es, ep, k _ _ (.inl rfl) e, c⟩, r⟩
  | rng lo hi => obtain ⟨t, u, v, e⟩ := x; exact ⟨t, u, v, k _ _ (.inl rfl) e⟩
  | frz ob u ih => obtain ⟨e, q⟩ := x; exact ⟨k _ _ (.inl rfl) e, ih q⟩
  | tbl ps =>
    have e : h.get? a = some { cls := .none, data := .fields ps } := x
    show h'.get? a = some { cls := .none, data := .fields ps }
    exact k a _ (.inl rfl) e
  | met f y =>
    have e : h.get? a = some (PySem.W.methodObj (.ref f) (.ref y)) := x
    show h'.get? a = some (PySem.W.methodObj (.ref f) (.ref y))
    exact k a _ (.inl rfl) e
  | ext φ => obtain ⟨p, ⟨o, e⟩, st⟩ := x; exact ⟨st _ _ p fun o q => k _ _ (.inl rfl) q, ⟨o, k _ _ (.inl rfl) e⟩, st⟩
theorem HOk.lt (x : HOk P w H h) (e : H a = some o) : a < h.objs.size := (x a o e).lt
theorem HOk.fresh (x : HOk P w H h) (e : h.objs.size ≤ a) : H a = none := by
  cases q : H a with
  | none => rfl
  | some u => exact absurd (Nat.lt_of_lt_of_le (x.lt q) e) (Nat.lt_irrefl _)
theorem HOk.kept (x : HOk P w H h) (k : ∀ b u, h.get? b = some u → h'.get? b = some u) : HOk P w H h' := fun a o e =>
  (x a o e).stay (fun b u _ q => k b u q) (fun _ q => q) fun _ _ q => q
theorem HOk.laid (x : HOk P w H h) (k : ∀ b u, h.get? b = some u → h'.get? b = some u) (hp : h.objs.size ≤ a) (new : ObjOk P w (upd H a o) h' a o) : HOk P w (upd H a o) h' := fun b u e => by
  have hn := x.fresh hp
  by_cases hb : b = a
  · subst hb; rw [upd_same] at e; cases e; exact new
  · rw [upd_ne hb] at e
    exact (x b u e).stay (fun c v _ q => k c v q) (fun c q => by rw [upd_ne (ne_of_none q hn)]; exact q) fun c xs q => by rw [upd_ne (ne_of_none q hn)]; exact q
end

def Rd (H : Hp) (a : Addr) (u : HO) : Prop := H a = some u ∨ ∃ o, H a = some (.frz o u)
theorem Rd.ok {P : Program} {w : World} {H : Hp} {h : Heap} {a : Addr} {u : HO} (r : Rd H a u) (x : HOk P w H h) : ObjOk P w H h a u := by
  rcases r with r | ⟨o, r⟩
  · exact x a u r
  · obtain ⟨_, q⟩ := x a _ r
    exact q
def Mut : Option HO → Prop
  | some (.lst _) => True
  | some (.dK _) => True
  | some (.dT _) => True
  | some (.set _ _) => True
  | some (.ins _ _ _) => True
  | some (.ext _) => True
  | _ => False
section
variable {P : Program} {w : World} {H : Hp} {h h' : Heap} {x e : Addr} {o' : HO}
theorem HOk.write (ok : HOk P w H h) (mu : Mut (H x)) (he : e = x ∨ H e = some (.own x)) (k : ∀ b u, b ≠ e → h.get? b = some u → h'.get? b = some u) (heo : ∃ u, h'.get? e = some u)
    (new : ObjOk P w (upd H x o') h' x o') : HOk P w (upd H x o') h' := fun b u q => by
  have nown : ∀ c y, H c = some (.own y) → c ≠ x := fun c y r z => by subst z; rw [r] at mu; exact mu
  have ntup : ∀ c xs, H c = some (.tup xs) → c ≠ x := fun c xs r z => by subst z; rw [r] at mu; exact mu
  by_cases hb : b = x
  · subst hb; rw [upd_same] at q; cases q; exact new
  · rw [upd_ne hb] at q
    by_cases hbe : b = e
    · have q' : H b = some (.own x) := by
        rcases he with z | z
        · exact absurd (hbe.trans z) hb
        · rw [hbe]; exact z
      rw [q] at q'; cases q'
      obtain ⟨v, hv⟩ := heo
      exact ⟨v, by rw [hbe]; exact hv⟩
    · refine (ok b u q).stay (fun c v hc r => k c v ?_ r) (fun c r => by rw [upd_ne (nown c b r)]; exact r) fun c xs r => by rw [upd_ne (ntup c xs r)]; exact r
      rcases hc with rfl | hc
      · exact hbe
      · rintro rfl
        rcases he with z | z
        · exact nown c b hc z
        · rw [hc] at z; cases z; exact hb rfl
end

/-! ### kept unless tracked; of the frames at fs (the callers') the slots may change (an exception that passes writes there); of the records at ex (iterators) nothing is said -/
structure Un (fs ex : List Addr) (H H' : Hp) (h h' : Heap) : Prop where
  keep : ∀ b o, h.get? b = some o → H b = none → b ∉ fs → b ∉ ex → h'.get? b = some o
  slot : ∀ b o, h.get? b = some o → H b = none → b ∈ fs → b ∉ ex → ∃ sl, h'.get? b = some { o with slots := sl }
  free : ∀ b o, h.get? b = some o → H b = none → b ∉ ex → H' b = none
  there : ∀ b o, h.get? b = some o → b ∉ ex → ∃ o', h'.get? b = some o'
  tups : ∀ b xs, H b = some (.tup xs) → H' b = some (.tup xs)
  frzs : ∀ b o u, H b = some (.frz o u) → H' b = some (.frz o u)
  tbls : ∀ b ps, H b = some (.tbl ps) → ∃ more, H' b = some (.tbl (ps ++ more))
section
variable {fs fs' ex ex' : List Addr} {H H1 H2 : Hp} {h h1 h2 h' : Heap} {a x e : Addr} {o : HO}
theorem Un.any (u : Un fs ex H H1 h h1) {b : Addr} {ob : Obj} (q : h.get? b = some ob) (n : H b = none) (hx : b ∉ ex) : ∃ sl, h1.get? b = some { ob with slots := sl } := by
  by_cases hb : b ∈ fs
  · exact u.slot b ob q n hb hx
  · exact ⟨ob.slots, u.keep b ob q n hb hx⟩
theorem Un.kept (k : ∀ b u, h.get? b = some u → h'.get? b = some u) : Un fs ex H H h h' :=
  ⟨fun b ob q _ _ _ => k b ob q, fun b ob q _ _ _ => ⟨ob.slots, k b ob q⟩, fun _ _ _ n _ => n, fun b ob q _ => ⟨ob, k b ob q⟩, fun _ _ q => q, fun _ _ _ q => q, fun _ ps q => ⟨#[], by rw [q]; simp⟩⟩
theorem Un.refl : Un fs ex H H h h := Un.kept fun _ _ q => q
theorem Un.laid (k : ∀ b u, h.get? b = some u → h'.get? b = some u) (hp : h.objs.size ≤ a) (hn : H a = none) : Un fs ex H (upd H a o) h h' where
  keep := fun b u q _ _ _ => k b u q
  slot := fun b u q _ _ _ => ⟨u.slots, k b u q⟩
  free := fun b u q n _ => by rw [upd_ne (Nat.ne_of_lt (Nat.lt_of_lt_of_le (Heap.lt_size q) hp))]; exact n
  there := fun b u q _ => ⟨u, k b u q⟩
  tups := fun b xs q => by rw [upd_ne (ne_of_none q hn)]; exact q
  frzs := fun b u xs q => by rw [upd_ne (ne_of_none q hn)]; exact q
  tbls := fun b ps q => ⟨#[], by rw [upd_ne (ne_of_none q hn), q]; simp⟩
theorem Un.write (mu : Mut (H x)) (he : e = x ∨ H e = some (.own x)) (k : ∀ b u, b ≠ e → h.get? b = some u → h'.get? b = some u) (heo : ∃ u, h'.get? e = some u) : Un fs ex H (upd H x o) h h' := by
  have hx : ∀ b, H b = none → b ≠ x := fun b n z => by subst z; rw [n] at mu; exact mu
  have hb : ∀ b, H b = none → b ≠ e := fun b n z => by
    subst z
    rcases he with r | r
    · exact hx b n r
    · rw [n] at r; cases r
  have hm : ∀ b u, H b = some u → ¬ Mut (some u) → b ≠ x := fun b u q nm z => by subst z; rw [q] at mu; exact nm mu
  refine ⟨fun b u q n _ _ => k b u (hb b n) q, fun b u q n _ _ => ⟨u.slots, k b u (hb b n) q⟩, fun b u q n _ => by rw [upd_ne (hx b n)]; exact n, fun b u q _ => ?_,
    fun b xs q => by rw [upd_ne (hm b _ q fun z => z)]; exact q, fun b u xs q => by rw [upd_ne (hm b _ q fun z => z)]; exact q, fun b ps q => ⟨#[], by rw [upd_ne (hm b _ q fun z => z), q]; simp⟩⟩
  by_cases hbe : b = e
  · subst hbe; exact heo
  · exact ⟨u, k b u hbe q⟩
end

/-! ### the heap without what is tracked -/
def trk (h : Heap) (H : Hp) : List Addr := (List.range h.objs.size).filter fun a => (H a).isSome
def hidT (h : Heap) (H : Hp) : Heap := PySem.W.hideAll h (trk h H)
theorem hidT_size (h : Heap) (H : Hp) : (hidT h H).objs.size = h.objs.size := PySem.W.hideAll_size _ _
theorem hidT_get {h : Heap} {H : Hp} {b : Addr} {o : Obj} (e : h.get? b = some o) (n : H b = none) : (hidT h H).get? b = some o :=
  PySem.W.hideAll_get _ e fun hm => by
    have q : (H b).isSome = true := (List.mem_filter.mp hm).2
    rw [n] at q; simp at q
theorem of_hidT {h : Heap} {H : Hp} {b : Addr} {o : Obj} (e : (hidT h H).get? b = some o) : h.get? b = some o ∧ H b = none := by
  have e' : h.get? b = some o := PySem.W.of_hideAll (trk h H) e
  refine ⟨e', ?_⟩
  cases q : H b with
  | none => rfl
  | some x =>
    have hm : b ∈ trk h H := List.mem_filter.mpr ⟨List.mem_range.mpr (Heap.lt_size e'), by simp [q]⟩
    have z : (hidT h H).get? b = none := PySem.W.hideAll_none (trk h H) hm
    rw [z] at e; cases e

/-! ### OpenK's ledger, filled with every new object but one -/
end L2

namespace L2
open PySem PySem.Spec PyProof.Rows

structure Mod (K : PySem.W.Frag) (mg : Str → Option Value) (base : Heap) : Prop where
  kin : K.In base
  glob : base.Ns mainGlobals mg
  blt : ∃ mb, base.Ns builtinsNs mb ∧ ∀ x : Str, x ≠ "__name__" → mb x = bootBuiltins x
  nolimit : base.NoLimit

/-- the context: a def's body (or a comprehension's block) running. base: fixed through the whole law; s₀, H₀: the entry; outer: the frames whose slots others may change (a def's callers); stack: all frames that run;
   ex: iterators that were made ahead of the entry and are walked here (a comprehension's); fn: the names whose cells were made at the entry (a def: all; a comprehension's block: its own); calm: not within an except suite; pn: pins that every state bears; xe: what is wanted of an exception that leaves the code -/
structure Cx where
  prog : Program
  w : World
  K : PySem.W.Frag
  mg : Str → Option Value
  base : Heap
  A : Around
  N : List Str
  s₀ : Shared
  H₀ : Hp
  env : Env
  outer : List Env
  stack : List Env
  ex : List Addr
  fn : Str → Bool
  calm : Bool
  pn : List (Addr × Obj)
  xe : Value → Shared → Prop
def frs (l : List Env) : List Addr := l.filterMap (·.frame)
abbrev Cx.fs (X : Cx) : List Addr := frs X.outer

def Vis (sc : Scope) (x : Str) : Prop := sc.names.lookup x = some .local ∨ sc.names.lookup x = some .cell ∨ sc.names.lookup x = some .free
def Loc (sc : Scope) (x : Str) : Prop := sc.names.lookup x = some .local ∨ sc.names.lookup x = some .cell
def Look (env : Env) (h : Heap) (m : Str → Option Value) (x : Str) (u : Value) : Prop :=
  (env.kindOf x = some .local ∧ m x = some u) ∨ ((env.kindOf x = some .cell ∨ env.kindOf x = some .free) ∧ ∃ c, env.cells.lookup x = some c ∧ h.IsCell c (some u))

structure Cx.Ok (X : Cx) : Prop where
  mod : Mod X.K X.mg X.base
  kind : X.env.scope.kind = .function
  glob : X.env.globals = mainGlobals
  blt : X.env.builtins = builtinsNs
  above : X.s₀.heap.objs.size ≤ X.env.locals
  inj : ∀ x y c, X.env.cells.lookup x = some c → X.env.cells.lookup y = some c → x = y
  has : ∀ x, (X.env.kindOf x = some .cell ∨ X.env.kindOf x = some .free) → ∃ c, X.env.cells.lookup x = some c
  cab : ∀ x c, X.fn x = true → X.env.cells.lookup x = some c → X.s₀.heap.objs.size ≤ c
  hd : X.calm = true → X.A.handled = none
  frames : X.A.frames = some X.stack
  stk : X.stack = X.outer ∨ (X.stack = X.env :: X.outer ∧ X.env.frame = some X.env.locals)
  exf : ∀ b ∈ X.ex, b ≠ X.env.locals ∧ ∀ x c, X.env.cells.lookup x = some c → c ≠ b
  bs : ∀ b o, X.base.get? b = some o → X.s₀.heap.get? b = some o ∧ X.H₀ b = none
  bsz : X.base.objs.size ≤ X.s₀.heap.objs.size
  noex : ∀ b o, X.base.get? b = some o → b ∉ X.ex
  exfs : ∀ b ∈ X.ex, b ∉ X.fs
  funs : X.s₀.heap.FunFrames X.base X.outer
  frf : ∀ b ∈ X.fs, X.H₀ b = none

structure Inv (X : Cx) (pins : List (Addr × Obj)) (σ : List (Option V)) (H : Hp) (s : Shared) : Prop where
  ok : X.Ok
  os : s.os = X.s₀.os
  bare : AllBare s.gens
  base : Un X.fs X.ex X.H₀ H X.s₀.heap s.heap
  loc : ∃ m, s.heap.Ns X.env.locals m ∧ ∀ (i : Nat) (x : Str) (v : V), X.N[i]? = some x → σ[i]? = some (some v) → Vis X.env.scope x → ∃ u, RelV v u ∧ Look X.env s.heap m x u
  cell : ∀ x c, X.env.cells.lookup x = some c → ∃ v, s.heap.IsCell c v
  free : H X.env.locals = none
  freeC : ∀ x c, X.env.cells.lookup x = some c → H c = none
  pin : ∀ p ∈ X.pn ++ pins, s.heap.get? p.1 = some p.2 ∧ H p.1 = none ∧ p.1 ≠ X.env.locals ∧ p.1 ∉ X.fs ∧ ∀ v, p.2.data ≠ .cell v
  hok : HOk X.prog X.w H s.heap
  len : σ.length = X.N.length

section
variable {X : Cx} {pins : List (Addr × Obj)} {σ : List (Option V)} {H H' : Hp} {s : Shared} {h' : Heap}

theorem Cx.Ok.nofr (ok : X.Ok) {b : Addr} {o : Obj} (e : X.base.get? b = some o) : b ∉ X.fs := fun hb => by
  have := (ok.funs.mem hb).1
  rw [e] at this; cases this
theorem Inv.bs (I : Inv X pins σ H s) : ∀ b o, X.base.get? b = some o → s.heap.get? b = some o ∧ H b = none := fun b o e =>
  ⟨I.base.keep b o (I.ok.bs b o e).1 (I.ok.bs b o e).2 (I.ok.nofr e) (I.ok.noex b o e), I.base.free b o (I.ok.bs b o e).1 (I.ok.bs b o e).2 (I.ok.noex b o e)⟩
theorem Inv.bk (I : Inv X pins σ H s) : ∀ b o, X.base.get? b = some o → s.heap.get? b = some o := fun b o e => (I.bs b o e).1
theorem Inv.mod (I : Inv X pins σ H s) : Mod X.K X.mg X.base := I.ok.mod
theorem Inv.kIn (I : Inv X pins σ H s) : X.K.In s.heap := I.ok.mod.kin.keeps I.bk
theorem Inv.lt (I : Inv X pins σ H s) : X.env.locals < s.heap.objs.size := let ⟨_, hn, _⟩ := I.loc; hn.lt
theorem Inv.sz (I : Inv X pins σ H s) : X.s₀.heap.objs.size ≤ s.heap.objs.size := Nat.le_trans I.ok.above (Nat.le_of_lt I.lt)
theorem Inv.nofs (I : Inv X pins σ H s) {a : Addr} (h : s.heap.objs.size ≤ a) : a ∉ X.fs := fun hb => by
  obtain ⟨_, o, ho, _⟩ := I.ok.funs.mem hb
  exact absurd (Nat.lt_of_lt_of_le (Heap.lt_size ho) (Nat.le_trans I.sz h)) (Nat.lt_irrefl _)
theorem Inv.cne (I : Inv X pins σ H s) : ∀ x c, X.env.cells.lookup x = some c → c ≠ X.env.locals := fun x c e z => by
  obtain ⟨v, o, ho, hd⟩ := I.cell x c e
  obtain ⟨m, ⟨o', es, ep, ho', hd', _⟩, _⟩ := I.loc
  rw [z, ho'] at ho; cases ho; rw [hd'] at hd; cases hd
theorem Inv.funs (I : Inv X pins σ H s) : s.heap.FunFrames X.base X.outer := by
  have all : ∀ (l : List Env), (∀ b ∈ frs l, b ∈ X.fs) → X.s₀.heap.FunFrames X.base l → s.heap.FunFrames X.base l := by
    intro l
    induction l with
    | nil => intro _ _; trivial
    | cons env r ih =>
      intro hs hl
      obtain ⟨hk, ⟨L, o, hf, hn, ho, hd⟩, hr⟩ := hl
      have hL : L ∈ X.fs := hs L (by unfold frs; rw [List.filterMap_cons, hf]; exact List.mem_cons_self)
      obtain ⟨sl, e⟩ := I.base.slot L o ho (I.ok.frf L hL) hL fun z => I.ok.exfs L z hL
      exact ⟨hk, ⟨L, _, hf, hn, e, hd⟩, ih (fun b hb => hs b (by unfold frs; rw [List.filterMap_cons, hf]; exact List.mem_cons_of_mem _ hb)) hr⟩
  exact all X.outer (fun _ hb => hb) I.ok.funs

theorem Inv.stack (I : Inv X pins σ H s) : s.heap.FunFrames X.base X.stack := by
  rcases I.ok.stk with e | ⟨e, hf⟩
  · rw [e]; exact I.funs
  · rw [e]
    obtain ⟨m, hn, _⟩ := I.loc
    refine .cons (by rw [I.ok.kind]; decide) hf hn ?_ I.funs
    exact Heap.get?_none_of_le (Nat.le_trans I.ok.bsz I.ok.above)
theorem Inv.stkSub (I : Inv X pins σ H s) : ∀ b ∈ frs X.stack, b ∈ X.env.locals :: X.fs := fun b hb => by
  rcases I.ok.stk with e | ⟨e, hf⟩
  · rw [e] at hb; exact List.mem_cons_of_mem _ hb
  · rw [e] at hb
    unfold frs at hb
    rw [List.filterMap_cons, hf] at hb
    exact hb
theorem Inv.stkFree (I : Inv X pins σ H s) : ∀ b ∈ frs X.stack, H b = none := fun b hb => by
  rcases List.mem_cons.mp (I.stkSub b hb) with e | hb
  · rw [e]; exact I.free
  · obtain ⟨_, o, ho, _⟩ := I.ok.funs.mem hb
    exact I.base.free b o ho (I.ok.frf b hb) fun z => I.ok.exfs b z hb

theorem Inv.step {g' : Array GenState} {t' : Nat} {d' : Drawn} {ch : List Addr} (I : Inv X pins σ H s)
    (hch : ∀ b ∈ ch, (b ∈ X.ex ∨ X.s₀.heap.objs.size ≤ b) ∧ b ≠ X.env.locals ∧ (∀ x c, X.env.cells.lookup x = some c → c ≠ b) ∧ ∀ p ∈ X.pn ++ pins, p.1 ≠ b)
    (keep : ∀ b o, b ≠ X.env.locals → b ∉ X.fs → b ∉ ch → s.heap.get? b = some o → H b = none → h'.get? b = some o)
    (slot : ∀ b o, b ≠ X.env.locals → b ∈ X.fs → b ∉ ch → s.heap.get? b = some o → H b = none → ∃ sl, h'.get? b = some { o with slots := sl }) (free : ∀ b o, b ∉ ch → s.heap.get? b = some o → H b = none → H' b = none)
    (there : ∀ b o, b ∉ ch → s.heap.get? b = some o → ∃ o', h'.get? b = some o')
    (tups : ∀ b xs, H b = some (.tup xs) → H' b = some (.tup xs)) (frzs : ∀ b o u, H b = some (.frz o u) → H' b = some (.frz o u)) (tbls : ∀ b ps, H b = some (.tbl ps) → ∃ more, H' b = some (.tbl (ps ++ more)))
    (ns : ∀ m, s.heap.Ns X.env.locals m → h'.Ns X.env.locals m) (hok : HOk X.prog X.w H' h') (hg : AllBare g') :
    Inv X pins σ H' { s with heap := h', gens := g', drawn := d', toks := t' } := by
  have neL : ∀ b o, X.s₀.heap.get? b = some o → b ≠ X.env.locals := fun b o e => Nat.ne_of_lt (Nat.lt_of_lt_of_le (Heap.lt_size e) I.ok.above)
  have neC : ∀ b o, X.s₀.heap.get? b = some o → b ∉ X.ex → b ∉ ch := fun b o e hx hb => by
    rcases (hch b hb).1 with z | z
    · exact hx z
    · exact absurd (Nat.lt_of_lt_of_le (Heap.lt_size e) z) (Nat.lt_irrefl _)
  have cellK : ∀ x c, X.env.cells.lookup x = some c → ∀ v, s.heap.IsCell c v → h'.IsCell c v := fun x c e v ⟨o, ho, hd⟩ => by
    have nch : c ∉ ch := fun z => (hch c z).2.2.1 x c e rfl
    by_cases hc : c ∈ X.fs
    · obtain ⟨sl, q⟩ := slot c o (I.cne x c e) hc nch ho (I.freeC x c e)
      exact ⟨_, q, hd⟩
    · exact ⟨o, keep c o (I.cne x c e) hc nch ho (I.freeC x c e), hd⟩
  refine ⟨I.ok, I.os, hg, ⟨fun b o e n hb hx => ?_, fun b o e n hb hx => ?_, fun b o e n hx => ?_, fun b o e hx => ?_, fun b xs e => tups b xs (I.base.tups b xs e), fun b o xs e => frzs b o xs (I.base.frzs b o xs e), fun b ps e => ?_⟩, ?_, fun x c e => ?_, ?_, fun x c e => ?_, fun p hp => ?_, hok, I.len⟩
  · exact keep b o (neL b o e) hb (neC b o e hx) (I.base.keep b o e n hb hx) (I.base.free b o e n hx)
  · obtain ⟨sl, e1⟩ := I.base.slot b o e n hb hx
    obtain ⟨sl', e2⟩ := slot b _ (neL b o e) hb (neC b o e hx) e1 (I.base.free b o e n hx)
    exact ⟨sl', e2⟩
  · obtain ⟨o', e1⟩ := I.base.there b o e hx
    exact free b o' (neC b o e hx) e1 (I.base.free b o e n hx)
  · obtain ⟨o', e1⟩ := I.base.there b o e hx
    exact there b o' (neC b o e hx) e1
  · obtain ⟨m1, e1⟩ := I.base.tbls b ps e
    obtain ⟨m2, e2⟩ := tbls b _ e1
    exact ⟨m1 ++ m2, by rw [e2, Array.append_assoc]⟩
  · obtain ⟨m, hn, hl⟩ := I.loc
    refine ⟨m, ns m hn, fun i x v e1 e2 e3 => ?_⟩
    obtain ⟨u, r, l⟩ := hl i x v e1 e2 e3
    refine ⟨u, r, ?_⟩
    rcases l with l | ⟨k, c, e, z⟩
    · exact .inl l
    · exact .inr ⟨k, c, e, cellK x c e _ z⟩
  · obtain ⟨v, z⟩ := I.cell x c e
    exact ⟨v, cellK x c e v z⟩
  · obtain ⟨m, ⟨o, _, _, ho, _⟩, _⟩ := I.loc
    exact free _ o (fun z => (hch _ z).2.1 rfl) ho I.free
  · obtain ⟨v, o, ho, hd⟩ := I.cell x c e
    exact free c o (fun z => (hch c z).2.2.1 x c e rfl) ho (I.freeC x c e)
  · obtain ⟨e, n, ne, nf, d⟩ := I.pin p hp
    have nch : p.1 ∉ ch := fun z => (hch p.1 z).2.2.2 p hp rfl
    exact ⟨keep p.1 p.2 ne nf nch e n, free p.1 p.2 nch e n, ne, nf, d⟩
theorem Inv.un {t' : Nat} (I : Inv X pins σ H s) (u : Un X.fs [] H H' s.heap h') (hok : HOk X.prog X.w H' h') : Inv X pins σ H' { s with heap := h', toks := t' } := by
  obtain ⟨m, ⟨o, es, ep, ho, r⟩, _⟩ := id I.loc
  obtain ⟨sl, hL⟩ := u.any ho I.free (by simp)
  exact I.step (g' := s.gens) (d' := s.drawn) (ch := []) (fun _ z => nomatch z) (fun b o _ hb _ e n => u.keep b o e n hb (by simp)) (fun b o _ hb _ e n => u.slot b o e n hb (by simp)) (fun b o _ e n => u.free b o e n (by simp)) (fun b o _ e => u.there b o e (by simp)) u.tups u.frzs u.tbls (fun m' hm => by
    obtain ⟨o', es', ep', ho', r'⟩ := hm
    rw [ho] at ho'; cases ho'
    exact ⟨_, es', ep', hL, r'⟩) hok I.bare
theorem Inv.call {g' : Array GenState} {t' : Nat} {d' : Drawn} {ch : List Addr} (I : Inv X pins σ H s) (u : Un (frs X.stack) ch H H' s.heap h') (hok : HOk X.prog X.w H' h') (hg : AllBare g')
    (hch : ∀ b ∈ ch, (b ∈ X.ex ∨ X.s₀.heap.objs.size ≤ b) ∧ b ≠ X.env.locals ∧ (∀ x c, X.env.cells.lookup x = some c → c ≠ b) ∧ ∀ p ∈ X.pn ++ pins, p.1 ≠ b) :
    Inv X pins σ H' { s with heap := h', gens := g', drawn := d', toks := t' } := by
  obtain ⟨m, ⟨o, es, ep, ho, r⟩, _⟩ := id I.loc
  obtain ⟨sl, hL⟩ := u.any ho I.free fun z => (hch _ z).2.1 rfl
  exact I.step (ch := ch) hch (fun b o hL hb hc e n => u.keep b o e n (fun z => (List.mem_cons.mp (I.stkSub b z)).elim hL hb) hc) (fun b o _ _ hc e n => u.any e n hc) (fun b o hc e n => u.free b o e n hc) (fun b o hc e => u.there b o e hc) u.tups u.frzs u.tbls (fun m' hm => by
    obtain ⟨o', es', ep', ho', r'⟩ := hm
    rw [ho] at ho'; cases ho'
    exact ⟨_, es', ep', hL, r'⟩) hok hg
theorem Inv.turned {t' : Nat} {it : Addr} (I : Inv X pins σ H s) (k : ∀ b o, b ≠ it → s.heap.get? b = some o → h'.get? b = some o) (hn : H it = none) (hL : it ≠ X.env.locals)
    (h1 : it ∈ X.ex ∨ X.s₀.heap.objs.size ≤ it) (h2 : ∀ x c, X.env.cells.lookup x = some c → c ≠ it) (h3 : ∀ p ∈ X.pn ++ pins, p.1 ≠ it) : Inv X pins σ H { s with heap := h', toks := t' } := by
  have nit : ∀ b u, H b = some u → b ≠ it := fun b u e z => by rw [z, hn] at e; cases e
  refine I.step (g' := s.gens) (d' := s.drawn) (ch := [it]) (fun b hb => ?_) (fun b o _ _ hc e _ => k b o (fun z => hc (by simp [z])) e) (fun b o _ _ hc e _ => ⟨o.slots, k b o (fun z => hc (by simp [z])) e⟩) (fun _ _ _ _ n => n)
    (fun b o hc e => ⟨o, k b o (fun z => hc (by simp [z])) e⟩) (fun _ _ e => e) (fun _ _ _ e => e) (fun b ps e => ⟨#[], by rw [e]; simp⟩) (fun m hm => ?_) (fun b u e => ?_) I.bare
  · have e : b = it := by simpa using hb
    subst e
    exact ⟨h1, hL, h2, h3⟩
  · obtain ⟨o, es, ep, ho, r⟩ := hm
    exact ⟨o, es, ep, k _ o (Ne.symm hL) ho, r⟩
  · refine (I.hok b u e).stay (fun c v hc q => k c v ?_ q) (fun _ q => q) fun _ _ q => q
    rcases hc with z | z
    · rw [z]; exact nit b u e
    · exact nit c _ z
theorem Inv.tok (I : Inv X pins σ H s) (t : Nat) : Inv X pins σ H { s with toks := t } := I.un (h' := s.heap) (t' := t) Un.refl I.hok
theorem Inv.kept {t' : Nat} (I : Inv X pins σ H s) (k : ∀ b u, s.heap.get? b = some u → h'.get? b = some u) : Inv X pins σ H { s with heap := h', toks := t' } := I.un (Un.kept k) (I.hok.kept k)
theorem Inv.laid {a : Addr} {o : HO} {t' : Nat} (I : Inv X pins σ H s) (k : ∀ b u, s.heap.get? b = some u → h'.get? b = some u) (hp : s.heap.objs.size ≤ a) (new : ObjOk X.prog X.w (upd H a o) h' a o) :
    Inv X pins σ (upd H a o) { s with heap := h', toks := t' } := I.un (Un.laid k hp (I.hok.fresh hp)) (I.hok.laid k hp new)
theorem Inv.write {x e : Addr} {o : HO} {t' : Nat} (I : Inv X pins σ H s) (mu : Mut (H x)) (he : e = x ∨ H e = some (.own x)) (k : ∀ b u, b ≠ e → s.heap.get? b = some u → h'.get? b = some u) (heo : ∃ u, h'.get? e = some u)
    (new : ObjOk X.prog X.w (upd H x o) h' x o) : Inv X pins σ (upd H x o) { s with heap := h', toks := t' } := I.un (Un.write mu he k heo) (I.hok.write mu he k heo new)
theorem Inv.weak {σ' : List (Option V)} (I : Inv X pins σ H s) (hl : σ'.length = σ.length) (w : ∀ (i : Nat) v, σ'[i]? = some (some v) → σ[i]? = some (some v)) : Inv X pins σ' H s :=
  ⟨I.ok, I.os, I.bare, I.base, let ⟨m, hn, hl'⟩ := I.loc; ⟨m, hn, fun i x v e1 e2 e3 => hl' i x v e1 (w i v e2) e3⟩, I.cell, I.free, I.freeC, I.pin, I.hok, hl.trans I.len⟩
theorem Inv.pins_of {pins' : List (Addr × Obj)} (I : Inv X pins σ H s) (h : ∀ p ∈ pins', s.heap.get? p.1 = some p.2 ∧ H p.1 = none ∧ p.1 ≠ X.env.locals ∧ p.1 ∉ X.fs ∧ ∀ v, p.2.data ≠ .cell v) : Inv X pins' σ H s :=
  ⟨I.ok, I.os, I.bare, I.base, I.loc, I.cell, I.free, I.freeC, fun p hp => (List.mem_append.mp hp).elim (fun z => I.pin p (List.mem_append_left _ z)) (h p), I.hok, I.len⟩

theorem nodup_ix {N : List Str} (hN : N.Nodup) {i j : Nat} {x : Str} (a : N[i]? = some x) (b : N[j]? = some x) : i = j := by
  obtain ⟨h1, e1⟩ := List.getElem?_eq_some_iff.mp a
  obtain ⟨h2, e2⟩ := List.getElem?_eq_some_iff.mp b
  exact (List.getElem_inj hN).mp (e1.trans e2.symm)

theorem store_ok2 {M : Model} {A : Around} {E : Value → Shared → Prop} {i : Nat} {x : Str} {v : V} {u : Value} {Q : Unit → Shared → Prop} (I : Inv X pins σ H s) (hN : X.N.Nodup) (hi : X.N[i]? = some x) (hx : Loc X.env.scope x) (r : RelV v u)
    (h : ∀ s', Inv X pins (σ.set i (some v)) H s' → (∃ a, Heap.SameBut a s.heap s'.heap ∧ (a = X.env.locals ∨ X.env.cells.lookup x = some a)) → Q () s') (hf : X.fn x = true ∨ X.env.scope.names.lookup x = some .local := by first | exact .inl rfl | exact .inr rfl | assumption) : wpAny M A (storeName X.env x u) Q E s := by
  obtain ⟨m, hn, hl⟩ := id I.loc
  have hcls : (X.env.scope.kind == .class || (X.env.scope.kind == .module && X.env.locals != X.env.globals)) = false := by rw [I.ok.kind]; rfl
  have hiσ : i < σ.length := by rw [I.len]; exact (List.getElem?_eq_some_iff.mp hi).1
  have cne := I.cne
  have tracked : ∀ {a : Addr} {h' : Heap}, (∃ o, s.heap.get? a = some o ∧ H a = none) → Heap.SameBut a s.heap h' → HOk X.prog X.w H h' := fun {a h'} ha hs b ob e => by
    obtain ⟨_, _, hfree⟩ := ha
    refine (I.hok b ob e).stay (fun c w' hc q => (hs.2 c ?_).trans q) (fun _ q => q) fun _ _ q => q
    rintro rfl
    rcases hc with rfl | hc
    · rw [hfree] at e; cases e
    · rw [hfree] at hc; cases hc
  rcases hx with hk | hk
  · refine wpAny_storeName_local hk hn (fun h' hn' hs => ?_) hcls
    obtain ⟨oL, _, _, hoL, _⟩ := id hn
    refine h _ ⟨I.ok, I.os, I.bare, ⟨fun b o e n hb hx => ?_, fun b o e n hb hx => ?_, I.base.free, fun b o e hx => ?_, I.base.tups, I.base.frzs, I.base.tbls⟩, ⟨_, hn', fun j y v' e1 e2 e3 => ?_⟩, fun y c e => ?_, I.free, I.freeC, fun p hp => ?_, tracked ⟨oL, hoL, I.free⟩ hs, by simpa using I.len⟩ ⟨_, hs, .inl rfl⟩
    · exact (hs.2 b (Nat.ne_of_lt (Nat.lt_of_lt_of_le (Heap.lt_size e) I.ok.above))).trans (I.base.keep b o e n hb hx)
    · obtain ⟨sl, e1⟩ := I.base.slot b o e n hb hx
      exact ⟨sl, (hs.2 b (Nat.ne_of_lt (Nat.lt_of_lt_of_le (Heap.lt_size e) I.ok.above))).trans e1⟩
    · obtain ⟨o', e1⟩ := I.base.there b o e hx
      exact ⟨o', (hs.2 b (Nat.ne_of_lt (Nat.lt_of_lt_of_le (Heap.lt_size e) I.ok.above))).trans e1⟩
    · by_cases hj : j = i
      · subst hj
        rw [hi] at e1; cases e1
        rw [List.getElem?_set_self hiσ] at e2
        cases e2
        exact ⟨u, r, .inl ⟨hk, by simp⟩⟩
      · rw [List.getElem?_set_ne (Ne.symm hj)] at e2
        obtain ⟨u', r', q⟩ := hl j y v' e1 e2 e3
        refine ⟨u', r', ?_⟩
        rcases q with ⟨k, e⟩ | ⟨k, c, e, z⟩
        · refine .inl ⟨k, ?_⟩
          have : y ≠ x := fun e => hj (nodup_ix hN e1 (e ▸ hi))
          simp [this, e]
        · exact .inr ⟨k, c, e, z.sameBut hs (cne y c e)⟩
    · obtain ⟨w', z⟩ := I.cell y c e
      exact ⟨w', z.sameBut hs (cne y c e)⟩
    · obtain ⟨e, n, ne, nf, d⟩ := I.pin p hp
      exact ⟨(hs.2 p.1 ne).trans e, n, ne, nf, d⟩
  · have hfn : X.fn x = true := by
      rcases hf with z | z
      · exact z
      · rw [z] at hk; cases hk
    obtain ⟨c, hc⟩ := I.ok.has x (.inl hk)
    obtain ⟨w', z⟩ := I.cell x c hc
    refine wpAny_storeName_cell I.ok.kind hk hc z (fun h' hc' hs => ?_)
    obtain ⟨oc, hoc, hocd⟩ := id z
    refine h { s with heap := h' } ⟨I.ok, I.os, I.bare, ⟨fun b o e n hb hx => ?_, fun b o e n hb hx => ?_, I.base.free, fun b o e hx => ?_, I.base.tups, I.base.frzs, I.base.tbls⟩, ⟨m, hn.sameBut hs (Ne.symm (cne x c hc)), fun j y v' e1 e2 e3 => ?_⟩, fun y c' e => ?_, I.free, I.freeC, fun p hp => ?_, tracked ⟨oc, hoc, I.freeC x c hc⟩ hs, by simpa using I.len⟩ ⟨c, hs, .inr hc⟩
    · exact (hs.2 b (Nat.ne_of_lt (Nat.lt_of_lt_of_le (Heap.lt_size e) (I.ok.cab x c hfn hc)))).trans (I.base.keep b o e n hb hx)
    · obtain ⟨sl, e1⟩ := I.base.slot b o e n hb hx
      exact ⟨sl, (hs.2 b (Nat.ne_of_lt (Nat.lt_of_lt_of_le (Heap.lt_size e) (I.ok.cab x c hfn hc)))).trans e1⟩
    · obtain ⟨o', e1⟩ := I.base.there b o e hx
      exact ⟨o', (hs.2 b (Nat.ne_of_lt (Nat.lt_of_lt_of_le (Heap.lt_size e) (I.ok.cab x c hfn hc)))).trans e1⟩
    · by_cases hj : j = i
      · subst hj
        rw [hi] at e1; cases e1
        rw [List.getElem?_set_self hiσ] at e2
        cases e2
        exact ⟨u, r, .inr ⟨.inl hk, c, hc, hc'⟩⟩
      · rw [List.getElem?_set_ne (Ne.symm hj)] at e2
        obtain ⟨u', r', q⟩ := hl j y v' e1 e2 e3
        refine ⟨u', r', ?_⟩
        rcases q with q | ⟨k, c', e, z'⟩
        · exact .inl q
        · refine .inr ⟨k, c', e, z'.sameBut hs ?_⟩
          rintro rfl
          exact hj (nodup_ix hN e1 (I.ok.inj _ _ _ e hc ▸ hi))
    · by_cases hcc : c' = c
      · subst hcc; exact ⟨_, hc'⟩
      · obtain ⟨w2, z2⟩ := I.cell y c' e
        exact ⟨w2, z2.sameBut hs hcc⟩
    · obtain ⟨e, n, ne, nf, d⟩ := I.pin p hp
      refine ⟨(hs.2 p.1 ?_).trans e, n, ne, nf, d⟩
      intro q
      rw [q, hoc] at e
      have q' : oc = p.2 := Option.some.inj e
      exact d w' (by rw [← q']; exact hocd)
theorem store_ok {M : Model} {A : Around} {E : Value → Shared → Prop} {i : Nat} {x : Str} {v : V} {u : Value} {Q : Unit → Shared → Prop} (I : Inv X pins σ H s) (hN : X.N.Nodup) (hi : X.N[i]? = some x) (hx : Loc X.env.scope x) (r : RelV v u)
    (h : ∀ s', Inv X pins (σ.set i (some v)) H s' → Q () s') (hf : X.fn x = true ∨ X.env.scope.names.lookup x = some .local := by first | exact .inl rfl | exact .inr rfl | assumption) : wpAny M A (storeName X.env x u) Q E s :=
  store_ok2 I hN hi hx r (fun s' I' _ => h s' I') hf
theorem Inv.call' {s' : Shared} {ch : List Addr} (I : Inv X pins σ H s) (ho : s'.os = s.os) (u : Un (frs X.stack) ch H H' s.heap s'.heap) (hok : HOk X.prog X.w H' s'.heap) (hg : AllBare s'.gens)
    (hch : ∀ b ∈ ch, (b ∈ X.ex ∨ X.s₀.heap.objs.size ≤ b) ∧ b ≠ X.env.locals ∧ (∀ x c, X.env.cells.lookup x = some c → c ≠ b) ∧ ∀ p ∈ X.pn ++ pins, p.1 ≠ b) : Inv X pins σ H' s' := by
  obtain ⟨h', g', d', t', o'⟩ := s'
  have e : o' = s.os := ho
  subst e
  exact I.call (g' := g') (t' := t') (d' := d') u hok hg hch
end

/-! ### the judgements -/
abbrev XK := Value → Option Addr → Hp → Prop
abbrev St := List (Option V)
abbrev VK := V → Hp → Prop
abbrev TE := St → Hp → VK → Prop
abbrev TT := St → Hp → (Bool → Hp → Prop) → Prop
abbrev TA := St → Hp → (List V → Hp → Prop) → Prop
structure Ends where
  nx : St → Hp → Prop
  rt : VK
  bk : St → Hp → Prop := fun _ _ => False
  ct : St → Hp → Prop := fun _ _ => False
abbrev TS := Ends → St → Hp → Prop

def EP (X : Cx) (pins : List (Addr × Obj)) (σ : St) (Q : VK) (u : Value) (s' : Shared) : Prop := ∃ v H', Inv X pins σ H' s' ∧ RelV v u ∧ Q v H'
def TP (X : Cx) (pins : List (Addr × Obj)) (σ : St) (Q : Bool → Hp → Prop) (b : Bool) (s' : Shared) : Prop := ∃ H', Inv X pins σ H' s' ∧ Q b H'
def AP (X : Cx) (pins : List (Addr × Obj)) (σ : St) (Q : List V → Hp → Prop) (us : List Value) (s' : Shared) : Prop := ∃ vs H', Inv X pins σ H' s' ∧ Vals vs us ∧ Q vs H'
def SP (X : Cx) (pins : List (Addr × Obj)) (D : Ends) (f : Flow) (s' : Shared) : Prop :=
  match f with
  | .next => ∃ σ' H', Inv X pins σ' H' s' ∧ D.nx σ' H'
  | .brk => ∃ σ' H', Inv X pins σ' H' s' ∧ D.bk σ' H'
  | .cont => ∃ σ' H', Inv X pins σ' H' s' ∧ D.ct σ' H'
  | .ret u => ∃ v σ' H', Inv X pins σ' H' s' ∧ RelV v u ∧ D.rt v H'

def PE (X : Cx) (e : Expr) (t : TE) : Prop :=
  ∀ (pins : List (Addr × Obj)) (s : Shared) (σ : St) (H : Hp) (Q : VK), Inv X pins σ H s → t σ H Q → wpAny (model X.prog X.w) X.A (eval e X.env) (EP X pins σ Q) X.xe s
def PT (X : Cx) (e : Expr) (t : TT) : Prop :=
  ∀ (pins : List (Addr × Obj)) (s : Shared) (σ : St) (H : Hp) (Q : Bool → Hp → Prop), Inv X pins σ H s → t σ H Q → wpAny (model X.prog X.w) X.A (isTrue e X.env (eval e X.env)) (TP X pins σ Q) X.xe s
def PW (X : Cx) (e : Expr) (t : TT) : Prop :=
  ∀ (whole : Sem Value) (pins : List (Addr × Obj)) (s : Shared) (σ : St) (H : Hp) (Q : Bool → Hp → Prop), Inv X pins σ H s → t σ H Q → wpAny (model X.prog X.w) X.A (isTrue e X.env whole) (TP X pins σ Q) X.xe s
theorem PW.pt {X : Cx} {e : Expr} {t : TT} (h : PW X e t) : PT X e t := h _
def PA (X : Cx) (es : List Expr) (t : TA) : Prop :=
  ∀ (pos : Pos) (pins : List (Addr × Obj)) (s : Shared) (σ : St) (H : Hp) (Q : List V → Hp → Prop), Inv X pins σ H s → t σ H Q → wpAny (model X.prog X.w) X.A (spliced (backTo pos (starEach es X.env))) (AP X pins σ Q) X.xe s
def PS (X : Cx) (st : Stmt) (t : TS) : Prop :=
  ∀ (pins : List (Addr × Obj)) (s : Shared) (σ : St) (H : Hp) (D : Ends), Inv X pins σ H s → t D σ H → wpAny (model X.prog X.w) X.A (exec st X.env) (SP X pins D) X.xe s
def PSs (X : Cx) (st : List Stmt) (t : TS) : Prop :=
  ∀ (pins : List (Addr × Obj)) (s : Shared) (σ : St) (H : Hp) (D : Ends), Inv X pins σ H s → t D σ H → wpAny (model X.prog X.w) X.A (execs st X.env) (SP X pins D) X.xe s
theorem thn {α : Type} {t : Sem α} {Q Q' : α → Shared → Prop} {M : Model} {A : Around} {E : Value → Shared → Prop} {s : Shared} (h : wpAny M A t Q E s) (hQ : ∀ a s, Q a s → Q' a s) : wpAny M A t Q' E s := wpAny_mono h hQ fun _ _ x => x
end L2

namespace L2
open PySem PySem.Spec PyProof.Rows
section
variable {X : Cx}


/-! ### names and constants -/
def tVar (i : Nat) : TE := fun σ H Q => ∃ v, σ[i]? = some (some v) ∧ Q v H
def tC (v : V) : TE := fun _ H Q => Q v H
theorem pe_var {i : Nat} {x : Str} {pos : Pos} (hN : X.N[i]? = some x) (hv : Vis X.env.scope x) (hd : (x == ("__debug__" : Str)) = false := by decide) (hcd : (x == ("__classdict__" : Str)) = false := by decide) : PE X (.Name x pos) (tVar i) := by
  intro pins s σ H Q I h
  obtain ⟨v, e, h⟩ := h
  obtain ⟨m, hn, hl⟩ := I.loc
  obtain ⟨u, r, l⟩ := hl i x v hN e hv
  have fin : EP X pins σ Q u s := ⟨v, H, I, r, h⟩
  rcases l with ⟨hk, hm⟩ | ⟨hk, c, hc, hcell⟩
  · exact wpAny_Name (wpAny_loadName_local I.ok.kind hk hn hm fin) hd
  · rcases hk with hk | hk
    · exact wpAny_Name (wpAny_loadName_cell I.ok.kind hk hc hcell fin) hd
    · exact wpAny_Name (wpAny_loadName_free I.ok.kind hk hc hcell fin hcd) hd
theorem pe_int {i j pos} : PE X (.Constant (.int i) j pos) (tC (.int i)) := fun _ _ _ H _ I h => wpAny_Constant_int ⟨.int i, H, I.tok _, ⟨_, rfl⟩, h⟩
theorem pe_bl {b j pos} : PE X (.Constant (.bool b) j pos) (tC (.bl b)) := fun _ _ _ H _ I h => Constant_bool ⟨.bl b, H, I, rfl, h⟩
theorem pe_non {j pos} : PE X (.Constant .none j pos) (tC .non) := fun _ _ _ H _ I h => Constant_none ⟨.non, H, I, rfl, h⟩
theorem pe_str {x j pos} : PE X (.Constant (.str x) j pos) (tC (.str x)) := fun _ _ _ H _ I h => Calls.Constant_str ⟨.str x, H, I.tok _, ⟨_, rfl⟩, h⟩

def Gl (X : Cx) (x : Str) : Prop := X.env.kindOf x = some .globalImplicit
theorem ld_glob {E : Value → Shared → Prop} {pins : List (Addr × Obj)} {s : Shared} {σ : St} {H : Hp} {x : Str} {u : Value} {pos : Pos} {Q : Value → Shared → Prop} (I : Inv X pins σ H s) (hg : Gl X x) (hm : X.mg x = some u) (h : Q u s)
    (hd : (x == ("__debug__" : Str)) = false := by decide) : wpAny (model X.prog X.w) X.A (eval (.Name x pos) X.env) Q E s :=
  Calls.Name_function_global I.ok.kind hg (Calls.loadGlobal_global (by rw [I.ok.glob]; exact I.mod.glob.keeps I.bk) hm h) hd
theorem ld_blt {E : Value → Shared → Prop} {pins : List (Addr × Obj)} {s : Shared} {σ : St} {H : Hp} {x : Str} {u : Value} {pos : Pos} {Q : Value → Shared → Prop} (I : Inv X pins σ H s) (hg : Gl X x) (hm : X.mg x = none) (hv : bootBuiltins x = some u) (h : Q u s)
    (hn : x ≠ "__name__" := by decide) (hd : (x == ("__debug__" : Str)) = false := by decide) : wpAny (model X.prog X.w) X.A (eval (.Name x pos) X.env) Q E s := by
  obtain ⟨mb, h1, h2⟩ := I.mod.blt
  exact Calls.Name_function_global I.ok.kind hg (Calls.loadGlobal_builtin (by rw [I.ok.glob]; exact I.mod.glob.keeps I.bk) hm (by rw [I.ok.blt]; exact h1.keeps I.bk) ((h2 x hn).trans hv) h) hd
theorem pe_glob {x : Str} {v : V} {u : Value} {pos : Pos} (hg : Gl X x) (hm : X.mg x = some u) (r : RelV v u) (hd : (x == ("__debug__" : Str)) = false := by decide) : PE X (.Name x pos) (tC v) :=
  fun _ _ _ H _ I h => ld_glob I hg hm ⟨v, H, I, r, h⟩ hd
theorem pe_bltn {x : Str} {v : V} {u : Value} {pos : Pos} (hg : Gl X x) (hm : X.mg x = none) (hv : bootBuiltins x = some u) (r : RelV v u) (hn : x ≠ "__name__" := by decide) (hd : (x == ("__debug__" : Str)) = false := by decide) : PE X (.Name x pos) (tC v) :=
  fun _ _ _ H _ I h => ld_blt I hg hm hv ⟨v, H, I, r, h⟩ hn hd

/-! ### arithmetic -/
def t2I (ta tb : TE) (k : Int → Int → Hp → Prop) : St → Hp → Prop := fun σ H => ta σ H fun x H1 => tb σ H1 fun y H2 => ∃ i j, x = .int i ∧ y = .int j ∧ k i j H2
variable {a b : Expr} {ta tb : TE} {pos : Pos}

/-! ### comparisons -/
def tCmp (p : Int → Int → Bool) (ta tb : TE) : TE := fun σ H Q => t2I ta tb (fun i j H2 => Q (.bl (p i j)) H2) σ H
abbrev tLt : TE → TE → TE := tCmp fun i j => decide (i < j)
abbrev tLe : TE → TE → TE := tCmp fun i j => decide (i ≤ j)
abbrev tGt : TE → TE → TE := tCmp fun i j => decide (j < i)
abbrev tGe : TE → TE → TE := tCmp fun i j => decide (j ≤ i)
abbrev tEqI : TE → TE → TE := tCmp fun i j => decide (i = j)
abbrev tNeI : TE → TE → TE := tCmp fun i j => !decide (i = j)
def tB (t : TE) : TT := fun σ H Q => t σ H fun x H1 => ∃ c, x = .bl c ∧ Q c H1
theorem pt_val {e : Expr} {t : TE} (h : PE X e t) (he : ∀ whole, isTrue e X.env whole = (do let v ← whole; standAt e.pos; holding [v] (truthy v)) := by intro _; rfl) : PT X e (tB t) := by
  intro pins s σ H Q I hw
  refine isTrue_plain (thn (h pins s σ H _ I hw) fun v s1 ⟨x, H1, I1, r1, q1⟩ => ?_) (he _)
  obtain ⟨d, rfl, q⟩ := q1
  cases r1
  exact wpAny_truthy_bool ⟨H1, I1, q⟩

/-! ### and, or, not -/
variable {tA tB' : TT} {rest : List Expr}
def tAnd (t u : TT) : TT := fun σ H Q => t σ H fun c H1 => if c = true then u σ H1 Q else Q false H1
def tOr (t u : TT) : TT := fun σ H Q => t σ H fun c H1 => if c = true then Q true H1 else u σ H1 Q
def tNot (t : TT) : TT := fun σ H Q => t σ H fun c H1 => Q (!c) H1
theorem pw_and1 (ha : PT X a tA) : PW X (.BoolOp .And [a] pos) tA := by
  intro wh pins s σ H Q I h
  refine isTrue_and (thn (ha pins s σ H Q I h) fun c s1 e => ?_)
  cases c with
  | true => exact isTrue_and_nil e
  | false => exact e
theorem pw_or1 (ha : PT X a tA) : PW X (.BoolOp .Or [a] pos) tA := by
  intro wh pins s σ H Q I h
  refine isTrue_or (thn (ha pins s σ H Q I h) fun c s1 e => ?_)
  cases c with
  | false => exact isTrue_or_nil e
  | true => exact e
theorem pw_and (ha : PT X a tA) (hb : PW X (.BoolOp .And (b :: rest) pos) tB') : PW X (.BoolOp .And (a :: b :: rest) pos) (tAnd tA tB') := by
  intro wh pins s σ H Q I h
  refine isTrue_and (thn (ha pins s σ H _ I h) fun c s1 hh => ?_)
  obtain ⟨H1, I1, q1⟩ := hh
  cases c with
  | true => exact hb wh pins s1 σ H1 Q I1 q1
  | false => exact ⟨H1, I1, q1⟩
theorem pw_or (ha : PT X a tA) (hb : PW X (.BoolOp .Or (b :: rest) pos) tB') : PW X (.BoolOp .Or (a :: b :: rest) pos) (tOr tA tB') := by
  intro wh pins s σ H Q I h
  refine isTrue_or (thn (ha pins s σ H _ I h) fun c s1 hh => ?_)
  obtain ⟨H1, I1, q1⟩ := hh
  cases c with
  | true => exact ⟨H1, I1, q1⟩
  | false => exact hb wh pins s1 σ H1 Q I1 q1
theorem pt_not (ha : PT X a tA) : PT X (.UnaryOp .Not a pos) (tNot tA) := by
  intro pins s σ H Q I h
  exact isTrue_not (ha pins s σ H (fun c H1 => Q (!c) H1) I h)
def tAndV (ta tb : TE) : TE := fun σ H Q => ta σ H fun x H1 => ∃ c, x = .bl c ∧ if c = true then tb σ H1 Q else Q (.bl false) H1
def tNotV (ta : TE) : TE := fun σ H Q => ta σ H fun x H1 => ∃ c, x = .bl c ∧ Q (.bl (!c)) H1
theorem pe_one {op} {t : TE} (h : PE X a t) : PE X (.BoolOp op [a] pos) t := fun pins s σ H Q I hw => BoolOp_one (h pins s σ H Q I hw)
theorem pe_and (ha : PE X a ta) (hb : PE X (.BoolOp .And (b :: rest) pos) tb) : PE X (.BoolOp .And (a :: b :: rest) pos) (tAndV ta tb) := by
  intro pins s σ H Q I h
  refine BoolOp_and (thn (ha pins s σ H _ I h) fun v s1 hh => ?_)
  obtain ⟨x, H1, I1, r1, q1⟩ := hh
  obtain ⟨c, rfl, q1⟩ := q1
  cases r1
  refine wpAny_truthy_bool ?_
  cases c with
  | true => exact hb pins s1 σ H1 Q I1 q1
  | false => exact ⟨.bl false, H1, I1, rfl, q1⟩
theorem pe_not (ha : PE X a ta) : PE X (.UnaryOp .Not a pos) (tNotV ta) := by
  intro pins s σ H Q I h
  refine UnaryOp_ (thn (ha pins s σ H _ I h) fun v s1 hh => ?_)
  obtain ⟨x, H1, I1, r1, q1⟩ := hh
  obtain ⟨c, rfl, q1⟩ := q1
  cases r1
  exact not_of (wpAny_truthy_bool ⟨.bl (!c), H1, I1, rfl, q1⟩)
def tIf (t : TT) (ta tb : TE) : TE := fun σ H Q => t σ H fun c H1 => if c = true then ta σ H1 Q else tb σ H1 Q
theorem pe_ifExp {c : Expr} (hc : PT X c tA) (ha : PE X a ta) (hb : PE X b tb) : PE X (.IfExp c a b pos) (tIf tA ta tb) := by
  intro pins s σ H Q I h
  refine wpAny_IfExp (thn (hc pins s σ H _ I h) fun d s1 hh => ?_)
  obtain ⟨H1, I1, q1⟩ := hh
  cases d with
  | true => exact ha pins s1 σ H1 Q I1 q1
  | false => exact hb pins s1 σ H1 Q I1 q1
end
end L2

namespace L2
open PySem PySem.Spec PyProof.Rows

/-! ### a list, a tuple that is read: tracked, frozen, or an object of the module -/
def SqL (K : PySem.W.Frag) (H : Hp) (a : Addr) (xs : List V) : Prop :=
  Rd H a (.lst xs) ∨
    ∃ (o : Obj) (its : Array Value) (n : Nat), K.lookup a = some o ∧ o.cls = .type "list" ∧ o.dict = none ∧ o.data = .seq its n ∧ its.size ≤ sizeLine ∧ Vals xs its.toList
def SqT (K : PySem.W.Frag) (H : Hp) (a : Addr) (xs : List V) : Prop :=
  Rd H a (.tup xs) ∨
    ∃ (o : Obj) (its : Array Value) (n : Nat), K.lookup a = some o ∧ o.cls = .type "tuple" ∧ o.data = .seq its n ∧ its.size ≤ sizeLine ∧ Vals xs its.toList
def absV : Value → Option V
  | .none => some .non
  | .bool b => some (.bl b)
  | .int i _ => some (.int i)
  | .str x _ => some (.str x)
  | .bytes b _ => some (.byt b)
  | .float b _ => some (.flt b)
  | .ref a => some (.ref a)
  | .type n => some (.ty n)
  | _ => none
theorem RelV.abs {x : V} {u : Value} (r : RelV x u) : absV u = some x := by
  cases x with
  | non => cases r; rfl
  | bl _ => cases r; rfl
  | int _ => obtain ⟨t, rfl⟩ := r; rfl
  | str _ => obtain ⟨t, rfl⟩ := r; rfl
  | byt _ => obtain ⟨t, rfl⟩ := r; rfl
  | flt _ => obtain ⟨t, rfl⟩ := r; rfl
  | ref _ => cases r; rfl
  | ty _ => cases r; rfl
theorem RelV.inj {x y : V} {u : Value} (r : RelV x u) (q : RelV y u) : x = y := Option.some.inj (r.abs.symm.trans q.abs)
theorem Vals.inj : ∀ {xs ys : List V} {us : List Value}, Vals xs us → Vals ys us → xs = ys
  | _, _, _, .nil, .nil => rfl
  | _, _, _, .cons r t, .cons r' t' => by rw [r.inj r', Vals.inj t t']
section
variable {X : Cx} {pins : List (Addr × Obj)} {σ : St} {H : Hp} {s : Shared} {a : Addr} {xs ys : List V}
theorem SqL.of {K : PySem.W.Frag} (h : H a = some (.lst xs)) : SqL K H a xs := .inl (.inl h)
theorem SqT.of {K : PySem.W.Frag} (h : H a = some (.tup xs)) : SqT K H a xs := .inl (.inl h)
theorem Inv.list (I : Inv X pins σ H s) (h : SqL X.K H a xs) : ∃ its : List Value, Vals xs its ∧ PlainL s.heap a its.toArray ∧ xs.length ≤ sizeLine := by
  rcases h with h | ⟨o, its, n, hk, hc, hd, hs, hz, r⟩
  · obtain ⟨z, its, n, r, e⟩ := h.ok I.hok
    exact ⟨its, r, ⟨_, n, e, rfl, rfl, rfl⟩, z⟩
  · refine ⟨its.toList, r, ⟨o, n, I.kIn a o hk, hc, hd, by simpa using hs⟩, ?_⟩
    have e := r.length
    simp only [Array.length_toList] at e
    omega
theorem Inv.tuple (I : Inv X pins σ H s) (h : SqT X.K H a xs) : ∃ its : List Value, Vals xs its ∧ IsTup s.heap a its.toArray ∧ xs.length ≤ sizeLine := by
  rcases h with h | ⟨o, its, n, hk, hc, hs, hz, r⟩
  · obtain ⟨z, its, r, p⟩ := h.ok I.hok
    exact ⟨its, r, p, z⟩
  · refine ⟨its.toList, r, ⟨o, I.kIn a o hk, hc, n, by simpa using hs⟩, ?_⟩
    have e := r.length
    simp only [Array.length_toList] at e
    omega
theorem Inv.list_inj (I : Inv X pins σ H s) (h : SqL X.K H a xs) (h' : SqL X.K H a ys) : xs = ys := by
  obtain ⟨its, r, ⟨o, n, e, _, _, d⟩, _⟩ := I.list h
  obtain ⟨its', r', ⟨o', n', e', _, _, d'⟩, _⟩ := I.list h'
  rw [e] at e'; cases e'
  rw [d] at d'
  injection d' with d1 _
  have : its = its' := by simpa using congrArg Array.toList d1
  subst this
  exact r.inj r'
theorem Inv.tuple_inj (I : Inv X pins σ H s) (h : SqT X.K H a xs) (h' : SqT X.K H a ys) : xs = ys := by
  obtain ⟨its, r, ⟨o, e, _, n, d⟩, _⟩ := I.tuple h
  obtain ⟨its', r', ⟨o', e', _, n', d'⟩, _⟩ := I.tuple h'
  rw [e] at e'; cases e'
  rw [d] at d'
  injection d' with d1 _
  have : its = its' := by simpa using congrArg Array.toList d1
  subst this
  exact r.inj r'
end

/-! ### another wish about exceptions -/
abbrev Cx.wish (X : Cx) (E : Value → Shared → Prop) : Cx := { X with xe := E }
abbrev Cx.nox (X : Cx) : Cx := X.wish fun _ _ => False
theorem Cx.Ok.wish {X : Cx} (ok : X.Ok) (E : Value → Shared → Prop) : (X.wish E).Ok :=
  ⟨ok.mod, ok.kind, ok.glob, ok.blt, ok.above, ok.inj, ok.has, ok.cab, ok.hd, ok.frames, ok.stk, ok.exf, ok.bs, ok.bsz, ok.noex, ok.exfs, ok.funs, ok.frf⟩
theorem Cx.Ok.unwish {X : Cx} {E : Value → Shared → Prop} (ok : (X.wish E).Ok) : X.Ok :=
  ⟨ok.mod, ok.kind, ok.glob, ok.blt, ok.above, ok.inj, ok.has, ok.cab, ok.hd, ok.frames, ok.stk, ok.exf, ok.bs, ok.bsz, ok.noex, ok.exfs, ok.funs, ok.frf⟩
section
variable {X : Cx} {pins : List (Addr × Obj)} {σ : St} {H : Hp} {s : Shared} {E : Value → Shared → Prop}
theorem Inv.wish (I : Inv X pins σ H s) (E : Value → Shared → Prop) : Inv (X.wish E) pins σ H s := ⟨I.ok.wish E, I.os, I.bare, I.base, I.loc, I.cell, I.free, I.freeC, I.pin, I.hok, I.len⟩
theorem Inv.unwish (I : Inv (X.wish E) pins σ H s) : Inv X pins σ H s := ⟨I.ok.unwish, I.os, I.bare, I.base, I.loc, I.cell, I.free, I.freeC, I.pin, I.hok, I.len⟩
theorem SP.unwish {D : Ends} {f : Flow} {s' : Shared} (h : SP (X.wish E) pins D f s') : SP X pins D f s' := by
  cases f with
  | next => obtain ⟨σ', H', I, q⟩ := h; exact ⟨σ', H', I.unwish, q⟩
  | brk => obtain ⟨σ', H', I, q⟩ := h; exact ⟨σ', H', I.unwish, q⟩
  | cont => obtain ⟨σ', H', I, q⟩ := h; exact ⟨σ', H', I.unwish, q⟩
  | ret u => obtain ⟨v, σ', H', I, r, q⟩ := h; exact ⟨v, σ', H', I.unwish, r, q⟩
theorem PSs.nox {st : List Stmt} {t : TS} (h : PSs X.nox st t) : PSs X st t := fun pins s σ H D I hw =>
  wpAny_mono (h pins s σ H D (I.wish _) hw) (fun _ _ q => q.unwish) fun _ _ z => False.elim z
end

/-! ### blocks and small statements -/
section
variable {X : Cx} {st : Stmt} {rest : List Stmt} {t u : TS} {e : Expr} {te : TE} {pos : Pos}
def tNext : TS := fun D σ H => D.nx σ H
def tSeq (t u : TS) : TS := fun D σ H => t { D with nx := u D } σ H
theorem pss_nil : PSs X [] tNext := fun _ _ σ H _ I h => wpAny_execs_nil ⟨σ, H, I, h⟩
theorem pss_cons (h1 : PS X st t) (h2 : PSs X rest u) : PSs X (st :: rest) (tSeq t u) := by
  intro pins s σ H D I h
  refine wpAny_execs_cons (thn (h1 pins s σ H { D with nx := u D } I h) fun f s1 q => ?_)
  cases f with
  | next =>
    obtain ⟨σ', H', I', q⟩ := q
    exact h2 pins s1 σ' H' D I' q
  | ret v => exact q
  | brk => exact q
  | cont => exact q
theorem pss_one (h1 : PS X st t) : PSs X [st] t := by
  intro pins s σ H D I h
  refine wpAny_execs_cons (thn (h1 pins s σ H D I h) fun f s1 q => ?_)
  cases f with
  | next => exact wpAny_execs_nil q
  | ret v => exact q
  | brk => exact q
  | cont => exact q
theorem Inv.quiet {pins : List (Addr × Obj)} {σ : St} {H : Hp} {s : Shared} (I : Inv X pins σ H s) : interactive X.env = false := by simp [interactive, I.ok.kind]
def tDrop (te : TE) : TS := fun D σ H => te σ H fun _ H1 => D.nx σ H1
theorem ps_expr (he : PE X e te) (hs : swapsWith e none pos.line X.env = pure false := by rfl) : PS X (.Expr e pos) (tDrop te) := by
  intro pins s σ H D I h
  exact wpAny_Expr_any (thn (he pins s σ H _ I h) fun v s1 ⟨x, H1, I1, r1, q1⟩ => ⟨σ, H1, I1, q1⟩) I.quiet hs
def tRet (te : TE) : TS := fun D σ H => te σ H D.rt
theorem ps_ret (he : PE X e te) : PS X (.Return (some e) pos) (tRet te) := by
  intro pins s σ H D I h
  exact wpAny_Return_some (thn (he pins s σ H _ I h) fun v s1 ⟨x, H1, I1, r1, q1⟩ => ⟨x, σ, H1, I1, r1, q1⟩)
def tIfS (c : TT) (t u : TS) : TS := fun D σ H => c σ H fun b H1 => if b = true then t D σ H1 else u D σ H1
theorem ps_if {c : Expr} {a b : List Stmt} {tc : TT} (hc : PT X c tc) (ha : PSs X a t) (hb : PSs X b u) : PS X (.If c a b pos) (tIfS tc t u) := by
  intro pins s σ H D I h
  refine wpAny_If (thn (hc pins s σ H _ I h) fun d s1 hh => ?_)
  obtain ⟨H1, I1, q1⟩ := hh
  cases d with
  | true => exact ha pins s1 σ H1 D I1 q1
  | false => exact hb pins s1 σ H1 D I1 q1
end

/-! ### targets -/
abbrev TG := V → St → Hp → (St → Hp → Prop) → Prop
abbrev TGs := List V → St → Hp → (St → Hp → Prop) → Prop
def PG (X : Cx) (target : Expr) (t : TG) : Prop :=
  ∀ (pins : List (Addr × Obj)) (s : Shared) (σ : St) (H : Hp) (v : V) (u : Value) (Q : St → Hp → Prop), Inv X pins σ H s → RelV v u → t v σ H Q →
    wpAny (model X.prog X.w) X.A (assign target X.env u) (fun _ s' => ∃ σ' H', Inv X pins σ' H' s' ∧ Q σ' H') X.xe s
def PGs (X : Cx) (ts : List Expr) (t : TGs) : Prop :=
  ∀ (pins : List (Addr × Obj)) (s : Shared) (σ : St) (H : Hp) (vs : List V) (us : List Value) (Q : St → Hp → Prop), Inv X pins σ H s → Vals vs us → t vs σ H Q →
    wpAny (model X.prog X.w) X.A (assignInOrder ((assignEach ts X.env).map (·.2)) us) (fun _ s' => ∃ σ' H', Inv X pins σ' H' s' ∧ Q σ' H') X.xe s
abbrev TSet := V → V → V → Hp → (Hp → Prop) → Prop
def PSet (X : Cx) (t : TSet) : Prop :=
  ∀ (pins : List (Addr × Obj)) (s : Shared) (σ : St) (H : Hp) (o i v : V) (ov iv u : Value) (Q : Hp → Prop), Inv X pins σ H s → RelV o ov → RelV i iv → RelV v u → t o i v H Q →
    wpAny (model X.prog X.w) X.A (setItem ov iv u) (fun _ s' => ∃ H', Inv X pins σ H' s' ∧ Q H') X.xe s
abbrev TIp := V → V → Hp → VK → Prop
section
variable {X : Cx} {pos : Pos}
def gName (i : Nat) : TG := fun v σ H Q => Q (σ.set i (some v)) H
theorem pg_name {i : Nat} {x : Str} (hN : X.N.Nodup) (hi : X.N[i]? = some x) (hx : Loc X.env.scope x) (hf : X.fn x = true ∨ X.env.scope.names.lookup x = some .local := by first | exact .inl rfl | exact .inr rfl | assumption) : PG X (.Name x pos) (gName i) := by
  intro pins s σ H v u Q I r h
  exact wpAny_assign_Name (store_ok I hN hi hx r (fun s' I' => ⟨_, H, I', h⟩) hf)
def gNil : TGs := fun vs σ H Q => vs = [] ∧ Q σ H
def gCons (t : TG) (u : TGs) : TGs := fun vs σ H Q => ∃ v r, vs = v :: r ∧ t v σ H fun σ' H' => u r σ' H' Q
theorem pgs_nil : PGs X [] gNil := by
  intro pins s σ H vs us Q I r h
  obtain ⟨e, h⟩ := h
  subst e
  cases r
  exact assignInOrder_nil ⟨σ, H, I, h⟩
theorem pgs_cons {e : Expr} {es : List Expr} {t : TG} {u : TGs} (h1 : PG X e t) (h2 : PGs X es u)
    (hs : (assignEach (e :: es) X.env).map (·.2) = assign e X.env :: (assignEach es X.env).map (·.2) := by rfl) : PGs X (e :: es) (gCons t u) := by
  intro pins s σ H vs us Q I r h
  obtain ⟨v, vr, e1, h⟩ := h
  subst e1
  cases r with
  | cons r rr =>
    rw [hs]
    refine assignInOrder_cons (thn (h1 pins s σ H _ _ _ I r h) fun _ s1 hh => ?_)
    obtain ⟨σ1, H1, I1, q1⟩ := hh
    exact h2 pins s1 σ1 H1 _ _ Q I1 rr q1
def gTup (K : PySem.W.Frag) (n : Nat) (t : TGs) : TG := fun v σ H Q => ∃ a xs, v = .ref a ∧ SqT K H a xs ∧ xs.length = n ∧ t xs σ H Q
theorem pg_tup {es : List Expr} {k : Nat} {t : TGs} {n : Nat} (hc : X.calm = true) (h : PGs X es t)
    (hn : (assignEach es X.env).length = n := by rfl) (hst : (assignEach es X.env).findIdx? (·.1) = none := by rfl) : PG X (.Tuple es k pos) (gTup X.K n t) := by
  intro pins s σ H v u Q I r hw
  obtain ⟨a, xs, e1, hq, hl, hw⟩ := hw
  subst e1
  cases r
  obtain ⟨its, rv, ht, hz⟩ := I.tuple hq
  refine assign_Tuple_tuple (I.ok.hd hc) ht (by simp [hn, ← hl, rv.length]) hst fun h' hx => ?_
  have I1 : Inv X pins σ H { s with heap := h' } := I.kept (t' := s.toks) fun b o e => hx b o (Nat.ne_of_lt (Heap.lt_size e)) e
  exact h pins _ σ H xs _ Q I1 (by simpa using rv) hw
def gSub (to ti : TE) (t : TSet) : TG := fun v σ H Q => to σ H fun o H1 => ti σ H1 fun i H2 => t o i v H2 fun H3 => Q σ H3
theorem pg_sub {o i : Expr} {to ti : TE} {t : TSet} (ho : PE X o to) (hi : PE X i ti) (hs : PSet X t)
    (ha : ∀ v, assign (.Subscript o i pos) X.env v = (do
      let ov ← holding [v] (eval o X.env)
      let iv ← holding [v, ov] (eval i X.env)
      standAt pos
      holding [v, ov, iv] (setItem ov iv v)
      release [v, ov, iv] []) := by intro _; rfl) : PG X (.Subscript o i pos) (gSub to ti t) := by
  intro pins s σ H v u Q I r h
  rw [ha]
  refine wpAny_bind (wpAny_holding (thn (ho pins s σ H _ I h) fun ov s1 hh => ?_))
  obtain ⟨x, H1, I1, r1, q1⟩ := hh
  refine wpAny_bind (wpAny_holding (thn (hi pins s1 σ H1 _ I1 q1) fun iv s2 hh => ?_))
  obtain ⟨y, H2, I2, r2, q2⟩ := hh
  refine wpAny_bind (wpAny_standAt (wpAny_bind (wpAny_holding (thn (hs pins s2 σ H2 x y v ov iv u _ I2 r1 r2 r q2) fun _ s3 hh => ?_))))
  obtain ⟨H3, I3, q3⟩ := hh
  exact wpAny_release ⟨σ, H3, I3, q3⟩
def tAsg (te : TE) (g : TG) : TS := fun D σ H => te σ H fun x H1 => g x σ H1 D.nx
theorem ps_asg {tg e : Expr} {te : TE} {g : TG} (he : PE X e te) (hg : PG X tg g) (hs : swapsWithSole [tg] e pos.line X.env = pure false := by rfl) (hw : swappedStores [tg] e X.env = pure none := by rfl)
    (h1 : (assignEach [tg] X.env).map (·.2) = [assign tg X.env] := by rfl) : PS X (.Assign [tg] e pos) (tAsg te g) := by
  intro pins s σ H D I h
  refine wpAny_Assign_stores (thn (he pins s σ H _ I h) fun v s1 ⟨x, H1, I1, r1, q1⟩ => ?_) hs hw
  rw [h1]
  exact thn (hg pins s1 σ H1 x v _ I1 r1 q1) fun _ s2 q => q
theorem ps_set {i : Nat} {x : Str} {e : Expr} {te : TE} {pos' : Pos} (hN : X.N.Nodup) (hi : X.N[i]? = some x) (hx : Loc X.env.scope x) (he : PE X e te) (hs : swapsWith e (some (.Name x pos')) pos.line X.env = pure false := by rfl) (hf : X.fn x = true ∨ X.env.scope.names.lookup x = some .local := by first | exact .inl rfl | exact .inr rfl | assumption) :
    PS X (.Assign [.Name x pos'] e pos) (tAsg te (gName i)) := by
  intro pins s σ H D I h
  refine wpAny_Assign_Name (thn (he pins s σ H _ I h) fun v s1 hh => ?_) hs
  obtain ⟨y, H1, I1, r1, q1⟩ := hh
  exact store_ok I1 hN hi hx r1 (fun s2 I2 => ⟨_, H1, I2, q1⟩) hf
end

/-! ### while -/
section
variable {X : Cx} {pos : Pos}
end

/-! ### what a loop or a comprehension walks -/
structure It where
  go : Nat → Hp → Prop
  yld : Nat → Hp → V → Hp → Prop
  stop : Nat → Hp → Prop
def FpOk (X : Cx) (pins : List (Addr × Obj)) (H : Hp) (b : Addr) : Prop :=
  H b = none ∧ b ≠ X.env.locals ∧ b ∉ X.fs ∧ (b ∈ X.ex ∨ X.s₀.heap.objs.size ≤ b) ∧ (∀ x c, X.env.cells.lookup x = some c → c ≠ b) ∧ ∀ p ∈ X.pn ++ pins, p.1 ≠ b
theorem Inv.fpOk {X : Cx} {pins : List (Addr × Obj)} {σ : St} {H H' : Hp} {s : Shared} {b : Addr} (I : Inv X pins σ H s) (hb : s.heap.objs.size ≤ b) (hn : H' b = none) : FpOk X pins H' b := by
  refine ⟨hn, Nat.ne_of_gt (Nat.lt_of_lt_of_le I.lt hb), I.nofs hb, .inr (Nat.le_trans I.sz hb), fun x c e z => ?_, fun p hp z => ?_⟩
  · obtain ⟨v, q⟩ := I.cell x c e
    exact absurd (Nat.lt_of_lt_of_le q.lt (by rw [z]; exact hb)) (Nat.lt_irrefl _)
  · exact absurd (Nat.lt_of_lt_of_le (Heap.lt_size (I.pin p hp).1) (by rw [z]; exact hb)) (Nat.lt_irrefl _)
structure Turn (P : Program) (w : World) (K : PySem.W.Frag) (tg : Expr) (J : It) (fp : List Addr) (it : Addr) (tn : Nat → Heap → Prop) : Prop where
  mem : it ∈ fp
  obj : ∀ i h, tn i h → ∀ b ∈ fp, ∃ o, h.get? b = some o ∧ ∀ v, o.data ≠ .cell v
  keep : ∀ i h h', tn i h → (∀ b ∈ fp, ∀ o, h.get? b = some o → h'.get? b = some o) → tn i h'
  item : ∀ (X : Cx), X.prog = P → X.w = w → X.K = K → X.calm = true → ∀ (i : Nat) (pins : List (Addr × Obj)) (s : Shared) (σ : St) (H : Hp) (E : Value → Shared → Prop), Inv X pins σ H s → (∀ b ∈ fp, FpOk X pins H b) → tn i s.heap → J.go i H →
    wpAny (model P w) X.A (pyNext (.ref it)) (fun r s1 => ∃ u, r = some u ∧
      wpAny (model P w) X.A (letOwnedTupleGo tg (.ref it) u) (fun _ s2 => ∃ x H', Inv X pins σ H' s2 ∧ RelV x u ∧ J.yld i H x H' ∧ tn (i + 1) s2.heap ∧ ∀ b ∈ fp, H' b = none) E s1) E s
  done : ∀ (X : Cx), X.prog = P → X.w = w → X.K = K → X.calm = true → ∀ (i : Nat) (pins : List (Addr × Obj)) (s : Shared) (σ : St) (H : Hp) (E : Value → Shared → Prop), Inv X pins σ H s → (∀ b ∈ fp, FpOk X pins H b) → tn i s.heap → J.stop i H →
    wpAny (model P w) X.A (pyNext (.ref it)) (fun r s1 => r = none ∧ Inv X pins σ H s1) E s
  self : ∀ (A : Around) (i : Nat) (s : Shared) (Q : Value → Shared → Prop) (E : Value → Shared → Prop), tn i s.heap → Q (.ref it) s → wpAny (model P w) A (pyIter (.ref it)) Q E s
abbrev TI := St → Hp → (It → Hp → Prop) → Prop
def PIE (X : Cx) (pins : List (Addr × Obj)) (σ : St) (tg : Expr) (R : It → Hp → Prop) (itv : Value) (s2 : Shared) : Prop :=
  ∃ (it : Addr) (fp : List Addr) (tn : Nat → Heap → Prop) (J : It) (H' : Hp), itv = .ref it ∧ Inv X pins σ H' s2 ∧ Turn X.prog X.w X.K tg J fp it tn ∧ tn 0 s2.heap ∧ (∀ b ∈ fp, FpOk X pins H' b) ∧ R J H'
def PI (X : Cx) (tg iter : Expr) (wi : TI) : Prop :=
  ∀ (pins : List (Addr × Obj)) (s : Shared) (σ : St) (H : Hp) (R : It → Hp → Prop), Inv X pins σ H s → wi σ H R →
    wpAny (model X.prog X.w) X.A (eval iter X.env) (fun v s1 => wpAny (model X.prog X.w) X.A (pyIter v) (PIE X pins σ tg R) X.xe s1) X.xe s

theorem go_of {M : Model} {A : Around} {E : Value → Shared → Prop} {s : Shared} {tg : Expr} {it : Addr} {u : Value} {o : Obj} {n : String} {vs : Array Value} {Q : Unit → Shared → Prop} (ho : s.heap.get? it = some o) (hc : o.cls = .type n) (hd : o.data = .fields vs)
    (hn : ["enumerate", "zip", "dict_itemiterator", "dict_reverseitemiterator", "odict_iterator", "itertools.zip_longest", "itertools.pairwise"].contains n = false) (hQ : Q () s) : wpAny M A (letOwnedTupleGo tg (.ref it) u) Q E s := by
  unfold letOwnedTupleGo
  cases tg <;> first
    | exact wpAny_pure hQ
    | (cases u <;> first
        | exact wpAny_pure hQ
        | (refine wpAny_bind (wpAny_load ho ?_)
           rw [hc, hd]
           show wpAny M A (if (["enumerate", "zip", "dict_itemiterator", "dict_reverseitemiterator", "odict_iterator", "itertools.zip_longest", "itertools.pairwise"].contains n && vs[0]? == some (rawInt _)) = true then _ else _) Q E s
           rw [if_neg (by intro h; rw [hn, Bool.false_and] at h; cases h)]
           exact wpAny_pure hQ))

def Itl (K : PySem.W.Frag) (a : Addr) : It :=
  ⟨fun i H => ∃ xs x, SqL K H a xs ∧ xs[i]? = some x, fun i H x H' => H' = H ∧ ∀ xs, SqL K H a xs → xs[i]? = some x, fun i H => ∃ xs, SqL K H a xs ∧ xs.length ≤ i⟩
def Itr (lo : Int) (n : Nat) : It := ⟨fun i _ => i < n, fun i H x H' => H' = H ∧ x = .int (lo + i), fun i _ => n ≤ i⟩
theorem turn_list {P : Program} {w : World} {K : PySem.W.Frag} {tg : Expr} (a it : Addr) : Turn P w K tg (Itl K a) [it] it (fun i h => h.IsListIter it a i) where
  mem := by simp
  obj := fun i h st b hb => by
    have e : b = it := by simpa using hb
    subst e
    obtain ⟨o, e, c, d⟩ := st
    exact ⟨o, e, fun v z => by rw [d] at z; cases z⟩
  keep := fun i h h' st k => st.at fun o e => k it (by simp) o e
  item := by
    intro X hP hw hK hc i pins s σ H E I hf st hg
    subst hP hw hK
    obtain ⟨xs, x, hq, hx⟩ := hg
    obtain ⟨its, rv, p, hz⟩ := I.list hq
    obtain ⟨u, hu, ru⟩ := rv.get hx
    obtain ⟨f0, f1, f2, f3, f4, f5⟩ := hf it (by simp)
    refine wpAny_pyNext_list_item st p.isList (x := u) (by simpa using hu) fun h' st' sb => ?_
    have I1 : Inv X pins σ H { s with heap := h' } := I.turned (t' := s.toks) (fun b o hb e => (sb.2 b hb).trans e) f0 f1 f3 f4 f5
    obtain ⟨o, e, c, d⟩ := id st'
    exact ⟨u, rfl, go_of (s := { s with heap := h' }) e c d (by decide) ⟨x, H, I1, ru, ⟨rfl, fun ys hy => by rw [I.list_inj hy hq]; exact hx⟩, st', fun b hb => (hf b hb).1⟩⟩
  done := by
    intro X hP hw hK hc i pins s σ H E I hf st hg
    subst hP hw hK
    obtain ⟨xs, hq, hx⟩ := hg
    obtain ⟨its, rv, p, hz⟩ := I.list hq
    obtain ⟨f0, f1, f2, f3, f4, f5⟩ := hf it (by simp)
    have hl := rv.length
    exact wpAny_pyNext_list_end (I.ok.hd hc) st p.isList (by simp; omega) fun h' eb => ⟨rfl, I.turned (t' := s.toks) (fun b o hb e => eb b o hb e) f0 f1 f3 f4 f5⟩
  self := fun _ _ _ _ _ st h => wpAny_pyIter_listiter st h
theorem turn_range {P : Program} {w : World} {K : PySem.W.Frag} {tg : Expr} (it : Addr) (lo : Int) (n : Nat) : Turn P w K tg (Itr lo n) [it] it (fun i h => IsRangeIter h it (lo + (i : Nat) * 1) ((n : Int) - (i : Nat)) 1) where
  mem := by simp
  obj := fun i h st b hb => by
    have e : b = it := by simpa using hb
    subst e
    exact ⟨_, st, fun v z => by
      have z' : Data.fields _ = Data.cell v := z
      cases z'⟩
  keep := fun i h h' st k => k it (by simp) _ st
  item := by
    intro X hP hw hK hc i pins s σ H E I hf st hg
    subst hP hw hK
    obtain ⟨f0, f1, f2, f3, f4, f5⟩ := hf it (by simp)
    have W := Walks.range (prog := X.prog) (w := X.w) (I.ok.hd hc) it lo 1 n
    refine W.item i s _ _ hg st fun v h' tk hv st' kk => ?_
    obtain ⟨t, rfl⟩ := hv
    have I1 : Inv X pins σ H { s with heap := h', toks := tk } := I.turned (fun b o hb e => kk b o (by simpa using hb) e) f0 f1 f3 f4 f5
    refine ⟨_, rfl, go_of (s := { s with heap := h', toks := tk }) (n := "range_iterator") st' rfl rfl (by decide) ⟨.int (lo + i), H, I1, ⟨t, ?_⟩, ⟨rfl, rfl⟩, st', fun b hb => (hf b hb).1⟩⟩
    rw [Int.mul_one]
  done := by
    intro X hP hw hK hc i pins s σ H E I hf st hg
    subst hP hw hK
    obtain ⟨f0, f1, f2, f3, f4, f5⟩ := hf it (by simp)
    exact wpAny_pyNext_range_end (I.ok.hd hc) st (by have : n ≤ i := hg; omega) fun h' eb => ⟨rfl, I.turned (t' := s.toks) (fun b o hb e => eb b o hb e) f0 f1 f3 f4 f5⟩
  self := fun _ _ _ _ _ st h => wpAny_pyIter_rangeiter st h
end L2

namespace L2
open PySem PySem.Spec PyProof.Rows
section
variable {X : Cx} {tg : Expr}
def iList (K : PySem.W.Frag) (tl : TE) : TI := fun σ H R => tl σ H fun x H1 => ∃ a, x = .ref a ∧ (∃ xs, SqL K H1 a xs) ∧ R (Itl K a) H1
theorem pi_list {l : Expr} {tl : TE} (hl : PE X l tl) : PI X tg l (iList X.K tl) := by
  intro pins s σ H R I h
  refine thn (hl pins s σ H _ I h) fun v s1 ⟨x, H1, I1, r1, q1⟩ => ?_
  obtain ⟨a, e, ⟨xs, hq⟩, q⟩ := q1
  subst e
  cases r1
  obtain ⟨its, rv, p, hz⟩ := I1.list hq
  refine wpAny_pyIter_list p.isList ?_
  refine ⟨s1.heap.objs.size, [s1.heap.objs.size], _, _, H1, rfl, I1.kept (t' := s1.toks) fun b o e => Heap.get?_push_of_some _ e, turn_list a _, ⟨_, Heap.get?_push_size _ rfl, rfl, rfl⟩, fun b hb => ?_, q⟩
  have e : b = s1.heap.objs.size := by simpa using hb
  subst e
  exact I1.fpOk (Nat.le_refl _) (I1.hok.fresh (Nat.le_refl _))
theorem range_it {pins : List (Addr × Obj)} {σ : St} {H : Hp} {s : Shared} {R : It → Hp → Prop} {E : Value → Shared → Prop} {lo hi : Int} {t u v : Tok} {tk : Nat} (I : Inv X pins σ H s) (h1 : -(2 ^ 62) ≤ lo) (h2 : lo < 2 ^ 62) (h3 : -(2 ^ 62) ≤ hi) (h4 : hi < 2 ^ 62)
    (q : R (Itr lo (hi - lo).toNat) H) : wpAny (model X.prog X.w) X.A (pyIter (.ref s.heap.objs.size)) (PIE X pins σ tg R) E { s with heap := s.heap.push { cls := .type "range", data := .fields #[.int lo t, .int hi u, .int 1 v] }, toks := tk } := by
  refine wpAny_pyIter_range (IsRange.new ..) (small_one h1 h2 h3 h4) ?_
  have I1 : Inv X pins σ H { s with heap := s.heap.push { cls := .type "range", data := .fields #[.int lo t, .int hi u, .int 1 v] }, toks := tk } := I.kept fun b o e => Heap.get?_push_of_some _ e
  refine ⟨(s.heap.push { cls := .type "range", data := .fields #[.int lo t, .int hi u, .int 1 v] }).objs.size, [(s.heap.push { cls := .type "range", data := .fields #[.int lo t, .int hi u, .int 1 v] }).objs.size], _, _, H, rfl,
    I1.kept (t' := tk) fun b o e => Heap.get?_push_of_some _ e, turn_range _ lo (hi - lo).toNat, ?_, fun b hb => ?_, q⟩
  · have e1 : lo + ((0 : Nat) : Int) * 1 = lo := by simp
    have e2 : (((hi - lo).toNat : Nat) : Int) - ((0 : Nat) : Int) = Builtin.Range.rangeSize lo hi 1 := by rw [rangeSize_one]; split <;> omega
    show IsRangeIter _ _ (lo + ((0 : Nat) : Int) * 1) ((((hi - lo).toNat : Nat) : Int) - ((0 : Nat) : Int)) 1
    rw [e1, e2]
    exact Heap.get?_push_size _ rfl
  · have e : b = (s.heap.push { cls := .type "range", data := .fields #[.int lo t, .int hi u, .int 1 v] }).objs.size := by simpa using hb
    subst e
    exact I1.fpOk (Nat.le_refl _) (I1.hok.fresh (Nat.le_refl _))
def iRng1 (ta : TA) : TI := fun σ H R => ta σ H fun vs H1 => ∃ j : Int, vs = [.int j] ∧ -(2 ^ 62) ≤ j ∧ j < 2 ^ 62 ∧ R (Itr 0 j.toNat) H1
theorem pi_range1 {a : Expr} {ta : TA} {p pos : Pos} (hg : Gl X "range") (hm : X.mg "range" = none) (ha : PA X [a] ta) (hs : starEach [a] X.env = [(false, eval a X.env)] := by rfl) : PI X tg (.Call (.Name "range" p) [a] [] pos) (iRng1 ta) := by
  intro pins s σ H R I h
  refine Call_ (ld_blt I hg hm boot_range (PyProof.Rows.callWith_type1 (thn (ha pos pins s σ H _ I h) fun us s1 ⟨vs, H1, I1, r1, q1⟩ => ?_) hs rfl))
  obtain ⟨j, e, q1, q2, q⟩ := q1
  subst e
  cases r1 with
  | cons r rr =>
    cases rr
    obtain ⟨t, rfl⟩ := r
    exact call_range_1 (range_it I1 (by omega) (by omega) q1 q2 (by simpa using q))

/-! ### for -/
def tFor (wi : TI) (g : TG) (tb : TS) : TS := fun D σ H => wi σ H fun J H1 => ∃ W : Nat → Nat → St → Hp → Prop, (∃ m, W 0 m σ H1) ∧ ∀ i m σ H, W i m σ H →
  (J.stop i H ∧ D.nx σ H) ∨ (J.go i H ∧ ∃ N : St → Hp → Prop, (∀ σ' H', N σ' H' → ∃ m', m' < m ∧ W (i + 1) m' σ' H') ∧ ∀ x H', J.yld i H x H' → g x σ H' fun σ2 H2 => tb { D with nx := N, ct := N, bk := D.nx } σ2 H2)
def pinsAt (fp : List Addr) (h : Heap) : List (Addr × Obj) := fp.filterMap fun b => (h.get? b).map fun o => (b, o)
theorem mem_pinsAt {fp : List Addr} {h : Heap} {b : Addr} {o : Obj} (hb : b ∈ fp) (e : h.get? b = some o) : (b, o) ∈ pinsAt fp h := List.mem_filterMap.mpr ⟨b, hb, by rw [e]; rfl⟩
theorem of_pinsAt {fp : List Addr} {h : Heap} {p : Addr × Obj} (hp : p ∈ pinsAt fp h) : p.1 ∈ fp ∧ h.get? p.1 = some p.2 := by
  obtain ⟨b, hb, e⟩ := List.mem_filterMap.mp hp
  cases q : h.get? b with
  | none => rw [q] at e; cases e
  | some o =>
    rw [q] at e
    have e' : (b, o) = p := Option.some.inj e
    subst e'
    exact ⟨hb, q⟩
theorem Inv.pinned {pins : List (Addr × Obj)} {σ : St} {H : Hp} {s : Shared} {fp : List Addr} (I : Inv X pins σ H s) (hf : ∀ b ∈ fp, FpOk X pins H b) (ho : ∀ b ∈ fp, ∃ o, s.heap.get? b = some o ∧ ∀ v, o.data ≠ .cell v) : Inv X (pins ++ pinsAt fp s.heap) σ H s :=
  I.pins_of fun p hp => (List.mem_append.mp hp).elim (fun z => I.pin p (List.mem_append_right _ z)) fun z => by
    obtain ⟨hb, e⟩ := of_pinsAt z
    obtain ⟨f0, f1, f2, _⟩ := hf p.1 hb
    obtain ⟨o, e', d⟩ := ho p.1 hb
    rw [e] at e'; cases e'
    exact ⟨e, f0, f1, f2, d⟩
theorem Inv.unpinned {pins pl : List (Addr × Obj)} {σ : St} {H : Hp} {s : Shared} (I : Inv X (pins ++ pl) σ H s) : Inv X pins σ H s := I.pins_of fun p hp => I.pin p (List.mem_append_right _ (List.mem_append_left _ hp))
theorem ps_for {iter : Expr} {body : List Stmt} {wi : TI} {g : TG} {tb : TS} {pos : Pos} (hp : PassesOwn (model X.prog X.w) X.A X.env X.xe) (hc : X.calm = true) (hi : PI X tg iter wi) (hg : PG X tg g) (hb : PSs X body tb)
    (hs : ∀ x, foldedSetIterable iter X.env x = pure x := by intro _; rfl) : PS X (.For tg iter body [] pos) (tFor wi g tb) := by
  intro pins s σ H D I h
  refine wpAny_For (thn (hi pins s σ H _ I h) fun v s1 h1 => thn h1 fun itv s2 h2 => ?_) hs
  obtain ⟨it, fp, tn, J, H2, e, I2, T, st2, f2, W, ⟨m0, w0⟩, turn⟩ := h2
  subst e
  -- what stays true of the iterator's objects through the loop
  have stat : ∀ {H' : Hp}, (∀ b ∈ fp, H' b = none) → ∀ b ∈ fp, FpOk X pins H' b := fun hn b hb => ⟨hn b hb, (f2 b hb).2⟩
  refine codeAny_forLoop_any (fun n s' => ∃ i σ' H', Inv X pins σ' H' s' ∧ tn i s'.heap ∧ (∀ b ∈ fp, H' b = none) ∧ W i n σ' H') ?_ m0 ⟨0, σ, H2, I2, st2, fun b hb => (f2 b hb).1, w0⟩
  rintro n s3 ⟨i, σ3, H3, I3, st3, fr3, w3⟩
  rcases turn i n σ3 H3 w3 with ⟨stop, qn⟩ | ⟨go, N, hN, step⟩
  · refine wpAny_passesOwn hp (thn (T.done X rfl rfl rfl hc i pins s3 σ3 H3 X.xe I3 (stat fr3) st3 stop) fun r s4 ⟨hr, I4⟩ => ?_)
    subst hr
    exact wpAny_execs_nil ⟨σ3, H3, I4, qn⟩
  · refine wpAny_passesOwn hp (thn (T.item X rfl rfl rfl hc i pins s3 σ3 H3 X.xe I3 (stat fr3) st3 go) fun r s4 ⟨u, hr, h4⟩ => ?_)
    subst hr
    refine wpAny_passesOwn hp (thn h4 fun _ s5 hh => ?_)
    obtain ⟨x, H5, I5, r5, y5, st5, fr5⟩ := hh
    have I5' := I5.pinned (stat fr5) (T.obj _ _ st5)
    refine wpAny_passesOwn hp (thn (hg _ s5 σ3 H5 x u _ I5' r5 (step x H5 y5)) fun _ s6 hh => ?_)
    obtain ⟨σ6, H6, I6, q6⟩ := hh
    refine wpAny_passesOwn hp (thn (hb _ s6 σ6 H6 _ I6 q6) fun f s7 q7 => ?_)
    have again : ∀ {σ7 : St} {H7 : Hp}, Inv X (pins ++ pinsAt fp s5.heap) σ7 H7 s7 → N σ7 H7 → ∃ m, m < n ∧ ∃ i σ' H', Inv X pins σ' H' s7 ∧ tn i s7.heap ∧ (∀ b ∈ fp, H' b = none) ∧ W i m σ' H' := fun {σ7 H7} I7 n7 => by
      obtain ⟨m', hm, w7⟩ := hN σ7 H7 n7
      refine ⟨m', hm, i + 1, σ7, H7, I7.unpinned, T.keep _ _ _ st5 fun b hb o e => (I7.pin (b, o) (List.mem_append_right _ (List.mem_append_right _ (mem_pinsAt hb e)))).1, fun b hb => ?_, w7⟩
      obtain ⟨o, e, d⟩ := T.obj _ _ st5 b hb
      exact (I7.pin (b, o) (List.mem_append_right _ (List.mem_append_right _ (mem_pinsAt hb e)))).2.1
    cases f with
    | next => obtain ⟨σ7, H7, I7, n7⟩ := q7; exact again I7 n7
    | cont => obtain ⟨σ7, H7, I7, n7⟩ := q7; exact again I7 n7
    | brk => obtain ⟨σ7, H7, I7, q7⟩ := q7; exact ⟨σ7, H7, I7.unpinned, q7⟩
    | ret v => obtain ⟨x7, σ7, H7, I7, r7, q7⟩ := q7; exact ⟨x7, σ7, H7, I7.unpinned, r7, q7⟩
end

/-! ### the forms one uses -/
theorem for_list {K : PySem.W.Frag} {a : Addr} {xs : List V} {g : TG} {tb : TS} {D : Ends} {σ : St} {H : Hp} (Pv : Nat → St → Hp → Prop) (h0 : Pv 0 σ H) (hl : ∀ i σ H, i ≤ xs.length → Pv i σ H → SqL K H a xs)
    (hs : ∀ i x σ H, xs[i]? = some x → Pv i σ H → g x σ H fun σ2 H2 => tb { D with nx := Pv (i + 1), ct := Pv (i + 1), bk := D.nx } σ2 H2) (hd : ∀ σ H, Pv xs.length σ H → D.nx σ H) :
    ∃ W : Nat → Nat → St → Hp → Prop, (∃ m, W 0 m σ H) ∧ ∀ i m σ H, W i m σ H →
      ((Itl K a).stop i H ∧ D.nx σ H) ∨ ((Itl K a).go i H ∧ ∃ N : St → Hp → Prop, (∀ σ' H', N σ' H' → ∃ m', m' < m ∧ W (i + 1) m' σ' H') ∧ ∀ x H', (Itl K a).yld i H x H' → g x σ H' fun σ2 H2 => tb { D with nx := N, ct := N, bk := D.nx } σ2 H2) := by
  refine ⟨fun i m σ H => m = xs.length - i ∧ i ≤ xs.length ∧ Pv i σ H, ⟨xs.length, by simp, Nat.zero_le _, h0⟩, ?_⟩
  rintro i m σ H ⟨rfl, hi, p⟩
  have q := hl i σ H hi p
  by_cases hlt : i < xs.length
  · refine .inr ⟨⟨xs, xs[i], q, by simp [hlt]⟩, Pv (i + 1), fun σ' H' p' => ⟨xs.length - (i + 1), by omega, rfl, hlt, p'⟩, fun x H' y => ?_⟩
    obtain ⟨e, y⟩ := y
    subst e
    exact hs i x σ _ (y xs q) p
  · have e : i = xs.length := by omega
    subst e
    exact .inl ⟨⟨xs, q, Nat.le_refl _⟩, hd σ H p⟩
theorem for_range {lo : Int} {n : Nat} {g : TG} {tb : TS} {D : Ends} {σ : St} {H : Hp} (Pv : Nat → St → Hp → Prop) (h0 : Pv 0 σ H)
    (hs : ∀ i σ H, i < n → Pv i σ H → g (.int (lo + i)) σ H fun σ2 H2 => tb { D with nx := Pv (i + 1), ct := Pv (i + 1), bk := D.nx } σ2 H2) (hd : ∀ σ H, Pv n σ H → D.nx σ H) :
    ∃ W : Nat → Nat → St → Hp → Prop, (∃ m, W 0 m σ H) ∧ ∀ i m σ H, W i m σ H →
      ((Itr lo n).stop i H ∧ D.nx σ H) ∨ ((Itr lo n).go i H ∧ ∃ N : St → Hp → Prop, (∀ σ' H', N σ' H' → ∃ m', m' < m ∧ W (i + 1) m' σ' H') ∧ ∀ x H', (Itr lo n).yld i H x H' → g x σ H' fun σ2 H2 => tb { D with nx := N, ct := N, bk := D.nx } σ2 H2) := by
  refine ⟨fun i m σ H => m = n - i ∧ i ≤ n ∧ Pv i σ H, ⟨n, by simp, Nat.zero_le _, h0⟩, ?_⟩
  rintro i m σ H ⟨rfl, hi, p⟩
  by_cases hlt : i < n
  · refine .inr ⟨hlt, Pv (i + 1), fun σ' H' p' => ⟨n - (i + 1), by omega, rfl, hlt, p'⟩, fun x H' y => ?_⟩
    obtain ⟨e, y⟩ := y
    subst e y
    exact hs i σ _ hlt p
  · have e : i = n := by omega
    subst e
    exact .inl ⟨Nat.le_refl _, hd σ H p⟩
end L2

namespace L2
open PySem PySem.Spec PyProof.Rows

abbrev R2 := V → V → Hp → VK → Prop
def OpR (X : Cx) (f : Value → Value → Sem Value) (r : R2) : Prop :=
  ∀ (pins : List (Addr × Obj)) (s : Shared) (σ : St) (H : Hp) (x y : V) (v u : Value) (Q : VK), Inv X pins σ H s → RelV x v → RelV y u → r x y H Q →
    wpAny (model X.prog X.w) X.A (f v u) (EP X pins σ Q) X.xe s
def CallR (X : Cx) (f : Value) (r : List V → Hp → VK → Prop) : Prop :=
  ∀ (pins : List (Addr × Obj)) (s : Shared) (σ : St) (H : Hp) (xs : List V) (us : List Value) (Q : VK), Inv X pins σ H s → Vals xs us → r xs H Q →
    wpAny (model X.prog X.w) X.A (call f us) (EP X pins σ Q) X.xe s

def tOp (r : R2) (ta tb : TE) : TE := fun σ H Q => ta σ H fun x H1 => tb σ H1 fun y H2 => r x y H2 Q
def rI (C : Int → Int → Prop) (g : Int → Int → V) : R2 := fun x y H Q => ∃ i j, x = .int i ∧ y = .int j ∧ C i j ∧ Q (g i j) H
def rI0 (g : Int → Int → V) : R2 := fun x y H Q => ∃ i j, x = .int i ∧ y = .int j ∧ Q (g i j) H

section
variable {X : Cx} {a b c : Expr} {ta tb tc : TE} {pos : Pos}

theorem binT (ha : PE X a ta) (hb : PE X b tb) {pins : List (Addr × Obj)} {s : Shared} {σ : St} {H : Hp} {R : V → V → Hp → Prop} (I : Inv X pins σ H s)
    (h : ta σ H fun x H1 => tb σ H1 fun y H2 => R x y H2) {Q : Value → Shared → Prop} {f : Value → Value → Sem Value}
    (hf : ∀ v u s2 x y H2, Inv X pins σ H2 s2 → RelV x v → RelV y u → R x y H2 → wpAny (model X.prog X.w) X.A (f v u) Q X.xe s2) :
    wpAny (model X.prog X.w) X.A (eval a X.env) (fun v s₁ => wpAny (model X.prog X.w) X.A (eval b X.env) (fun u s₂ => wpAny (model X.prog X.w) X.A (f v u) Q X.xe s₂) X.xe s₁) X.xe s := by
  refine thn (ha pins s σ H _ I h) fun v s1 ⟨x, H1, I1, r1, q1⟩ => ?_
  refine thn (hb pins s1 σ H1 _ I1 q1) fun u s2 ⟨y, H2, I2, r2, q2⟩ => ?_
  exact hf v u s2 x y H2 I2 r1 r2 q2

theorem pe_op {op : Operator} {r : R2} (ho : OpR X (binaryOp op) r) (ha : PE X a ta) (hb : PE X b tb) : PE X (.BinOp a op b pos) (tOp r ta tb) := by
  intro pins s σ H Q I h
  exact wpAny_BinOp (binT ha hb I h fun v u s2 x y H2 I2 rx ry q => ho pins s2 σ H2 x y v u Q I2 rx ry q)

/-! ### ints -/
theorem opI {f : Value → Value → Sem Value} {C : Int → Int → Prop} {g : Int → Int → Int}
    (rule : ∀ (i j : Int) (t u : Tok) (s : Shared) (Q : Value → Shared → Prop) (E : Value → Shared → Prop), C i j → Q (.int (g i j) s.toks) { s with toks := s.toks + 1 } → wpAny (model X.prog X.w) X.A (f (.int i t) (.int j u)) Q E s) :
    OpR X f (rI C fun i j => .int (g i j)) := by
  intro pins s σ H x y v u Q I rx ry h
  obtain ⟨i, j, rfl, rfl, hc, q⟩ := h
  obtain ⟨t, rfl⟩ := rx
  obtain ⟨t', rfl⟩ := ry
  exact rule i j t t' s _ _ hc ⟨.int (g i j), H, I.tok _, ⟨_, rfl⟩, q⟩
theorem opI0 {f : Value → Value → Sem Value} {g : Int → Int → Int}
    (rule : ∀ (i j : Int) (t u : Tok) (s : Shared) (Q : Value → Shared → Prop) (E : Value → Shared → Prop), Q (.int (g i j) s.toks) { s with toks := s.toks + 1 } → wpAny (model X.prog X.w) X.A (f (.int i t) (.int j u)) Q E s) :
    OpR X f (rI0 fun i j => .int (g i j)) := by
  intro pins s σ H x y v u Q I rx ry h
  obtain ⟨i, j, rfl, rfl, q⟩ := h
  obtain ⟨t, rfl⟩ := rx
  obtain ⟨t', rfl⟩ := ry
  exact rule i j t t' s _ _ ⟨.int (g i j), H, I.tok _, ⟨_, rfl⟩, q⟩
theorem opB0 {f : Value → Value → Sem Value} {g : Int → Int → Bool}
    (rule : ∀ (i j : Int) (t u : Tok) (s : Shared) (Q : Value → Shared → Prop) (E : Value → Shared → Prop), Q (.bool (g i j)) s → wpAny (model X.prog X.w) X.A (f (.int i t) (.int j u)) Q E s) :
    OpR X f (rI0 fun i j => .bl (g i j)) := by
  intro pins s σ H x y v u Q I rx ry h
  obtain ⟨i, j, rfl, rfl, q⟩ := h
  obtain ⟨t, rfl⟩ := rx
  obtain ⟨t', rfl⟩ := ry
  exact rule i j t t' s _ _ ⟨.bl (g i j), H, I, rfl, q⟩

def CDiv (i j : Int) : Prop := 0 < j ∧ j < 1073741824
def CMul (i j : Int) : Prop := (-(2 ^ 64) < i ∧ i < 2 ^ 64) ∨ (-(2 ^ 64) < j ∧ j < 2 ^ 64)
theorem CMul.ok {i j : Int} (h : CMul i j) : IntMulOk i j := by
  rcases h with ⟨h1, h2⟩ | ⟨h1, h2⟩
  · exact .of_left (intBits_le_64 h1 h2)
  · exact .of_right (intBits_le_64 h1 h2)

theorem op_add : OpR X (binaryOp .Add) (rI0 fun i j => .int (i + j)) := opI0 fun _ _ _ _ _ _ _ q => add_int q
theorem op_sub : OpR X (binaryOp .Sub) (rI0 fun i j => .int (i - j)) := opI0 fun _ _ _ _ _ _ _ q => sub_int q
theorem op_mul : OpR X (binaryOp .Mult) (rI CMul fun i j => .int (i * j)) := opI fun _ _ _ _ _ _ _ hc q => mul_int q hc.ok
theorem op_fdiv : OpR X (binaryOp .FloorDiv) (rI CDiv fun i j => .int (i / j)) := opI fun i j _ _ _ _ _ hc q => by
  have h1 : (0 : Int) < j := hc.1
  have h2 : j < 1073741824 := hc.2
  exact floordiv_int (by omega) (by rw [Int.fdiv_eq_ediv_of_nonneg i (by omega)]; exact q) (.inl (PyProof.noPylong_small (by omega)))
theorem op_mod : OpR X (binaryOp .Mod) (rI (fun _ j => 0 < j) fun i j => .int (i % j)) := opI fun i j _ _ _ _ _ hc q => by
  have h1 : (0 : Int) < j := hc
  exact mod_int' (by omega) (by rw [Int.fmod_eq_emod_of_nonneg i (by omega)]; exact q)
theorem op_xor : OpR X (binaryOp .BitXor) (rI0 fun i j => .int (Builtin.bitXor i j)) := opI0 fun _ _ _ _ _ _ _ q => xor_int q



/-! ### bools among ints: n += (a < b) -/
end

/-! ### comparisons -/
def scal : V → V → Bool
  | .non, .non => true | .non, .int _ => true | .int _, .non => true | .non, .bl _ => true | .bl _, .non => true | .non, .str _ => true | .str _, .non => true
  | .int _, .int _ => true | .bl _, .bl _ => true | .str _, .str _ => true | .byt _, .byt _ => true
  | .int _, .str _ => true | .str _, .int _ => true | .bl _, .str _ => true | .str _, .bl _ => true
  | _, _ => false
def rEq : R2 := fun x y H Q => scal x y = true ∧ Q (.bl (decide (x = y))) H
def rNe : R2 := fun x y H Q => scal x y = true ∧ Q (.bl (!decide (x = y))) H

theorem dec_int {i j : Int} : decide (V.int i = V.int j) = (i == j) := by
  rw [Bool.eq_iff_iff]
  simp
theorem dec_bl {i j : Bool} : decide (V.bl i = V.bl j) = (i == j) := by
  rw [Bool.eq_iff_iff]
  simp
theorem dec_str {i j : Str} : decide (V.str i = V.str j) = (i == j) := by
  rw [Bool.eq_iff_iff]
  simp
theorem dec_byt {i j : Array UInt8} : decide (V.byt i = V.byt j) = (i.toList == j.toList) := by
  rw [Bool.eq_iff_iff]
  cases i
  cases j
  simp

section
variable {X : Cx} {a b c : Expr} {ta tb tc : TE} {pos : Pos}
theorem fin_bl {pins : List (Addr × Obj)} {σ : St} {H : Hp} {s : Shared} {Q : VK} {k k' : Bool} (I : Inv X pins σ H s) (q : Q (.bl k) H) (e : k = k') : EP X pins σ Q (.bool k') s := by
  subst e
  exact ⟨.bl k, H, I, rfl, q⟩
theorem op_eq : OpR X (compareOp .Eq) rEq := by
  intro pins s σ H x y v u Q I rx ry h
  obtain ⟨hs, q⟩ := h
  cases x with
  | non =>
    cases rx
    cases y with
    | non => cases ry; exact PySem.EqNone.eq_none_none (fin_bl I q (by simp))
    | bl j => cases ry; exact PySem.EqNone.eq_none_bool (fin_bl I q (by simp))
    | int j => obtain ⟨t', rfl⟩ := ry; exact PySem.EqNone.eq_none_int (fin_bl I q (by simp))
    | str j => obtain ⟨t', rfl⟩ := ry; exact PySem.EqNone.eq_none_str (fin_bl I q (by simp))
    | _ => exact absurd (show false = true from hs) Bool.false_ne_true
  | bl i =>
    cases rx
    cases y with
    | non => cases ry; exact PySem.EqNone.eq_bool_none (fin_bl I q (by simp))
    | bl j => cases ry; exact eq_bool (fin_bl I q dec_bl)
    | str j => obtain ⟨t', rfl⟩ := ry; exact PySem.EqMixed.eq_bool_str (fin_bl I q (by simp))
    | _ => exact absurd (show false = true from hs) Bool.false_ne_true
  | int i =>
    obtain ⟨t, rfl⟩ := rx
    cases y with
    | non => cases ry; exact PySem.EqNone.eq_int_none (fin_bl I q (by simp))
    | int j => obtain ⟨t', rfl⟩ := ry; exact eq_int (fin_bl I q dec_int)
    | str j => obtain ⟨t', rfl⟩ := ry; exact PySem.EqMixed.eq_int_str (fin_bl I q (by simp))
    | _ => exact absurd (show false = true from hs) Bool.false_ne_true
  | str i =>
    obtain ⟨t, rfl⟩ := rx
    cases y with
    | non => cases ry; exact PySem.EqNone.eq_str_none (fin_bl I q (by simp))
    | bl j => cases ry; exact PySem.EqMixed.eq_str_bool (fin_bl I q (by simp))
    | int j => obtain ⟨t', rfl⟩ := ry; exact PySem.EqMixed.eq_str_int (fin_bl I q (by simp))
    | str j => obtain ⟨t', rfl⟩ := ry; exact eq_str (fin_bl I q dec_str)
    | _ => exact absurd (show false = true from hs) Bool.false_ne_true
  | byt i =>
    obtain ⟨t, rfl⟩ := rx
    cases y with
    | byt j => obtain ⟨t', rfl⟩ := ry; exact PySem.W.eq_bytes (fin_bl I q dec_byt)
    | _ => exact absurd (show false = true from hs) Bool.false_ne_true
  | _ => cases y <;> exact absurd (show false = true from hs) Bool.false_ne_true
theorem op_ne : OpR X (compareOp .NotEq) rNe := by
  intro pins s σ H x y v u Q I rx ry h
  obtain ⟨hs, q⟩ := h
  cases x with
  | non =>
    cases rx
    cases y with
    | non => cases ry; exact PySem.EqNone.ne_none_none (fin_bl I q (by simp))
    | bl j => cases ry; exact PySem.EqNone.ne_none_bool (fin_bl I q (by simp))
    | int j => obtain ⟨t', rfl⟩ := ry; exact PySem.EqNone.ne_none_int (fin_bl I q (by simp))
    | str j => obtain ⟨t', rfl⟩ := ry; exact PySem.EqNone.ne_none_str (fin_bl I q (by simp))
    | _ => exact absurd (show false = true from hs) Bool.false_ne_true
  | bl i =>
    cases rx
    cases y with
    | non => cases ry; exact PySem.EqNone.ne_bool_none (fin_bl I q (by simp))
    | bl j => cases ry; exact ne_bool (fin_bl I q (congrArg not dec_bl))
    | str j => obtain ⟨t', rfl⟩ := ry; exact PySem.EqMixed.ne_bool_str (fin_bl I q (by simp))
    | _ => exact absurd (show false = true from hs) Bool.false_ne_true
  | int i =>
    obtain ⟨t, rfl⟩ := rx
    cases y with
    | non => cases ry; exact PySem.EqNone.ne_int_none (fin_bl I q (by simp))
    | int j => obtain ⟨t', rfl⟩ := ry; exact ne_int (fin_bl I q (congrArg not dec_int))
    | str j => obtain ⟨t', rfl⟩ := ry; exact PySem.EqMixed.ne_int_str (fin_bl I q (by simp))
    | _ => exact absurd (show false = true from hs) Bool.false_ne_true
  | str i =>
    obtain ⟨t, rfl⟩ := rx
    cases y with
    | non => cases ry; exact PySem.EqNone.ne_str_none (fin_bl I q (by simp))
    | bl j => cases ry; exact PySem.EqMixed.ne_str_bool (fin_bl I q (by simp))
    | int j => obtain ⟨t', rfl⟩ := ry; exact PySem.EqMixed.ne_str_int (fin_bl I q (by simp))
    | str j => obtain ⟨t', rfl⟩ := ry; exact ne_str (fin_bl I q (congrArg not dec_str))
    | _ => exact absurd (show false = true from hs) Bool.false_ne_true
  | byt i =>
    obtain ⟨t, rfl⟩ := rx
    cases y with
    | byt j => obtain ⟨t', rfl⟩ := ry; exact PySem.W.ne_bytes (fin_bl I q (congrArg not dec_byt))
    | _ => exact absurd (show false = true from hs) Bool.false_ne_true
  | _ => cases y <;> exact absurd (show false = true from hs) Bool.false_ne_true

theorem op_lt : OpR X (compareOp .Lt) (rI0 fun i j => .bl (decide (i < j))) := opB0 fun _ _ _ _ _ _ _ q => lt_int q
theorem op_gt : OpR X (compareOp .Gt) (rI0 fun i j => .bl (decide (j < i))) := opB0 fun _ _ _ _ _ _ _ q => gt_int q
theorem op_ge : OpR X (compareOp .GtE) (rI0 fun i j => .bl (decide (j ≤ i))) := opB0 fun _ _ _ _ _ _ _ q => ge_int q

theorem op_isN : OpR X (compareOp .Is) (fun x y H Q => y = .non ∧ Q (.bl (decide (x = .non))) H) := by
  intro pins s σ H x y v u Q I rx ry h
  obtain ⟨rfl, q⟩ := h
  cases ry
  refine is_none_gen (fin_bl I q ?_)
  cases x <;> first
    | (cases rx; rfl)
    | (obtain ⟨t, rfl⟩ := rx; rfl)
theorem op_notN : OpR X (compareOp .IsNot) (fun x y H Q => y = .non ∧ Q (.bl (!decide (x = .non))) H) := by
  intro pins s σ H x y v u Q I rx ry h
  obtain ⟨rfl, q⟩ := h
  cases ry
  refine isnot_none_gen (fin_bl I q ?_)
  cases x <;> first
    | (cases rx; rfl)
    | (obtain ⟨t, rfl⟩ := rx; rfl)



theorem nomark (b : Expr) {op : CmpOp} (h : op ≠ .In := by decide) (h2 : op ≠ .NotIn := by decide) : behindInMarks op b = false := by
  have e1 : (op == CmpOp.In) = false := by cases op <;> first | rfl | exact absurd rfl h
  have e2 : (op == CmpOp.NotIn) = false := by cases op <;> first | rfl | exact absurd rfl h2
  cases b <;> simp [behindInMarks, e1, e2]
theorem pe_cmpR {op : CmpOp} {r : R2} (ho : OpR X (compareOp op) r) (ha : PE X a ta) (hb : PE X b tb) (hm : behindInMarks op b = false) : PE X (.Compare a [op] [b] pos) (tOp r ta tb) := by
  intro pins s σ H Q I h
  exact wpAny_Compare1 (binT ha hb I h fun v u s2 x y H2 I2 rx ry q => ho pins s2 σ H2 x y v u Q I2 rx ry q) hm
def tTest (t : TE) : TT := fun σ H Q => t σ H fun x H' => ∃ k, x = .bl k ∧ Q k H'
theorem pt_cmpR {op : CmpOp} {r : R2} (ho : OpR X (compareOp op) r) (ha : PE X a ta) (hb : PE X b tb) (hm : behindInMarks op b = false) : PT X (.Compare a [op] [b] pos) (tTest (tOp r ta tb)) := by
  intro pins s σ H Q I h
  refine wpAny_isTrue_Compare1 (thn (ha pins s σ H _ I h) fun v s1 ⟨x, H1, I1, r1, q1⟩ => thn (hb pins s1 σ H1 _ I1 q1) fun u s2 ⟨y, H2, I2, r2, q2⟩ =>
    thn (ho pins s2 σ H2 x y v u _ I2 r1 r2 q2) fun c s3 ⟨z, H3, I3, r3, k, e, q3⟩ => ?_) hm
  subst e
  cases r3
  exact wpAny_truthy_bool ⟨H3, I3, q3⟩

/-! ### truth -/
theorem line63 : (sizeLine : Nat) < 2 ^ 63 := by rw [sizeLine_eq]; decide

/-! ### strs and bytes -/


/-! ### scalar builtins, by CallR -/
theorem vals1 {x : V} {us : List Value} (r : Vals [x] us) : ∃ u, us = [u] ∧ RelV x u := by
  cases r with
  | cons r1 r2 => cases r2; exact ⟨_, rfl, r1⟩
theorem vals2 {x y : V} {us : List Value} (r : Vals [x, y] us) : ∃ u w', us = [u, w'] ∧ RelV x u ∧ RelV y w' := by
  cases r with
  | cons r1 r2 =>
    cases r2 with
    | cons r3 r4 => cases r4; exact ⟨_, _, rfl, r1, r3⟩
theorem call_min2 (hc : X.calm = true) : CallR X (.builtin "min") (fun xs H Q => ∃ i j, xs = [.int i, .int j] ∧ Q (.int (if j < i then j else i)) H) := by
  intro pins s σ H xs us Q I r h
  obtain ⟨i, j, rfl, q⟩ := h
  obtain ⟨u, w', rfl, ⟨t, rfl⟩, ⟨t', rfl⟩⟩ := vals2 r
  refine min_two_ints (I.ok.hd hc) fun h' tk k => ⟨_, H, I.kept k, ?_, q⟩
  by_cases hj : j < i
  · rw [if_pos hj, if_pos hj]; exact ⟨_, rfl⟩
  · rw [if_neg hj, if_neg hj]; exact ⟨_, rfl⟩
end
end L2

namespace L2
open PySem PySem.Spec PyProof.Rows

/-! ### an instance, its attributes a map -/
structure ObjM (h : Heap) (x dx C : Addr) (mA : Str → Option Value) : Prop where
  obj : h.get? x = some (PySem.W.instObj C dx)
  ns : h.Ns1 dx mA
  ne : dx ≠ x

theorem lookIn_ns {h : Heap} {dx : Addr} {mA : Str → Option Value} (n : h.Ns1 dx mA) : ∃ od, h.get? dx = some od ∧ ∀ name, PySem.W.lookIn name od = some (mA name) := by
  obtain ⟨o, es, ep, ho, hd, hk, _, hm⟩ := n
  refine ⟨o, ho, fun name => ?_⟩
  have e := hm name
  unfold nsFind findBy at e
  rw [← Array.find?_toList] at e
  unfold PySem.W.lookIn
  rw [hd]
  dsimp only
  split
  · rename_i y q
    rw [q] at e
    exact congrArg some e
  · rename_i q
    rw [q] at e
    have a : es.toList.any (·.refKey) = false := by
      rw [List.any_eq_false]
      intro y hy
      obtain ⟨z, t, hkey⟩ := hk y (Array.mem_toList_iff.mp hy)
      simp [DictEntry.refKey, hkey]
    have a' : ¬ es.toList.any (·.refKey) = true := by rw [a]; exact Bool.false_ne_true
    rw [if_neg a']
    exact congrArg some e

theorem ObjM.look {h : Heap} {x dx C : Addr} {mA : Str → Option Value} (I : ObjM h x dx C mA) : ∃ od, PySem.W.InstAt h x (PySem.W.instObj C dx) C (some od) ∧ ∀ name, PySem.W.lookIn name od = some (mA name) :=
  let ⟨od, ho, hl⟩ := lookIn_ns I.ns
  ⟨od, ⟨I.obj, rfl, rfl, ho⟩, hl⟩

section
variable {prog : Program} {w : World} {A : Around} {E : Value → Shared → Prop} {s : Shared} {K : PySem.W.Frag} {x dx C f : Addr} {mA : Str → Option Value} {name : Str} {v : Value}

theorem get_map {expr : Bool} {Q : Value → Shared → Prop} (X : K.In s.heap) (I : ObjM s.heap x dx C mA) (hg : PySem.W.plainGet K C name = true) (hh : PySem.W.hasDictIn K C = true)
    (ha : PySem.W.findIn K (.ref C) name = some none) (hv : mA name = some v) (hv' : PySem.W.handedIn v = true) (h : Q v { s with toks := s.toks + 1 }) :
    wpAny (model prog w) A (getAttr (.ref x) name expr) Q E s := by
  obtain ⟨od, J, hl⟩ := I.look
  exact PySem.W.get_value X J (PySem.W.plainGet_of hg).1 (PySem.W.findObj_own hh ha rfl (by rw [hl, hv])) hv' h


theorem get_meth {pl : Sem Bool} {Q : Value × List Value → Shared → Prop} (X : K.In s.heap) (I : ObjM s.heap x dx C mA) (hg : PySem.W.plainGet K C name = true)
    (hf : PySem.W.findIn K (.ref C) name = some (some (.ref f))) (ht : PySem.W.isFn K (.ref f) = true) (hv : mA name = none) (h : Q (.ref f, [.ref x]) s) :
    wpAny (model prog w) A (getMethod (.ref x) name pl) Q E s := by
  obtain ⟨od, J, hl⟩ := I.look
  exact PySem.W.method_fn X J (PySem.W.plainGet_of hg).1 (PySem.W.plainGet_of hg).2 hf (beq_iff_eq.mp ht) (by show (PySem.W.lookIn name od).map (·.isSome) = some false; rw [hl, hv]; rfl) h

theorem set_map {ns : List Str} {Q : Unit → Shared → Prop} (X : K.In s.heap) (I : ObjM s.heap x dx C mA)
    (hs : PySem.W.findIn K (.ref C) "__setattr__" = some (some (.builtin "object.__setattr__"))) (hp : PySem.W.plainOver K C = true) (ht : PySem.W.takerIn K C name = some none) (hh : PySem.W.hasDictIn K C = true)
    (hw : PySem.Within mA ns) (hsz : ns.length ≤ sizeLine)
    (h : ∀ h', ObjM h' x dx C (fun y => if y = name then some v else mA y) → Heap.SameBut dx s.heap h' → Q () { s with heap := h', toks := s.toks + 2 }) :
    wpAny (model prog w) A (setAttr (.ref x) name v) Q E s := by
  obtain ⟨od, J, hl⟩ := I.look
  refine PySem.W.set_plain X J hs (PySem.W.osa_open (s := { s with toks := s.toks + 1 }) (r := none) X J hp ht fun b => ?_)
  obtain ⟨cd, hc, hd'⟩ := PySem.W.any_some hh
  have hx : s.heap.get? x = some ⟨.ref C, some dx, .plain, #[]⟩ := I.obj
  refine wpAny_bind (wpAny_pure (wpAny_bind (wpAny_bind (wpAny_loadPart hx (wpAny_bind (PySem.W.Looks.here (s := { s with toks := s.toks + 1 }) (PySem.W.looks_clsIn X hc) ?_))))))
  rw [hd']
  refine wpAny_pure (a := some dx) (wpAny_bind (wpAny_pure (wpAny_bind ?_)))
  refine wpAny_nsSet1 (s := { s with toks := s.toks + 1 }) I.ns fun h' hn2 hs2 => ?_
  obtain ⟨oD, esD, epD, hoD, hdD, hcD⟩ := hn2.count (PySem.Within.cons name v hw)
  refine wpAny_bind (wpAny_lookBehind hoD (by rw [hdD]; exact pastItsLine_dict (Nat.le_trans hcD (by rw [List.length_cons]; omega))) ?_)
  exact wpAny_pure (h _ ⟨(hs2.2 _ (Ne.symm I.ne)).trans I.obj, hn2, I.ne⟩ hs2)

theorem make_map {R : Result → Shared → Prop} {vs : List Value} {kw : List (Str × Value)} (X : K.In s.heap) (hm : PySem.W.makesIn K C = true)
    (hi : PySem.W.findIn K (.ref C) "__init__" = some (some (.ref f))) (hf : PySem.W.typeIn K (.ref f) = some (.type "function"))
    (h : codeAny (model prog w) (A.under (.builtin "type.__call__" ⟨.ref C :: vs, kw⟩)) (.call (.ref f) ⟨.ref (s.heap.objs.size + 1) :: vs, kw⟩) (PySem.W.InitBack (s.heap.objs.size + 1) R)
      { s with heap := (s.heap.push PySem.W.emptyDict).push (PySem.W.instObj C s.heap.objs.size) }) :
    codeAny (model prog w) A (.call (.ref C) ⟨vs, kw⟩) R s := by
  obtain ⟨hh, g, d, t, os⟩ := s
  exact PySem.W.make_core (PySem.W.makes_of X hm) (PySem.W.looks_findIn X hi) (fun self => PySem.W.bind_fn X self hf) (.inl rfl) h
end

/-! ### the attributes as a list of pairs -/
def putF (f : Str) (v : V) : List (Str × V) → List (Str × V)
  | [] => [(f, v)]
  | (g, x) :: r => if g = f then (g, v) :: r else (g, x) :: putF f v r
theorem lookup_putF (f g : Str) (v : V) : ∀ fs : List (Str × V), (putF f v fs).lookup g = if g = f then some v else fs.lookup g
  | [] => by
    show List.lookup g [(f, v)] = _
    by_cases h : g = f
    · have hb : (g == f) = true := beq_iff_eq.mpr h
      simp only [List.lookup, hb, if_pos h]
    · have hb : (g == f) = false := beq_eq_false_iff_ne.mpr h
      simp only [List.lookup, hb, if_neg h]
  | (k, x) :: r => by
    have ih := lookup_putF f g v r
    rw [show putF f v ((k, x) :: r) = (if k = f then (k, v) :: r else (k, x) :: putF f v r) from rfl]
    by_cases hk : k = f
    · rw [if_pos hk]
      by_cases h : g = k
      · have hb : (g == k) = true := beq_iff_eq.mpr h
        simp only [List.lookup, hb, if_pos (h.trans hk)]
      · have hb : (g == k) = false := beq_eq_false_iff_ne.mpr h
        simp only [List.lookup, hb, if_neg (fun e : g = f => h (e.trans hk.symm))]
    · rw [if_neg hk]
      by_cases h : g = k
      · have hb : (g == k) = true := beq_iff_eq.mpr h
        simp only [List.lookup, hb, if_neg (fun e : g = f => hk (h.symm.trans e))]
      · have hb : (g == k) = false := beq_eq_false_iff_ne.mpr h
        simp only [List.lookup, hb]
        exact ih
theorem keys_putF (f : Str) (v : V) : ∀ fs : List (Str × V), f ∈ (putF f v fs).map (·.1) ∧ ∀ g, g ∈ fs.map (·.1) → g ∈ (putF f v fs).map (·.1)
  | [] => ⟨by simp [putF], fun g h => by simp at h⟩
  | (k, x) :: r => by
    obtain ⟨i1, i2⟩ := keys_putF f v r
    rw [show putF f v ((k, x) :: r) = (if k = f then (k, v) :: r else (k, x) :: putF f v r) from rfl]
    by_cases hk : k = f
    · rw [if_pos hk]
      subst hk
      exact ⟨by simp, fun g h => by simpa using h⟩
    · rw [if_neg hk]
      refine ⟨?_, fun g h => ?_⟩
      · rw [List.map_cons]
        exact List.mem_cons_of_mem _ i1
      · rw [List.map_cons] at h ⊢
        rcases List.mem_cons.mp h with e | e
        · exact List.mem_cons.mpr (.inl e)
        · exact List.mem_cons_of_mem _ (i2 g e)
theorem length_putF (f : Str) (v : V) : ∀ fs : List (Str × V), (putF f v fs).length ≤ fs.length + 1
  | [] => by simp [putF]
  | (k, x) :: r => by
    have ih := length_putF f v r
    rw [show putF f v ((k, x) :: r) = (if k = f then (k, v) :: r else (k, x) :: putF f v r) from rfl]
    by_cases hk : k = f
    · rw [if_pos hk, List.length_cons, List.length_cons]; omega
    · rw [if_neg hk, List.length_cons, List.length_cons]; omega

theorem RelO.some_of {v : V} {o : Option Value} (r : RelO (some v) o) : ∃ u, o = some u ∧ RelV v u := by
  cases o with
  | none => exact (show False from r).elim
  | some u => exact ⟨u, rfl, r⟩
theorem RelO.none_of {o : Option Value} (r : RelO none o) : o = none := by
  cases o with
  | none => rfl
  | some u => exact (show False from r).elim
theorem handed_of {v : V} {u : Value} (r : RelV v u) : PySem.W.handedIn u = true := by
  cases v with
  | non => cases (show u = Value.none from r); rfl
  | bl b => cases (show u = Value.bool b from r); rfl
  | int i => obtain ⟨t, e⟩ := (show ∃ t, u = Value.int i t from r); cases e; rfl
  | str x => obtain ⟨t, e⟩ := (show ∃ t, u = Value.str x t from r); cases e; rfl
  | byt b => obtain ⟨t, e⟩ := (show ∃ t, u = Value.bytes b t from r); cases e; rfl
  | flt b => obtain ⟨t, e⟩ := (show ∃ t, u = Value.float b t from r); cases e; rfl
  | ref a => cases (show u = Value.ref a from r); rfl
  | ty n => cases (show u = Value.type n from r); rfl

section
variable {P : Program} {w : World} {H H' : Hp} {h h' : Heap} {a C dx : Addr} {fs fs' : List (Str × V)}
theorem ins_get (hok : HOk P w H h) (e : H a = some (.ins C dx fs)) : ∃ mA, ObjM h a dx C mA ∧ (∀ f, RelO (fs.lookup f) (mA f)) ∧ PySem.Within mA (fs.map (·.1)) ∧ fs.length ≤ 1000 ∧ H dx = some (.own a) := by
  obtain ⟨d, z, ne, ob, mA, n, r, q⟩ := (show ObjOk P w H h a (.ins C dx fs) from hok a _ e)
  exact ⟨mA, ⟨ob, n, ne⟩, r, q, z, d⟩
end

/-! ### what of the text a class must have -/
structure Cls (K : PySem.W.Frag) (C : Addr) : Prop where
  pg : PySem.W.plainGet K C Str.empty = true
  hd : PySem.W.hasDictIn K C = true
  po : PySem.W.plainOver K C = true
  sa : PySem.W.findIn K (.ref C) "__setattr__" = some (some (.builtin "object.__setattr__"))
theorem Cls.get {K : PySem.W.Frag} {C : Addr} (c : Cls K C) (f : Str) : PySem.W.plainGet K C f = true := c.pg
def NoAttr (K : PySem.W.Frag) (C : Addr) (f : Str) : Prop := PySem.W.findIn K (.ref C) f = some none
theorem NoAttr.taker {K : PySem.W.Frag} {C : Addr} {f : Str} (n : NoAttr K C f) : PySem.W.takerIn K C f = some none := by
  unfold PySem.W.takerIn
  rw [show PySem.W.findIn K (.ref C) f = some none from n]
  rfl
structure Con (K : PySem.W.Frag) (C : Addr) (f : Str) (v : V) (u : Value) : Prop where
  at_ : PySem.W.findIn K (.ref C) f = some (some u)
  rel : RelV v u
  get : PySem.W.specialIn K u "__get__" = some none
  cp : PySem.W.copiedNames.contains f = false
structure Meth (K : PySem.W.Frag) (C : Addr) (m : Str) (f : Addr) : Prop where
  at_ : PySem.W.findIn K (.ref C) m = some (some (.ref f))
  fn : PySem.W.isFn K (.ref f) = true
  kp : PySem.W.keepIn K (.ref f) = true

section
variable {X : Cx} {pins : List (Addr × Obj)} {σ : St} {H : Hp} {s : Shared} {a C dx : Addr} {fs : List (Str × V)} {f : Str} {v : V} {A : Around} {E : Value → Shared → Prop}

theorem getattr_ok {b : Bool} {Q : Value → Shared → Prop} (I : Inv X pins σ H s) (e : H a = some (.ins C dx fs)) (c : Cls X.K C) (n : NoAttr X.K C f) (l : fs.lookup f = some v)
    (h : ∀ u s', Inv X pins σ H s' → RelV v u → Q u s') : wpAny (model X.prog X.w) A (getAttr (.ref a) f b) Q E s := by
  obtain ⟨mA, O, r, _, _, _⟩ := ins_get I.hok e
  obtain ⟨u, hu, ru⟩ := RelO.some_of (v := v) (o := mA f) (by rw [← l]; exact r f)
  exact get_map I.kIn O (c.get f) c.hd n hu (handed_of ru) (h u _ (I.tok _) ru)


theorem getmeth_ok {m : Str} {g : Addr} {pl : Sem Bool} {Q : Value × List Value → Shared → Prop} (I : Inv X pins σ H s) (e : H a = some (.ins C dx fs)) (c : Cls X.K C) (k : Meth X.K C m g) (l : fs.lookup m = none)
    (h : Q (.ref g, [.ref a]) s) : wpAny (model X.prog X.w) A (getMethod (.ref a) m pl) Q E s := by
  obtain ⟨mA, O, r, _, _, _⟩ := ins_get I.hok e
  have hn : mA m = none := RelO.none_of (by rw [← l]; exact r m)
  exact get_meth I.kIn O (c.get m) k.at_ k.fn hn h

theorem setattr_ok {y : V} {u : Value} {Q : Unit → Shared → Prop} (I : Inv X pins σ H s) (e : H a = some (.ins C dx fs)) (c : Cls X.K C) (n : NoAttr X.K C f) (hl : fs.length < 1000) (ry : RelV y u)
    (h : ∀ s', Inv X pins σ (upd H a (.ins C dx (putF f y fs))) s' → Q () s') : wpAny (model X.prog X.w) A (setAttr (.ref a) f u) Q E s := by
  obtain ⟨mA, O, r, wi, _, ho⟩ := ins_get I.hok e
  have hz : (fs.map (·.1)).length ≤ sizeLine := by rw [List.length_map, sizeLine_eq]; omega
  refine set_map I.kIn O c.sa c.po n.taker c.hd wi hz fun h' O' sb => h _ ?_
  have hd : ∃ o, h'.get? dx = some o := let ⟨o, _, _, e', _⟩ := O'.ns; ⟨o, e'⟩
  refine I.write (x := a) (e := dx) (by rw [e]; exact True.intro) (.inr ho) (fun b q hb z => (sb.2 b hb).trans z) hd ?_
  refine ⟨by rw [upd_ne O.ne]; exact ho, ?_, O.ne, O'.obj, _, O'.ns, fun g => ?_, fun g hg => ?_⟩
  · have := length_putF f y fs; omega
  · show RelO ((putF f y fs).lookup g) (if g = f then some u else mA g)
    rw [lookup_putF]
    by_cases q : g = f
    · rw [if_pos q, if_pos q]; exact ry
    · rw [if_neg q, if_neg q]; exact r g
  · by_cases q : g = f
    · rw [q]; exact (keys_putF f y fs).1
    · refine (keys_putF f y fs).2 g (wi g fun z => hg ?_)
      show (if g = f then some u else mA g) = none
      rw [if_neg q]; exact z

theorem Inv.made (I : Inv X pins σ H s) : Inv X pins σ (upd (upd H s.heap.objs.size (.own (s.heap.objs.size + 1))) (s.heap.objs.size + 1) (.ins C s.heap.objs.size []))
    { s with heap := (s.heap.push PySem.W.emptyDict).push (PySem.W.instObj C s.heap.objs.size) } := by
  have e1 : (s.heap.push PySem.W.emptyDict).get? s.heap.objs.size = some PySem.W.emptyDict := Heap.get?_push_size s.heap rfl
  have e2 : ((s.heap.push PySem.W.emptyDict).push (PySem.W.instObj C s.heap.objs.size)).get? (s.heap.objs.size + 1) = some (PySem.W.instObj C s.heap.objs.size) := by
    have := Heap.get?_push_size (s.heap.push PySem.W.emptyDict) (o := PySem.W.instObj C s.heap.objs.size) rfl
    rwa [Heap.size_push] at this
  have e3 : (s.heap.push PySem.W.emptyDict).Ns s.heap.objs.size (fun _ => none) := ⟨PySem.W.emptyDict, #[], _, e1, rfl, (fun e he => absurd he (by simp)), fun _ => rfl⟩
  have I1 := I.laid (a := s.heap.objs.size) (o := .own (s.heap.objs.size + 1)) (h' := s.heap.push PySem.W.emptyDict) (t' := s.toks) (fun b u q => Heap.get?_push_of_some _ q) (Nat.le_refl _) ⟨_, e1⟩
  refine I1.laid (a := s.heap.objs.size + 1) (o := .ins C s.heap.objs.size []) (t' := s.toks) (fun b u q => Heap.get?_push_of_some _ q) (Nat.le_of_eq (Heap.size_push _ _)) ?_
  have ne : s.heap.objs.size ≠ s.heap.objs.size + 1 := Nat.ne_of_lt (Nat.lt_succ_self _)
  refine ⟨by rw [upd_ne ne, upd_same], Nat.zero_le _, ne, e2, fun _ => none, (Heap.Ns1.of_empty e3).at fun o q => Heap.get?_push_of_some _ q, fun _ => True.intro, fun y hy => absurd rfl hy⟩

theorem attr_of {prog : Program} {w : World} {env : Env} {e : Expr} {f : Str} {pos : Pos} {s : Shared} {Q : Value → Shared → Prop} (hb : attributeBase e f env (eval e env) = eval e env)
    (h : wpAny (model prog w) A (eval e env) (fun o s₁ => wpAny (model prog w) A (getAttr o f true) Q E s₁) E s) : wpAny (model prog w) A (eval (.Attribute e f pos) env) Q E s :=
  Attribute_any_ h (by rw [arm_eval_Attribute, hb])
end

/-! ### readings and rules -/
def tFld (K : PySem.W.Frag) (ta : TE) (f : Str) : TE := fun σ H Q => ta σ H fun x H1 => ∃ a C dx fs v, x = .ref a ∧ H1 a = some (.ins C dx fs) ∧ Cls K C ∧ NoAttr K C f ∧ fs.lookup f = some v ∧ Q v H1
def sFld (K : PySem.W.Frag) (ta tv : TE) (f : Str) : TS := fun D σ H => tv σ H fun y H1 => ta σ H1 fun x H2 => ∃ a C dx fs, x = .ref a ∧ H2 a = some (.ins C dx fs) ∧ Cls K C ∧ NoAttr K C f ∧ fs.length < 1000 ∧
  D.nx σ (upd H2 a (.ins C dx (putF f y fs)))

section
variable {X : Cx} {o e value : Expr} {f : Str} {pos pos' tpos : Pos} {ta tv : TE}
theorem pe_fld (he : PE X e ta) (hb : attributeBase e f X.env (eval e X.env) = eval e X.env) : PE X (.Attribute e f pos) (tFld X.K ta f) := by
  intro pins s σ H Q I h
  refine attr_of hb (thn (he pins s σ H _ I h) fun u s1 hh => ?_)
  obtain ⟨x, H1, I1, rx, a, C, dx, fs, v, ex, ea, c, n, l, q⟩ := hh
  subst ex
  obtain rfl : u = Value.ref a := rx
  exact getattr_ok I1 ea c n l fun u' s2 I2 ru => ⟨v, H1, I2, ru, q⟩
theorem ps_fld (ha : PE X o ta) (hv : PE X value tv) (hs : swapsWith value (some (.Attribute o f pos')) pos.line X.env = pure false) : PS X (.Assign [.Attribute o f pos'] value pos) (sFld X.K ta tv f) := by
  intro pins s σ H D I h
  refine plainObj_wpAny_Assign_Attribute (thn (hv pins s σ H _ I h) fun u s1 ⟨y, H1, I1, ry, q⟩ => thn (ha pins s1 σ H1 _ I1 q) fun ov s2 hh => ?_) hs
  obtain ⟨x, H2, I2, rx, a, C, dx, fs, ex, ea, c, n, l, q2⟩ := hh
  subst ex
  obtain rfl : ov = Value.ref a := rx
  exact setattr_ok I2 ea c n l ry fun s3 I3 => ⟨σ, _, I3, q2⟩

end

/-! ### isinstance -/
section
variable {X : Cx} {pins : List (Addr × Obj)} {σ : St} {H : Hp} {s : Shared} {A : Around} {E : Value → Shared → Prop} {Q : Value → Shared → Prop} {c : Value} {b : Bool}
inductive TyOf (K : PySem.W.Frag) (H : Hp) : V → Value → Prop where
  | non : TyOf K H .non (.type "NoneType")
  | bl (x : Bool) : TyOf K H (.bl x) (.type "bool")
  | int (i : Int) : TyOf K H (.int i) (.type "int")
  | str (x : Str) : TyOf K H (.str x) (.type "str")
  | flt (x : UInt64) : TyOf K H (.flt x) (.type "float")
  | lst {a : Addr} {xs : List V} (e : H a = some (.lst xs)) : TyOf K H (.ref a) (.type "list")
  | frz {a : Addr} {o : Obj} {xs : List V} (e : H a = some (.frz o (.lst xs))) : TyOf K H (.ref a) (.type "list")
  | tup {a : Addr} {xs : List V} (e : H a = some (.tup xs)) : TyOf K H (.ref a) (.type "tuple")
  | dK {a : Addr} {kvs : List (Key × V)} (e : H a = some (.dK kvs)) : TyOf K H (.ref a) (.type "dict")
  | dT {a : Addr} {kvs : List (List Key × V)} (e : H a = some (.dT kvs)) : TyOf K H (.ref a) (.type "dict")
  | ins {a C dx : Addr} {fs : List (Str × V)} (e : H a = some (.ins C dx fs)) (cl : Cls K C) (ha : PySem.W.findIn K (.ref C) "__class__" = some (some (.builtin "object.__class__")))
      (hn : PySem.W.specialIn K (.builtin "object.__class__") "__get__" = some (some (.builtin "getset_descriptor.__get__"))) (htk : PySem.W.takesIn K (.builtin "object.__class__") = some true)
      (hm : PySem.W.mroIn K C (.type "object") = some true) : TyOf K H (.ref a) (.ref C)
theorem isinst_ok {x : V} {u t : Value} (I : Inv X pins σ H s) (rx : RelV x u) (ty : TyOf X.K H x t) (e : PySem.W.kitOne X.K t c = some b) (h : ∀ tk, Q (.bool b) { s with toks := tk }) :
    wpAny (model X.prog X.w) A (call (.builtin "isinstance") [u, c]) Q E s := by
  cases ty with
  | non => cases (show u = Value.none from rx); exact PySem.W.kia_one PySem.W.kitx_none I.kIn True.intro e (fun z => nomatch z) h
  | bl y => cases (show u = Value.bool y from rx); exact PySem.W.kia_one PySem.W.kitx_bool I.kIn True.intro e (fun z => nomatch z) h
  | int i => obtain ⟨t, q⟩ := (show ∃ t, u = Value.int i t from rx); cases q; exact PySem.W.kia_one PySem.W.kitx_int I.kIn True.intro e (fun z => nomatch z) h
  | str y => obtain ⟨t, q⟩ := (show ∃ t, u = Value.str y t from rx); cases q; exact PySem.W.kia_one PySem.W.kitx_str I.kIn True.intro e (fun z => nomatch z) h
  | flt y => obtain ⟨t, q⟩ := (show ∃ t, u = Value.float y t from rx); cases q; exact PySem.W.kia_one PySem.W.kitx_float I.kIn True.intro e (fun z => nomatch z) h
  | @lst a xs ea =>
    cases (show u = Value.ref a from rx)
    obtain ⟨_, _, n, _, h1⟩ := (show ObjOk X.prog X.w H s.heap a (.lst xs) from I.hok a _ ea)
    exact PySem.W.kia_one PySem.W.kitx_list I.kIn ⟨_, h1, rfl⟩ e (fun z => nomatch z) h
  | @frz a ob xs ea =>
    cases (show u = Value.ref a from rx)
    obtain ⟨_, _, _, n, _, h1⟩ := (show ObjOk X.prog X.w H s.heap a (.frz ob (.lst xs)) from I.hok a _ ea)
    exact PySem.W.kia_one PySem.W.kitx_list I.kIn ⟨_, h1, rfl⟩ e (fun z => nomatch z) h
  | @tup a xs ea =>
    cases (show u = Value.ref a from rx)
    obtain ⟨_, _, _, p⟩ := (show ObjOk X.prog X.w H s.heap a (.tup xs) from I.hok a _ ea)
    obtain ⟨o, h1, h2, _⟩ := p
    exact PySem.W.kia_one PySem.W.kitx_tuple I.kIn ⟨o, h1, h2⟩ e (fun z => nomatch z) h
  | @dK a kvs ea =>
    cases (show u = Value.ref a from rx)
    obtain ⟨_, _, vs, _, p⟩ := (show ObjOk X.prog X.w H s.heap a (.dK kvs) from I.hok a _ ea)
    obtain ⟨o, es, ep, h1, h2, _⟩ := p
    exact PySem.W.kia_one PySem.W.kitx_dict I.kIn ⟨o, h1, h2.1⟩ e (fun z => nomatch z) h
  | @dT a kvs ea =>
    cases (show u = Value.ref a from rx)
    obtain ⟨_, _, xs, _, o, es, ep, h1, h2, _⟩ := (show ObjOk X.prog X.w H s.heap a (.dT kvs) from I.hok a _ ea)
    exact PySem.W.kia_one PySem.W.kitx_dict I.kIn ⟨o, h1, h2.1⟩ e (fun z => nomatch z) h
  | @ins a C dx fs ea cl ha hn htk hm =>
    cases (show u = Value.ref a from rx)
    obtain ⟨mA, O, _⟩ := ins_get I.hok ea
    obtain ⟨od, J, _⟩ := O.look
    exact PySem.W.kia_one (PySem.W.kitx_own (cl.get _) cl.hd ha hn htk hm) I.kIn J e (fun z => nomatch z) h
end
end L2

namespace L2
open PySem PySem.Spec PyProof.Rows

/-! ### room -/
structure Room (k : Nat) (A : Around) : Prop where
  hd : A.handled = none
  dp : A.depth + 3 * k + 5 < recursionLimit
  un : A.units + 16 * k + 200 < cLine
theorem Room.mono {j k : Nat} {A : Around} (r : Room k A) (h : j ≤ k) : Room j A := ⟨r.hd, by have := r.dp; omega, by have := r.un; omega⟩
theorem Room.deeper {k : Nat} {A : Around} (r : Room (k + 1) A) (env : Env) : Room k (A.deeper env) :=
  ⟨r.hd, by have := r.dp; show A.depth + 1 + 3 * k + 5 < _; omega, by have := r.un; show A.units + 3 + 16 * k + 200 < _; omega⟩
theorem Room.in1 {k : Nat} {A : Around} (r : Room (k + 1) A) : Room k A.in1 :=
  ⟨r.hd, by have := r.dp; show A.depth + 3 * k + 5 < _; omega, by have := r.un; show A.units + 1 + 16 * k + 200 < _; omega⟩
theorem make_depth {A : Around} {C : Addr} {us : List Value} {kw : List (Str × Value)} : (A.under (.builtin "type.__call__" ⟨.ref C :: us, kw⟩)).depth = A.depth + 1 := by
  first | rfl | simp [Around.under, Code.weight, Code.isCreation, Code.isGuard, Code.isCaller, Code.frames, Code.isFrame, guardIds]
theorem make_units {A : Around} {C : Addr} {us : List Value} {kw : List (Str × Value)} : (A.under (.builtin "type.__call__" ⟨.ref C :: us, kw⟩)).units = A.units + 1 := by
  first | rfl | simp [Around.under, Code.cUnits, Code.frames, Code.isFrame]
theorem Room.make {k : Nat} {A : Around} (r : Room (k + 1) A) (C : Addr) (us : List Value) (kw : List (Str × Value)) : Room k (A.under (.builtin "type.__call__" ⟨.ref C :: us, kw⟩)) :=
  ⟨r.hd, by have := r.dp; rw [make_depth]; omega, by have := r.un; rw [make_units]; omega⟩
theorem Room.depth {k : Nat} {A : Around} (r : Room k A) : A.depth < recursionLimit := by have := r.dp; omega
theorem Room.units0 {k : Nat} {A : Around} (r : Room k A) : A.units < cLine := by have := r.un; omega

/-! ### argument lists and displays -/
def tNil : TA := fun _ H Q => Q [] H
def tCons (ta : TE) (tr : TA) : TA := fun σ H Q => ta σ H fun x H1 => tr σ H1 fun xs H2 => Q (x :: xs) H2
section
variable {X : Cx} {e : Expr} {es : List Expr} {te : TE} {t : TA} {pos : Pos}
theorem pa_nil : PA X [] tNil := fun _ _ _ _ H Q I h => Calls.spliced_nil ⟨[], H, I, .nil, h⟩
theorem pa_cons (ha : PE X e te) (hr : PA X es t) (hs : starEach (e :: es) X.env = (false, eval e X.env) :: starEach es X.env := by rfl) : PA X (e :: es) (tCons te t) := by
  intro pos pins s σ H Q I h
  rw [hs]
  show wpAny _ _ (spliced ((false, eval e X.env) :: backTo pos (starEach es X.env))) _ _ s
  refine Calls.spliced_cons (thn (ha pins s σ H _ I h) fun u s1 hh => ?_)
  obtain ⟨x, H1, I1, r1, q1⟩ := hh
  exact thn (hr pos pins s1 σ H1 _ I1 q1) fun us s2 ⟨xs, H2, I2, r2, q2⟩ => ⟨x :: xs, H2, I2, .cons r1 r2, q2⟩

def tTup (t : TA) : TE := fun σ H Q => t σ H fun xs H1 => xs.length ≤ sizeLine ∧ ∀ p, H1 p = none → Q (.ref p) (upd H1 p (.tup xs))
def tLst (t : TA) : TE := fun σ H Q => t σ H fun xs H1 => xs.length ≤ sizeLine ∧ ∀ p, H1 p = none → Q (.ref p) (upd H1 p (.lst xs))
theorem pe_tup {x1} (h : PA X es t) : PE X (.Tuple es x1 pos) (tTup t) := by
  intro pins s σ H Q I hq
  refine wpAny_Tuple_spliced (thn (h pos pins s σ H _ I hq) fun us s1 ⟨xs, H1, I1, r, z, q⟩ => ⟨by rw [← r.length]; exact z, ?_⟩)
  have hf : H1 s1.heap.objs.size = none := I1.hok.fresh (Nat.le_refl _)
  refine ⟨.ref s1.heap.objs.size, upd H1 s1.heap.objs.size (.tup xs), I1.laid (t' := s1.toks) (fun b u e => Heap.get?_push_of_some _ e) (Nat.le_refl _) ?_, rfl, q _ hf⟩
  exact ⟨z, us, r, ⟨_, Heap.get?_push_size _ rfl, rfl, _, rfl⟩⟩
theorem pe_lst (h : PA X es t) : PE X (.List es pos) (tLst t) := by
  intro pins s σ H Q I hq
  refine wpAny_List_spliced (thn (h pos pins s σ H _ I hq) fun us s1 ⟨xs, H1, I1, r, z, q⟩ => ⟨by rw [← r.length]; exact z, ?_⟩)
  have hf : H1 s1.heap.objs.size = none := I1.hok.fresh (Nat.le_refl _)
  refine ⟨.ref s1.heap.objs.size, upd H1 s1.heap.objs.size (.lst xs), I1.laid (t' := s1.toks) (fun b u e => Heap.get?_push_of_some _ e) (Nat.le_refl _) ?_, rfl, q _ hf⟩
  exact ⟨z, us, 0, r, Heap.get?_push_size _ rfl⟩
end

/-! ### what a def promises -/
abbrev Sp := List V → Hp → VK → XK → Prop
abbrev CXT := List Env → Hp → Shared → XK → Value → Shared → Prop

structure Env0 (P : Program) (w : World) (K : PySem.W.Frag) (mg : Str → Option Value) (base : Heap) (A : Around) (outer : List Env) (s : Shared) (H : Hp) : Prop where
  frames : A.frames = some outer
  mod : Mod K mg base
  bs : ∀ b o, base.get? b = some o → s.heap.get? b = some o ∧ H b = none
  bsz : base.objs.size ≤ s.heap.objs.size
  funs : s.heap.FunFrames base outer
  frf : ∀ b ∈ frs outer, H b = none
  hok : HOk P w H s.heap
  bare : AllBare s.gens
def CE (outer : List Env) (P : Program) (w : World) (H : Hp) (s : Shared) (Q : VK) (u : Value) (s' : Shared) : Prop :=
  ∃ v H', s'.os = s.os ∧ AllBare s'.gens ∧ Un (frs outer) [] H H' s.heap s'.heap ∧ HOk P w H' s'.heap ∧ RelV v u ∧ Q v H'
def CR (CX : CXT) (outer : List Env) (P : Program) (w : World) (H : Hp) (s : Shared) (Q : VK) (E : XK) (r : Result) (s' : Shared) : Prop :=
  match r with
  | .ok (.ret u) => CE outer P w H s Q u s'
  | .ok _ => False
  | .error e => CX outer H s E e s'
structure FnOk (P : Program) (w : World) (K : PySem.W.Frag) (mg : Str → Option Value) (base : Heap) (CX : CXT) (k : Nat) (f : Addr) (fd : FuncData) (ps : List Str) (sp : Sp) : Prop where
  len : ∀ vs H Q E, sp vs H Q E → vs.length = ps.length
  run : ∀ (A : Around) (outer : List Env) (s : Shared) (H : Hp) (args : Args) (us : List Value) (vs : List V) (Q : VK) (E : XK), Room k A → Env0 P w K mg base A outer s H → BindsTo s fd args (ps.zip us) → Vals vs us → sp vs H Q E →
    codeAny (model P w) A (.call (.ref f) args) (CR CX outer P w H s Q E) s

theorem Env0.make {P : Program} {w : World} {K : PySem.W.Frag} {mg : Str → Option Value} {base : Heap} {A : Around} {outer : List Env} {s : Shared} {H : Hp} (e : Env0 P w K mg base A outer s H) (C : Addr) (us : List Value) (kw : List (Str × Value)) :
    Env0 P w K mg base (A.under (.builtin "type.__call__" ⟨.ref C :: us, kw⟩)) outer s H := ⟨by first | exact e.frames | (simpa [Around.under, Code.envs, Code.isFrame, pushEnvs] using e.frames), e.mod, e.bs, e.bsz, e.funs, e.frf, e.hok, e.bare⟩
theorem Env0.in1 {P : Program} {w : World} {K : PySem.W.Frag} {mg : Str → Option Value} {base : Heap} {A : Around} {outer : List Env} {s : Shared} {H : Hp} (e : Env0 P w K mg base A outer s H) :
    Env0 P w K mg base A.in1 outer s H := ⟨e.frames, e.mod, e.bs, e.bsz, e.funs, e.frf, e.hok, e.bare⟩

section
variable {X : Cx} {pins : List (Addr × Obj)} {σ : St} {H : Hp} {s s' : Shared}
theorem Inv.env0 (I : Inv X pins σ H s) : Env0 X.prog X.w X.K X.mg X.base X.A X.stack s H :=
  ⟨I.ok.frames, I.ok.mod, I.bs, Nat.le_trans I.ok.bsz I.sz, I.stack, I.stkFree, I.hok, I.bare⟩
theorem Inv.after {Q : VK} {u : Value} (I : Inv X pins σ H s) (h : CE X.stack X.prog X.w H s Q u s') : EP X pins σ Q u s' := by
  obtain ⟨v, H', os, bare, un, hok, r, q⟩ := h
  obtain ⟨hh, g, d, t, os'⟩ := s'
  obtain rfl : os' = s.os := os
  exact ⟨v, H', I.call (h' := hh) (g' := g) (d' := d) (t' := t) (ch := []) un hok bare (fun b z => absurd z (by simp)), r, q⟩
end

/-! ### calls -/
def tCall (sp : Sp) (dvs : List V) (E : XK) (t : TA) : TE := fun σ H Q => t σ H fun vs H1 => sp (vs ++ dvs) H1 Q E
def tMeth (C : Addr) (m : Str) (sp : Sp) (dvs : List V) (E : XK) (ta : TE) (t : TA) : TE := fun σ H Q => ta σ H fun x H1 => ∃ a dx fs, x = .ref a ∧ H1 a = some (.ins C dx fs) ∧ fs.lookup m = none ∧
  t σ H1 fun vs H2 => sp (x :: (vs ++ dvs)) H2 Q E

def Binds (K : PySem.W.Frag) (fd : FuncData) (ps : List Str) (ds : List Value) : Prop :=
  ∀ (s : Shared) (us : List Value), K.In s.heap → (us ++ ds).length = ps.length → BindsTo s fd ⟨us, []⟩ (ps.zip (us ++ ds))
theorem Binds.all {K : PySem.W.Frag} {fd : FuncData} {ps : List Str} (h : ∀ us : List Value, us.length = ps.length → bindArgs fd ⟨us, []⟩ = pure (ps.zip us)) : Binds K fd ps [] := fun s us _ hl => by
  rw [List.append_nil] at hl ⊢
  exact .of_eq (h us hl)

def Passes (CX : CXT) (X : Cx) (E : XK) : Prop := ∀ (pins : List (Addr × Obj)) (σ : St) (H : Hp) (s : Shared) (e : Value) (s' : Shared), Inv X pins σ H s → CX X.stack H s E e s' → X.xe e s'

section
variable {X : Cx} {CX : CXT} {k : Nat} {f C : Addr} {fd : FuncData} {ps : List Str} {sp : Sp} {dvs : List V} {ds : List Value} {E : XK} {x m : Str} {p pos apos : Pos} {e o : Expr} {es : List Expr} {ta : TE} {t : TA}

theorem run_fn {pins : List (Addr × Obj)} {σ : St} {H : Hp} {s : Shared} {Q : VK} {us : List Value} {vs : List V} (F : FnOk X.prog X.w X.K X.mg X.base CX k f fd ps sp) (hr : Room k X.A) (hb : Binds X.K fd ps ds) (hd : Vals dvs ds) (hx : Passes CX X E)
    (I : Inv X pins σ H s) (r : Vals vs us) (h : sp (vs ++ dvs) H Q E) : wpAny (model X.prog X.w) X.A (call (.ref f) us) (EP X pins σ Q) X.xe s := by
  have r2 : Vals (vs ++ dvs) (us ++ ds) := r.append hd
  have hl : (us ++ ds).length = ps.length := by rw [← r2.length]; exact F.len _ _ _ _ h
  refine wpAny_call (codeAny_mono (F.run X.A X.stack s H ⟨us, []⟩ (us ++ ds) (vs ++ dvs) Q E hr I.env0 (hb s us I.kIn hl) r2 h) fun r s' hq => ?_)
  cases r with
  | error e => exact hx pins σ H s e s' I hq
  | ok fl =>
    cases fl with
    | ret u => exact I.after hq
    | next => exact False.elim hq
    | brk => exact False.elim hq
    | cont => exact False.elim hq

theorem pe_call (F : FnOk X.prog X.w X.K X.mg X.base CX k f fd ps sp) (hr : Room k X.A) (hg : Gl X x) (hm : X.mg x = some (.ref f)) (hk : PySem.W.keepIn X.K (.ref f) = true) (hb : Binds X.K fd ps ds) (hd : Vals dvs ds) (hx : Passes CX X E)
    (ha : PA X (e :: es) t) (hdb : (x == ("__debug__" : Str)) = false := by decide) (he : starEach (e :: es) X.env = (false, eval e X.env) :: starEach es X.env := by rfl) (hpl : (backTo pos (starEach es X.env)).any (·.1) = false := by rfl) :
    PE X (.Call (.Name x p) (e :: es) [] pos) (tCall sp dvs E t) := by
  intro pins s σ H Q I h
  refine wpAny_Call_Name_kw (ld_glob I hg hm ?_ hdb)
  refine PySem.W.callWith_K (h₀ := X.base) I.ok.mod.kin hk (thn (ha pos pins s σ H _ I h) fun us s1 ⟨vs, H1, I1, r, q⟩ => ⟨I1.kIn, ?_⟩) he hpl
  exact run_fn F hr hb hd hx I1 r q

theorem pe_meth {pl : Sem Bool} (he : PE X o ta) (c : Cls X.K C) (hm : Meth X.K C m f) (F : FnOk X.prog X.w X.K X.mg X.base CX k f fd ps sp) (hr : Room k X.A) (hb : Binds X.K fd ps ds) (hd : Vals dvs ds) (hx : Passes CX X E) (ha : PA X (e :: es) t)
    (hst : starEach (e :: es) X.env = (false, eval e X.env) :: starEach es X.env := by rfl) (hpl : (backTo pos (starEach es X.env)).any (·.1) = false := by rfl)
    (ht : eval (.Call (.Attribute o m apos) (e :: es) [] pos) X.env = (do
      let ov ← eval o X.env
      standAt apos.atName
      let (f, first) ← holding [ov] (getMethod ov m pl)
      callWith pos f first (backTo pos (starEach (e :: es) X.env)) (backToKw pos (keywordEach [] X.env))) := by rfl) :
    PE X (.Call (.Attribute o m apos) (e :: es) [] pos) (tMeth C m sp dvs E ta t) := by
  intro pins s σ H Q I h
  refine PySem.W.methodCall_KW (pl := pl) (thn (he pins s σ H _ I h) fun u s1 hh => ?_) ht
  obtain ⟨x, H1, I1, rx, a, dx, fs, ex, ea, l, q⟩ := hh
  subst ex
  obtain rfl : u = Value.ref a := rx
  refine getmeth_ok I1 ea c hm l ?_
  refine PySem.W.callWith_K (first := [.ref a]) (h₀ := X.base) I.ok.mod.kin hm.kp (thn (ha pos pins s1 σ H1 _ I1 q) fun us s2 ⟨vs, H2, I2, r, q2⟩ => ⟨I2.kIn, ?_⟩) hst hpl
  exact run_fn (us := .ref a :: us) (vs := .ref a :: vs) F hr hb hd hx I2 (.cons rfl r) q2

structure Mk (K : PySem.W.Frag) (C f : Addr) : Prop where
  makes : PySem.W.makesIn K C = true
  init : PySem.W.findIn K (.ref C) "__init__" = some (some (.ref f))
  fn : PySem.W.isFn K (.ref f) = true
  kp : PySem.W.keepIn K (.ref C) = true

end

/-! ### keywords -/
section
variable {X : Cx} {CX : CXT} {k : Nat} {f C : Addr} {fd : FuncData} {ps ks : List Str} {sp : Sp} {E : XK} {x m : Str} {p pos apos kpos : Pos} {e o : Expr} {es : List Expr} {kws : List Keyword} {te ta : TE} {t tk : TA} {nm : Option Str}

structure KBinds (K : PySem.W.Frag) (fd : FuncData) (ps ks : List Str) (g : List Value → List Value → List Value) (gV : List V → List V → List V) : Prop where
  to : ∀ (s : Shared) (us ws : List Value), K.In s.heap → (g us ws).length = ps.length → BindsTo s fd ⟨us, ks.zip ws⟩ (ps.zip (g us ws))
  rel : ∀ {vs : List V} {us : List Value} {zs : List V} {ws : List Value}, Vals vs us → Vals zs ws → Vals (gV vs zs) (g us ws)
variable {g : List Value → List Value → List Value} {gV : List V → List V → List V}
end

/-! ### a def's body keeps its promise -/
structure FnScope (N P : List Str) (sc : Scope) : Prop where
  kind : sc.kind = .function
  co : sc.isCoroutine = false
  gen : sc.isGenerator = false
  nd : N.Nodup
  pre : N.take P.length = P
  par : ∀ x ∈ P, sc.names.lookup x = some .local ∨ sc.names.lookup x = some .cell
  nofree : ∀ y ∈ sc.names, y.2 ≠ .free

theorem bindL_out {kindOf : Str → Option NameKind} {x : Str} : ∀ {binds : List (Str × Value)} {m : Str → Option Value}, (∀ v, (x, v) ∉ binds) → bindL kindOf binds m x = m x
  | [], _, _ => rfl
  | (n, v) :: r, m, h => by
    unfold bindL
    rw [bindL_out fun w hw => h w (List.mem_cons_of_mem _ hw)]
    split
    · have : x ≠ n := by rintro rfl; exact h v List.mem_cons_self
      simp [this]
    · rfl
theorem bindC_out {kindOf : Str → Option NameKind} {x : Str} : ∀ {binds : List (Str × Value)} {m : Str → Option Value}, (∀ v, (x, v) ∉ binds) → bindC kindOf binds m x = m x
  | [], _, _ => rfl
  | (n, v) :: r, m, h => by
    unfold bindC
    rw [bindC_out fun w hw => h w (List.mem_cons_of_mem _ hw)]
    split
    · rfl
    · have : x ≠ n := by rintro rfl; exact h v List.mem_cons_self
      simp [this]
theorem bindL_get {kindOf : Str → Option NameKind} {x : Str} {v : Value} : ∀ {P : List Str} {vs : List Value} {i : Nat} {m : Str → Option Value}, P.Nodup → P[i]? = some x → vs[i]? = some v → kindOf x = some .local →
    bindL kindOf (P.zip vs) m x = some v
  | [], _, _, _, _, h, _, _ => by simp at h
  | _ :: _, [], _, _, _, _, h, _ => by simp at h
  | p :: P, w :: vs, 0, m, nd, h1, h2, hk => by
    simp at h1 h2; subst h1; subst h2
    show bindL kindOf ((p, w) :: P.zip vs) m p = _
    unfold bindL
    rw [bindL_out fun v hv => (List.nodup_cons.mp nd).1 (List.of_mem_zip hv).1, if_pos hk]
    simp
  | p :: P, w :: vs, i + 1, m, nd, h1, h2, hk => by
    show bindL kindOf ((p, w) :: P.zip vs) m x = _
    unfold bindL
    exact bindL_get (i := i) (List.nodup_cons.mp nd).2 (by simpa using h1) (by simpa using h2) hk
theorem bindC_get {kindOf : Str → Option NameKind} {x : Str} {v : Value} : ∀ {P : List Str} {vs : List Value} {i : Nat} {m : Str → Option Value}, P.Nodup → P[i]? = some x → vs[i]? = some v → kindOf x ≠ some .local →
    bindC kindOf (P.zip vs) m x = some v
  | [], _, _, _, _, h, _, _ => by simp at h
  | _ :: _, [], _, _, _, _, h, _ => by simp at h
  | p :: P, w :: vs, 0, m, nd, h1, h2, hk => by
    simp at h1 h2; subst h1; subst h2
    show bindC kindOf ((p, w) :: P.zip vs) m p = _
    unfold bindC
    rw [bindC_out fun v hv => (List.nodup_cons.mp nd).1 (List.of_mem_zip hv).1, if_neg hk]
    simp
  | p :: P, w :: vs, i + 1, m, nd, h1, h2, hk => by
    show bindC kindOf ((p, w) :: P.zip vs) m x = _
    unfold bindC
    exact bindC_get (i := i) (List.nodup_cons.mp nd).2 (by simpa using h1) (by simpa using h2) hk

def start (N : List Str) (vs : List V) : St := vs.map some ++ List.replicate (N.length - vs.length) none

def cxOf (CX : CXT) (P : Program) (w : World) (K : PySem.W.Frag) (mg : Str → Option Value) (base : Heap) (N : List Str) (qual : Str) (scope : Scope) (f : Addr) (cd : Value) (A : Around) (outer : List Env) (s : Shared) (H : Hp) (E : XK) : Cx where
  prog := P
  w := w
  K := K
  mg := mg
  base := base
  A := A.deeper (envOfC qual scope s.heap.objs.size f cd)
  N := N
  s₀ := s
  H₀ := H
  env := envOfC qual scope s.heap.objs.size f cd
  outer := outer
  stack := envOfC qual scope s.heap.objs.size f cd :: outer
  ex := []
  calm := true
  fn := fun _ => true
  pn := []
  xe := fun e s' => wpAny (model P w) (A.deeper (envOfC qual scope s.heap.objs.size f cd)) (leaving (envOfC qual scope s.heap.objs.size f cd) e) (fun _ s'' => CX outer H s E e s'') (fun e' s'' => CX outer H s E e' s'') s'

theorem cell_has {sc : Scope} {n : Nat} {x : Str} (h : sc.names.lookup x = some .cell) : ∃ c, (cellsFrom n sc.names []).lookup x = some c := by
  have q := PySem.W.cellsFrom_some sc.names n [] (.inl h)
  exact Option.isSome_iff_exists.mp q

theorem inv_start {CX : CXT} {P : Program} {w : World} {K : PySem.W.Frag} {mg : Str → Option Value} {base : Heap} {N ps : List Str} {qual : Str} {scope : Scope} {f : Addr} {cd : Value} {A : Around} {outer : List Env} {s s1 : Shared} {H : Hp} {E : XK} {us : List Value} {vs : List V}
    (S : FnScope N ps scope) (hd : A.handled = none) (e0 : Env0 P w K mg base A outer s H) (hl : vs.length = ps.length) (r : Vals vs us)
    (x : InCallC s s.heap.objs.size (bindL (envOfC qual scope s.heap.objs.size f cd).kindOf (ps.zip us) fun _ => none) (cellsFrom (s.heap.objs.size + 1) scope.names []) (bindC (envOfC qual scope s.heap.objs.size f cd).kindOf (ps.zip us) fun _ => none) s1) :
    Inv (cxOf CX P w K mg base N qual scope f cd A outer s H E) [] (start N vs) H s1 := by
  have hpl : ps.length ≤ N.length := by have := congrArg List.length S.pre; rw [List.length_take] at this; omega
  obtain ⟨h1, tk, rfl, hk⟩ := x.done
  have noA : ∀ b : Addr, b ∉ (cxOf CX P w K mg base N qual scope f cd A outer s H E).ex := fun b z => absurd (show b ∈ ([] : List Addr) from z) (by simp)
  refine ⟨⟨e0.mod, S.kind, rfl, rfl, Nat.le_refl _, fun y z c h1 h2 => ?_, fun y hy => ?_, fun y c _ h => ?_, fun _ => hd, Around.frames_deeper e0.frames, .inr ⟨rfl, rfl⟩, fun b z => absurd z (noA b), e0.bs, e0.bsz, fun b _ _ => noA b, fun b z => absurd z (noA b), e0.funs, e0.frf⟩,
    rfl, e0.bare, Un.kept hk, ⟨_, x.toInCall.ns, fun i y v h1 h2 h3 => ?_⟩, fun y c h => ⟨_, x.cell y c h⟩, e0.hok.fresh (Nat.le_refl _), fun y c h => ?_, fun p hp => absurd (show p ∈ ([] : List (Addr × Obj)) from hp) (by simp), e0.hok.kept hk, ?_⟩
  · exact name_of_addr x.apart (PySem.mem_of_lookup h1) (PySem.mem_of_lookup h2)
  · have hy : scope.names.lookup y = some .cell ∨ scope.names.lookup y = some .free := hy
    rcases hy with hy | hy
    · exact cell_has hy
    · exact absurd rfl (S.nofree _ (PySem.mem_of_lookup hy))
  · exact Nat.le_of_lt (x.above y c (PySem.mem_of_lookup h))
  · have hi : i < vs.length := by
      unfold start at h2
      by_cases hi : i < vs.length
      · exact hi
      · rw [List.getElem?_append_right (by simpa using hi)] at h2
        rw [List.getElem?_replicate] at h2
        split at h2 <;> cases h2
    have ha : vs[i]? = some v := by
      unfold start at h2
      rw [List.getElem?_append_left (by simpa using hi), List.getElem?_map] at h2
      cases e : vs[i]? with
      | none => rw [e] at h2; cases h2
      | some a => rw [e] at h2; cases h2; rfl
    obtain ⟨u, hu, rv⟩ := r.get ha
    have hp : ps[i]? = some y := by
      rw [← S.pre, List.getElem?_take_of_lt (by omega)]; exact h1
    have ndP : ps.Nodup := by rw [← S.pre]; exact S.nd.sublist (List.take_sublist _ _)
    refine ⟨u, rv, ?_⟩
    rcases S.par y (List.mem_of_getElem? hp) with k | k
    · exact .inl ⟨k, bindL_get ndP hp hu k⟩
    · obtain ⟨c, e⟩ := cell_has (n := s.heap.objs.size + 1) k
      refine .inr ⟨.inl k, c, e, ?_⟩
      have q := x.cell y c e
      rw [bindC_get ndP hp hu (by show scope.names.lookup y ≠ _; rw [k]; decide)] at q
      exact q
  · exact e0.hok.fresh (Nat.le_of_lt (x.above y c (PySem.mem_of_lookup h)))
  · unfold start
    show _ = N.length
    rw [List.length_append, List.length_map, List.length_replicate]
    omega

theorem fn_of {CX : CXT} {P : Program} {w : World} {K : PySem.W.Frag} {mg : Str → Option Value} {base : Heap} {k : Nat} {f : Addr} {name qual : Str} {params : Arguments} {body : List Stmt} {scope : Scope} {dV kV doc pm cdv ct oc : Value} {an od : Option Addr}
    {osl : Array (Option Value)} {N ps : List Str} {sp : Sp} (lk : K.lookup f = some ⟨oc, od, .func (PySem.W.fnOf name qual params body scope dV kV doc pm an cdv ct), osl⟩) (hcd : PySem.W.codeIn K cdv qual = true) (S : FnScope N ps scope)
    (len : ∀ vs H Q E, sp vs H Q E → vs.length = ps.length)
    (hbody : ∀ (A : Around) (outer : List Env) (s : Shared) (H : Hp) (vs : List V) (Q : VK) (E : XK), Room k (A.deeper (envOfC qual scope s.heap.objs.size f cdv)) → sp vs H Q E →
      ∃ t, PSs (cxOf CX P w K mg base N qual scope f cdv A outer s H E) body t ∧ t { nx := fun _ H' => Q .non H', rt := Q } (start N vs) H) :
    FnOk P w K mg base CX (k + 1) f (PySem.W.fnOf name qual params body scope dV kV doc pm an cdv ct) ps sp := by
  refine ⟨len, fun A outer s H args us vs Q E hr e0 hb r hsp => ?_⟩
  have hl := len _ _ _ _ hsp
  have KX : K.In s.heap := e0.mod.kin.keeps fun b o e => (e0.bs b o e).1
  have lim : s.heap.NoLimit := e0.mod.nolimit.keeps fun b o e => (e0.bs b o e).1
  have hkind : ∀ y ∈ ps.zip us, scope.names.lookup y.1 = some .local ∨ (scope.names.lookup y.1 = some .cell ∧ ((cellsFrom (s.heap.objs.size + 1) scope.names []).lookup y.1).isSome = true) := fun ⟨n, v⟩ hy => by
    rcases S.par n (List.of_mem_zip hy).1 with q | q
    · exact .inl q
    · exact .inr ⟨q, PySem.W.cellsFrom_some _ _ _ (.inl q)⟩
  refine codeAny_call_function hr.depth (KX _ _ lk) rfl S.co S.gen rfl (PySem.W.codeRec_of KX hcd) (hb _ _ _ _ ?_)
  refine wpAny_newFunctionEnv_cells S.kind hkind fun env he s1 x => ?_
  subst he
  refine ⟨lim.keeps x.toInCall.keep, codeAny_func ?_⟩
  obtain ⟨t, ht, hq⟩ := hbody A outer s H vs Q E (hr.deeper _) hsp
  have I : Inv (cxOf CX P w K mg base N qual scope f cdv A outer s H E) [] (start N vs) H s1 := inv_start S hr.hd e0 hl r x
  refine wpAny_mono (ht [] s1 (start N vs) H _ I hq) (fun fl s' hs => ?_) fun e s' hs => hs
  have fin : ∀ {σ' : St} {H' : Hp} {v : V} {u : Value}, Inv (cxOf CX P w K mg base N qual scope f cdv A outer s H E) [] σ' H' s' → RelV v u → Q v H' → CE outer P w H s Q u s' :=
    fun {σ' H' v u} J rv q => ⟨v, H', J.os, J.bare, J.base, J.hok, rv, q⟩
  cases fl with
  | ret u =>
    obtain ⟨v, σ', H', J, rv, q⟩ := hs
    exact fin J rv q
  | next =>
    obtain ⟨σ', H', J, q⟩ := hs
    exact fin (v := V.non) (u := Value.none) J rfl q
  | brk =>
    obtain ⟨_, _, _, q⟩ := hs
    exact False.elim q
  | cont =>
    obtain ⟨_, _, _, q⟩ := hs
    exact False.elim q
end L2

namespace L2
open PySem PySem.Spec PyProof.Rows
section
variable {X : Cx} {x : Str} {p pos : Pos} {e : Expr} {es : List Expr} {t : TA} {id T : String} {r : List V → Hp → VK → Prop}

def tCB (r : List V → Hp → VK → Prop) (t : TA) : TE := fun σ H Q => t σ H fun vs H1 => r vs H1 Q
theorem pe_callB (hc : CallR X (.builtin id) r) (hg : Gl X x) (hm : X.mg x = none) (hv : bootBuiltins x = some (.builtin id)) (ha : PA X (e :: es) t) (hn : x ≠ "__name__" := by decide) (hdb : (x == ("__debug__" : Str)) = false := by decide)
    (he : starEach (e :: es) X.env = (false, eval e X.env) :: starEach es X.env := by rfl) (hpl : (backTo pos (starEach es X.env)).any (·.1) = false := by rfl) : PE X (.Call (.Name x p) (e :: es) [] pos) (tCB r t) := by
  intro pins s σ H Q I h
  refine wpAny_Call_Name_kw (ld_blt I hg hm hv ?_ hn hdb)
  exact PyProof.Rows.callWith_builtin1 (thn (ha pos pins s σ H _ I h) fun us s1 ⟨vs, H1, I1, r1, q1⟩ => hc pins s1 σ H1 vs us Q I1 r1 q1) he hpl
theorem pe_callTy (hc : CallR X (.type T) r) (hg : Gl X x) (hm : X.mg x = none) (hv : bootBuiltins x = some (.type T)) (ha : PA X (e :: es) t) (hn : x ≠ "__name__" := by decide) (hdb : (x == ("__debug__" : Str)) = false := by decide)
    (he : starEach (e :: es) X.env = (false, eval e X.env) :: starEach es X.env := by rfl) (hpl : (backTo pos (starEach es X.env)).any (·.1) = false := by rfl) : PE X (.Call (.Name x p) (e :: es) [] pos) (tCB r t) := by
  intro pins s σ H Q I h
  refine wpAny_Call_Name_kw (ld_blt I hg hm hv ?_ hn hdb)
  exact PyProof.Rows.callWith_type1 (thn (ha pos pins s σ H _ I h) fun us s1 ⟨vs, H1, I1, r1, q1⟩ => hc pins s1 σ H1 vs us Q I1 r1 q1) he hpl
end
end L2

namespace HT
open PySem PyProof.Rows



section
open PySem.SeqAt
open PySem.AutoSeq1 (wpAny_loadPart')
open PySem.MeetsSeq PySem.MeetsSeq2 PySem.MeetsSeq3

end

section
variable {prog : Program} {w : World} {A : Around} {E : Value → Shared → Prop} {s : Shared}



/-! ### t[a:b], not the whole -/
def sIx (n d : Nat) : Option Int → Nat
  | none => d
  | some v => if v < 0 then (v + (n : Int)).toNat else min v.toNat n
theorem sIx_none (n d : Nat) : sIx n d none = d := rfl
theorem sIx_nat (n d k : Nat) : sIx n d (some (k : Int)) = min k n := by
  show (if (k : Int) < 0 then ((k : Int) + (n : Int)).toNat else min (k : Int).toNat n) = min k n
  rw [if_neg (by omega), Int.toNat_natCast]

end
end HT

namespace L2
open PySem PySem.Spec PyProof.Rows

/-! ### the parts of a slice -/
abbrev TO := St → Hp → (Option Int → Hp → Prop) → Prop
def PO (X : Cx) (e : Option Expr) (t : TO) : Prop :=
  ∀ (pins : List (Addr × Obj)) (s : Shared) (σ : St) (H : Hp) (Q : Option Int → Hp → Prop), Inv X pins σ H s → t σ H Q →
    wpAny (model X.prog X.w) X.A (evalPart e X.env) (fun u s' => ∃ o H', Inv X pins σ H' s' ∧ IsPart u o ∧ Q o H') X.xe s
def tNoPart : TO := fun _ H Q => Q none H
def tPart (t : TE) : TO := fun σ H Q => t σ H fun x H1 => ∃ i, x = .int i ∧ Q (some i) H1


section
variable {X : Cx} {e : Expr} {te : TE} {lo hi : Option Expr} {tl th : TO} {pos p2 : Pos}

theorem po_none : PO X none tNoPart := by
  intro pins s σ H Q I h
  rw [evalPart_none]
  exact wpAny_pure ⟨none, H, I, .none, h⟩
theorem po_some (h : PE X e te) : PO X (some e) (tPart te) := by
  intro pins s σ H Q I hw
  rw [evalPart_some]
  refine thn (h pins s σ H _ I hw) fun u s1 ⟨x, H1, I1, r1, q1⟩ => ?_
  obtain ⟨i, rfl, q⟩ := q1
  obtain ⟨t, rfl⟩ := r1
  exact ⟨some i, H1, I1, .int i t, q⟩

def SlR (X : Cx) (r : V → Option Int → Option Int → Hp → VK → Prop) : Prop :=
  ∀ (pins : List (Addr × Obj)) (s : Shared) (σ : St) (H : Hp) (x : V) (v vl vu : Value) (lo hi : Option Int) (sl : Addr) (Q : VK), Inv X pins σ H s → RelV x v → s.heap.IsSliceOf sl vl vu .none → IsPart vl lo → IsPart vu hi → r x lo hi H Q →
    ∃ T id, typeLookup (.type T) "__getitem__" = pure (some (.builtin id)) ∧ s.TypeIs v T ∧ wpAny (model X.prog X.w) X.A (getItem v (.ref sl)) (EP X pins σ Q) X.xe s
def tSl (r : V → Option Int → Option Int → Hp → VK → Prop) (te : TE) (tl th : TO) : TE := fun σ H Q => te σ H fun x H1 => tl σ H1 fun l H2 => th σ H2 fun u H3 => r x l u H3 Q
theorem pe_slice {r : V → Option Int → Option Int → Hp → VK → Prop} (hr : SlR X r) (he : PE X e te) (hl : PO X lo tl) (hu : PO X hi th) : PE X (.Subscript e (.Slice lo hi none p2) pos) (tSl r te tl th) := by
  intro pins s σ H Q I h
  refine Subscript_ (thn (he pins s σ H _ I h) fun v s1 hh => ?_)
  obtain ⟨x, H1, I1, r1, q1⟩ := hh
  refine wpAny_Slice (thn (hl pins s1 σ H1 _ I1 q1) fun vl s2 ⟨l, H2, I2, pl, q2⟩ => thn (hu pins s2 σ H2 _ I2 q2) fun vu s3 hh => ?_)
  obtain ⟨u, H3, I3, pu, q3⟩ := hh
  rw [evalPart_none]
  refine wpAny_pure ?_
  have I4 : Inv X pins σ H3 { s3 with heap := s3.heap.push { cls := .type "slice", data := .fields #[vl, vu, .none] } } := I3.kept (t' := s3.toks) fun b ob q => Heap.get?_push_of_some _ q
  obtain ⟨T, id, hT, ht, hg⟩ := hr pins { s3 with heap := s3.heap.push { cls := .type "slice", data := .fields #[vl, vu, .none] } } σ H3 x v vl vu l u s3.heap.objs.size Q I4 r1 (Heap.IsSliceOf.new ..) pl pu q3
  show wpAny (model X.prog X.w) X.A (subscriptTail e (.Slice lo hi none p2) v (.ref s3.heap.objs.size)) (EP X pins σ Q) X.xe { s3 with heap := s3.heap.push { cls := .type "slice", data := .fields #[vl, vu, .none] } }
  exact tail_any (ops := [.ref s3.heap.objs.size, v]) ht hT hg (by with_unfolding_all rfl)

def cutV (xs : List V) (lo hi : Option Int) : List V := (xs.drop (HT.sIx xs.length 0 lo)).take (HT.sIx xs.length xs.length hi - HT.sIx xs.length 0 lo)
theorem cutV_length (xs : List V) (lo hi : Option Int) : (cutV xs lo hi).length ≤ xs.length := by
  unfold cutV
  rw [List.length_take, List.length_drop]
  omega

/-! ### t < u, t + u -/
end
end L2

namespace L2
open PySem PySem.Spec PyProof.Rows

/-! ### places -/
def ixN (n : Nat) (i : Int) : Option Nat := if 0 ≤ i then (if i < n then some i.toNat else none) else if -(n : Int) ≤ i then some (i + n).toNat else none
def atI {α : Type} (xs : List α) (i : Int) : Option α := (ixN xs.length i).bind fun j => xs[j]?
theorem ixN_seq {n : Nat} {i : Int} {j : Nat} (h : ixN n i = some j) : seqIndex? i n = some j ∧ j < n ∧ -(n : Int) ≤ i ∧ i < n := by
  unfold ixN at h
  by_cases h0 : 0 ≤ i
  · rw [if_pos h0] at h
    by_cases h1 : i < n
    · rw [if_pos h1] at h
      have e : i.toNat = j := Option.some.inj h
      exact ⟨by rw [seqIndex_of h0 h1, e], by omega, by omega, h1⟩
    · rw [if_neg h1] at h; cases h
  · rw [if_neg h0] at h
    by_cases h1 : -(n : Int) ≤ i
    · rw [if_pos h1] at h
      have e : (i + n).toNat = j := Option.some.inj h
      exact ⟨by rw [seqIndex_neg (by omega) h1, e], by omega, h1, by omega⟩
    · rw [if_neg h1] at h; cases h
theorem atI_get {α : Type} {xs : List α} {i : Int} {v : α} (h : atI xs i = some v) : ∃ j, seqIndex? i xs.length = some j ∧ xs[j]? = some v ∧ j < xs.length ∧ -(xs.length : Int) ≤ i ∧ i < xs.length := by
  unfold atI at h
  cases e : ixN xs.length i with
  | none => rw [e] at h; cases h
  | some j =>
    rw [e] at h
    obtain ⟨h1, h2, h3, h4⟩ := ixN_seq e
    exact ⟨j, h1, h, h2, h3, h4⟩
theorem atI_nat {α : Type} {xs : List α} {j : Nat} {v : α} (h : xs[j]? = some v) : atI xs (j : Int) = some v := by
  have hj : j < xs.length := (List.getElem?_eq_some_iff.mp h).1
  have e : ixN xs.length (j : Int) = some j := by
    unfold ixN
    rw [if_pos (by omega), if_pos (by omega)]; simp
  unfold atI; rw [e]; exact h

/-! ### what may be subscripted -/
def PlainIx (b : Expr) : Prop := ∀ o i, subscripted b false o i = operate [o, i] (getItem o i)
def IxR (X : Cx) (r : R2) : Prop :=
  ∀ (value slice : Expr) (pins : List (Addr × Obj)) (s : Shared) (σ : St) (H : Hp) (x y : V) (v u : Value) (Q : VK), Inv X pins σ H s → RelV x v → RelV y u → r x y H Q →
    subscripted slice false v u = operate [v, u] (getItem v u) → wpAny (model X.prog X.w) X.A (subscriptTail value slice v u) (EP X pins σ Q) X.xe s
def MtR (X : Cx) (id : String) (r : V → List V → Hp → VK → Prop) : Prop :=
  ∀ (pins : List (Addr × Obj)) (s : Shared) (σ : St) (H : Hp) (x : V) (xs : List V) (v : Value) (us : List Value) (Q : VK), Inv X pins σ H s → RelV x v → Vals xs us → r x xs H Q →
    wpAny (model X.prog X.w) X.A (call (.builtin id) (v :: us)) (EP X pins σ Q) X.xe s
section
variable {X : Cx} {a b : Expr} {ta tb : TE} {pos : Pos}
theorem pe_ix {r : R2} (hr : IxR X r) (ha : PE X a ta) (hb : PE X b tb) (hs : PlainIx b) : PE X (.Subscript a b pos) (tOp r ta tb) := by
  intro pins s σ H Q I h
  exact Subscript_ (binT ha hb I h fun v u s2 x y H2 I2 rx ry q => hr a b pins s2 σ H2 x y v u Q I2 rx ry q (hs _ _))

def rIxL (K : PySem.W.Frag) : R2 := fun x y H Q => ∃ p xs i v, x = .ref p ∧ y = .int i ∧ SqL K H p xs ∧ atI xs i = some v ∧ Q v H
def rIxT (K : PySem.W.Frag) : R2 := fun x y H Q => ∃ p xs i v, x = .ref p ∧ y = .int i ∧ SqT K H p xs ∧ atI xs i = some v ∧ Q v H
theorem ix_list : IxR X (rIxL X.K) := by
  intro value slice pins s σ H x y v u Q I rx ry h hs
  obtain ⟨p, xs, i, z, rfl, rfl, hq, he, q⟩ := h
  cases rx
  obtain ⟨t, rfl⟩ := ry
  obtain ⟨its, r, pl, hz⟩ := I.list hq
  obtain ⟨j, h1, h2, h3, h4, h5⟩ := atI_get he
  obtain ⟨w, ew, rw'⟩ := r.get h2
  have hl := r.length
  have hn := line63
  have fin : EP X pins σ Q w s := ⟨z, H, I, rw', q⟩
  by_cases h0 : 0 ≤ i
  · have hj : i.toNat = j := by
      rw [seqIndex_of h0 h5] at h1
      exact Option.some.inj h1
    exact item_listR pl.isList h0 (by omega) (by rw [hj]; simpa using ew) fin hs
  · have hj : (i + (its.toArray.size : Int)).toNat = j := by
      rw [seqIndex_neg (by omega) h4] at h1
      rw [List.size_toArray, ← hl]
      exact Option.some.inj h1
    exact subscriptTail_builtinR (x := w) pl.isList.typeIs slot_list_getitem.lookup
      (wpAny_getItem_list_neg (Q := fun r s' => r = w ∧ EP X pins σ Q r s') pl.isList (by omega) (by rw [List.size_toArray] <;> omega) (by omega) (by rw [hj]; simpa using ew) ⟨rfl, fin⟩) hs
theorem ix_tup : IxR X (rIxT X.K) := by
  intro value slice pins s σ H x y v u Q I rx ry h hs
  obtain ⟨p, xs, i, z, rfl, rfl, hq, he, q⟩ := h
  cases rx
  obtain ⟨t, rfl⟩ := ry
  obtain ⟨its, r, pl, hz⟩ := I.tuple hq
  obtain ⟨j, h1, h2, h3, h4, h5⟩ := atI_get he
  obtain ⟨w, ew, rw'⟩ := r.get h2
  have hl := r.length
  have hn := line63
  have fin : EP X pins σ Q w s := ⟨z, H, I, rw', q⟩
  exact subscriptTail_builtinR (x := w) pl.typeIs slot_tuple_getitem.lookup
    (getItem_tuple (j := j) (Q := fun r s' => r = w ∧ EP X pins σ Q r s') pl (by omega) (by omega) (by rw [List.size_toArray, ← hl]; exact h1) (by simpa using ew) ⟨rfl, fin⟩) hs

/-! ### xs[i] = v, any sign -/
theorem mapSeq_set (its : List Value) (n j : Nat) (u : Value) : Obj.mapSeq (·.setIfInBounds j u) { cls := .type "list", data := .seq its.toArray n } = { cls := .type "list", data := .seq (its.set j u).toArray n } := by
  simp [Obj.mapSeq]
theorem Inv.lst {pins : List (Addr × Obj)} {σ : St} {H : Hp} {s : Shared} {p : Addr} {xs : List V} (I : Inv X pins σ H s) (h : H p = some (.lst xs)) :
    ∃ (its : List Value) (n : Nat), Vals xs its ∧ s.heap.get? p = some { cls := .type "list", data := .seq its.toArray n } ∧ xs.length ≤ sizeLine := by
  obtain ⟨z, its, n, r, e⟩ := I.hok p _ h
  exact ⟨its, n, r, e, z⟩
theorem Inv.lstUpd {pins : List (Addr × Obj)} {σ : St} {H : Hp} {s : Shared} {p : Addr} {xs ys : List V} {its its' : List Value} {n n' : Nat} {f : Obj → Obj} (I : Inv X pins σ H s) (h : H p = some (.lst xs))
    (ho : s.heap.get? p = some { cls := .type "list", data := .seq its.toArray n }) (hf : f { cls := .type "list", data := .seq its.toArray n } = { cls := .type "list", data := .seq its'.toArray n' }) (r : Vals ys its') (hz : ys.length ≤ sizeLine) (t : Nat) :
    Inv X pins σ (upd H p (.lst ys)) { s with heap := s.heap.update p f, toks := t } := by
  have e : (s.heap.update p f).get? p = some { cls := .type "list", data := .seq its'.toArray n' } := by
    rw [Heap.get?_update_self f ho (by rw [hf] <;> rfl), hf]
  refine I.write (x := p) (e := p) (by rw [h]; trivial) (.inl rfl) (fun b u hb q => (Heap.get?_update_other _ _ (Ne.symm hb)).trans q) ⟨_, e⟩ ?_
  exact ⟨hz, its', n', r, e⟩
def rSetL : V → V → V → Hp → (Hp → Prop) → Prop := fun o i v H Q => ∃ p xs k j, o = .ref p ∧ i = .int k ∧ H p = some (.lst xs) ∧ ixN xs.length k = some j ∧ Q (upd H p (.lst (xs.set j v)))
theorem set_list : PSet X rSetL := by
  intro pins s σ H o i v ov iv u Q I ro ri rv h
  obtain ⟨p, xs, k, j, rfl, rfl, hp, hj, q⟩ := h
  cases ro
  obtain ⟨t, rfl⟩ := ri
  obtain ⟨its, n, r, ho, hz⟩ := I.lst hp
  obtain ⟨h1, h2, h3, h4⟩ := ixN_seq hj
  have hl := r.length
  have hn := line63
  have I' : Inv X pins σ (upd H p (.lst (xs.set j v))) { s with heap := s.heap.update p (Obj.mapSeq (·.setIfInBounds j u)) } :=
    I.lstUpd hp ho (mapSeq_set its n j u) (r.set rv j) (by rw [List.length_set]; exact hz) s.toks
  by_cases h0 : 0 ≤ k
  · have hk : k.toNat = j := by
      rw [seqIndex_of h0 h4] at h1
      exact Option.some.inj h1
    exact PySem.W.ki_setAt ho h0 (by omega) (by rw [List.size_toArray, ← hl]; exact h4) (by rw [hk]; exact ⟨_, I', q⟩)
  · have hk : (k + (its.toArray.size : Int)).toNat = j := by
      rw [seqIndex_neg (by omega) h3] at h1
      rw [List.size_toArray, ← hl]
      exact Option.some.inj h1
    exact PySem.W.ki_setBack ho (by omega) (by rw [List.size_toArray, ← hl]; exact h3) (by omega) (by rw [hk]; exact ⟨_, I', q⟩)

/-! ### slices -/
theorem slice_bounds (lo hi : Option Int) (n : Nat) : (sliceBounds lo hi none n).1 = ((HT.sIx n 0 lo : Nat) : Int) ∧ (sliceBounds lo hi none n).2.1 = ((HT.sIx n n hi : Nat) : Int) ∧ (sliceBounds lo hi none n).2.2 = 1 := by
  refine ⟨?_, ?_, rfl⟩
  · cases lo with
    | none => simp [sliceBounds, HT.sIx]
    | some i =>
      simp only [sliceBounds, HT.sIx, Option.getD_none, show (1 : Int) > 0 by decide, if_true]
      by_cases h : i < 0
      · simp only [h, if_true] <;> omega
      · simp only [h, if_false] <;> omega
  · cases hi with
    | none => simp [sliceBounds, HT.sIx]
    | some i =>
      simp only [sliceBounds, HT.sIx, Option.getD_none, show (1 : Int) > 0 by decide, if_true]
      by_cases h : i < 0
      · simp only [h, if_true] <;> omega
      · simp only [h, if_false] <;> omega
theorem slicePick_cut (its : List Value) (lo hi : Option Int) : slicePick its.toArray lo hi none = ((its.drop (HT.sIx its.length 0 lo)).take (HT.sIx its.length its.length hi - HT.sIx its.length 0 lo)).toArray := by
  obtain ⟨h1, h2, h3⟩ := slice_bounds lo hi its.toArray.size
  unfold slicePick
  rw [h1, h2, h3]
  simp only [sliceRange_one, pick_run, List.size_toArray] <;> rfl
def rSlL (K : PySem.W.Frag) : V → Option Int → Option Int → Hp → VK → Prop := fun x lo hi H Q => ∃ a xs, x = .ref a ∧ SqL K H a xs ∧ ∀ p, H p = none → Q (.ref p) (upd H p (.lst (cutV xs lo hi)))
theorem sl_list : SlR X (rSlL X.K) := by
  intro pins s σ H x v vl vu lo hi sl Q I rx hs pl pu h
  obtain ⟨a, xs, rfl, hx, q⟩ := h
  cases rx
  obtain ⟨its, r, ht, hz⟩ := I.list hx
  have hlen := r.length
  refine ⟨"list", _, slot_list_getitem.lookup, ht.isList.typeIs, ?_⟩
  refine wpAny_getItem_list_slice ht.isList hs pl pu .none (by simp) ?_ (by rw [List.size_toArray] <;> omega)
  rw [slicePick_cut, ← hlen]
  refine ⟨.ref s.heap.objs.size, _, I.laid (t' := s.toks) (o := .lst (cutV xs lo hi)) (fun b ob q => Heap.get?_push_of_some _ q) (Nat.le_refl _) ?_, rfl, q _ (I.hok.fresh (Nat.le_refl _))⟩
  exact ⟨Nat.le_trans (cutV_length xs lo hi) hz, _, 0, (r.drop (HT.sIx xs.length 0 lo)).take (HT.sIx xs.length xs.length hi - HT.sIx xs.length 0 lo), Heap.get?_push_size _ rfl⟩

/-! ### in, not in: flat items -/
def flatV : V → Bool
  | .non => true
  | .bl _ => true
  | .int _ => true
  | .str _ => true
  | _ => false
def eqV : V → V → Bool
  | .non, .non => true
  | .bl a, .bl b => a == b
  | .bl a, .int b => (if a then 1 else 0) == b
  | .int a, .bl b => a == (if b then 1 else 0)
  | .int a, .int b => a == b
  | .str a, .str b => a == b
  | _, _ => false
theorem eqAt_V {A : Around} {s : Shared} {y x : V} {u v : Value} (ry : RelV y u) (rx : RelV x v) (fy : flatV y = true) (fx : flatV x = true) : SeqAt.EqAt A s u v (eqV y x) := by
  cases y with
  | non =>
    cases ry
    cases x with
    | non => cases rx; exact SeqAt.EqAt.same _
    | bl b => cases rx; exact SeqAt.EqAt.none_bool b
    | int b => obtain ⟨t, rfl⟩ := rx; exact SeqAt.EqAt.none_int b t
    | str b => obtain ⟨t, rfl⟩ := rx; exact SeqAt.EqAt.none_str b t
    | _ => exact absurd (show false = true from fx) Bool.false_ne_true
  | bl a =>
    cases ry
    cases x with
    | non => cases rx; exact SeqAt.EqAt.bool_none a
    | bl b => cases rx; exact SeqAt.EqAt.bool_bool a b
    | int b => obtain ⟨t, rfl⟩ := rx; exact SeqAt.EqAt.bool_int a b t
    | str b => obtain ⟨t, rfl⟩ := rx; exact SeqAt.EqAt.bool_str a b t
    | _ => exact absurd (show false = true from fx) Bool.false_ne_true
  | int a =>
    obtain ⟨t', rfl⟩ := ry
    cases x with
    | non => cases rx; exact SeqAt.EqAt.int_none a t'
    | bl b => cases rx; exact SeqAt.EqAt.int_bool a t' b
    | int b => obtain ⟨t, rfl⟩ := rx; exact SeqAt.EqAt.int_int a t' b t
    | str b => obtain ⟨t, rfl⟩ := rx; exact SeqAt.EqAt.int_str a t' b t
    | _ => exact absurd (show false = true from fx) Bool.false_ne_true
  | str a =>
    obtain ⟨t', rfl⟩ := ry
    cases x with
    | non => cases rx; exact SeqAt.EqAt.str_none a t'
    | bl b => cases rx; exact SeqAt.EqAt.str_bool a t' b
    | int b => obtain ⟨t, rfl⟩ := rx; exact SeqAt.EqAt.str_int a t' b t
    | str b => obtain ⟨t, rfl⟩ := rx; exact SeqAt.EqAt.str_str a t' b t
    | _ => exact absurd (show false = true from fx) Bool.false_ne_true
  | _ => exact absurd (show false = true from fy) Bool.false_ne_true
def eqU (x : V) (u : Value) : Bool := match u with
  | .none => eqV .non x
  | .bool b => eqV (.bl b) x
  | .int i _ => eqV (.int i) x
  | .str z _ => eqV (.str z) x
  | _ => false
theorem eqU_of {x y : V} {u : Value} (r : RelV y u) (f : flatV y = true) : eqU x u = eqV y x := by
  cases y with
  | non => cases r; rfl
  | bl b => cases r; rfl
  | int i => obtain ⟨t, rfl⟩ := r; rfl
  | str z => obtain ⟨t, rfl⟩ := r; rfl
  | _ => exact absurd (show false = true from f) Bool.false_ne_true
theorem any_eqU {x : V} : ∀ {xs : List V} {us : List Value}, Vals xs us → xs.all flatV = true → us.any (eqU x) = xs.any fun y => eqV y x
  | _, _, .nil, _ => rfl
  | y :: xs, u :: us, .cons r t, f => by
    rw [List.all_cons, Bool.and_eq_true] at f
    rw [List.any_cons, List.any_cons, eqU_of r f.1, any_eqU t f.2]
theorem mem_eqAt {A : Around} {s : Shared} {x : V} {v : Value} (rx : RelV x v) (fx : flatV x = true) : ∀ {xs : List V} {us : List Value}, Vals xs us → xs.all flatV = true → ∀ u ∈ us, SeqAt.EqAt A s u v (eqU x u)
  | _, _, .nil, _ => fun u hu => by cases hu
  | y :: xs, u :: us, .cons r t, f => fun u' hu => by
    rw [List.all_cons, Bool.and_eq_true] at f
    rcases List.mem_cons.mp hu with rfl | hu
    · rw [eqU_of r f.1]; exact eqAt_V r rx f.1 fx
    · exact mem_eqAt rx fx t f.2 u' hu
def inV (x : V) (xs : List V) : Bool := xs.any fun y => eqV y x
def rIn (K : PySem.W.Frag) (neg : Bool) : R2 := fun x y H Q => ∃ p xs, y = .ref p ∧ (SqL K H p xs ∨ SqT K H p xs) ∧ flatV x = true ∧ xs.all flatV = true ∧ Q (.bl (if neg then !inV x xs else inV x xs)) H
theorem op_in_seq : OpR X (compareOp .In) (rIn X.K false) := by
  intro pins s σ H x y v u Q I rx ry h
  obtain ⟨p, xs, rfl, hq, fx, fs, q⟩ := h
  cases ry
  rcases hq with hq | hq
  · obtain ⟨its, r, pl, hz⟩ := I.list hq
    refine SeqAt.in_listAt (eqU x) pl.isList (fun w hw => mem_eqAt rx fx r fs w (by simpa using hw)) ⟨.bl _, H, I, rfl, ?_⟩
    rw [show its.toArray.any (eqU x) = its.any (eqU x) by simp, any_eqU r fs]
    exact q
  · obtain ⟨its, r, pl, hz⟩ := I.tuple hq
    refine SeqAt.in_tupleAt (eqU x) pl (fun w hw => mem_eqAt rx fx r fs w (by simpa using hw)) ⟨.bl _, H, I, rfl, ?_⟩
    rw [show its.toArray.any (eqU x) = its.any (eqU x) by simp, any_eqU r fs]
    exact q

/-! ### len, list(x), tuple(x) of any list or tuple that is read -/
theorem call_len_seq : CallR X (.builtin "len") (fun xs H Q => ∃ p ys, xs = [.ref p] ∧ (SqL X.K H p ys ∨ SqT X.K H p ys) ∧ Q (.int ys.length) H) := by
  intro pins s σ H xs us Q I r h
  obtain ⟨p, ys, rfl, hq, q⟩ := h
  obtain ⟨u, rfl, rx⟩ := vals1 r
  cases rx
  have hn := line63
  rcases hq with hq | hq
  · obtain ⟨its, r', pl, hz⟩ := I.list hq
    have hlen := r'.length
    exact Calls.call_len_list pl.isList (by simp only [List.size_toArray] <;> omega) ⟨.int ys.length, H, I.tok _, ⟨s.toks + 1, by rw [List.size_toArray, hlen]⟩, q⟩
  · obtain ⟨its, r', pl, hz⟩ := I.tuple hq
    have hlen := r'.length
    exact len_tuple pl (by simp only [List.size_toArray] <;> omega) ⟨.int ys.length, H, I.tok _, ⟨s.toks + 1, by rw [List.size_toArray, hlen]⟩, q⟩
theorem call_list_of : CallR X (.type "list") (fun xs H Q => ∃ p ys, xs = [.ref p] ∧ (SqL X.K H p ys ∨ SqT X.K H p ys) ∧ ∀ l, H l = none → Q (.ref l) (upd H l (.lst ys))) := by
  intro pins s σ H xs us Q I r h
  obtain ⟨p, ys, rfl, hq, q⟩ := h
  obtain ⟨u, rfl, rx⟩ := vals1 r
  cases rx
  have fin : ∀ (its : List Value), Vals ys its → ys.length ≤ sizeLine → ∀ (h' : Heap) (c' : Nat), (∀ b o', s.heap.get? b = some o' → h'.get? b = some o') →
      h'.get? s.heap.objs.size = some { cls := .type "list", dict := none, data := .seq its.toArray c', slots := #[] } → EP X pins σ Q (.ref s.heap.objs.size) { s with heap := h' } := fun its r' hz h' c' kp e =>
    ⟨.ref s.heap.objs.size, _, I.laid (t' := s.toks) kp (Nat.le_refl _) (show ObjOk X.prog X.w _ h' _ (.lst ys) from ⟨hz, its, c', r', e⟩), rfl, q _ (I.hok.fresh (Nat.le_refl _))⟩
  rcases hq with hq | hq
  · obtain ⟨its, r', pl, hz⟩ := I.list hq
    have hlen := r'.length
    obtain ⟨o, ho, hc, n, hd⟩ := pl.isList
    exact call_list_seq p (.inl rfl) ho hc hd (fun h' c' kp e => fin its r' hz h' c' kp e) (by simp only [List.size_toArray] <;> omega)
  · obtain ⟨its, r', pl, hz⟩ := I.tuple hq
    have hlen := r'.length
    obtain ⟨o, ho, hc, n, hd⟩ := pl
    exact call_list_seq p (.inr rfl) ho hc hd (fun h' c' kp e => fin its r' hz h' c' kp e) (by simp only [List.size_toArray] <;> omega)

/-! ### the call of a builtin's method: o.m(..) -/
def tyV (K : PySem.W.Frag) (T : String) (x : V) (H : Hp) : Prop := match x with
  | .str _ => T = "str"
  | .int _ => T = "int"
  | .ref p => (T = "list" ∧ ∃ xs, SqL K H p xs) ∨ (T = "tuple" ∧ ∃ o, K.lookup p = some o ∧ o.cls = .type "tuple" ∧ o.dict = none) ∨
      (T = "dict" ∧ ((∃ kvs, H p = some (.dK kvs)) ∨ ∃ kvs, H p = some (.dT kvs))) ∨ (T = "set" ∧ ∃ S n, H p = some (.set S n))
  | _ => False
theorem tyV_is {pins : List (Addr × Obj)} {σ : St} {H : Hp} {s : Shared} {T : String} {x : V} {v : Value} (I : Inv X pins σ H s) (r : RelV x v) (ty : tyV X.K T x H) :
    s.TypeIs v T ∧ ∀ a, v = .ref a → ∃ ob, s.heap.get? a = some ob ∧ ob.dict = none := by
  cases x with
  | str z =>
    obtain ⟨t, rfl⟩ := r
    cases (show T = "str" from ty)
    exact ⟨typeIs_str s z t, fun _ e => nomatch e⟩
  | int i =>
    obtain ⟨t, rfl⟩ := r
    cases (show T = "int" from ty)
    exact ⟨typeIs_int s i t, fun _ e => nomatch e⟩
  | ref p =>
    cases r
    rcases ty with ⟨rfl, xs, hq⟩ | ⟨rfl, o, hk, hc, hd⟩ | ⟨rfl, hk⟩ | ⟨rfl, S, n, hk⟩
    · obtain ⟨its, _, pl, _⟩ := I.list hq
      refine ⟨pl.isList.typeIs, fun a e => ?_⟩
      cases e
      obtain ⟨o, n, e, c, hd, _⟩ := pl
      exact ⟨o, e, hd⟩
    · refine ⟨⟨o, I.kIn p o hk, hc⟩, fun a e => ?_⟩
      cases e
      exact ⟨o, I.kIn _ o hk, hd⟩
    · have z : ∃ o, s.heap.get? p = some o ∧ o.ExactDict := by
        rcases hk with ⟨kvs, hk⟩ | ⟨kvs, hk⟩
        · obtain ⟨_, _, _, _, o, _, _, e, ex, _⟩ := I.hok p _ hk
          exact ⟨o, e, ex⟩
        · obtain ⟨_, _, _, _, o, _, _, e, ex, _⟩ := I.hok p _ hk
          exact ⟨o, e, ex⟩
      obtain ⟨o, e, ex⟩ := z
      refine ⟨⟨o, e, ex.1⟩, fun a e2 => ?_⟩
      cases e2
      exact ⟨o, e, ex.2.1⟩
    · obtain ⟨o, _, _, _, e, ex, _⟩ := I.hok p _ hk
      refine ⟨⟨o, e, ex.1⟩, fun a e2 => ?_⟩
      cases e2
      exact ⟨o, e, ex.2.1⟩
  | _ => exact False.elim ty
def tBM (K : PySem.W.Frag) (T : String) (r : V → List V → Hp → VK → Prop) (to : TE) (t : TA) : TE := fun σ H Q => to σ H fun x H1 => tyV K T x H1 ∧ t σ H1 fun xs H2 => r x xs H2 Q
variable {o e : Expr} {es : List Expr} {to : TE} {t : TA} {name : Str} {apos cpos : Pos} {T id : String} {r : V → List V → Hp → VK → Prop}
theorem pe_bm (pa : PlainAttrs T) (slot : Slot T name id) (hty : typeOf (.builtin id) = pure (.type "method_descriptor")) (hm : MtR X id r) (ho : PE X o to) (ha : PA X (e :: es) t)
    (hbase : attributeBase o name X.env (eval o X.env) = eval o X.env := by rfl)
    (hfew : ((backTo cpos (starEach (e :: es) X.env)).all (fun x => !x.1) && (backToKw cpos (keywordEach [] X.env)).all (fun x => x.1.isSome)
      && decide ((e :: es).length + ([] : List Keyword).length + (if ([] : List Keyword).isEmpty then 0 else 1) < 30)) = true := by rfl)
    (hline : (apos.endLine == cpos.line) = true := by rfl) (hs : starEach (e :: es) X.env = (false, eval e X.env) :: starEach es X.env := by rfl) (hplain : (backTo cpos (starEach es X.env)).any (·.1) = false := by rfl) :
    PE X (.Call (.Attribute o name apos) (e :: es) [] cpos) (tBM X.K T r to t) := by
  intro pins s σ H Q I h
  refine wpAny_Call_method_late hbase hfew hline rfl (thn (ho pins s σ H _ I h) fun v s1 hh => ?_)
  obtain ⟨x, H1, I1, r1, ty, q1⟩ := hh
  obtain ⟨h1, h2⟩ := tyV_is I1 r1 ty
  refine ⟨T, id, pa, slot, hty, h1, h2, ?_⟩
  have hA := ha cpos pins s1 σ H1 _ I1 q1
  rw [hs] at hA ⊢
  refine Calls.callWith_builtin (by show (false || (backTo cpos (starEach es X.env)).any (·.1)) = false; rw [hplain] <;> rfl) (Calls.evalArgs_plain ?_)
  exact thn hA fun us s2 ⟨vs, H2, I2, r2, q2⟩ => hm pins s2 σ H2 x vs v us Q I2 r1 r2 q2
/- xs.append(e), list.index on a module's tuple .. are MtR facts of 06m -/
end
end L2

namespace L2
open PySem PySem.Spec PyProof.Rows

def MtM (X : Cx) (id : String) (r : V → List V → Hp → VK → Prop) : Prop :=
  ∀ (pins : List (Addr × Obj)) (s : Shared) (σ : St) (H : Hp) (x : V) (xs : List V) (v : Value) (us : List Value) (Q : VK), Inv X pins σ H s → RelV x v → Vals xs us → r x xs H Q →
    wpAny (model X.prog X.w) X.A (call (.builtin id) (v :: us)) (EP X pins σ Q) X.xe s

/-! ### lists of values -/
theorem Vals.one : ∀ {x : V} {us : List Value}, Vals [x] us → ∃ u, us = [u] ∧ RelV x u
  | _, _, .cons r .nil => ⟨_, rfl, r⟩

section
variable {X : Cx} {pins : List (Addr × Obj)} {σ : St} {H : Hp} {s : Shared} {l b : Addr} {xs ys zs : List V}

/-! ### the two steps: a tracked list is rewritten, a new list is laid -/
theorem Inv.lset {its its' : List Value} {n : Nat} {f : Array Value → Array Value} {t' : Nat} (I : Inv X pins σ H s) (hH : H l = some (.lst xs))
    (e : s.heap.get? l = some { cls := .type "list", data := .seq its.toArray n }) (hf : f its.toArray = its'.toArray) (hv : Vals ys its') (hz : ys.length ≤ sizeLine) :
    Inv X pins σ (upd H l (.lst ys)) { s with heap := s.heap.update l (Obj.mapSeq f), toks := t' } := by
  have q := PySem.IsL.update e f
  rw [hf] at q
  refine I.write (x := l) (e := l) (by rw [hH]; exact trivial) (.inl rfl) (fun b' u hb hu => (Heap.get?_update_other s.heap (Obj.mapSeq f) (Ne.symm hb)).trans hu) ⟨_, q⟩ ?_
  exact ⟨hz, its', _, hv, q⟩
theorem Inv.lnew {its : List Value} {t' : Nat} (I : Inv X pins σ H s) (hv : Vals ys its) (hz : ys.length ≤ sizeLine) :
    Inv X pins σ (upd H s.heap.objs.size (.lst ys)) { s with heap := s.heap.push { cls := .type "list", data := .seq its.toArray }, toks := t' } :=
  I.laid (fun _ _ q => Heap.get?_push_of_some _ q) (Nat.le_refl _) ⟨hz, its, 0, hv, Heap.get?_push_size _ rfl⟩
theorem Inv.fresh (I : Inv X pins σ H s) : H s.heap.objs.size = none := I.hok.fresh (Nat.le_refl _)
theorem Inv.lstM (I : Inv X pins σ H s) (hH : H l = some (.lst xs)) : xs.length ≤ sizeLine ∧ ∃ (its : List Value) (n : Nat), Vals xs its ∧ xs.length = its.length ∧ s.heap.get? l = some { cls := .type "list", data := .seq its.toArray n } := by
  obtain ⟨z, its, n, r, e⟩ := I.hok l _ hH
  exact ⟨z, its, n, r, r.length, e⟩

end

section
variable {X : Cx}

/-! ### methods -/
def rAppend : V → List V → Hp → VK → Prop := fun x vs H Q => ∃ l xs y, x = .ref l ∧ vs = [y] ∧ H l = some (.lst xs) ∧ xs.length < sizeLine ∧ Q .non (upd H l (.lst (xs ++ [y])))
theorem mt_append : MtM X "list.append" rAppend := by
  intro pins s σ H x vs v us Q I rx rv h
  obtain ⟨l, xs, y, rfl, rfl, hH, hz, q⟩ := h
  cases rx
  obtain ⟨u, rfl, ru⟩ := rv.one
  obtain ⟨z, its, n, r, hl, e⟩ := I.lstM hH
  refine call_meets F.slot_list_append ⟨_, e, rfl⟩ F.entry_list_append (F.args_list_append_2 _ _) (PySem.list_append l its.toArray n u (by rw [List.size_toArray]; omega)) ⟨e, ?_⟩
  refine ⟨.non, _, I.lset (its' := its ++ [u]) hH e (by simp) (r.append (.cons ru .nil)) ?_, rfl, q⟩
  rw [List.length_append, List.length_singleton]
  omega






/-! ### list + list, list += list, list * int -/
def rCat : R2 := fun x y H Q => ∃ l b xs zs, x = .ref l ∧ y = .ref b ∧ H l = some (.lst xs) ∧ H b = some (.lst zs) ∧ xs.length + zs.length ≤ sizeLine ∧ ∀ p, H p = none → Q (.ref p) (upd H p (.lst (xs ++ zs)))
theorem op_cat : OpR X (binaryOp .Add) rCat := by
  intro pins s σ H x y v u Q I rx ry h
  obtain ⟨l, b, xs, zs, rfl, rfl, hH, hB, hz, q⟩ := h
  cases rx
  cases ry
  obtain ⟨z, its, n, r, hl, e⟩ := I.lstM hH
  obtain ⟨z2, its2, n2, r2, hl2, e2⟩ := I.lstM hB
  refine PySem.P.add_list e e2 ?_ (by rw [List.size_toArray, List.size_toArray]; omega)
  have ea : its.toArray ++ its2.toArray = (its ++ its2).toArray := by simp
  rw [ea]
  exact ⟨.ref _, _, I.lnew (t' := s.toks) (r.append r2) (by rw [List.length_append]; omega), rfl, q _ I.fresh⟩

/-! ### del xs[i] -/
end

/-! ### xs[a:b] = ys -/
section
variable {prog : Program} {w : World} {A : Around} {E : Value → Shared → Prop} {s : Shared}
end

section
variable {X : Cx}
end
end L2

namespace Att
open PySem PySem.W PySem.Calls PyProof.Rows

/-! ### the script -/
theorem ints_of_wellAll {P : Params} {h : Heap} : ∀ (ns : List Int) (vs : List Value), WellAll P h vs (ns.map WData.int) → IntsAre vs ns := by
  intro ns
  induction ns with
  | nil =>
    intro vs w
    rw [List.map_nil] at w
    cases w
    exact .nil
  | cons n ns ih =>
    intro vs w
    rw [List.map_cons] at w
    cases w with
    | cons a b =>
      cases a
      exact .cons _ _ (ih _ b)

theorem script_of {l : OpenLaw} {n : Nat} (hn : l.most = some n) {P : Params} {h : Heap} {args : List WData} {vals : List Value}
    (hpre : l.row.toRowW.claim.pre args = true) (hwl : WellAll P h vals args) :
    ∃ a vs ns, vals = [Value.ref a] ∧ args = [WData.list (ns.map WData.int)] ∧ h.get? a = some { cls := .type "list", data := .seq vs.toArray } ∧ IntsAre vs ns ∧ ns.length ≤ n := by
  have hsh : WShape.hasAll [] args [.list .int] = true := (pre_splitW hpre).1
  have hc : l.pre.holds [] { args := args } = true := (pre_splitW hpre).2
  obtain ⟨d, r, rfl, h1, h2⟩ := hasAllW_cons hsh
  obtain rfl := hasAllW_nil h2
  obtain ⟨xs, rfl, h3⟩ := hasW_list h1
  obtain ⟨ns, rfl⟩ := items_int h3
  have hlen : ns.length ≤ n := by
    unfold OpenLaw.pre at hc
    have h4 : (WTm.not (.lt (.lit (.int (n : Int))) (.len (.arg 0)))).holds [] { args := [.list (ns.map .int)] } = true := by
      have h4 := (holds_andW hc).1
      rw [hn] at h4
      exact h4
    have h5 := condW_of h4 (w_not (w_lt w_lit (w_len_list (w_arg rfl))))
    rw [List.length_map] at h5
    refine Nat.le_of_not_lt fun q => ?_
    have q' : (n : Int) < ((ns.length : Nat) : Int) := by omega
    first
      | (rw [decide_eq_true q'] at h5; exact absurd h5 (by decide))
      | (simp at h5; omega)
  cases hwl with
  | cons w1 w2 =>
    cases w2
    cases w1 with
    | list ho hall => exact ⟨_, _, ns, rfl, rfl, ho, ints_of_wellAll ns _ hall, hlen⟩

theorem post_true (l : OpenLaw) (args : List WData) : l.row.toRowW.claim.post args (.bool true) args = true :=
  postW_of (r := l.row.toRowW) (X := (true == true))
    (show WShape.has [] (.bool true) .bool = true by first | rfl | decide | simp [WShape.has, WShape.arms, WShape.armsAll])
    (show (WTm.eq .res (.lit (.bool true))).value [] { args := args, res := some (.bool true), after := args } = some (.bool (true == true)) from w_eq_bool (w_res rfl) w_lit) rfl

/-! ### the attachment: holds_open's last premise (the goal 'hc' behind k_head) from a wpAny of the law's body -/

theorem attach_call {l : OpenLaw} {n : Nat} {q : Program} {loose : List Str} {XP : (Str → Option Value) → Heap → Prop} {YP : World → Heap → Prop} {d : DefRec}
    (hn : l.most = some n) (hdf : d.params.defaults = [])
    (call : ∀ (w : World) (s₀ s₁ : Shared) (mg mb : Str → Option Value) (fa : Addr) (o : Obj) (pm cd doc : Value) (a : Addr) (vs : List Value) (ns : List Int),
      Ground q loose [] XP w s₀ mg mb s₁.heap → YP w s₁.heap →
      s₁.heap.get? fa = some o → o.data = .func (docDef d.name d.params d.body d.scope pm cd doc) → s₁.heap.CodeRec cd d.name → mg d.name = some (.ref fa) →
      s₁.heap.get? a = some { cls := .type "list", data := .seq vs.toArray } → IntsAre vs ns → ns.length ≤ n → s₁.gens = #[] →
      codeAny (model l.prog w) callerA (.call (.ref fa) ⟨[.ref a], []⟩) (fun r s' => r = .ok (.ret (.bool true)) ∧ OldK s₁.heap s'.heap ∧ s'.os = s₁.os ∧ AllBare s'.gens) s₁) :
    WalkO q loose XP YP l.row.toRowW d [] (fun f vs => PySem.call f vs) := by
  intro w s₀ s₁ mg mb G Y fa o pm cd doc dV kV ho hd hcd hD hmg hg args vals as hpre hlay hrd hwl hlo
  obtain rfl : dV = .none := Dflts.none hD hdf
  obtain rfl : kV = .none := Dflts.noKw hD
  obtain ⟨a, vs, ns, rfl, rfl, hobj, hints, hlen⟩ := script_of hn hpre hwl
  refine enter_call (codeAny_mono (call w s₀ s₁ mg mb fa o pm cd doc a vs ns G Y ho (fd_plain hd) hcd hmg hobj hints hlen hg) fun r s' hq => ?_)
  obtain ⟨rfl, h2, h3, h4⟩ := hq
  exact ⟨.inl ⟨.bool true, .bool true, [], rfl, fun _ => rfl, .bool true, post_true l _, fun _ => ⟨List.Pairwise.nil, fun _ hm => (nomatch hm)⟩⟩, h2, h3, h4⟩


/-! ### rules over ANY heap (no ledger) from facts about the written part K: the library's own take a ledger (News) for what they write -/
section
variable {prog : Program} {w : World} {A : Around} {E : Value → Shared → Prop} {s : Shared} {K : Frag}





/-! the whole heap as the ledger: makes every rule that writes through a ledger a rule over any heap -/

end
end Att

namespace L2
open PySem PySem.Spec PyProof.Rows

theorem vals_ints : ∀ {vs : List Value} {ns : List Int}, IntsAre vs ns → Vals (ns.map V.int) vs
  | _, _, .nil => .nil
  | _, _, .cons n t h => .cons ⟨t, rfl⟩ (vals_ints h)


end L2

namespace L2
open PySem PySem.Spec PyProof.Rows

abbrev KOf {K : PySem.W.Frag} {h : Heap} (_ : K.In h) : PySem.W.Frag := K

end L2

/- THE LAST THEOREM (shape; LID, My.* are yours):
   My.Adr: a structure of the addresses that your layer names (classes, functions); My.Txt K t: a structure (Prop) of the equations over K;
   My.txt_mk : {K} {implicit addresses ..} (e1 : nsIn K mainGlobals "law" = some (some (.ref f))) (e2 : K.lookup f = some ⟨oc, od, .func (fnOf "law" "law" params body scope dV kV doc pm an cdv ct), sl⟩) (e3 : codeIn K cdv "law" = true) .. : ∃ t, My.Txt K t

set_option maxRecDepth 100000 in
set_option maxHeartbeats 0 in
theorem PySem.Challenge.cw_LID_holds : PySem.Challenge.rw_LID.Holds := by
  w_on; o_law; k_head; (case hw => w_witness2)
  k_fill
  refine L2.walk_of (l := PySem.Challenge.rw_LID) (n := 63) (k := 40) (x := "script") (CX := fun w => ..) (sp := fun _ => My.sp_law) rfl (by decide) rfl ⟨rfl, by decide, by decide⟩ (fun w h Y => PySem.W.kIn_of Y) ?F ?S ?C
  case F =>
    intro w mg fa h KX G hmg
    have T : ∃ t, My.Txt (L2.KOf KX) t := by
      dsimp only [L2.KOf]                          -- K must stand as «<heap const> w.params» for k_is
      refine' My.txt_mk ?e1 ?e2 ?e3 ..
      (case e1 => PySem.W.k_is)                    -- in the order: a name -> its address -> its object -> its parts
      (case e2 => PySem.W.k_is)
      ..
    obtain ⟨t, T⟩ := T
    have e0 := hmg.symm.trans (PySem.W.mg_of KX G T.law)
    cases e0                                       -- fa is the law's own address
    exact ⟨_, fun s u => .of_eq rfl, fun base kb nb => My.law_fn T kb nb⟩     -- if «.of_eq rfl» comes too early: refine' ⟨_, ?b, fun base kb nb => My.law_fn T kb nb⟩; exact fun s u => .of_eq rfl
  case S => exact fun w H a ns hl hO hS => ..
  case C => exact ..
(the tactic k_is has no namespace: write k_is) -/

/-! SHORT WORDS over the layer: a def of the text, its body, what a loop and a test want. -/
namespace L2
open PySem PySem.Spec PyProof.Rows

/-! ### the text by places -/
def inClass (s : Stmt) (j : Nat) : Stmt := match s with
  | .ClassDef _ _ _ body _ _ _ _ _ _ _ => body.getD j (.Pass ⟨0, 0, 0, 0⟩)
  | _ => .Pass ⟨0, 0, 0, 0⟩
def defArgs (s : Stmt) : Arguments := match s with
  | .FunctionDef _ a _ _ _ _ _ _ _ _ => a
  | _ => { posonlyargs := [], args := [], vararg := none, kwonlyargs := [], kw_defaults := [], kwarg := none, defaults := [] }
def defBody (s : Stmt) : List Stmt := match s with
  | .FunctionDef _ _ b _ _ _ _ _ _ _ => b
  | _ => []
def defScope (s : Stmt) : Scope := match s with
  | .FunctionDef _ _ _ _ _ _ sc _ _ _ => sc
  | _ => { kind := .function, names := [], isGenerator := false, isCoroutine := false }

/-! ### no exception leaves a def -/
abbrev CX0 : CXT := fun _ _ _ _ _ _ => False
abbrev E0 : XK := fun _ _ _ => False
theorem pass0 {X : Cx} : Passes CX0 X E0 := fun _ _ _ _ _ _ _ h => h.elim

/-! ### a def (or method) of the text as it stands behind the top -/
structure Fun (K : PySem.W.Frag) (x qual : Str) (st : Stmt) (f : Addr) (fd : FuncData) : Prop where
  ex : ∃ (oc : Value) (od : Option Addr) (kV doc pm : Value) (an : Option Addr) (cdv ct : Value) (osl : Array (Option Value)),
    fd = PySem.W.fnOf x qual (defArgs st) (defBody st) (defScope st) .none kV doc pm an cdv ct ∧ K.lookup f = some ⟨oc, od, .func fd, osl⟩ ∧ PySem.W.codeIn K cdv qual = true
  kp : PySem.W.keepIn K (.ref f) = true
section
variable {P : Program} {w : World} {K : PySem.W.Frag} {mg : Str → Option Value} {base : Heap}
theorem Fun.ok {x qual : Str} {st : Stmt} {f : Addr} {fd : FuncData} {N ps : List Str} {k : Nat} {sp : Sp} (F : Fun K x qual st f fd) (S : FnScope N ps (defScope st)) (len : ∀ vs H Q E, sp vs H Q E → vs.length = ps.length)
    (hbody : ∀ (cdv : Value) (A : Around) (outer : List Env) (s : Shared) (H : Hp) (vs : List V) (Q : VK) (E : XK), Room k (A.deeper (envOfC qual (defScope st) s.heap.objs.size f cdv)) → sp vs H Q E →
      ∃ t, PSs (cxOf CX0 P w K mg base N qual (defScope st) f cdv A outer s H E).nox (defBody st) t ∧ t { nx := fun _ H' => Q .non H', rt := Q } (start N vs) H) : FnOk P w K mg base CX0 (k + 1) f fd ps sp := by
  obtain ⟨oc, od, kV, doc, pm, an, cdv, ct, osl, rfl, lk, hcd⟩ := F.ex
  refine fn_of lk hcd S len fun A outer s H vs Q E hr hsp => ?_
  obtain ⟨t, h, q⟩ := hbody cdv A outer s H vs Q E hr hsp
  exact ⟨t, h.nox, q⟩
theorem Fun.binds {x qual : Str} {st : Stmt} {f : Addr} {fd : FuncData} {ps : List Str} (F : Fun K x qual st f fd)
    (h : ∀ (kV doc pm : Value) (an : Option Addr) (cdv ct : Value) (us : List Value), us.length = ps.length → bindArgs (PySem.W.fnOf x qual (defArgs st) (defBody st) (defScope st) .none kV doc pm an cdv ct) ⟨us, []⟩ = pure (ps.zip us)) : Binds K fd ps [] := by
  obtain ⟨oc, od, kV, doc, pm, an, cdv, ct, osl, rfl, lk, hcd⟩ := F.ex
  exact .all (h kV doc pm an cdv ct)
theorem fun_mk {x qual : Str} {st : Stmt} {f : Addr} {oc : Value} {od an : Option Addr} {osl : Array (Option Value)} {kV doc pm cdv ct : Value} (l : K.lookup f = some ⟨oc, od, .func (PySem.W.fnOf x qual (defArgs st) (defBody st) (defScope st) .none kV doc pm an cdv ct), osl⟩)
    (c : PySem.W.codeIn K cdv qual = true) (k : PySem.W.keepIn K (.ref f) = true) : Fun K x qual st f (PySem.W.fnOf x qual (defArgs st) (defBody st) (defScope st) .none kV doc pm an cdv ct) := ⟨⟨oc, od, kV, doc, pm, an, cdv, ct, osl, rfl, l, c⟩, k⟩
end
theorem small1000 {n : Nat} (h : n ≤ 1000) : n < sizeLine := Nat.lt_of_le_of_lt h (by decide)

/-! ### expressions in short: the name that stands in the i-th slot -/
section
variable {X : Cx}
theorem pv (i : Nat) {x : Str} {pos : Pos} (hN : X.N[i]? = some x := by rfl) (hv : Vis X.env.scope x := by first | exact Or.inl rfl | exact Or.inr (Or.inl rfl) | exact Or.inr (Or.inr rfl)) (hd : (x == ("__debug__" : Str)) = false := by decide)
    (hcd : (x == ("__classdict__" : Str)) = false := by decide) : PE X (.Name x pos) (tVar i) := pe_var hN hv hd hcd
end

/-! ### tests -/
theorem iteF {A B : Prop} (h : B) : if false = true then A else B := by
  rw [if_neg Bool.false_ne_true]
  exact h
theorem iteT {A B : Prop} (h : A) : if true = true then A else B := by
  rw [if_pos rfl]
  exact h
theorem ite2 {c A B : Prop} [Decidable c] (h1 : c → A) (h2 : ¬ c → B) : if c then A else B := by
  by_cases h : c
  · rw [if_pos h]
    exact h1 h
  · rw [if_neg h]
    exact h2 h

/-! ### heaps -/
def Same (H H' : Hp) : Prop := ∀ b o, H b = some o → H' b = some o
theorem Same.refl (H : Hp) : Same H H := fun _ _ h => h
theorem Same.trans {H H1 H2 : Hp} (a : Same H H1) (b : Same H1 H2) : Same H H2 := fun c o h => b c o (a c o h)
theorem Same.free {H H' : Hp} (e : Same H H') {l : Addr} (h : H' l = Option.none) : H l = Option.none := by
  cases q : H l with
  | none => rfl
  | some o =>
    rw [e l o q] at h
    cases h
theorem Same.seq {K : PySem.W.Frag} {H H' : Hp} {a : Addr} {xs : List V} (e : Same H H') (h : SqL K H a xs) : SqL K H' a xs := by
  rcases h with (h | ⟨o, h⟩) | h
  · exact .inl (.inl (e _ _ h))
  · exact .inl (.inr ⟨o, e _ _ h⟩)
  · exact .inr h

end L2

/-! LAMP O: what keeps an exception's context none -/
namespace L2
open PySem PySem.Spec PyProof.Rows
def F2o (o : Obj) : Prop := ∃ vs, o.data = .fields vs ∧ vs[2]? = some Value.none
def C2 (e : Addr) (h : Heap) : Prop := ∃ o, h.get? e = some o ∧ F2o o
theorem C2.upd {e a : Addr} {h : Heap} {f : Obj → Obj} (c : C2 e h) (hf : ∀ o, F2o o → F2o (f o)) : C2 e (h.update a f) := by
  obtain ⟨o, ho, p⟩ := c
  by_cases z : a = e
  · subst z
    obtain ⟨vs, hd, hv⟩ := hf o p
    exact ⟨f o, Heap.get?_update_self _ ho (Obj.isFreed_of_fields hd), vs, hd, hv⟩
  · exact ⟨o, (Heap.get?_update_other _ _ z).trans ho, p⟩
theorem C2.push {e : Addr} {h : Heap} {o' : Obj} (c : C2 e h) : C2 e (h.push o') := by
  obtain ⟨o, ho, p⟩ := c
  exact ⟨o, Heap.get?_push_of_some _ ho, p⟩
def Keep2 {α : Type} : Sem α → Prop
  | .pure _ => True
  | .raise _ => True
  | .unsupported _ => True
  | .finish _ => True
  | .rule _ k => Keep2 (k ())
  | .at _ k => Keep2 (k ())
  | .load _ _ k => ∀ o, Keep2 (k o)
  | .update _ _ f k => (∀ o, F2o o → F2o (f o)) ∧ Keep2 (k ())
  | .alloc _ k => ∀ a, Keep2 (k a)
  | .loadIfAlive _ k => ∀ o, Keep2 (k o)
  | .point _ k => Keep2 (k ())
  | .fresh k => ∀ t, Keep2 (k t)
  | .ask k => ∀ t, Keep2 (k t)
  | .handled _ k => ∀ t, Keep2 (k t)
  | .stack k => ∀ t, Keep2 (k t)
  | .thread k => ∀ t, Keep2 (k t)
  | _ => False
theorem keep2_wp {α : Type} {M : Model} {Γ : PySem.Ctx} {e : Addr} {Q : α → Pos → Shared → Prop} {E : Value → Pos → Shared → Prop} (m : Sem α) : ∀ (p : Pos) (s : Shared), Keep2 m → C2 e s.heap → Sem.wp M Γ m Q E p s →
    Sem.wp M Γ m (fun a p' s' => C2 e s'.heap ∧ Q a p' s') (fun x p' s' => E x p' s') p s := by
  induction m with
  | pure a => intro p s _ c h; rw [Sem.wp] at h ⊢; exact ⟨c, h⟩
  | raise x => intro p s _ c h; rw [Sem.wp] at h ⊢; exact h
  | unsupported _ => intro p s _ c h; rw [Sem.wp] at h; exact h.elim
  | finish _ => intro p s _ c h; rw [Sem.wp] at h; exact h.elim
  | rule _ k ih => intro p s z c h; rw [Sem.wp] at h ⊢; exact ih () p s z c h
  | «at» p' k ih => intro p s z c h; rw [Sem.wp] at h ⊢; exact ih () p' s z c h
  | load a _ k ih => intro p s z c h; rw [Sem.wp] at h ⊢; obtain ⟨o, ho, h⟩ := h; exact ⟨o, ho, ih o p s (z o) c h⟩
  | update a _ f k ih => intro p s z c h; rw [Sem.wp] at h ⊢; exact ⟨h.1, ih () p _ z.2 (c.upd z.1) h.2⟩
  | alloc o k ih => intro p s z c h; rw [Sem.wp] at h ⊢; exact ih _ p _ (z _) c.push h
  | loadIfAlive a k ih => intro p s z c h; rw [Sem.wp] at h ⊢; exact ih _ p s (z _) c h
  | point _ k ih => intro p s z c h; rw [Sem.wp] at h ⊢; exact ih () p s z c h
  | fresh k ih => intro p s z c h; rw [Sem.wp] at h ⊢; exact ih _ p _ (z _) c h
  | ask k ih => intro p s z c h; rw [Sem.wp] at h ⊢; exact ih _ p s (z _) c h
  | handled _ k ih => intro p s z c h; rw [Sem.wp] at h ⊢; exact ih _ p s (z _) c h
  | stack k ih => intro p s z c h; rw [Sem.wp] at h ⊢; exact ih _ p s (z _) c h
  | thread k ih => intro p s z c h; rw [Sem.wp] at h ⊢; exact ih _ p s (z _) c h
  | _ => intro p s z; exact False.elim z
theorem wpAny_keep2 {α : Type} {M : Model} {A : Around} {E : Value → Shared → Prop} {s : Shared} {e : Addr} {m : Sem α} {Q : α → Shared → Prop} (k : Keep2 m) (c : C2 e s.heap) (h : wpAny M A m (fun a s' => C2 e s'.heap → Q a s') E s) : wpAny M A m Q E s := by
  have h2 : wpAny M A m (fun a s' => C2 e s'.heap ∧ (C2 e s'.heap → Q a s')) E s := fun Γ p g => keep2_wp m p s k c (h Γ p g)
  exact wpAny_mono h2 (fun a s' q => q.2 q.1) fun _ _ q => q
theorem keep2_bind {α β : Type} {m : Sem α} {f : α → Sem β} : Keep2 m → (∀ a, Keep2 (f a)) → Keep2 (m >>= f) := by
  show Keep2 m → (∀ a, Keep2 (f a)) → Keep2 (m.bind f)
  intro z g
  induction m with
  | pure a => exact g a
  | raise x => trivial
  | unsupported _ => trivial
  | finish _ => trivial
  | rule _ k ih => exact ih () z
  | «at» p' k ih => exact ih () z
  | load a _ k ih => exact fun o => ih o (z o)
  | update a _ f k ih => exact ⟨z.1, ih () z.2⟩
  | alloc o k ih => exact fun a => ih a (z a)
  | loadIfAlive a k ih => exact fun a => ih a (z a)
  | point _ k ih => exact ih () z
  | fresh k ih => exact fun a => ih a (z a)
  | ask k ih => exact fun a => ih a (z a)
  | handled _ k ih => exact fun a => ih a (z a)
  | stack k ih => exact fun a => ih a (z a)
  | thread k ih => exact fun a => ih a (z a)
  | _ => exact False.elim z
theorem F2o.set {o : Obj} {i : Nat} {v : Value} (hi : i ≠ 2) (p : F2o o) : F2o (Obj.mapFields (·.setIfInBounds i v) o) := by
  obtain ⟨vs, hd, hv⟩ := p
  exact ⟨_, Obj.data_mapFields hd _, by rw [Array.getElem?_setIfInBounds_ne hi]; exact hv⟩
theorem keep2_unsup {α : Type} {x : String} : Keep2 (PySem.unsupported x : Sem α) := trivial
theorem keep2_load {a : Addr} : Keep2 (PySem.load a) := fun _ => trivial
theorem keep2_field {v : Value} {i : Nat} : Keep2 (field v i) := by
  unfold field fieldsOf
  cases v with
  | ref a =>
    refine keep2_bind (keep2_bind keep2_load fun o => ?_) fun vs => ?_
    · cases o.data <;> first | exact keep2_unsup | trivial
    · cases vs[i]? <;> first | exact keep2_unsup | trivial
  | _ => exact keep2_unsup
theorem keep2_setField {v x : Value} {i : Nat} (hi : i ≠ 2) : Keep2 (setField v i x) := by
  unfold setField
  cases v with
  | ref a =>
    show Keep2 (updateField a i x)
    unfold updateField
    refine keep2_bind keep2_load fun o => ?_
    cases o.data with
    | fields vs =>
      show Keep2 (if i < vs.size then _ else _)
      split
      · exact ⟨fun o p => p.set hi, trivial⟩
      · exact keep2_unsup
    | _ => exact keep2_unsup
  | _ => exact keep2_unsup
theorem keep2_ready : ∀ l : List Env, Keep2 (readyFrames l)
  | [] => trivial
  | env :: outer => by
    unfold readyFrames
    cases env.frame with
    | none => exact keep2_unsup
    | some f =>
      refine keep2_bind keep2_load fun o => ?_
      split
      · trivial
      · refine keep2_bind ?_ fun b => keep2_bind ?_ fun v => keep2_bind ?_ fun _ => keep2_ready outer
        · unfold behindIsImport
          split
          · trivial
          · split
            · trivial
            · exact keep2_bind keep2_field fun _ => trivial
        · cases outer with
          | nil =>
            show Keep2 (if (env.scope.isGenerator || env.scope.isCoroutine) = true then pure Value.none else (do return if ← underTheClaimsCaller then Value.notImplemented else Value.none))
            split
            · trivial
            · exact keep2_bind (keep2_bind (fun _ => trivial) fun _ => trivial) fun _ => trivial
          | cons c r => trivial
        · exact ⟨fun o p => p, trivial⟩
theorem keep2_frameOf {env : Env} : Keep2 (PySem.frameOf env) := by
  unfold PySem.frameOf frameEnvs
  refine keep2_bind (keep2_bind (fun _ => trivial) fun _ => trivial) fun l => ?_
  refine keep2_bind ?_ fun o => ?_
  · cases (l.dropWhile (·.frame != env.frame)) with
    | nil => trivial
    | cons e r => exact keep2_bind (keep2_ready _) fun _ => trivial
  · cases o <;> first | exact keep2_unsup | trivial
theorem keep2_newFields {ty : String} {vs : List Value} : Keep2 (newFields ty vs) := by
  unfold newFields newObj
  show Keep2 (if vs.toArray.size > sizeLine + 2 then _ else _)
  split
  · trivial
  · exact fun _ => trivial
theorem keep2_note {env : Env} {e : Value} : Keep2 (noteFrame e env) := by
  unfold noteFrame
  cases env.frame with
  | none => exact keep2_unsup
  | some f =>
    refine keep2_bind keep2_field fun head => ?_
    have tail : Keep2 (do setField e 1 (← EntryCells.newEntry head (← PySem.frameOf env) .none (rawInt f) .none (← entryPlaceOf f (head != .none)))) := by
      refine keep2_bind keep2_frameOf fun a => keep2_bind ?_ fun pl => keep2_bind ?_ fun b => keep2_setField (by decide)
      · unfold entryPlaceOf
        refine keep2_bind (fun _ => trivial) fun acts => ?_
        split <;> trivial
      · exact keep2_newFields
    split
    · refine keep2_bind keep2_field fun x => ?_
      split
      · trivial
      · exact keep2_bind (keep2_setField (by decide)) fun _ => tail
    · exact tail
theorem keep2_flight {e : Value} {o : Option Addr} : Keep2 (setFlight e o) := by
  unfold setFlight
  refine keep2_bind keep2_field fun tb => ?_
  split
  · exact keep2_setField (by decide)
  · trivial
theorem keep2_leaving {env : Env} {e : Value} : Keep2 (leaving env e) := keep2_bind keep2_note fun _ => keep2_flight
end L2

/-! LAMP A: exceptions that leave a def, raise, try; comprehensions -/
namespace L2
open PySem PySem.Spec PyProof.Rows

/-! ### a tracked object is there -/

/-! ### an exception in flight, seen from the callers' frames -/
structure FlyG (fp : Heap → List Env → Addr → Value → Value → Heap → Prop) (P : Program) (w : World) (outer : List Env) (H H' : Hp) (s : Shared) (ea : Addr) (cls : Value) (s' : Shared) : Prop where
  fl : ∃ (B : Heap) (a0 : Value), fp B outer ea cls a0 s'.heap ∧ HOk P w H' B ∧
    ∀ b o, s.heap.get? b = some o → b ∉ frs outer → ∃ o', B.get? b = some o' ∧ (H b = none → o' = o)
  os : s'.os = s.os
  bare : AllBare s'.gens
  slot : ∀ b o, s.heap.get? b = some o → b ∈ frs outer → ∃ sl, s'.heap.get? b = some { o with slots := sl }
  free : ∀ b o, s.heap.get? b = some o → H b = none → H' b = none
  tups : ∀ b xs, H b = some (.tup xs) → H' b = some (.tup xs)
  frzs : ∀ b o u, H b = some (.frz o u) → H' b = some (.frz o u)
  tbls : ∀ b ps, H b = some (.tbl ps) → ∃ more, H' b = some (.tbl (ps ++ more))
  cx : C2 ea s'.heap

abbrev Fly := FlyG Heap.FlyingW
def FlyHeld (L : Addr) (B : Heap) (l : List Env) (e : Addr) (cls a0 : Value) (h : Heap) : Prop := Heap.FlyingW B l e cls a0 h ∨ Heap.HeldW B l e cls a0 L h
abbrev FlyX (L : Addr) := FlyG (FlyHeld L)
theorem FlyG.held {P : Program} {w : World} {outer : List Env} {H H' : Hp} {s s' : Shared} {ea L : Addr} {cls : Value} (f : Fly P w outer H H' s ea cls s') : FlyX L P w outer H H' s ea cls s' := by
  obtain ⟨⟨B, a0, hf, r⟩, q1, q2, q3, q4, q5, q6, q7, q8⟩ := f
  exact ⟨⟨B, a0, .inl hf, r⟩, q1, q2, q3, q4, q5, q6, q7, q8⟩
theorem FlyHeld.ff {L : Addr} {B h : Heap} {l : List Env} {e : Addr} {cls a0 : Value} (f : FlyHeld L B l e cls a0 h) : h.FunFrames B l := f.elim (·.2.2.1) (·.2.2.1)
theorem leave_any {M : Model} {A : Around} {E : Value → Shared → Prop} {s : Shared} {B : Heap} {env : Env} {outer : List Env} {L e : Addr} {cls a0 : Value} {Q : Unit → Shared → Prop} (hA : A.frames = some (env :: outer)) (hf : env.frame = some L)
    (h : FlyHeld L B (env :: outer) e cls a0 s.heap) (hQ : ∀ h', Heap.FlyingW B outer e cls a0 h' → s.heap.UpToSlots h' → Q () { s with heap := h' }) : wpAny M A (leaving env (.ref e)) Q E s := by
  rcases h with h | h
  · exact wpAny_leaves_onW hA hf h hQ
  · unfold leaving
    refine wpAny_bind (wpAny_noteFrame_againW hf h.2.2.2 ?_)
    refine wpAny_landsW h fun h' hfl up => ?_
    obtain ⟨k1, k2, ⟨_, _, k3⟩, k4⟩ := hfl
    exact hQ h' ⟨k1, k2, k3, k4⟩ up
theorem mem_frs {l : List Env} {b : Addr} (h : b ∈ frs l) : b ∈ l.filterMap (·.frame) := h


def CXE (P : Program) (w : World) : CXT := fun outer H s E e s' => ∃ ea cls H', e = Value.ref ea ∧ Fly P w outer H H' s ea cls s' ∧ E cls none H'

/-! ### a callee's exception leaves this frame too -/
section
variable {P : Program} {w : World} {K : PySem.W.Frag} {mg : Str → Option Value} {base : Heap} {N : List Str} {qual : Str} {scope : Scope} {f : Addr} {cd : Value} {A : Around} {outer : List Env} {s : Shared} {H : Hp} {E : XK}
  {pins : List (Addr × Obj)} {σ : St} {H1 : Hp} {s1 : Shared}

theorem inB_of (I : Inv (cxOf (CXE P w) P w K mg base N qual scope f cd A outer s H E) pins σ H1 s1) {B : Heap}
    (hB : ∀ b o, s1.heap.get? b = some o → b ∉ frs (cxOf (CXE P w) P w K mg base N qual scope f cd A outer s H E).stack → ∃ o', B.get? b = some o' ∧ (H1 b = none → o' = o)) :
    ∀ b o, s.heap.get? b = some o → b ∉ frs outer → ∃ o', B.get? b = some o' ∧ (H b = none → o' = o) := fun b o e hb => by
  have un : Un (frs outer) [] H H1 s.heap s1.heap := I.base
  obtain ⟨o1, e1⟩ := un.there b o e (by simp)
  have hbs : b ∉ frs (cxOf (CXE P w) P w K mg base N qual scope f cd A outer s H E).stack := fun z => by
    rcases List.mem_cons.mp (I.stkSub b z) with z | z
    · have z' : b = s.heap.objs.size := z
      exact absurd (Heap.lt_size e) (by rw [z']; exact Nat.lt_irrefl _)
    · exact hb z
  obtain ⟨o', e', q⟩ := hB b o1 e1 hbs
  refine ⟨o', e', fun n => ?_⟩
  have e2 := un.keep b o e n hb (by simp)
  rw [e1] at e2
  rw [q (un.free b o e n (by simp))]
  exact Option.some.inj e2

theorem passX {ea : Addr} {cls : Value} {H' : Hp} {s' : Shared} (I : Inv (cxOf (CXE P w) P w K mg base N qual scope f cd A outer s H E) pins σ H1 s1)
    (fy : FlyX s.heap.objs.size P w (cxOf (CXE P w) P w K mg base N qual scope f cd A outer s H E).stack H1 H' s1 ea cls s') (hE : E cls none H') : (cxOf (CXE P w) P w K mg base N qual scope f cd A outer s H E).xe (.ref ea) s' := by
  obtain ⟨B, a0, hfl, hok, hB⟩ := fy.fl
  have un : Un (frs outer) [] H H1 s.heap s1.heap := I.base
  show wpAny (model P w) (A.deeper (envOfC qual scope s.heap.objs.size f cd)) (leaving (envOfC qual scope s.heap.objs.size f cd) (.ref ea)) (fun _ s'' => CXE P w outer H s E (.ref ea) s'') (fun e' s'' => CXE P w outer H s E e' s'') s'
  refine wpAny_keep2 keep2_leaving fy.cx (leave_any (outer := outer) (L := s.heap.objs.size) I.ok.frames rfl hfl fun h' hfl' up c' => ⟨ea, cls, H', rfl, ⟨⟨B, a0, hfl', hok, inB_of I hB⟩, ?_, fy.bare, fun b o e hb => ?_, fun b o e n => ?_, fun b xs q => ?_, fun b o u q => ?_, fun b ps q => ?_, c'⟩, hE⟩)
  · show s'.os = s.os
    rw [fy.os]
    exact I.os
  · obtain ⟨s2, e2⟩ := un.slot b o e (I.ok.frf b hb) hb (by simp)
    have hb' : b ∈ frs (cxOf (CXE P w) P w K mg base N qual scope f cd A outer s H E).stack := List.mem_cons_of_mem _ hb
    obtain ⟨s3, e3⟩ := fy.slot b _ e2 hb'
    obtain ⟨_, o3, ho3, hnf⟩ := hfl.ff.mem (mem_frs hb')
    rw [e3] at ho3
    cases ho3
    obtain ⟨s4, e4⟩ := up b _ e3 hnf
    exact ⟨s4, e4⟩
  · obtain ⟨o1, e1⟩ := un.there b o e (by simp)
    exact fy.free b o1 e1 (un.free b o e n (by simp))
  · exact fy.tups b xs (un.tups b xs q)
  · exact fy.frzs b o u (un.frzs b o u q)
  · obtain ⟨m1, q1⟩ := un.tbls b ps q
    obtain ⟨m2, q2⟩ := fy.tbls b _ q1
    exact ⟨m1 ++ m2, by rw [q2, Array.append_assoc]⟩
theorem passE : Passes (CXE P w) (cxOf (CXE P w) P w K mg base N qual scope f cd A outer s H E) E := by
  rintro pins σ H1 s1 e s' I ⟨ea, cls, H', rfl, fy, hE⟩
  exact passX I fy.held hE

theorem raiseE (I : Inv (cxOf (CXE P w) P w K mg base N qual scope f cd A outer s H E) pins σ H1 s1) {h1 : Heap} {e : Addr} {cls : Value} {args : List Value} (hx : Heap.MadeExcOf s1.heap h1 e cls args) (hE : E cls none H1) :
    (cxOf (CXE P w) P w K mg base N qual scope f cd A outer s H E).xe (.ref e) { s1 with heap := h1 } := by
  have un : Un (frs outer) [] H H1 s.heap s1.heap := I.base
  show wpAny (model P w) (A.deeper (envOfC qual scope s.heap.objs.size f cd)) (leaving (envOfC qual scope s.heap.objs.size f cd) (.ref e)) (fun _ s'' => CXE P w outer H s E (.ref e) s'') (fun e' s'' => CXE P w outer H s E e' s'') { s1 with heap := h1 }
  have hst := I.stack
  have nfr : ∀ b o, H1 b = some o → b ∉ frs (cxOf (CXE P w) P w K mg base N qual scope f cd A outer s H E).stack := fun b o q z => by
    have := I.stkFree b z
    rw [this] at q
    cases q
  have hok : HOk P w H1 (PySem.W.hideAll s1.heap (frs (cxOf (CXE P w) P w K mg base N qual scope f cd A outer s H E).stack)) := fun a o q =>
    (I.hok a o q).stay (fun b u hb z => PySem.W.hideAll_get _ z (by
      rcases hb with rfl | hb
      · exact nfr _ _ q
      · exact nfr _ _ hb)) (fun _ z => z) fun _ _ z => z
  have c1 : C2 e h1 := by
    obtain ⟨t, he, _⟩ := hx.there
    exact ⟨_, he, _, rfl, rfl⟩
  refine wpAny_keep2 (s := { s1 with heap := h1 }) keep2_leaving c1 (wpAny_leaves_madeW (s := { s1 with heap := h1 }) (base := PySem.W.hideAll s1.heap (frs (cxOf (CXE P w) P w K mg base N qual scope f cd A outer s H E).stack)) (h := s1.heap) (outer := outer) (L := s.heap.objs.size) I.ok.frames rfl (fun b o q => PySem.W.of_hideAll _ q)
    (PySem.W.funFrames_hide hst fun env he a ha => List.mem_filterMap.mpr ⟨env, he, ha⟩) hx fun h' t hfl htup hnt up c' => ⟨e, cls, H1, rfl, ⟨⟨_, _, hfl, hok, inB_of I fun b o q hb => ⟨o, PySem.W.hideAll_get _ q hb, fun _ => rfl⟩⟩, I.os, I.bare, fun b o q hb => ?_, fun b o q n => ?_, un.tups, un.frzs, un.tbls, c'⟩, hE⟩)
  · obtain ⟨s2, e2⟩ := un.slot b o q (I.ok.frf b hb) hb (by simp)
    have e3 := hx.keeps b _ e2
    have hb' : b ∈ frs (cxOf (CXE P w) P w K mg base N qual scope f cd A outer s H E).stack := List.mem_cons_of_mem _ hb
    obtain ⟨_, o3, ho3, hnf⟩ := hst.mem (mem_frs hb')
    rw [e2] at ho3
    cases ho3
    obtain ⟨s4, e4⟩ := up b _ e3 hnf
    exact ⟨s4, e4⟩
  · exact un.free b o q n (by simp)
end

/-! ### a def whose body may raise -/
theorem Fun.okE {P : Program} {w : World} {K : PySem.W.Frag} {mg : Str → Option Value} {base : Heap} {x qual : Str} {st : Stmt} {f : Addr} {fd : FuncData} {N ps : List Str} {k : Nat} {sp : Sp} (F : Fun K x qual st f fd) (S : FnScope N ps (defScope st))
    (len : ∀ vs H Q E, sp vs H Q E → vs.length = ps.length)
    (hbody : ∀ (cdv : Value) (A : Around) (outer : List Env) (s : Shared) (H : Hp) (vs : List V) (Q : VK) (E : XK), Room k (A.deeper (envOfC qual (defScope st) s.heap.objs.size f cdv)) → sp vs H Q E →
      ∃ t, PSs (cxOf (CXE P w) P w K mg base N qual (defScope st) f cdv A outer s H E) (defBody st) t ∧ t { nx := fun _ H' => Q .non H', rt := Q } (start N vs) H) : FnOk P w K mg base (CXE P w) (k + 1) f fd ps sp := by
  obtain ⟨oc, od, kV, doc, pm, an, cdv, ct, osl, rfl, lk, hcd⟩ := F.ex
  exact fn_of lk hcd S len fun A outer s H vs Q E hr hsp => hbody cdv A outer s H vs Q E hr hsp
end L2

/-! LAMP B: raise, try, calls whose wish of exceptions hangs on the frame -/
namespace L2
open PySem PySem.Spec PyProof.Rows

/-! ### an own exception class of the text, under ValueError -/
abbrev bmV : List Value := [.type "ValueError", .type "Exception", .type "BaseException", .type "object"]
theorem own_obj {K : PySem.W.Frag} {h : Heap} {C : Addr} {bmB : List Value} {newId : String} (X : K.In h) (q : PySem.W.excIn K C bmB newId = true) :
    ∃ bm N nm qn bs hdct sn sub ab col dd k0 k1 k2 k3 k5 mN, h.get? C = some (excClassObj nm qn C N bs bm hdct sn sub ab col dd k0 k1 k2 k3 k5 newId) ∧ h.Ns N mN ∧ mN "__init__" = none ∧ OwnTail h bmB bm := by
  unfold PySem.W.excIn at q
  split at q
  · rename_i dd cd sl ho
    split at q
    · rename_i C2 bm k0 k1 k2 k3 n k5 hm hs
      obtain ⟨nm, bs, mro, ns, qn, hd, sn, sub, ab, col, del⟩ := cd
      simp only [Bool.and_eq_true, beq_iff_eq, Bool.not_eq_true'] at q
      obtain ⟨⟨⟨⟨⟨q1, q2⟩, q3⟩, q4⟩, q5⟩, q6⟩ := q
      subst q1 q2
      dsimp only at hm q3
      subst hm q3
      have e : sl = #[k0, k1, k2, k3, some (.builtin n), k5] := by
        cases sl with
        | mk l => exact congrArg Array.mk hs
      subst e
      exact ⟨bm, ns, nm, qn, bs, hd, sn, sub, ab, col, dd, k0, k1, k2, k3, k5, _, X _ _ ho, .of_isNs (PySem.W.isNs_of_in X q5), PySem.W.nsMap_none_of_in X q5 q6, PySem.W.tail_of_in X q4⟩
    · cases q
  · cases q

section
variable {X : Cx} {C : Addr} {x m : Str} {np cpos mpos pos : Pos} {j : Nat}
theorem ps_raise {R : St → Hp → Prop} (hc : X.calm = true) (hg : Gl X x) (hm : X.mg x = some (.ref C)) (hex : PySem.W.excIn X.K C bmV "ValueError.__new__" = true)
    (hx : ∀ (pins : List (Addr × Obj)) (σ : St) (H : Hp) (s : Shared) (h1 : Heap) (e : Addr) (args : List Value), Inv X pins σ H s → Heap.MadeExcOf s.heap h1 e (.ref C) args → R σ H → X.xe (.ref e) { s with heap := h1 })
    (hd : (x == ("__debug__" : Str)) = false := by decide) : PS X (.Raise (some (.Call (.Name x np) [.Constant (.str m) j mpos] [] cpos)) none pos) (fun _ σ H => R σ H) := by
  intro pins s σ H D I h
  obtain ⟨bm, N, nm, qn, bs, hdct, sn, sub, ab, col, dd, k0, k1, k2, k3, k5, mN, hC, hN, hni, T⟩ := own_obj I.mod.kin hex
  refine wpAny_Raise_call_subT (C := C) (nm := nm) (q := qn) (N := N) (bs := bs) (bm := bm) (hdct := hdct) (sn := sn) (sub := sub) (ab := ab) (col := col) (dd := dd) (k0 := k0) (k1 := k1) (k2 := k2) (k3 := k3) (k5 := k5)
    PySem.F.excBase_ValueError (mN := mN) (T.hasType PySem.F.excBase_ValueError.hasBase) (I.ok.hd hc) rfl hni (ld_glob I hg hm ⟨rfl, ?_⟩ hd)
  refine Calls.evalArgs_plain ?_
  have ha : PA X [.Constant (.str m) j mpos] (tCons (tC (.str m)) tNil) := pa_cons pe_str pa_nil
  refine thn (ha cpos pins s σ H (fun vs H1 => vs = [.str m] ∧ H1 = H) I ⟨rfl, rfl⟩) fun us s2 ⟨vs, H2, I2, r, e1, e2⟩ => ?_
  subst e1 e2
  have hl : us.length = 1 := r.length.symm
  exact ⟨rfl, by show us.length ≤ sizeLine; rw [hl]; decide, I2.bk _ _ hC, hN.keeps I2.bk, T.keeps I2.bk, fun h1 e hmade => hx pins σ H2 s2 h1 e _ I2 hmade h⟩
end

/-! ### the frame's wish: an exception wanted by the names' values -/
def PassesS (CX : CXT) (X : Cx) (E : St → XK) : Prop := ∀ (pins : List (Addr × Obj)) (σ : St) (H : Hp) (s : Shared) (e : Value) (s' : Shared), Inv X pins σ H s → CX X.stack H s (E σ) e s' → X.xe e s'
theorem Passes.s {CX : CXT} {X : Cx} {E : XK} (h : Passes CX X E) : PassesS CX X (fun _ => E) := fun pins σ H s e s' I q => h pins σ H s e s' I q
def tCallS (sp : Sp) (dvs : List V) (E : St → XK) (t : TA) : TE := fun σ H Q => t σ H fun vs H1 => sp (vs ++ dvs) H1 Q (E σ)
def tMethS (C : Addr) (m : Str) (sp : Sp) (dvs : List V) (E : St → XK) (ta : TE) (t : TA) : TE := fun σ H Q => ta σ H fun x H1 => ∃ a dx fs, x = .ref a ∧ H1 a = some (.ins C dx fs) ∧ fs.lookup m = none ∧
  t σ H1 fun vs H2 => sp (x :: (vs ++ dvs)) H2 Q (E σ)
def tMakeS (C : Addr) (sp : Sp) (dvs : List V) (E : St → XK) (t : TA) : TE := fun σ H Q => t σ H fun vs H1 => ∀ x dx, H1 x = none → H1 dx = none → dx ≠ x →
  sp (.ref x :: (vs ++ dvs)) (upd (upd H1 dx (.own x)) x (.ins C dx [])) (fun v H2 => v = .non ∧ Q (.ref x) H2) (E σ)
section
variable {X : Cx} {CX : CXT} {k : Nat} {f C : Addr} {fd : FuncData} {ps : List Str} {sp : Sp} {dvs : List V} {ds : List Value} {E : St → XK} {x m : Str} {p pos apos : Pos} {e o : Expr} {es : List Expr} {ta : TE} {t : TA}
theorem run_fnS {pins : List (Addr × Obj)} {σ : St} {H : Hp} {s : Shared} {Q : VK} {us : List Value} {vs : List V} (F : FnOk X.prog X.w X.K X.mg X.base CX k f fd ps sp) (hr : Room k X.A) (hb : Binds X.K fd ps ds) (hd : Vals dvs ds) (hx : PassesS CX X E)
    (I : Inv X pins σ H s) (r : Vals vs us) (h : sp (vs ++ dvs) H Q (E σ)) : wpAny (model X.prog X.w) X.A (call (.ref f) us) (EP X pins σ Q) X.xe s := by
  have r2 : Vals (vs ++ dvs) (us ++ ds) := r.append hd
  have hl : (us ++ ds).length = ps.length := by rw [← r2.length]; exact F.len _ _ _ _ h
  refine wpAny_call (codeAny_mono (F.run X.A X.stack s H ⟨us, []⟩ (us ++ ds) (vs ++ dvs) Q (E σ) hr I.env0 (hb s us I.kIn hl) r2 h) fun r s' hq => ?_)
  cases r with
  | error e => exact hx pins σ H s e s' I hq
  | ok fl => cases fl <;> first | exact I.after hq | exact False.elim hq
theorem run_makeS {pins : List (Addr × Obj)} {σ : St} {H : Hp} {s : Shared} {Q : VK} {us : List Value} {vs : List V} (M : Mk X.K C f) (F : FnOk X.prog X.w X.K X.mg X.base CX k f fd ps sp) (hr : Room (k + 1) X.A) (hb : Binds X.K fd ps ds) (hd : Vals dvs ds)
    (hx : PassesS CX X E) (I : Inv X pins σ H s) (r : Vals vs us)
    (h : ∀ x dx, H x = none → H dx = none → dx ≠ x → sp (.ref x :: (vs ++ dvs)) (upd (upd H dx (.own x)) x (.ins C dx [])) (fun v H2 => v = .non ∧ Q (.ref x) H2) (E σ)) :
    wpAny (model X.prog X.w) X.A (call (.ref C) us) (EP X pins σ Q) X.xe s := by
  have hq := h (s.heap.objs.size + 1) s.heap.objs.size (I.hok.fresh (Nat.le_succ _)) (I.hok.fresh (Nat.le_refl _)) (Nat.ne_of_lt (Nat.lt_succ_self _))
  have I2 := Inv.made (C := C) I
  have r2 : Vals (V.ref (s.heap.objs.size + 1) :: (vs ++ dvs)) (Value.ref (s.heap.objs.size + 1) :: (us ++ ds)) := .cons rfl (r.append hd)
  have hl : (Value.ref (s.heap.objs.size + 1) :: us ++ ds).length = ps.length := by
    have e := r2.length
    rw [F.len _ _ _ _ hq] at e
    exact e.symm
  refine wpAny_call (make_map (f := f) I.kIn M.makes M.init (beq_iff_eq.mp M.fn) (codeAny_mono (F.run _ X.stack _ _ ⟨Value.ref (s.heap.objs.size + 1) :: us, []⟩ (Value.ref (s.heap.objs.size + 1) :: (us ++ ds)) _ _ (E σ) (hr.make C us [])
    (I2.env0.make C us []) (hb _ (Value.ref (s.heap.objs.size + 1) :: us) I2.kIn hl) r2 hq) fun r s' hq' => ?_))
  cases r with
  | error e => exact hx pins σ _ _ e s' I2 hq'
  | ok fl =>
    cases fl with
    | ret u =>
      obtain ⟨v, H', I3, rv, ev, q3⟩ := I2.after hq'
      subst ev
      exact ⟨rv, ⟨V.ref (s.heap.objs.size + 1), H', I3, rfl, q3⟩⟩
    | next => exact False.elim hq'
    | brk => exact False.elim hq'
    | cont => exact False.elim hq'
theorem pe_callS (F : FnOk X.prog X.w X.K X.mg X.base CX k f fd ps sp) (hr : Room k X.A) (hg : Gl X x) (hm : X.mg x = some (.ref f)) (hk : PySem.W.keepIn X.K (.ref f) = true) (hb : Binds X.K fd ps ds) (hd : Vals dvs ds) (hx : PassesS CX X E)
    (ha : PA X (e :: es) t) (hdb : (x == ("__debug__" : Str)) = false := by decide) (he : starEach (e :: es) X.env = (false, eval e X.env) :: starEach es X.env := by rfl) (hpl : (backTo pos (starEach es X.env)).any (·.1) = false := by rfl) :
    PE X (.Call (.Name x p) (e :: es) [] pos) (tCallS sp dvs E t) := by
  intro pins s σ H Q I h
  refine wpAny_Call_Name_kw (ld_glob I hg hm ?_ hdb)
  refine PySem.W.callWith_K (h₀ := X.base) I.ok.mod.kin hk (thn (ha pos pins s σ H _ I h) fun us s1 ⟨vs, H1, I1, r, q⟩ => ⟨I1.kIn, ?_⟩) he hpl
  exact run_fnS F hr hb hd hx I1 r q
theorem pe_methS {pl : Sem Bool} (he : PE X o ta) (c : Cls X.K C) (hm : Meth X.K C m f) (F : FnOk X.prog X.w X.K X.mg X.base CX k f fd ps sp) (hr : Room k X.A) (hb : Binds X.K fd ps ds) (hd : Vals dvs ds) (hx : PassesS CX X E) (ha : PA X (e :: es) t)
    (hst : starEach (e :: es) X.env = (false, eval e X.env) :: starEach es X.env := by rfl) (hpl : (backTo pos (starEach es X.env)).any (·.1) = false := by rfl)
    (ht : eval (.Call (.Attribute o m apos) (e :: es) [] pos) X.env = (do
      let ov ← eval o X.env
      standAt apos.atName
      let (f, first) ← holding [ov] (getMethod ov m pl)
      callWith pos f first (backTo pos (starEach (e :: es) X.env)) (backToKw pos (keywordEach [] X.env))) := by rfl) :
    PE X (.Call (.Attribute o m apos) (e :: es) [] pos) (tMethS C m sp dvs E ta t) := by
  intro pins s σ H Q I h
  refine PySem.W.methodCall_KW (pl := pl) (thn (he pins s σ H _ I h) fun u s1 ⟨x, H1, I1, rx, a, dx, fs, ex, ea, l, q⟩ => ?_) ht
  subst ex
  obtain rfl : u = Value.ref a := rx
  refine getmeth_ok I1 ea c hm l ?_
  refine PySem.W.callWith_K (first := [.ref a]) (h₀ := X.base) I.ok.mod.kin hm.kp (thn (ha pos pins s1 σ H1 _ I1 q) fun us s2 ⟨vs, H2, I2, r, q2⟩ => ⟨I2.kIn, ?_⟩) hst hpl
  exact run_fnS (us := .ref a :: us) (vs := .ref a :: vs) F hr hb hd hx I2 (.cons rfl r) q2
theorem pe_makeS (M : Mk X.K C f) (F : FnOk X.prog X.w X.K X.mg X.base CX k f fd ps sp) (hr : Room (k + 1) X.A) (hg : Gl X x) (hm : X.mg x = some (.ref C)) (hb : Binds X.K fd ps ds) (hd : Vals dvs ds) (hx : PassesS CX X E)
    (ha : PA X (e :: es) t) (hdb : (x == ("__debug__" : Str)) = false := by decide) (he : starEach (e :: es) X.env = (false, eval e X.env) :: starEach es X.env := by rfl) (hpl : (backTo pos (starEach es X.env)).any (·.1) = false := by rfl) :
    PE X (.Call (.Name x p) (e :: es) [] pos) (tMakeS C sp dvs E t) := by
  intro pins s σ H Q I h
  refine wpAny_Call_Name_kw (ld_glob I hg hm ?_ hdb)
  refine PySem.W.callWith_K (h₀ := X.base) I.ok.mod.kin M.kp (thn (ha pos pins s σ H _ I h) fun us s1 ⟨vs, H1, I1, r, q⟩ => ⟨I1.kIn, ?_⟩) he hpl
  exact run_makeS M F hr hb hd hx I1 r q
end
theorem passN {P : Program} {w : World} {X : Cx} : PassesS (CXE P w) X (fun _ => E0) := fun _ _ _ _ _ _ _ ⟨_, _, _, _, _, h⟩ => h.elim

/-! ### try: the body's context, the suite's context -/
section
variable {X : Cx} {pins pins2 : List (Addr × Obj)} {Hand : St → XK} {σ : St} {H : Hp} {s : Shared} {ea : Addr}
theorem Inv.track {o : HO} (I : Inv X pins σ H s) (hn : H ea = none) (hm : ∀ b u, X.s₀.heap.get? b = some u → b ≠ ea) (hL : ea ≠ X.env.locals) (hc : ∀ x c, X.env.cells.lookup x = some c → c ≠ ea) (hp : ∀ p ∈ X.pn ++ pins, p.1 ≠ ea)
    (new : ObjOk X.prog X.w (upd H ea o) s.heap ea o) : Inv X pins σ (upd H ea o) s := by
  have ne : ∀ b u, H b = some u → b ≠ ea := fun b u e z => by rw [z, hn] at e; cases e
  refine ⟨I.ok, I.os, I.bare, ⟨I.base.keep, I.base.slot, fun b u e n hx => ?_, I.base.there, fun b xs e => ?_, fun b u v e => ?_, fun b ps e => ?_⟩, I.loc, I.cell, ?_, fun x c e => ?_, fun p h => ?_, fun b u e => ?_, I.len⟩
  · rw [upd_ne (hm b u e)]; exact I.base.free b u e n hx
  · have q := I.base.tups b xs e
    rw [upd_ne (ne b _ q)]; exact q
  · have q := I.base.frzs b u v e
    rw [upd_ne (ne b _ q)]; exact q
  · obtain ⟨more, q⟩ := I.base.tbls b ps e
    exact ⟨more, by rw [upd_ne (ne b _ q)]; exact q⟩
  · rw [upd_ne (Ne.symm hL)]; exact I.free
  · rw [upd_ne (hc x c e)]; exact I.freeC x c e
  · obtain ⟨a, b, c⟩ := I.pin p h
    exact ⟨a, by rw [upd_ne (hp p h)]; exact b, c⟩
  · by_cases z : b = ea
    · subst z
      rw [upd_same] at e
      cases e
      exact new
    · rw [upd_ne z] at e
      exact (I.hok b u e).stay (fun _ _ _ q => q) (fun c q => by rw [upd_ne (ne c _ q)]; exact q) fun c xs q => by rw [upd_ne (ne c _ q)]; exact q
end

/-! ### an exception that a loop lets by -/

end L2

/-! LAMP C: list comprehensions -/
namespace L2
open PySem PySem.Spec PyProof.Rows

/-! ### the block's environment -/
theorem cellsFrom_app : ∀ (names : List (Str × NameKind)) (n : Nat) (acc : List (Str × Addr)), cellsFrom n names acc = cellsFrom n names [] ++ acc
  | [], _, acc => rfl
  | (x, k) :: r, n, acc => by
    unfold cellsFrom
    split
    · rw [cellsFrom_app r (n + 1) ((x, n) :: acc), cellsFrom_app r (n + 1) [(x, n)], List.append_assoc]
      rfl
    · exact cellsFrom_app r n acc
theorem mem_cellsFrom : ∀ {names : List (Str × NameKind)} {n : Nat} {x : Str} {c : Addr}, (x, c) ∈ cellsFrom n names [] → (x, NameKind.cell) ∈ names
  | [], n, x, c, h => by cases h
  | (y, k) :: r, n, x, c, h => by
    unfold cellsFrom at h
    split at h
    · rename_i hk
      rw [cellsFrom_app] at h
      rcases List.mem_append.mp h with h | h
      · exact List.mem_cons_of_mem _ (mem_cellsFrom h)
      · have e : (x, c) = (y, n) := by simpa using h
        have hk' : k = .cell := by simpa using hk
        injection e with e1 e2
        subst e1 hk'
        exact List.mem_cons_self
    · exact List.mem_cons_of_mem _ (mem_cellsFrom h)
theorem lookup_app {α : Type} {l1 l2 : List (Str × α)} {x : Str} : (l1 ++ l2).lookup x = (l1.lookup x).or (l2.lookup x) := by
  induction l1 with
  | nil => rfl
  | cons p r ih =>
    obtain ⟨y, c⟩ := p
    rw [List.cons_append, List.lookup_cons, List.lookup_cons]
    cases x == y
    · exact ih
    · rfl

theorem compEnv_ok {M : Model} {A : Around} {E : Value → Shared → Prop} {s : Shared} {scope : Scope} {globals : Addr} {cl : List (Str × Addr)} {qual : Str} {env : Env} {Q : Env → Shared → Prop}
    (hQ : ∀ h', (∀ b o, s.heap.get? b = some o → h'.get? b = some o) → h'.Ns s.heap.objs.size (fun _ => none) → CellsOk h' (s.heap.objs.size + 1) (cellsFrom (s.heap.objs.size + 1) scope.names []) →
      Q { scope, locals := s.heap.objs.size, globals, cells := cellsFrom (s.heap.objs.size + 1) scope.names cl, qual, func := none, code := env.code, frame := env.frame, builtins := env.builtins } { s with heap := h' }) :
    wpAny M A (newFunctionEnv scope globals cl [] qual none .none (some env)) Q E s := by
  simp only [newFunctionEnv, Option.isSome_some, if_true]
  refine wpAny_bind (wpAny_alloc ?_)
  refine wpAny_bind (wpAny_layCells _ (fun name kind cells => by cases hkc : kind == NameKind.cell <;> simp [hkc]) _ _ _ _ ?_)
  have ok := cellsFrom_ok scope.names (s.heap.push { cls := .type "dict", data := .dict #[] }) (s.heap.objs.size + 1) [] ⟨fun _ _ hm => (nomatch hm), List.Pairwise.nil⟩ (by rw [Heap.size_push]; exact Nat.le_refl _)
  rw [Heap.size_push] at ok
  have q := hQ (pushCells (s.heap.push { cls := .type "dict", data := .dict #[] }) scope.names) (fun b o e => pushCells_keeps _ _ b o (Heap.get?_push_of_some _ e)) ((Heap.Ns.new s.heap (.type "dict")).keeps (pushCells_keeps _ _)) ok
  rw [show ({ s with heap := s.heap.push { cls := .type "dict", data := .dict #[] } } : Shared).heap.objs.size = s.heap.objs.size + 1 from Heap.size_push ..]
  exact wpAny_bind (wpAny_pure (wpAny_pure q))

def closL (cells : List (Str × Addr)) : List (Str × NameKind) → List (Str × Addr) → List (Str × Addr)
  | [], cs => cs
  | (n, k) :: r, cs => closL cells r (if k = .free then (n, (cells.lookup n).getD 0) :: cs else cs)
theorem closureFor_of {scope : Scope} {env : Env} (h : ∀ y ∈ scope.names, y.2 = .free → (env.cells.lookup y.1).isSome = true) : closureFor scope env = pure (closL env.cells scope.names []) := by
  have go : ∀ (names : List (Str × NameKind)) (cs : List (Str × Addr)), (∀ y ∈ names, y.2 = .free → (env.cells.lookup y.1).isSome = true) →
      (forIn names cs fun x r => (match x with | (name, kind) => if (kind == NameKind.free) = true then do let a ← cellOf env name; pure (ForInStep.yield ((name, a) :: r)) else pure (ForInStep.yield r) : Sem (ForInStep (List (Str × Addr))))) = pure (closL env.cells names cs) := by
    intro names
    induction names with
    | nil => intro cs _; rfl
    | cons y r ih =>
      obtain ⟨n, k⟩ := y
      intro cs hy
      rw [List.forIn_cons]
      by_cases hk : k = .free
      · subst hk
        obtain ⟨c, hc⟩ := Option.isSome_iff_exists.mp (hy (n, .free) List.mem_cons_self rfl)
        have e : cellOf env n = pure c := by unfold cellOf; rw [hc]
        simp only [beq_self_eq_true, if_true, e, pure_bind]
        rw [ih _ fun y hm => hy y (List.mem_cons_of_mem _ hm)]
        simp [closL, hc]
      · have hb : (k == NameKind.free) = false := by simpa using hk
        simp only [hb, Bool.false_eq_true, if_false, pure_bind]
        rw [ih _ fun y hm => hy y (List.mem_cons_of_mem _ hm)]
        simp [closL, hk]
  exact Eq.trans (congrArg (fun z => z >>= pure) (go scope.names [] h)) rfl
theorem closL_look {cells : List (Str × Addr)} {x : Str} {c : Addr} : ∀ {names : List (Str × NameKind)} {cs : List (Str × Addr)}, (closL cells names cs).lookup x = some c → (x, NameKind.free) ∈ names ∧ (cells.lookup x).getD 0 = c ∨ cs.lookup x = some c
  | [], cs, h => .inr h
  | (n, k) :: r, cs, h => by
    unfold closL at h
    rcases closL_look h with ⟨h1, h2⟩ | h2
    · exact .inl ⟨List.mem_cons_of_mem _ h1, h2⟩
    · by_cases hk : k = .free
      · rw [if_pos hk, List.lookup_cons] at h2
        cases hx : x == n with
        | true =>
          rw [hx] at h2
          have e : x = n := by simpa using hx
          subst e hk
          exact .inl ⟨List.mem_cons_self, Option.some.inj h2⟩
        | false => rw [hx] at h2; exact .inr h2
      · rw [if_neg hk] at h2; exact .inr h2
theorem closL_has {cells : List (Str × Addr)} {x : Str} : ∀ {names : List (Str × NameKind)} {cs : List (Str × Addr)}, ((x, NameKind.free) ∈ names ∨ (cs.lookup x).isSome = true) → ((closL cells names cs).lookup x).isSome = true
  | [], cs, h => by
    rcases h with h | h
    · cases h
    · exact h
  | (n, k) :: r, cs, h => by
    unfold closL
    refine closL_has ?_
    rcases h with h | h
    · rcases List.mem_cons.mp h with e | h
      · injection e with e1 e2
        subst e1 e2
        right
        rw [if_pos rfl, List.lookup_cons]
        simp
      · exact .inl h
    · right
      split
      · rw [List.lookup_cons]
        cases x == n
        · exact h
        · rfl
      · exact h

/-! ### the block's context -/
def compCx (X : Cx) (Nc : List Str) (scope : Scope) (cells : List (Str × Addr)) (C : Addr) (s : Shared) (H : Hp) (fp : List Addr) : Cx where
  prog := X.prog
  w := X.w
  K := X.K
  mg := X.mg
  base := X.base
  A := X.A
  N := Nc
  s₀ := s
  H₀ := H
  env := compEnvC scope cells C X.env
  outer := X.stack
  stack := X.stack
  ex := fp
  fn := fun x => scope.names.lookup x == some .cell
  calm := X.calm
  pn := []
  xe := fun _ _ => False
def cσ (n : Nat) (js : List Nat) (σ : St) : St := List.replicate n none ++ js.map fun j => (σ[j]?).join
def cN (vs : List Str) (js : List Nat) (N : List Str) : List Str := vs ++ js.map fun j => N.getD j ""

structure CompScope (X : Cx) (scope : Scope) (vs : List Str) (js : List Nat) : Prop where
  kind : scope.kind = .function
  nd : (scope.names.map (·.1)).Nodup
  fr : ∀ y ∈ scope.names, y.2 = .free → X.env.scope.names.lookup y.1 = some .cell ∨ X.env.scope.names.lookup y.1 = some .free
  sl : ∀ j ∈ js, ∃ x, X.N[j]? = some x ∧ (x, NameKind.free) ∈ scope.names
  cnd : (cN vs js X.N).Nodup

theorem lookup_of_nd {α : Type} : ∀ {l : List (Str × α)} {x : Str} {v : α}, (l.map (·.1)).Nodup → (x, v) ∈ l → l.lookup x = some v
  | (y, u) :: r, x, v, nd, h => by
    rw [List.map_cons, List.nodup_cons] at nd
    rw [List.lookup_cons]
    rcases List.mem_cons.mp h with e | h2
    · injection e with e1 e2
      subst e1 e2
      simp
    · have hne : (x == y) = false := by
        rw [beq_eq_false_iff_ne]
        intro z
        subst z
        exact nd.1 (List.mem_map.mpr ⟨(x, v), h2, rfl⟩)
      rw [hne]
      exact lookup_of_nd nd.2 h2
theorem relabel_look {scope : Scope} {env : Env} {x : Str} {k : NameKind} (hf : env.scope.kind = .function) : (relabel scope env).names.lookup x = some k →
    (scope.names.lookup x = some k) ∨ (k = .cell ∧ scope.names.lookup x = some .free ∧ env.kindOf x = some .cell) := by
  unfold relabel
  dsimp only
  generalize scope.names = l
  induction l with
  | nil => intro h; cases h
  | cons p r ih =>
    obtain ⟨n, k0⟩ := p
    rw [List.map_cons]
    intro h
    rw [List.lookup_cons]
    by_cases hc : (k0 == .free && env.scope.kind == .function && env.kindOf n == some .cell) = true
    · rw [if_pos hc, List.lookup_cons] at h
      cases hx : x == n with
      | false => rw [hx] at h; exact ih h
      | true =>
        rw [hx] at h
        have e : x = n := by simpa using hx
        subst e
        simp only [Bool.and_eq_true, beq_iff_eq] at hc
        exact .inr ⟨(Option.some.inj h).symm, congrArg some hc.1.1, hc.2⟩
    · rw [if_neg hc, List.lookup_cons] at h
      cases hx : x == n with
      | false => rw [hx] at h; exact ih h
      | true => rw [hx] at h; exact .inl h
theorem relabel_free {scope : Scope} {env : Env} {x : Str} : scope.names.lookup x = some .free → (relabel scope env).names.lookup x = some .cell ∨ (relabel scope env).names.lookup x = some .free := by
  unfold relabel
  dsimp only
  generalize scope.names = l
  induction l with
  | nil => intro h; cases h
  | cons p r ih =>
    obtain ⟨n, k0⟩ := p
    rw [List.map_cons]
    intro h
    rw [List.lookup_cons] at h
    by_cases hc : (k0 == .free && env.scope.kind == .function && env.kindOf n == some .cell) = true
    · rw [if_pos hc, List.lookup_cons]
      cases hx : x == n with
      | false => rw [hx] at h; exact ih h
      | true => exact .inl rfl
    · rw [if_neg hc, List.lookup_cons]
      cases hx : x == n with
      | false => rw [hx] at h; exact ih h
      | true => rw [hx] at h; exact .inr h

section
variable {X : Cx} {pins : List (Addr × Obj)} {σ : St} {H : Hp} {s : Shared} {scope : Scope} {vs : List Str} {js : List Nat} {fp : List Addr}
theorem CompScope.clos (S : CompScope X scope vs js) (I : Inv X pins σ H s) : closureFor scope X.env = pure (closL X.env.cells scope.names []) :=
  closureFor_of fun y hy hf => by
    obtain ⟨c, e⟩ := I.ok.has y.1 (S.fr y hy hf)
    rw [e]; rfl
theorem Inv.block (I : Inv X pins σ H s) (S : CompScope X scope vs js) (hfp : ∀ b ∈ fp, FpOk X pins H b) (hfo : ∀ b ∈ fp, ∃ o, s.heap.get? b = some o) {h' : Heap} (hk : ∀ b o, s.heap.get? b = some o → h'.get? b = some o)
    (hn : h'.Ns s.heap.objs.size (fun _ => none)) (hc : CellsOk h' (s.heap.objs.size + 1) (cellsFrom (s.heap.objs.size + 1) scope.names [])) :
    Inv (compCx X (cN vs js X.N) scope (cellsFrom (s.heap.objs.size + 1) scope.names (closL X.env.cells scope.names [])) s.heap.objs.size s H fp) [] (cσ vs.length js σ) H { s with heap := h' } := by
  -- a cell of the block: its own, or one of the frame's
  have split : ∀ x c, (cellsFrom (s.heap.objs.size + 1) scope.names (closL X.env.cells scope.names [])).lookup x = some c →
      ((x, c) ∈ cellsFrom (s.heap.objs.size + 1) scope.names [] ∧ scope.names.lookup x = some .cell) ∨ (X.env.cells.lookup x = some c ∧ (x, NameKind.free) ∈ scope.names) := fun x c e => by
    rw [cellsFrom_app, lookup_app] at e
    cases q : (cellsFrom (s.heap.objs.size + 1) scope.names []).lookup x with
    | some c' =>
      rw [q] at e
      have e' : c' = c := Option.some.inj e
      subst e'
      have m := PySem.mem_of_lookup q
      exact .inl ⟨m, lookup_of_nd S.nd (mem_cellsFrom m)⟩
    | none =>
      rw [q] at e
      rcases closL_look (show (closL X.env.cells scope.names []).lookup x = some c from e) with ⟨h1, h2⟩ | h2
      · obtain ⟨c', e'⟩ := I.ok.has x (S.fr (x, .free) h1 rfl)
        rw [e'] at h2
        have h2' : c' = c := h2
        subst h2'
        exact .inr ⟨e', h1⟩
      · cases h2
  have join : ∀ x c, X.env.cells.lookup x = some c → (x, NameKind.free) ∈ scope.names → (cellsFrom (s.heap.objs.size + 1) scope.names (closL X.env.cells scope.names [])).lookup x = some c := fun x c e m => by
    rw [cellsFrom_app, lookup_app]
    have hl := lookup_of_nd S.nd m
    cases q : (cellsFrom (s.heap.objs.size + 1) scope.names []).lookup x with
    | some c' =>
      have m' := mem_cellsFrom (PySem.mem_of_lookup q)
      rw [lookup_of_nd S.nd m'] at hl
      cases hl
    | none =>
      show (closL X.env.cells scope.names []).lookup x = some c
      obtain ⟨d, hd⟩ := Option.isSome_iff_exists.mp (closL_has (cells := X.env.cells) (cs := []) (.inl m))
      rw [hd]
      rcases closL_look hd with ⟨_, h2⟩ | h2
      · rw [e] at h2
        exact congrArg some h2.symm
      · cases h2
  have old : ∀ x c, X.env.cells.lookup x = some c → c < s.heap.objs.size := fun x c e => by
    obtain ⟨v, z⟩ := I.cell x c e
    exact z.lt
  refine ⟨⟨I.ok.mod, S.kind, I.ok.glob, I.ok.blt, Nat.le_refl _, fun x y c e1 e2 => ?_, fun x hx => ?_, fun x c hf e => ?_, I.ok.hd, I.ok.frames, .inl rfl, fun b hb => ⟨?_, fun x c e => ?_⟩, I.bs, Nat.le_trans I.ok.bsz I.sz, fun b o e hb => ?_, fun b hb hbs => ?_, I.stack, I.stkFree⟩,
    rfl, I.bare, Un.kept hk, ⟨_, hn, fun i x v e1 e2 e3 => ?_⟩, fun x c e => ?_, I.hok.fresh (Nat.le_refl _), fun x c e => ?_, fun p hp => absurd (show p ∈ ([] : List (Addr × Obj)) from hp) (by simp), I.hok.kept hk, ?_⟩
  · rcases split x c e1 with ⟨m1, _⟩ | ⟨z1, _⟩ <;> rcases split y c e2 with ⟨m2, _⟩ | ⟨z2, _⟩
    · exact name_of_addr hc.apart m1 m2
    · exact absurd (Nat.lt_of_lt_of_le (old y c z2) (Nat.le_of_succ_le (hc.empty x c m1).2)) (Nat.lt_irrefl _)
    · exact absurd (Nat.lt_of_lt_of_le (old x c z1) (Nat.le_of_succ_le (hc.empty y c m2).2)) (Nat.lt_irrefl _)
    · exact I.ok.inj x y c z1 z2
  · have hx : (relabel scope X.env).names.lookup x = some .cell ∨ (relabel scope X.env).names.lookup x = some .free := hx
    have fin : (x, NameKind.free) ∈ scope.names → ∃ c, (cellsFrom (s.heap.objs.size + 1) scope.names (closL X.env.cells scope.names [])).lookup x = some c := fun m => by
      obtain ⟨c, e⟩ := I.ok.has x (S.fr (x, .free) m rfl)
      exact ⟨c, join x c e m⟩
    have own : scope.names.lookup x = some .cell → ∃ c, (cellsFrom (s.heap.objs.size + 1) scope.names (closL X.env.cells scope.names [])).lookup x = some c := fun e =>
      Option.isSome_iff_exists.mp (PySem.W.cellsFrom_some scope.names _ _ (.inl e))
    rcases hx with hx | hx
    · rcases relabel_look I.ok.kind hx with e | ⟨_, e, _⟩
      · exact own e
      · exact fin (PySem.mem_of_lookup e)
    · rcases relabel_look I.ok.kind hx with e | ⟨e, _, _⟩
      · exact fin (PySem.mem_of_lookup e)
      · cases e
  · rcases split x c e with ⟨m, _⟩ | ⟨_, m⟩
    · have := (hc.empty x c m).2
      show s.heap.objs.size ≤ c
      omega
    · have hf' : (scope.names.lookup x == some NameKind.cell) = true := hf
      rw [lookup_of_nd S.nd m] at hf'
      exact absurd hf' (by decide)
  · obtain ⟨o, e⟩ := hfo b hb
    exact Nat.ne_of_lt (Heap.lt_size e)
  · rcases split x c e with ⟨m, _⟩ | ⟨z, _⟩
    · obtain ⟨o, e'⟩ := hfo b hb
      exact Nat.ne_of_gt (Nat.lt_of_lt_of_le (Heap.lt_size e') (Nat.le_of_succ_le (hc.empty x c m).2))
    · exact (hfp b hb).2.2.2.2.1 x c z
  · rcases (hfp b hb).2.2.2.1 with z | z
    · exact I.ok.noex b o e z
    · exact absurd (Nat.lt_of_lt_of_le (Nat.lt_of_lt_of_le (Heap.lt_size e) I.ok.bsz) z) (Nat.lt_irrefl _)
  · rcases List.mem_cons.mp (I.stkSub b hbs) with z | z
    · exact (hfp b hb).2.1 z
    · exact (hfp b hb).2.2.1 z
  · -- a name that the block sees
    have e1 : (vs ++ js.map fun j => X.N.getD j "")[i]? = some x := e1
    have e2 : (List.replicate vs.length none ++ js.map fun j => (σ[j]?).join)[i]? = some (some v) := e2
    by_cases hi : i < vs.length
    · rw [List.getElem?_append_left (by simpa using hi), List.getElem?_replicate, if_pos hi] at e2
      cases e2
    · have hi' : vs.length ≤ i := by omega
      rw [List.getElem?_append_right (by simpa using hi'), List.length_replicate, List.getElem?_map] at e2
      rw [List.getElem?_append_right hi', List.getElem?_map] at e1
      cases q : js[i - vs.length]? with
      | none => rw [q] at e1; cases e1
      | some j =>
        rw [q] at e1 e2
        have e1 : X.N.getD j "" = x := Option.some.inj e1
        have e2 : (σ[j]?).join = some v := Option.some.inj e2
        obtain ⟨x', hx', m⟩ := S.sl j (List.mem_of_getElem? q)
        have ex : x' = x := by
          rw [← e1, List.getD_eq_getElem?_getD, hx']
          rfl
        subst ex
        have hσ : σ[j]? = some (some v) := by
          cases w : σ[j]? with
          | none => rw [w] at e2; cases e2
          | some o =>
            rw [w] at e2
            have e2' : o = some v := e2
            rw [e2']
        obtain ⟨mm, _, hl⟩ := I.loc
        have hfr := S.fr (x', .free) m rfl
        obtain ⟨u, r, l⟩ := hl j x' v hx' hσ (.inr hfr)
        refine ⟨u, r, ?_⟩
        rcases l with ⟨k, _⟩ | ⟨k, c, e, z⟩
        · have k' : X.env.scope.names.lookup x' = some .local := k
          rcases hfr with w | w
          · rw [k'] at w; cases w
          · rw [k'] at w; cases w
        · exact .inr ⟨relabel_free (lookup_of_nd S.nd m), c, join x' c e m, z.keeps hk⟩
  · rcases split x c e with ⟨m, _⟩ | ⟨z, _⟩
    · exact ⟨_, (hc.empty x c m).1⟩
    · obtain ⟨v, q⟩ := I.cell x c z
      exact ⟨v, q.keeps hk⟩
  · rcases split x c e with ⟨m, _⟩ | ⟨z, _⟩
    · exact I.hok.fresh (by have := (hc.empty x c m).2; omega)
    · exact I.freeC x c z
  · show (List.replicate vs.length none ++ js.map fun j => (σ[j]?).join).length = (vs ++ js.map fun j => X.N.getD j "").length
    simp
end

/-! ### the tests of a clause -/
def PF (X : Cx) (ifs : List Expr) (t : TT) : Prop :=
  ∀ (pins : List (Addr × Obj)) (s : Shared) (σ : St) (H : Hp) (Q : Bool → Hp → Prop), Inv X pins σ H s → t σ H Q →
    wpAny (model X.prog X.w) X.A (forIn ifs true fun c r => if r = true then do let ok ← isTrue c X.env (eval c X.env); pure (ForInStep.yield ok) else pure (ForInStep.yield r)) (TP X pins σ Q) X.xe s
def tAll : TT := fun _ H Q => Q true H
theorem pf_nil {X : Cx} : PF X [] tAll := fun pins s σ H Q I h => by
  rw [List.forIn_nil]
  exact wpAny_pure ⟨H, I, h⟩
theorem pf_one {X : Cx} {c : Expr} {t : TT} (h : PT X c t) : PF X [c] t := fun pins s σ H Q I hq => by
  rw [List.forIn_cons]
  simp only [if_true]
  refine wpAny_bind (wpAny_bind (thn (h pins s σ H Q I hq) fun b s1 e => wpAny_pure ?_))
  dsimp only
  rw [List.forIn_nil]
  exact wpAny_pure e

/-! ### the loop -/
theorem compLoop_go {prog : Program} {w : World} {A : Around} {R : Result → Shared → Prop} {s : Shared} {elt target iter : Expr} {ifs : List Expr} {scope : Scope} {pos : Pos} {it acc : Value} {env : Env} (I : Nat → Shared → Prop)
    (turn : ∀ n s, I n s → wpAny (model prog w) A (pyNext it) (fun r s₁ => match r with
      | none => R (.ok .next) s₁
      | some v => wpAny (model prog w) A (letOwnedTupleGo target it v) (fun _ s₂ => wpAny (model prog w) A (assign target env v) (fun _ s₃ =>
          wpAny (model prog w) A (forIn ifs true fun c r => if r = true then do let ok ← isTrue c env (eval c env); pure (ForInStep.yield ok) else pure (ForInStep.yield r)) (fun ok s₄ =>
            if ok = true then wpAny (model prog w) A (eval elt env) (fun x s₅ => wpAny (model prog w) A (call (.builtin "list.append") [acc, x]) (fun _ s₆ => ∃ m, m < n ∧ I m s₆) (fun _ _ => False) s₅) (fun _ _ => False) s₄
            else ∃ m, m < n ∧ I m s₄) (fun _ _ => False) s₃) (fun _ _ => False) s₂) (fun _ _ => False) s₁) (fun _ _ => False) s)
    (n : Nat) (h : I n s) : codeAny (model prog w) A (.compLoop (.ListComp elt [⟨target, iter, ifs, 0⟩] scope pos) 0 it acc env) R s := by
  refine codeAny_loop rfl I (fun n s hI => ?_) n h
  show wpAny _ A ((compTurn (.ListComp elt [⟨target, iter, ifs, 0⟩] scope pos) 0 it acc env).onRaise (fun x => do noteFrame x env; theTreesLotGoes x)) _ _ s
  refine wpAny_noted ?_
  rw [compTurn_list]
  refine wpAny_bind (wpAny_standAt (wpAny_bind (wpAny_mono (turn n s hI) (fun r s1 h1 => ?_) fun _ _ z => z.elim)))
  cases r with
  | none => exact wpAny_pure h1
  | some v =>
    refine wpAny_bind (wpAny_mono h1 (fun _ s2 h2 => ?_) fun _ _ z => z.elim)
    refine wpAny_bind (wpAny_mono h2 (fun _ s3 h3 => wpAny_bind (wpAny_mono h3 (fun ok s4 h4 => ?_) fun _ _ z => z.elim)) fun _ _ z => z.elim)
    cases ok with
    | false => exact wpAny_pure ⟨rfl, h4⟩
    | true =>
      refine wpAny_bind (wpAny_bind (wpAny_mono h4 (fun x s5 h5 => wpAny_bind (wpAny_mono h5 (fun _ s6 h6 => wpAny_pure (wpAny_pure ⟨rfl, h6⟩)) fun _ _ z => z.elim)) fun _ _ z => z.elim))

/-! ### a comprehension's reading -/
def tCompAt (n : Nat) (js : List Nat) (g : TG) (ti : TT) (te : TE) (σ : St) (Q : VK) (J : It) (H1 : Hp) : Prop := ∀ D, H1 D = none → ∃ W : Nat → Nat → List V → Hp → Prop, (∃ m, W 0 m [] (upd H1 D (.lst []))) ∧ ∀ i m ys H, W i m ys H →
  H D = some (.lst ys) ∧ ((J.stop i H ∧ Q (.ref D) H) ∨ (J.go i H ∧ ∀ x H', J.yld i H x H' → g x (cσ n js σ) H' fun σ2 H2 =>
    ((∀ (k : Nat) v, (cσ n js σ)[k]? = some (some v) → σ2[k]? = some (some v)) ∧ σ2.length = (cσ n js σ).length) ∧ ti σ2 H2 fun b H3 =>
      if b = true then te σ2 H3 fun v H4 => H4 D = some (.lst ys) ∧ ys.length < sizeLine ∧ ∃ m', m' < m ∧ W (i + 1) m' (ys ++ [v]) (upd H4 D (.lst (ys ++ [v])))
      else ∃ m', m' < m ∧ W (i + 1) m' ys H3))

structure BlkOk (X : Cx) (pins : List (Addr × Obj)) (H : Hp) (C : Addr) (h : Heap) : Prop where
  ns : ∃ m, h.Ns C m
  fr : H C = none
  nL : C ≠ X.env.locals
  ab : X.s₀.heap.objs.size ≤ C
  cl : ∀ x c, X.env.cells.lookup x = some c → c ≠ C
  pn : ∀ p ∈ X.pn ++ pins, p.1 ≠ C

section
variable {X : Cx} {elt target iter : Expr} {ifs : List Expr} {scope : Scope} {pos : Pos} {vs : List Str} {js : List Nat} {wi : TI} {g : TG} {ti : TT} {te : TE}
theorem comp_core (hc : X.calm = true) (S : CompScope X scope vs js) (hi : PI X target iter wi)
    (hg : ∀ cells C s H fp, PG (compCx X (cN vs js X.N) scope cells C s H fp) target g) (ht : ∀ cells C s H fp, PF (compCx X (cN vs js X.N) scope cells C s H fp) ifs ti) (he : ∀ cells C s H fp, PE (compCx X (cN vs js X.N) scope cells C s H fp) elt te)
    {pins : List (Addr × Obj)} {s : Shared} {σ : St} {H : Hp} {Q : VK} {R : It → Hp → Prop} {RR : Value → Addr → Result → Shared → Prop} (I : Inv X pins σ H s) (h : wi σ H R) (hR : ∀ J H1, R J H1 → tCompAt vs.length js g ti te σ Q J H1)
    (hRR : ∀ D C H' s', Inv X pins σ H' s' → BlkOk X pins H' C s'.heap → Q (.ref D) H' → RR (.ref D) C (.ok .next) s') :
    wpAny (model X.prog X.w) X.A (eval iter X.env) (fun x s₁ => wpAny (model X.prog X.w) X.A (pyIter x) (fun it s₂ => wpAny (model X.prog X.w) X.A (newList []) (fun acc s₃ =>
      wpAny (model X.prog X.w) X.A (newFunctionEnv scope X.env.globals (closL X.env.cells scope.names []) [] X.env.qual none .none (some X.env)) (fun cenv s₄ =>
        codeAny (model X.prog X.w) X.A (.compStart (.ListComp elt [⟨target, iter, ifs, 0⟩] scope pos) 0 it acc { cenv with scope := relabel scope X.env }) (RR acc cenv.locals) s₄) X.xe s₃) X.xe s₂) X.xe s₁) X.xe s := by
  refine thn (hi pins s σ H _ I h) fun v s1 h1 => thn h1 fun itv s2 h2 => ?_
  obtain ⟨it, fp, tn, J, H2, e, I2, T, st2, f2, hD0⟩ := h2
  have hD := hR J H2 hD0
  subst e
  refine wpAny_newObj_type ?_ (Nat.zero_le _)
  have I3 := I2.lnew (ys := []) (its := []) (t' := s2.toks) .nil (Nat.zero_le _)
  have nD : H2 s2.heap.objs.size = none := I2.hok.fresh (Nat.le_refl _)
  obtain ⟨W, ⟨m0, w0⟩, turn⟩ := hD s2.heap.objs.size nD
  have fo : ∀ b ∈ fp, ∃ o, s2.heap.get? b = some o := fun b hb => let ⟨o, e, _⟩ := T.obj 0 _ st2 b hb; ⟨o, e⟩
  have f3 : ∀ b ∈ fp, FpOk X pins (upd H2 s2.heap.objs.size (.lst [])) b := fun b hb => by
    obtain ⟨o, e⟩ := fo b hb
    exact ⟨by rw [upd_ne (Nat.ne_of_lt (Heap.lt_size e))]; exact (f2 b hb).1, (f2 b hb).2⟩
  refine compEnv_ok fun h4 hk4 hn4 hc4 => ?_
  have B := I3.block S f3 (fun b hb => let ⟨o, e⟩ := fo b hb; ⟨o, Heap.get?_push_of_some _ e⟩) hk4 hn4 hc4
  have tn0 : tn 0 h4 := T.keep 0 s2.heap h4 st2 fun b hb o e => hk4 b o (Heap.get?_push_of_some _ e)
  generalize hX : compCx X (cN vs js X.N) scope (cellsFrom ((s2.heap.push { cls := .type "list", data := .seq ([] : List Value).toArray }).objs.size + 1) scope.names (closL X.env.cells scope.names [])) (s2.heap.push { cls := .type "list", data := .seq ([] : List Value).toArray }).objs.size
    { s2 with heap := s2.heap.push { cls := .type "list", data := .seq ([] : List Value).toArray }, toks := s2.toks } (upd H2 s2.heap.objs.size (.lst [])) fp = Xc at B
  have stat : ∀ {Hc : Hp} {σc : St} {sc : Shared} {pc : List (Addr × Obj)}, Inv Xc pc σc Hc sc → (∀ b ∈ fp, Hc b = none) → ∀ b ∈ fp, FpOk Xc [] Hc b := fun {Hc σc sc pc} J hn b hb => by
    have hb' : b ∈ Xc.ex := by rw [← hX]; exact hb
    refine ⟨hn b hb, (J.ok.exf b hb').1, J.ok.exfs b hb', .inl hb', (J.ok.exf b hb').2, fun p hp => ?_⟩
    rw [← hX] at hp
    exact absurd (show p ∈ ([] : List (Addr × Obj)) from hp) (by simp)
  have loop : codeAny (model X.prog X.w) X.A (.compLoop (.ListComp elt [⟨target, iter, ifs, 0⟩] scope pos) 0 (.ref it) (.ref s2.heap.objs.size) Xc.env) (RR (.ref s2.heap.objs.size) Xc.env.locals)
      { s2 with heap := h4, toks := s2.toks } := by
    refine compLoop_go (fun n s' => ∃ i Hc ys, Inv Xc [] (cσ vs.length js σ) Hc s' ∧ tn i s'.heap ∧ (∀ b ∈ fp, Hc b = none) ∧ W i n ys Hc) ?_ m0 ⟨0, _, [], B, tn0, fun b hb => (f3 b hb).1, w0⟩
    rintro n s5 ⟨i, Hc, ys, I5, st5, fr5, w5⟩
    have eP : Xc.prog = X.prog := by rw [← hX]; rfl
    have eW : Xc.w = X.w := by rw [← hX]; rfl
    have eK : Xc.K = X.K := by rw [← hX]; rfl
    have eA : Xc.A = X.A := by rw [← hX]; rfl
    have eC : Xc.calm = true := by rw [← hX]; exact hc
    have eE : Xc.xe = fun _ _ => False := by rw [← hX]; rfl
    obtain ⟨hD5, way⟩ := turn i n ys Hc w5
    rcases way with ⟨stop, q⟩ | ⟨go, step⟩
    · rw [← eA]
      refine thn (T.done Xc eP eW eK eC i [] s5 _ Hc (fun _ _ => False) I5 (stat I5 fr5) st5 stop) fun r s6 ⟨hr, I6⟩ => ?_
      subst hr
      show RR _ _ _ s6
      have un : Un (frs X.stack) fp (upd H2 s2.heap.objs.size (.lst [])) Hc (s2.heap.push { cls := .type "list", data := .seq ([] : List Value).toArray }) s6.heap := by
        have := I6.base
        rw [← hX] at this
        exact this
      have os6 : s6.os = s2.os := by
        have := I6.os
        rw [← hX] at this
        exact this
      have hok6 : HOk X.prog X.w Hc s6.heap := by
        have := I6.hok
        rw [eP, eW] at this
        exact this
      have I7 : Inv X pins σ Hc s6 := I3.call' (s' := s6) os6 un hok6 I6.bare fun b hb => ⟨(f3 b hb).2.2.2.1, (f3 b hb).2.1, (f3 b hb).2.2.2.2.1, (f3 b hb).2.2.2.2.2⟩
      have eL : Xc.env.locals = (s2.heap.push { cls := .type "list", data := .seq ([] : List Value).toArray }).objs.size := by rw [← hX]; rfl
      obtain ⟨m, hm, _⟩ := I6.loc
      refine hRR _ _ _ _ I7 ⟨⟨m, hm⟩, I6.free, ?_, ?_, fun x c e => ?_, fun p hp => ?_⟩ q
      · rw [eL]
        exact Nat.ne_of_gt I3.lt
      · rw [eL]
        exact I3.sz
      · obtain ⟨v, z⟩ := I3.cell x c e
        rw [eL]
        exact Nat.ne_of_lt z.lt
      · rw [eL]
        exact Nat.ne_of_lt (Heap.lt_size (I3.pin p hp).1)
    · rw [← eA]
      refine thn (T.item Xc eP eW eK eC i [] s5 _ Hc (fun _ _ => False) I5 (stat I5 fr5) st5 go) fun r s6 ⟨u, hr, h6⟩ => ?_
      subst hr
      refine thn h6 fun _ s7 ⟨x, H7, I7, rx, y7, st7, fr7⟩ => ?_
      have I7' := I7.pinned (stat I7 fr7) (T.obj _ _ st7)
      have PGx : PG Xc target g := by rw [← hX]; exact hg _ _ _ _ _
      have PFx : PF Xc ifs ti := by rw [← hX]; exact ht _ _ _ _ _
      have PEx : PE Xc elt te := by rw [← hX]; exact he _ _ _ _ _
      have back : ∀ {σ8 : St} {H8 : Hp} {s8 : Shared}, Inv Xc ([] ++ pinsAt fp s7.heap) σ8 H8 s8 → ((∀ (k : Nat) v, (cσ vs.length js σ)[k]? = some (some v) → σ8[k]? = some (some v)) ∧ σ8.length = (cσ vs.length js σ).length) →
          Inv Xc [] (cσ vs.length js σ) H8 s8 ∧ tn (i + 1) s8.heap ∧ ∀ b ∈ fp, H8 b = none := fun {σ8 H8 s8} J wk => by
        have at_ : ∀ b o, b ∈ fp → s7.heap.get? b = some o → s8.heap.get? b = some o ∧ H8 b = none := fun b o hb e => by
          have := J.pin (b, o) (List.mem_append_right _ (List.mem_append_right _ (mem_pinsAt hb e)))
          exact ⟨this.1, this.2.1⟩
        refine ⟨J.unpinned.weak wk.2.symm wk.1, T.keep _ _ _ st7 fun b hb o e => (at_ b o hb e).1, fun b hb => ?_⟩
        obtain ⟨o, e, _⟩ := T.obj _ _ st7 b hb
        exact (at_ b o hb e).2
      have PGr := PGx _ s7 (cσ vs.length js σ) H7 x u _ I7' rx (step x H7 y7)
      rw [eE, eP, eW] at PGr
      refine thn PGr fun _ s8 ⟨σ8, H8, I8, wk, q8⟩ => ?_
      have PFr := PFx _ s8 σ8 H8 _ I8 q8
      rw [eE, eP, eW] at PFr
      refine thn PFr fun b s9 ⟨H9, I9, q9⟩ => ?_
      cases b with
      | false =>
        rw [if_neg Bool.false_ne_true] at q9 ⊢
        obtain ⟨m', hm', w'⟩ := q9
        obtain ⟨J1, J2, J3⟩ := back I9 wk
        exact ⟨m', hm', i + 1, H9, ys, J1, J2, J3, w'⟩
      | true =>
        rw [if_pos rfl] at q9 ⊢
        have PEr := PEx _ s9 σ8 H9 _ I9 q9
        rw [eE, eP, eW] at PEr
        refine thn PEr fun z s10 ⟨v, H10, I10, rv, hD10, hz, m', hm', w'⟩ => ?_
        have AP := mt_append (X := Xc) _ s10 σ8 H10 (.ref s2.heap.objs.size) [v] (.ref s2.heap.objs.size) [z] (fun r H11 => r = .non ∧ H11 = upd H10 s2.heap.objs.size (.lst (ys ++ [v]))) I10 rfl (.cons rv .nil) ⟨_, ys, v, rfl, rfl, hD10, hz, rfl, rfl⟩
        rw [eE, eP, eW] at AP
        refine thn AP fun _ s11 ⟨_, H11, I11, _, _, e11⟩ => ?_
        subst e11
        obtain ⟨J1, J2, J3⟩ := back I11 wk
        exact ⟨m', hm', i + 1, _, ys ++ [v], J1, J2, J3, w'⟩
  rw [← hX] at loop
  exact codeAny_compStart_list loop (T.self X.A 0 _ _ _ tn0 loop)

def compOk (N : List Str) (fs scope : Scope) (vs : List Str) (js : List Nat) : Bool :=
  scope.kind == .function && decide ((scope.names.map (·.1)).Nodup) && scope.names.all (fun y => y.2 != .free || fs.names.lookup y.1 == some .cell || fs.names.lookup y.1 == some .free) &&
    js.all (fun j => match N[j]? with | some x => scope.names.contains (x, .free) | none => false) && decide ((cN vs js N).Nodup)
theorem CompScope.of (h : compOk X.N X.env.scope scope vs js = true) : CompScope X scope vs js := by
  unfold compOk at h
  simp only [Bool.and_eq_true, beq_iff_eq, decide_eq_true_eq, List.all_eq_true] at h
  obtain ⟨⟨⟨⟨h1, h2⟩, h3⟩, h4⟩, h5⟩ := h
  refine ⟨h1, h2, fun y hy hf => ?_, fun j hj => ?_, h5⟩
  · have z := h3 y hy
    simp only [Bool.or_eq_true, beq_iff_eq, bne_iff_ne] at z
    rcases z with (z | z) | z
    · exact absurd hf z
    · exact .inl z
    · exact .inr z
  · have z := h4 j hj
    split at z
    · rename_i x e
      exact ⟨x, e, by simpa using z⟩
    · cases z
/-! ### one name as the target; a pair of names -/
abbrev fr1 (js : List Nat) (σ : St) : List (Option V) := js.map fun j => (σ[j]?).join
def tC1 (js : List Nat) (ti : TT) (te : TE) (σ : St) (Q : VK) (J : It) (H1 : Hp) : Prop := ∀ D, H1 D = none → ∃ W : Nat → Nat → List V → Hp → Prop, (∃ m, W 0 m [] (upd H1 D (.lst []))) ∧ ∀ i m ys H, W i m ys H →
  H D = some (.lst ys) ∧ ((J.stop i H ∧ Q (.ref D) H) ∨ (J.go i H ∧ ∀ x H', J.yld i H x H' → ti (some x :: fr1 js σ) H' fun b H3 =>
      if b = true then te (some x :: fr1 js σ) H3 fun v H4 => H4 D = some (.lst ys) ∧ ys.length < sizeLine ∧ ∃ m', m' < m ∧ W (i + 1) m' (ys ++ [v]) (upd H4 D (.lst (ys ++ [v])))
      else ∃ m', m' < m ∧ W (i + 1) m' ys H3))
theorem tC1_at {σ : St} {Q : VK} {J : It} {H1 : Hp} (h : tC1 js ti te σ Q J H1) : tCompAt 1 js (gName 0) ti te σ Q J H1 := by
  intro D hD
  obtain ⟨W, w0, turn⟩ := h D hD
  refine ⟨W, w0, fun i m ys H w => ?_⟩
  obtain ⟨h1, h2⟩ := turn i m ys H w
  refine ⟨h1, ?_⟩
  rcases h2 with h2 | ⟨g1, g2⟩
  · exact .inl h2
  · refine .inr ⟨g1, fun x H' y => ⟨⟨fun k v e => ?_, ?_⟩, g2 x H' y⟩⟩
    · cases k with
      | zero => cases e
      | succ k => exact e
    · simp [cσ]
def tC2 (K : PySem.W.Frag) (js : List Nat) (ti : TT) (te : TE) (σ : St) (Q : VK) (J : It) (H1 : Hp) : Prop := ∀ D, H1 D = none → ∃ W : Nat → Nat → List V → Hp → Prop, (∃ m, W 0 m [] (upd H1 D (.lst []))) ∧ ∀ i m ys H, W i m ys H →
  H D = some (.lst ys) ∧ ((J.stop i H ∧ Q (.ref D) H) ∨ (J.go i H ∧ ∀ z H', J.yld i H z H' → ∃ t x y, z = .ref t ∧ SqT K H' t [x, y] ∧ ti (some x :: some y :: fr1 js σ) H' fun b H3 =>
      if b = true then te (some x :: some y :: fr1 js σ) H3 fun v H4 => H4 D = some (.lst ys) ∧ ys.length < sizeLine ∧ ∃ m', m' < m ∧ W (i + 1) m' (ys ++ [v]) (upd H4 D (.lst (ys ++ [v])))
      else ∃ m', m' < m ∧ W (i + 1) m' ys H3))
theorem tC2_at {K : PySem.W.Frag} {σ : St} {Q : VK} {J : It} {H1 : Hp} (h : tC2 K js ti te σ Q J H1) : tCompAt 2 js (gTup K 2 (gCons (gName 0) (gCons (gName 1) gNil))) ti te σ Q J H1 := by
  intro D hD
  obtain ⟨W, w0, turn⟩ := h D hD
  refine ⟨W, w0, fun i m ys H w => ?_⟩
  obtain ⟨h1, h2⟩ := turn i m ys H w
  refine ⟨h1, ?_⟩
  rcases h2 with h2 | ⟨g1, g2⟩
  · exact .inl h2
  · refine .inr ⟨g1, fun z H' y => ?_⟩
    obtain ⟨t, a, b, e, hs, q⟩ := g2 z H' y
    refine ⟨t, [a, b], e, hs, rfl, a, [b], rfl, b, [], rfl, rfl, ⟨fun k v e => ?_, ?_⟩, q⟩
    · match k, e with
      | 0, e => cases e
      | 1, e => cases e
      | k + 2, e => exact e
    · simp [cσ]
variable {x y : Str} {px py tp : Pos} {kk : Nat}
def OwnName (X : Cx) (scope : Scope) (x : Str) : Prop := Loc (relabel scope X.env) x ∧ ((scope.names.lookup x == some .cell) = true ∨ (relabel scope X.env).names.lookup x = some .local)
theorem pe_compN (hc : X.calm = true) (S : compOk X.N X.env.scope scope [x] js = true) (hi : PI X (.Name x px) iter wi) (ht : ∀ cells C s H fp, PF (compCx X (cN [x] js X.N) scope cells C s H fp) ifs ti) (he : ∀ cells C s H fp, PE (compCx X (cN [x] js X.N) scope cells C s H fp) elt te)
    (hx : OwnName X scope x := by first | exact ⟨Or.inl rfl, Or.inr rfl⟩ | exact ⟨Or.inr rfl, Or.inl rfl⟩)
    (hs : ∀ x, foldedSetIterable iter X.env x = pure x := by intro _; rfl) : PE X (.ListComp elt [⟨.Name x px, iter, ifs, 0⟩] scope pos) (fun σ H Q => wi σ H (tC1 js ti te σ Q)) := by
  intro pins s σ H Q I h
  have S' := CompScope.of S
  rw [eval_ListComp]
  refine wpAny_comprehension_free (use := none) rfl hs (S'.clos I) S'.kind (fun y hy hl => by obtain ⟨a, b⟩ := y; cases hl; exact lookup_of_nd S'.nd hy) ?_
  refine comp_core hc S' hi (fun _ _ _ _ _ => pg_name (i := 0) S'.cnd rfl hx.1 hx.2) ht he I h (fun J H1 q => tC1_at q) fun D C H' s' I' b q => ?_
  obtain ⟨m, hm⟩ := b.ns
  exact ⟨m, hm, fun h' hs' => ⟨.ref D, H', I'.turned (t' := s'.toks) (fun b' o hb e => (hs'.2 b' hb).trans e) b.fr b.nL (.inr b.ab) b.cl b.pn, rfl, q⟩⟩
theorem pe_compP (hc : X.calm = true) (S : compOk X.N X.env.scope scope [x, y] js = true) (hi : PI X (.Tuple [.Name x px, .Name y py] kk tp) iter wi) (ht : ∀ cells C s H fp, PF (compCx X (cN [x, y] js X.N) scope cells C s H fp) ifs ti)
    (he : ∀ cells C s H fp, PE (compCx X (cN [x, y] js X.N) scope cells C s H fp) elt te)
    (hx : OwnName X scope x := by first | exact ⟨Or.inl rfl, Or.inr rfl⟩ | exact ⟨Or.inr rfl, Or.inl rfl⟩) (hy : OwnName X scope y := by first | exact ⟨Or.inl rfl, Or.inr rfl⟩ | exact ⟨Or.inr rfl, Or.inl rfl⟩)
    (hs : ∀ x, foldedSetIterable iter X.env x = pure x := by intro _; rfl) : PE X (.ListComp elt [⟨.Tuple [.Name x px, .Name y py] kk tp, iter, ifs, 0⟩] scope pos) (fun σ H Q => wi σ H (tC2 X.K js ti te σ Q)) := by
  intro pins s σ H Q I h
  have S' := CompScope.of S
  rw [eval_ListComp]
  refine wpAny_comprehension_free (use := none) rfl hs (S'.clos I) S'.kind (fun y hy hl => by obtain ⟨a, b⟩ := y; cases hl; exact lookup_of_nd S'.nd hy) ?_
  refine comp_core hc S' hi (fun cells C s H fp => pg_tup (X := compCx X (cN [x, y] js X.N) scope cells C s H fp) hc (pgs_cons (pg_name (i := 0) S'.cnd rfl hx.1 hx.2) (pgs_cons (pg_name (i := 1) S'.cnd rfl hy.1 hy.2) pgs_nil))) ht he I h (fun J H1 q => tC2_at q) fun D C H' s' I' b q => ?_
  obtain ⟨m, hm⟩ := b.ns
  exact ⟨m, hm, fun h' hs' => ⟨.ref D, H', I'.turned (t' := s'.toks) (fun b' o hb e => (hs'.2 b' hb).trans e) b.fr b.nL (.inr b.ab) b.cl b.pn, rfl, q⟩⟩
theorem ps_compN {i : Nat} {z : Str} {pz spos : Pos} (hN : X.N.Nodup) (hiz : X.N[i]? = some z) (hz : Loc X.env.scope z) (hc : X.calm = true) (S : compOk X.N X.env.scope scope [x] js = true) (hi : PI X (.Name x px) iter wi)
    (ht : ∀ cells C s H fp, PF (compCx X (cN [x] js X.N) scope cells C s H fp) ifs ti) (he : ∀ cells C s H fp, PE (compCx X (cN [x] js X.N) scope cells C s H fp) elt te)
    (hf : X.fn z = true ∨ X.env.scope.names.lookup z = some .local := by first | exact .inl rfl | exact .inr rfl)
    (hx : OwnName X scope x := by first | exact ⟨Or.inl rfl, Or.inr rfl⟩ | exact ⟨Or.inr rfl, Or.inl rfl⟩)
    (hsw : swapsWith (.ListComp elt [⟨.Name x px, iter, ifs, 0⟩] scope pos) (some (.Name z pz)) spos.line X.env = pure true := by rfl)
    (hs : ∀ x, foldedSetIterable iter X.env x = pure x := by intro _; rfl) : PS X (.Assign [.Name z pz] (.ListComp elt [⟨.Name x px, iter, ifs, 0⟩] scope pos) spos) (fun D σ H => wi σ H (tC1 js ti te σ fun v H1 => D.nx (σ.set i (some v)) H1)) := by
  intro pins s σ H D I h
  have S' := CompScope.of S
  rw [exec_Assign_Name_used _ _ _ _ hsw]
  refine wpAny_bind (wpAny_standAt (wpAny_bind ?_))
  show wpAny _ X.A (do let _ ← comprehension (.ListComp elt [⟨.Name x px, iter, ifs, 0⟩] scope pos) scope X.env _ (newList []) false (eval iter X.env) (some (assign (.Name z pz) X.env))) _ _ s
  refine wpAny_bind (wpAny_mono (wpAny_comprehension_free (use := some (assign (.Name z pz) X.env)) (Q := fun _ s' => SP X pins D .next s') rfl hs (S'.clos I) S'.kind (fun y hy hl => by obtain ⟨a, b⟩ := y; cases hl; exact lookup_of_nd S'.nd hy) ?_)
    (fun _ s' hq => wpAny_pure (wpAny_pure hq)) fun _ _ z => z)
  refine comp_core hc S' hi (fun _ _ _ _ _ => pg_name (i := 0) S'.cnd rfl hx.1 hx.2) ht he I h (fun J H1 q => tC1_at q) fun D' C H' s' I' b q => ?_
  show wpAny _ X.A (assign (.Name z pz) X.env (.ref D')) _ _ _
  refine wpAny_assign_Name (store_ok2 I' hN hiz hz (show RelV (.ref D') (.ref D') from rfl) (fun s2 I2 ⟨a, sb, ha⟩ => ?_) hf)
  obtain ⟨m, hm⟩ := b.ns
  have hCa : C ≠ a := by
    rcases ha with rfl | ha
    · exact b.nL
    · exact Ne.symm (b.cl _ _ ha)
  exact ⟨m, hm.sameBut sb hCa, fun h' hs' => ⟨_, H', I2.turned (t' := s2.toks) (fun b' o hb e => (hs'.2 b' hb).trans e) b.fr b.nL (.inr b.ab) b.cl b.pn, q⟩⟩
end
theorem comp_range {n : Nat} {js : List Nat} {ti : TT} {te : TE} {σ : St} {Q : VK} {H1 : Hp} (p : Nat → Bool) (f : Nat → V) (hn : n ≤ 1000)
    (hti : ∀ (i : Nat) Hc (k : Bool → Hp → Prop), i < n → Same H1 Hc → k (p i) Hc → ti (some (.int (0 + i)) :: fr1 js σ) Hc k) (hte : ∀ (i : Nat) Hc (k : VK), i < n → p i = true → Same H1 Hc → k (f i) Hc → te (some (.int (0 + i)) :: fr1 js σ) Hc k)
    (hq : ∀ D, H1 D = none → Q (.ref D) (upd H1 D (.lst (((List.range n).filter p).map f)))) : tC1 js ti te σ Q (Itr 0 n) H1 := by
  intro D hD
  have sm : ∀ ys, Same H1 (upd H1 D (.lst ys)) := fun ys b o e => by rw [upd_ne (ne_of_none e hD)]; exact e
  refine ⟨fun i m ys H => m = n - i ∧ i ≤ n ∧ ys = ((List.range i).filter p).map f ∧ H = upd H1 D (.lst ys), ⟨n, by simp, Nat.zero_le _, rfl, rfl⟩, ?_⟩
  rintro i m ys H ⟨rfl, hi, rfl, rfl⟩
  refine ⟨upd_same, ?_⟩
  by_cases hlt : i < n
  · refine .inr ⟨hlt, fun x H' y => ?_⟩
    obtain ⟨e1, e2⟩ := y
    subst e1 e2
    refine hti i _ _ hlt (sm _) ?_
    cases hp : p i with
    | true =>
      refine iteT (hte i _ _ hlt hp (sm _) ⟨upd_same, ?_, n - (i + 1), by omega, rfl, hlt, ?_, ?_⟩)
      · have h1 := List.length_filter_le p (List.range i)
        rw [List.length_range] at h1
        rw [List.length_map]
        exact small1000 (by omega)
      · rw [List.range_succ, List.filter_append, List.map_append]
        simp [hp]
      · rw [upd_upd]
    | false =>
      refine iteF ⟨n - (i + 1), by omega, rfl, hlt, ?_, rfl⟩
      rw [List.range_succ, List.filter_append, List.map_append]
      simp [hp]
  · have e : i = n := by omega
    subst e
    exact .inl ⟨Nat.le_refl _, hq D hD⟩
theorem comp_list {K : PySem.W.Frag} {a : Addr} {xs : List V} {js : List Nat} {ti : TT} {te : TE} {σ : St} {Q : VK} {H1 : Hp} (p : V → Bool) (f : V → V) (hn : xs.length ≤ 1000) (hx : SqL K H1 a xs)
    (hti : ∀ x Hc (k : Bool → Hp → Prop), x ∈ xs → Same H1 Hc → k (p x) Hc → ti (some x :: fr1 js σ) Hc k) (hte : ∀ x Hc (k : VK), x ∈ xs → p x = true → Same H1 Hc → k (f x) Hc → te (some x :: fr1 js σ) Hc k)
    (hq : ∀ D, H1 D = none → Q (.ref D) (upd H1 D (.lst ((xs.filter p).map f)))) : tC1 js ti te σ Q (Itl K a) H1 := by
  intro D hD
  have sm : ∀ ys, Same H1 (upd H1 D (.lst ys)) := fun ys b o e => by rw [upd_ne (ne_of_none e hD)]; exact e
  refine ⟨fun i m ys H => m = xs.length - i ∧ i ≤ xs.length ∧ ys = ((xs.take i).filter p).map f ∧ H = upd H1 D (.lst ys), ⟨xs.length, by simp, Nat.zero_le _, rfl, rfl⟩, ?_⟩
  rintro i m ys H ⟨rfl, hi, rfl, rfl⟩
  refine ⟨upd_same, ?_⟩
  have hx' : ∀ ys, SqL K (upd H1 D (.lst ys)) a xs := fun ys => (sm ys).seq hx
  by_cases hlt : i < xs.length
  · refine .inr ⟨⟨xs, xs[i], hx' _, by simp [hlt]⟩, fun x H' y => ?_⟩
    obtain ⟨e1, y⟩ := y
    subst e1
    have hxi := y xs (hx' _)
    have hm : x ∈ xs := List.mem_of_getElem? hxi
    refine hti x _ _ hm (sm _) ?_
    have et : (xs.take (i + 1)) = xs.take i ++ [x] := by rw [List.take_add_one, hxi]; rfl
    cases hp : p x with
    | true =>
      refine iteT (hte x _ _ hm hp (sm _) ⟨upd_same, ?_, xs.length - (i + 1), by omega, rfl, hlt, ?_, ?_⟩)
      · have h1 := List.length_filter_le p (xs.take i)
        have h2 := List.length_take_le i xs
        rw [List.length_map]
        exact small1000 (by omega)
      · rw [et, List.filter_append, List.map_append]
        simp [hp]
      · rw [upd_upd]
    | false =>
      refine iteF ⟨xs.length - (i + 1), by omega, rfl, hlt, ?_, rfl⟩
      rw [et, List.filter_append, List.map_append]
      simp [hp]
  · have e : i = xs.length := by omega
    subst e
    refine .inl ⟨⟨xs, hx' _, Nat.le_refl _⟩, ?_⟩
    have := hq D hD
    rw [List.take_length]
    exact this
/-! ### rules whose reading names K, within a block -/
section
variable {X : Cx} {Nc : List Str} {scope : Scope} {cells : List (Str × Addr)} {C : Addr} {s : Shared} {H : Hp} {fp : List Addr} {e : Expr} {f : Str} {pos : Pos} {ta : TE}
theorem ixC : IxR (compCx X Nc scope cells C s H fp) (rIxL X.K) := ix_list
theorem inC : OpR (compCx X Nc scope cells C s H fp) (compareOp .In) (rIn X.K false) := op_in_seq
end
/-! ### the same within a try, or a loop that lets exceptions by -/
section
variable {X : Cx} {pins : List (Addr × Obj)} {Hand : St → XK} {e : Expr} {f : Str} {pos : Pos} {ta tl : TE} {tg l : Expr}
end
end L2

/-! LAMP D: is, == of lists and tuples, in, all, any, isinstance, the calls in an except suite -/
namespace L2
open PySem PySem.Spec PyProof.Rows
section
variable {X : Cx}
end

/-! ### == of two lists, of two tuples, flat items -/
def eqVs : List V → List V → Bool
  | [], [] => true
  | a :: as, b :: bs => eqV a b && eqVs as bs
  | _, _ => false
def eAt (xs ys : List V) (j : Nat) : Bool := match xs[j]?, ys[j]? with
  | some a, some b => eqV a b
  | _, _ => false
theorem eqVs_range : ∀ (xs ys : List V), ((List.range (min xs.length ys.length)).all (eAt xs ys) && xs.length == ys.length) = eqVs xs ys
  | [], [] => rfl
  | [], _ :: _ => by simp [eqVs]
  | _ :: _, [] => by simp [eqVs]
  | a :: as, b :: bs => by
    have ih := eqVs_range as bs
    have e : min (a :: as).length (b :: bs).length = min as.length bs.length + 1 := by simp only [List.length_cons]; omega
    rw [e, List.range_succ_eq_map, List.all_cons, List.all_map]
    have e2 : (eAt (a :: as) (b :: bs) ∘ Nat.succ) = eAt as bs := by funext j; rfl
    have e3 : ((a :: as).length == (b :: bs).length) = (as.length == bs.length) := by
      rw [Bool.eq_iff_iff]
      simp
    rw [e2, e3, Bool.and_assoc, ih]
    rfl
theorem eqV_refl : ∀ {x : V}, flatV x = true → eqV x x = true
  | .non, _ => rfl
  | .bl b, _ => by simp [eqV]
  | .int i, _ => by simp [eqV]
  | .str z, _ => by simp [eqV]
theorem eqVs_refl : ∀ {xs : List V}, xs.all flatV = true → eqVs xs xs = true
  | [], _ => rfl
  | a :: as, h => by
    rw [List.all_cons, Bool.and_eq_true] at h
    simp [eqVs, eqV_refl h.1, eqVs_refl h.2]
theorem eqVs_int : ∀ {as bs : List Int}, eqVs (as.map V.int) (bs.map V.int) = decide (as = bs)
  | [], [] => rfl
  | [], _ :: _ => by simp [eqVs]
  | _ :: _, [] => by simp [eqVs]
  | a :: as, b :: bs => by
    rw [List.map_cons, List.map_cons, eqVs, eqVs_int, Bool.eq_iff_iff]
    simp [eqV]
theorem eqVs_bl : ∀ {as bs : List Bool}, eqVs (as.map V.bl) (bs.map V.bl) = decide (as = bs)
  | [], [] => rfl
  | [], _ :: _ => by simp [eqVs]
  | _ :: _, [] => by simp [eqVs]
  | a :: as, b :: bs => by
    rw [List.map_cons, List.map_cons, eqVs, eqVs_bl, Bool.eq_iff_iff]
    simp [eqV]
theorem all_flat_int (as : List Int) : (as.map V.int).all flatV = true := by simp [flatV]
theorem eAt_at {A : Around} {s : Shared} {xs ys : List V} {us ws : List Value} (rx : Vals xs us) (ry : Vals ys ws) (fx : xs.all flatV = true) (fy : ys.all flatV = true) (j : Nat) (h1 : j < us.toArray.size) (h2 : j < ws.toArray.size) :
    SeqAt.EqAt A s us.toArray[j] ws.toArray[j] (eAt xs ys j) := by
  have l1 := rx.length
  have l2 := ry.length
  have q1 : j < xs.length := by simp at h1; omega
  have q2 : j < ys.length := by simp at h2; omega
  obtain ⟨u, e1, r1⟩ := rx.get (i := j) (x := xs[j]) (by simp [q1])
  obtain ⟨w, e2, r2⟩ := ry.get (i := j) (x := ys[j]) (by simp [q2])
  have f1 : flatV xs[j] = true := List.all_eq_true.mp fx _ (List.getElem_mem q1)
  have f2 : flatV ys[j] = true := List.all_eq_true.mp fy _ (List.getElem_mem q2)
  have g1 : us.toArray[j] = u := by
    have := List.getElem?_eq_some_iff.mp e1
    obtain ⟨_, z⟩ := this
    simpa using z
  have g2 : ws.toArray[j] = w := by
    have := List.getElem?_eq_some_iff.mp e2
    obtain ⟨_, z⟩ := this
    simpa using z
  have ee : eAt xs ys j = eqV xs[j] ys[j] := by simp [eAt, q1, q2]
  rw [g1, g2, ee]
  exact eqAt_V r1 r2 f1 f2
section
variable {X : Cx} {pins : List (Addr × Obj)} {σ : St} {H : Hp} {s : Shared} {A : Around}
theorem rcAt_lst {p q : Addr} {xs ys : List V} (I : Inv X pins σ H s) (hp : SqL X.K H p xs) (hq : SqL X.K H q ys) (fx : xs.all flatV = true) (fy : ys.all flatV = true) (hu : A.units < cLine) : SeqAt.RcAt A s (.ref p) (.ref q) (eqVs xs ys) := by
  obtain ⟨us, r1, p1, _⟩ := I.list hp
  obtain ⟨ws, r2, p2, _⟩ := I.list hq
  have l1 := r1.length
  have l2 := r2.length
  have e := eqVs_range xs ys
  by_cases h : xs.length = ys.length
  · have z := SeqAt.RcAt.lists (A := A) (e := eAt xs ys) p1.isList p2.isList (by simp; omega) hu fun j h1 h2 => eAt_at r1 r2 fx fy j h1 h2
    have e2 : (List.range us.toArray.size).all (eAt xs ys) = eqVs xs ys := by
      rw [← e]
      have : min xs.length ys.length = us.toArray.size := by simp; omega
      rw [this, h]
      simp
    rw [e2] at z
    exact z
  · have hf : eqVs xs ys = false := by
      rw [← e]
      have : (xs.length == ys.length) = false := by simpa using h
      rw [this, Bool.and_false]
    rw [hf]
    refine SeqAt.RcAt.lists_lengths p1.isList p2.isList ?_ hu
    simp
    omega
theorem rcAt_tup {p q : Addr} {xs ys : List V} (I : Inv X pins σ H s) (hp : SqT X.K H p xs) (hq : SqT X.K H q ys) (fx : xs.all flatV = true) (fy : ys.all flatV = true) (hu : A.units < cLine) : SeqAt.RcAt A s (.ref p) (.ref q) (eqVs xs ys) := by
  obtain ⟨us, r1, p1, _⟩ := I.tuple hp
  obtain ⟨ws, r2, p2, _⟩ := I.tuple hq
  have l1 := r1.length
  have l2 := r2.length
  have z := SeqAt.RcAt.tuples (A := A) (e := eAt xs ys) p1 p2 hu fun j h1 h2 => eAt_at r1 r2 fx fy j h1 h2
  have e2 : ((List.range (min us.toArray.size ws.toArray.size)).all (eAt xs ys) && us.toArray.size == ws.toArray.size) = eqVs xs ys := by
    rw [← eqVs_range xs ys]
    simp only [List.size_toArray, l1, l2]
  rw [e2] at z
  exact z
theorem eqAt_tup {p q : Addr} {xs ys : List V} (I : Inv X pins σ H s) (hp : SqT X.K H p xs) (hq : SqT X.K H q ys) (fx : xs.all flatV = true) (fy : ys.all flatV = true) (hu : A.units < cLine) : SeqAt.EqAt A s (.ref p) (.ref q) (eqVs xs ys) := by
  by_cases h : p = q
  · subst h
    have e := I.tuple_inj hp hq
    subst e
    rw [eqVs_refl fx]
    exact SeqAt.EqAt.same _
  · exact SeqAt.EqAt.of_refs h (rcAt_tup I hp hq fx fy hu)
end
section
variable {X : Cx}
def rEqS (K : PySem.W.Frag) (neg : Bool) : R2 := fun x y H Q => ∃ p q xs ys, x = .ref p ∧ y = .ref q ∧ ((SqL K H p xs ∧ SqL K H q ys) ∨ (SqT K H p xs ∧ SqT K H q ys)) ∧ xs.all flatV = true ∧ ys.all flatV = true ∧ Q (.bl (if neg then !eqVs xs ys else eqVs xs ys)) H
theorem op_eq_seq (hu : X.A.units < cLine) : OpR X (compareOp .Eq) (rEqS X.K false) := by
  intro pins s σ H x y v u Q I rx ry h
  obtain ⟨p, q, xs, ys, rfl, rfl, hs, fx, fy, hq⟩ := h
  cases rx
  cases ry
  rcases hs with ⟨h1, h2⟩ | ⟨h1, h2⟩
  · exact rcAt_lst I h1 h2 fx fy hu X.prog X.w X.xe _ ⟨.bl _, H, I, rfl, hq⟩
  · exact rcAt_tup I h1 h2 fx fy hu X.prog X.w X.xe _ ⟨.bl _, H, I, rfl, hq⟩
theorem walk_bls {pins : List (Addr × Obj)} {σ : St} {H : Hp} {s : Shared} {p : Addr} {bs : List Bool} (I : Inv X pins σ H s) (hq : SqL X.K H p (bs.map V.bl)) :
    ∃ its : List Value, its = bs.map Value.bool ∧ PlainL s.heap p its.toArray := by
  obtain ⟨its, r, pl, hz⟩ := I.list hq
  refine ⟨its, ?_, pl⟩
  clear pl hq hz
  induction bs generalizing its with
  | nil => cases r; rfl
  | cons b bs ih =>
    cases r with
    | cons r t =>
      cases r
      rw [ih _ t]
      rfl
theorem range_bls (bs : List Bool) : ∀ (g : Bool → Bool), (List.range bs.length).all (fun i => g (bs.getD i false)) = bs.all g ∧ (List.range bs.length).any (fun i => g (bs.getD i false)) = bs.any g := by
  induction bs with
  | nil => intro g; exact ⟨rfl, rfl⟩
  | cons b bs ih =>
    intro g
    have e : ((fun i => g ((b :: bs).getD i false)) ∘ Nat.succ) = fun i => g (bs.getD i false) := by funext j; rfl
    constructor
    · rw [List.length_cons, List.range_succ_eq_map, List.all_cons, List.all_map, e, (ih g).1]
      rfl
    · rw [List.length_cons, List.range_succ_eq_map, List.any_cons, List.any_map, e, (ih g).2]
      rfl
theorem walk_at {pins : List (Addr × Obj)} {σ : St} {H : Hp} {s : Shared} {p : Addr} {bs : List Bool} (hh : X.A.handled = none) (I : Inv X pins σ H s) (hq : SqL X.K H p (bs.map V.bl)) {R : Bool → Prop} {Q : Value → Shared → Prop} {f : Nat → (Nat → Bool) → Bool}
    (hQ : ∀ s', Inv X pins σ H s' → Q (.bool (f bs.length fun i => bs.getD i false)) s') :
    wpAny (model X.prog X.w) X.A.in1 (pyIter (.ref p)) (fun it s₂ => ∃ I fp wr n P St tr, it = .ref I ∧ Walks X.prog X.w X.A.in1 I fp wr n P St ∧ St 0 s₂.heap ∧ TruthOf X.prog X.w X.A.in1 P tr ∧
      ∀ h' tk, (∀ b o, b ∉ wr → s₂.heap.get? b = some o → h'.get? b = some o) → Q (.bool (f n tr)) { s₂ with heap := h', toks := tk }) X.xe s := by
  obtain ⟨its, e, pl⟩ := walk_bls I hq
  subst e
  have hl := pl.isList
  have hlt : p < s.heap.objs.size := by obtain ⟨o, e, _⟩ := hl; exact Heap.lt_size e
  refine wpAny_pyIter_list hl ?_
  refine ⟨s.heap.objs.size, _, _, (bs.map Value.bool).toArray.size, _, _, fun i => bs.getD i false, rfl, Walks.list (A := X.A.in1) hh s.heap.objs.size p (Nat.ne_of_lt hlt) _, ⟨⟨_, Heap.get?_push_size _ rfl, rfl, rfl⟩, hl.push _⟩, fun i v s' Q' E' hP hq' => ?_, fun h' tk hk => ?_⟩
  · have hP' : (bs.map Value.bool).toArray[i]? = some v := hP
    simp only [List.getElem?_toArray, List.getElem?_map] at hP'
    cases q : bs[i]? with
    | none => rw [q] at hP'; cases hP'
    | some b =>
      rw [q] at hP'
      have e : Value.bool b = v := Option.some.inj hP'
      subst e
      have e2 : bs.getD i false = b := by rw [List.getD_eq_getElem?_getD, q]; rfl
      have hq2 : Q' (bs.getD i false) s' := hq'
      rw [e2] at hq2
      exact wpAny_truthy_bool hq2
  · have e : (bs.map Value.bool).toArray.size = bs.length := by simp
    rw [e]
    exact hQ _ (I.kept (h' := h') (t' := tk) fun b o q => hk b o (by
      intro z
      have z' : b = s.heap.objs.size := by simpa using z
      exact absurd (Heap.lt_size q) (by rw [z']; exact Nat.lt_irrefl _)) (Heap.get?_push_of_some _ q))
theorem call_all (hc : X.calm = true) : CallR X (.builtin "all") (fun xs H Q => ∃ (p : Addr) (bs : List Bool), xs = [.ref p] ∧ SqL X.K H p (bs.map V.bl) ∧ Q (.bl (bs.all id)) H) := by
  intro pins s σ H xs us Q I r h
  obtain ⟨p, bs, rfl, hq, q⟩ := h
  obtain ⟨u, rfl, rx⟩ := vals1 r
  cases rx
  exact call_all_walk (walk_at (R := fun _ => True) (f := fun n tr => (List.range n).all tr) (I.ok.hd hc) I hq fun s' I' => ⟨.bl _, H, I', rfl, by have e := (range_bls bs id).1; exact (show _ = _ from e) ▸ q⟩)

/-! ### isinstance -/
def rIsi (K : PySem.W.Frag) : List V → Hp → VK → Prop := fun xs H Q => ∃ x cV c t b, xs = [x, cV] ∧ ((∃ n, cV = .ty n ∧ c = .type n) ∨ (∃ a, cV = .ref a ∧ c = .ref a)) ∧ TyOf K H x t ∧ PySem.W.kitOne K t c = some b ∧ Q (.bl b) H
theorem call_isi : CallR X (.builtin "isinstance") (rIsi X.K) := by
  intro pins s σ H xs us Q I r h
  obtain ⟨x, cV, c, t, b, rfl, hc, ty, hk, q⟩ := h
  obtain ⟨u, u2, rfl, rx, rc⟩ := vals2 r
  have e : u2 = c := by
    rcases hc with ⟨n, e1, e2⟩ | ⟨a, e1, e2⟩
    · subst e1 e2; exact rc
    · subst e1 e2; exact rc
  subst e
  exact isinst_ok I rx ty hk fun tk => ⟨.bl b, H, I.tok tk, rfl, q⟩
end
end L2

/-! LAMP E: enumerate; a def with a default -/
namespace L2
open PySem PySem.Spec PyProof.Rows

/-! ### enumerate -/
def Ite (K : PySem.W.Frag) (a : Addr) : It :=
  ⟨fun i H => ∃ xs x, SqL K H a xs ∧ xs[i]? = some x, fun i H x H' => ∃ t v, x = .ref t ∧ H t = none ∧ H' = upd H t (.tup [.int i, v]) ∧ ∀ xs, SqL K H a xs → xs[i]? = some v, fun i H => ∃ xs, SqL K H a xs ∧ xs.length ≤ i⟩
theorem go_enum {M : Model} {A : Around} {E : Value → Shared → Prop} {s : Shared} {es : List Expr} {k : Nat} {pos : Pos} {e it a : Addr} {i : Int} {x : Value} {Q : Unit → Shared → Prop} (he : IsEnumOut s.heap e it i x a)
    (h : ∀ h', IsEnum h' e it i x → Heap.SameBut e s.heap h' → Q () { s with heap := h' }) : wpAny M A (letOwnedTupleGo (.Tuple es k pos) (.ref e) (.ref a)) Q E s := by
  unfold letOwnedTupleGo
  refine wpAny_bind (wpAny_load he ?_)
  dsimp only
  rw [if_pos (by simp)]
  refine wpAny_bind (wpAny_rule ?_)
  unfold updateField
  refine wpAny_bind (wpAny_load he ?_)
  dsimp only
  rw [if_pos (by simp)]
  refine wpAny_update he (h _ ?_ (Heap.SameBut.update ..))
  have := Heap.get?_update_self (Obj.mapFields (·.setIfInBounds 0 Value.none)) he rfl
  exact this
theorem turn_enum {P : Program} {w : World} {K : PySem.W.Frag} {es : List Expr} {k : Nat} {pos : Pos} (a e it : Addr) (hne : e ≠ it) :
    Turn P w K (.Tuple es k pos) (Ite K a) [e, it] e (fun i h => (∃ old, IsEnum h e it i old) ∧ h.IsListIter it a i) where
  mem := by simp
  obj := fun i h st b hb => by
    obtain ⟨⟨old, he⟩, o, e1, c1, d1⟩ := st
    rcases List.mem_cons.mp hb with z | z
    · rw [z]
      exact ⟨_, he, fun v q => by
        have q' : Data.fields _ = Data.cell v := q
        cases q'⟩
    · have z' : b = it := by simpa using z
      rw [z']
      exact ⟨o, e1, fun v q => by rw [d1] at q; cases q⟩
  keep := fun i h h' st kp => by
    obtain ⟨⟨old, he⟩, hi⟩ := st
    exact ⟨⟨old, kp e (by simp) _ he⟩, hi.at fun o q => kp it (by simp) o q⟩
  item := by
    intro X hP hw hK hc i pins s σ H E I hf st hg
    subst hP hw hK
    obtain ⟨xs, x, hq, hx⟩ := hg
    obtain ⟨⟨old, he⟩, hit⟩ := st
    obtain ⟨its, rv, p, hz⟩ := I.list hq
    obtain ⟨u, hu, ru⟩ := rv.get hx
    have nt : H s.heap.objs.size = none := I.hok.fresh (Nat.le_refl _)
    refine wpAny_pyNext_enum_item he hit p.isList (x := u) (by simpa using hu) hne fun h1 ho hit1 htup hsz hk => ⟨_, rfl, go_enum (s := { s with heap := h1, toks := s.toks + 1 }) ho fun h2 he2 sb => ?_⟩
    have old_ : ∀ b o, b ∉ [e, it] → s.heap.get? b = some o → h2.get? b = some o := fun b o hb q => by
      have n1 : b ≠ e := fun z => hb (by simp [z])
      have n2 : b ≠ it := fun z => hb (by simp [z])
      exact (sb.2 b n1).trans (hk b o n1 n2 q)
    have elt : e < s.heap.objs.size := Heap.lt_size he
    have htup2 : h2.get? s.heap.objs.size = some { cls := .type "tuple", data := .seq #[.int i s.toks, u] } := (sb.2 _ (Nat.ne_of_gt elt)).trans htup
    have trk : ∀ b o, H b = some o → b ∉ [e, it] := fun b o q hb => by
      have := (hf b hb).1
      rw [this] at q
      cases q
    have J : Inv X pins σ (upd H s.heap.objs.size (.tup [.int i, x])) { s with heap := h2, gens := s.gens, drawn := s.drawn, toks := s.toks + 1 } := by
      refine I.step (s := s) (h' := h2) (g' := s.gens) (d' := s.drawn) (t' := s.toks + 1) (ch := [e, it]) (fun b hb => ?_) (fun b o _ _ hc q _ => old_ b o hc q) (fun b o _ _ hc q _ => ⟨o.slots, old_ b o hc q⟩) (fun b o hc q n => ?_)
        (fun b o hc q => ⟨o, old_ b o hc q⟩) (fun b ys q => ?_) (fun b o v q => ?_) (fun b ps q => ⟨#[], ?_⟩) (fun m hm => ?_) (fun b v q => ?_) I.bare
      · obtain ⟨f0, f1, f2, f3, f4, f5⟩ := hf b hb
        exact ⟨f3, f1, f4, f5⟩
      · rw [upd_ne (Nat.ne_of_lt (Heap.lt_size q))]
        exact n
      · rw [upd_ne (ne_of_none q nt)]
        exact q
      · rw [upd_ne (ne_of_none q nt)]
        exact q
      · rw [upd_ne (ne_of_none q nt), q]
        simp
      · obtain ⟨o, es', ep, ho', r⟩ := hm
        exact ⟨o, es', ep, old_ _ o (fun z => (hf _ z).2.1 rfl) ho', r⟩
      · by_cases hb : b = s.heap.objs.size
        · subst hb
          rw [upd_same] at q
          cases q
          exact ⟨by show 2 ≤ sizeLine; decide, [.int i s.toks, u], .cons ⟨_, rfl⟩ (.cons ru .nil), ⟨_, htup2, rfl, _, rfl⟩⟩
        · rw [upd_ne hb] at q
          refine (I.hok b v q).stay (fun c z hc' q' => old_ c z ?_ q') (fun c q' => by rw [upd_ne (ne_of_none q' nt)]; exact q') fun c ys q' => by rw [upd_ne (ne_of_none q' nt)]; exact q'
          rcases hc' with hc' | hc'
          · rw [hc']
            exact trk b v q
          · exact trk c _ hc'
    refine ⟨.ref s.heap.objs.size, upd H s.heap.objs.size (.tup [.int i, x]), J, rfl, ⟨_, x, rfl, nt, rfl, fun ys hy => by rw [I.list_inj hy hq]; exact hx⟩, ⟨⟨u, he2⟩, ?_⟩, fun b hb => ?_⟩
    · obtain ⟨o, q, r⟩ := hit1
      exact ⟨o, (sb.2 it (Ne.symm hne)).trans q, r⟩
    · obtain ⟨f0, f1, f2, f3, f4, f5⟩ := hf b hb
      have hlt : b < s.heap.objs.size := by
        rcases List.mem_cons.mp hb with z | z
        · rw [z]; exact elt
        · have z' : b = it := by simpa using z
          rw [z']
          obtain ⟨o, q, _⟩ := hit
          exact Heap.lt_size q
      rw [upd_ne (Nat.ne_of_lt hlt)]
      exact f0
  done := by
    intro X hP hw hK hc i pins s σ H E I hf st hg
    subst hP hw hK
    obtain ⟨xs, hq, hx⟩ := hg
    obtain ⟨⟨old, he⟩, hit⟩ := st
    obtain ⟨its, rv, p, hz⟩ := I.list hq
    obtain ⟨f0, f1, f2, f3, f4, f5⟩ := hf it (by simp)
    have hl := rv.length
    exact wpAny_pyNext_enum_end (I.ok.hd hc) he hit p.isList (by simp; omega) fun h' eb => ⟨rfl, I.turned (t' := s.toks) (fun b o hb q => eb b o hb q) f0 f1 f3 f4 f5⟩
  self := fun _ _ _ _ _ st h => by
    obtain ⟨⟨old, he⟩, _⟩ := st
    exact wpAny_pyIter_enum he h
def iEnum (K : PySem.W.Frag) (ta : TA) : TI := fun σ H R => ta σ H fun vs H1 => ∃ a, vs = [.ref a] ∧ (∃ xs, SqL K H1 a xs) ∧ R (Ite K a) H1
theorem pi_enum {X : Cx} {es : List Expr} {k : Nat} {tp p pos : Pos} {l : Expr} {ta : TA} (hg : Gl X "enumerate") (hm : X.mg "enumerate" = none) (ha : PA X [l] ta) (hs : starEach [l] X.env = [(false, eval l X.env)] := by rfl) :
    PI X (.Tuple es k tp) (.Call (.Name "enumerate" p) [l] [] pos) (iEnum X.K ta) := by
  intro pins s σ H R I h
  refine Call_ (ld_blt I hg hm boot_enumerate (PyProof.Rows.callWith_type1 (thn (ha pos pins s σ H _ I h) fun us s1 ⟨vs, H1, I1, r1, q1⟩ => ?_) hs rfl))
  obtain ⟨a, e, ⟨xs, hq⟩, q⟩ := q1
  subst e
  obtain ⟨u, rfl, rx⟩ := vals1 r1
  cases rx
  obtain ⟨its, rv, pl, hz⟩ := I1.list hq
  refine call_enumerate_list pl.isList fun h' he hit hsz hk => wpAny_pyIter_enum (s := { s1 with heap := h' }) he ?_
  have I2 : Inv X pins σ H1 { s1 with heap := h' } := I1.kept (t' := s1.toks) hk
  refine ⟨_, [s1.heap.objs.size + 1, s1.heap.objs.size], _, _, H1, rfl, I2, turn_enum a _ _ (Nat.succ_ne_self _), ⟨⟨_, he⟩, hit⟩, fun b hb => ?_, q⟩
  have hb' : s1.heap.objs.size ≤ b := by
    rcases List.mem_cons.mp hb with z | z
    · rw [z]; exact Nat.le_succ _
    · have z' : b = s1.heap.objs.size := by simpa using z
      rw [z']; exact Nat.le_refl _
  exact I1.fpOk hb' (I1.hok.fresh hb')
theorem comp_enum {K : PySem.W.Frag} {a : Addr} {xs : List V} {js : List Nat} {te : TE} {σ : St} {Q : VK} {H1 : Hp} (f : Nat → V → V) (hn : xs.length ≤ 1000) (hx : SqL K H1 a xs)
    (hte : ∀ (i : Nat) x Hc (k : VK), xs[i]? = some x → Same H1 Hc → k (f i x) Hc → te (some (.int i) :: some x :: fr1 js σ) Hc k)
    (hq : ∀ D H2, H1 D = none → Same H1 H2 → H2 D = some (.lst (xs.mapIdx f)) → Q (.ref D) H2) : tC2 K js tAll te σ Q (Ite K a) H1 := by
  intro D hD
  refine ⟨fun i m ys H => m = xs.length - i ∧ i ≤ xs.length ∧ ys = (xs.take i).mapIdx f ∧ Same H1 H ∧ H D = some (.lst ys), ⟨xs.length, by simp, Nat.zero_le _, rfl, fun b o e => by rw [upd_ne (ne_of_none e hD)]; exact e, upd_same⟩, ?_⟩
  rintro i m ys H ⟨rfl, hi, rfl, sm, hH⟩
  refine ⟨hH, ?_⟩
  by_cases hlt : i < xs.length
  · refine .inr ⟨⟨xs, xs[i], sm.seq hx, by simp [hlt]⟩, fun z H' y => ?_⟩
    obtain ⟨t, v, rfl, ht, rfl, hv⟩ := y
    have hxi := hv xs (sm.seq hx)
    have sm2 : Same H1 (upd H t (.tup [.int i, v])) := fun b o e => by
      have := sm b o e
      rw [upd_ne (ne_of_none this ht)]
      exact this
    have hD2 : (upd H t (.tup [.int i, v])) D = some (.lst ((xs.take i).mapIdx f)) := by rw [upd_ne (ne_of_none hH ht)]; exact hH
    refine ⟨t, .int i, v, rfl, SqT.of upd_same, ?_⟩
    unfold tAll
    dsimp only
    rw [if_pos rfl]
    refine hte i v _ _ hxi sm2 ⟨hD2, ?_, xs.length - (i + 1), by omega, rfl, hlt, ?_, fun b o e => ?_, upd_same⟩
    · rw [List.length_mapIdx]
      have := List.length_take_le i xs
      exact small1000 (by omega)
    · rw [List.take_add_one, hxi, List.mapIdx_append]
      simp [Nat.min_eq_left (Nat.le_of_lt hlt)]
    · rw [upd_ne (ne_of_none e hD)]
      exact sm2 b o e
  · have e : i = xs.length := by omega
    subst e
    rw [List.take_length] at hH
    exact .inl ⟨⟨xs, sm.seq hx, Nat.le_refl _⟩, hq D H hD sm hH⟩

/-! ### a def with defaults -/
structure FunD (K : PySem.W.Frag) (x qual : Str) (st : Stmt) (f : Addr) (fd : FuncData) (ds : List Value) : Prop where
  ex : ∃ (oc : Value) (od : Option Addr) (T : Addr) (kV doc pm : Value) (an : Option Addr) (cdv ct : Value) (osl : Array (Option Value)) (ot : Obj) (nt : Nat),
    fd = PySem.W.fnOf x qual (defArgs st) (defBody st) (defScope st) (.ref T) kV doc pm an cdv ct ∧ K.lookup f = some ⟨oc, od, .func fd, osl⟩ ∧ PySem.W.codeIn K cdv qual = true ∧ K.lookup T = some ot ∧ ot.data = .seq ds.toArray nt
  kp : PySem.W.keepIn K (.ref f) = true
theorem FunD.okE {P : Program} {w : World} {K : PySem.W.Frag} {mg : Str → Option Value} {base : Heap} {x qual : Str} {st : Stmt} {f : Addr} {fd : FuncData} {ds : List Value} {N ps : List Str} {k : Nat} {sp : Sp} (F : FunD K x qual st f fd ds) (S : FnScope N ps (defScope st))
    (len : ∀ vs H Q E, sp vs H Q E → vs.length = ps.length)
    (hbody : ∀ (cdv : Value) (A : Around) (outer : List Env) (s : Shared) (H : Hp) (vs : List V) (Q : VK) (E : XK), Room k (A.deeper (envOfC qual (defScope st) s.heap.objs.size f cdv)) → sp vs H Q E →
      ∃ t, PSs (cxOf (CXE P w) P w K mg base N qual (defScope st) f cdv A outer s H E) (defBody st) t ∧ t { nx := fun _ H' => Q .non H', rt := Q } (start N vs) H) : FnOk P w K mg base (CXE P w) (k + 1) f fd ps sp := by
  obtain ⟨oc, od, T, kV, doc, pm, an, cdv, ct, osl, ot, nt, rfl, lk, hcd, _⟩ := F.ex
  exact fn_of lk hcd S len fun A outer s H vs Q E hr hsp => hbody cdv A outer s H vs Q E hr hsp
theorem funD_mk {K : PySem.W.Frag} {x qual : Str} {st : Stmt} {f T : Addr} {oc ocT : Value} {od an odT : Option Addr} {osl slT : Array (Option Value)} {kV doc pm cdv ct : Value} {ds : List Value} {nt : Nat}
    (l : K.lookup f = some ⟨oc, od, .func (PySem.W.fnOf x qual (defArgs st) (defBody st) (defScope st) (.ref T) kV doc pm an cdv ct), osl⟩)
    (c : PySem.W.codeIn K cdv qual = true) (k : PySem.W.keepIn K (.ref f) = true) (lT : K.lookup T = some ⟨ocT, odT, .seq ds.toArray nt, slT⟩) : FunD K x qual st f (PySem.W.fnOf x qual (defArgs st) (defBody st) (defScope st) (.ref T) kV doc pm an cdv ct) ds :=
  ⟨⟨oc, od, T, kV, doc, pm, an, cdv, ct, osl, _, nt, rfl, l, c, lT, rfl⟩, k⟩
end L2

/-! LAMP F: != of lists and tuples; a tuple in a list of tuples; comprehensions of new lists; sets of rows -/
namespace L2
open PySem PySem.Spec PyProof.Rows
section
variable {X : Cx} {pins : List (Addr × Obj)} {σ : St} {H : Hp} {s : Shared} {A : Around}
theorem rcNe_lst {p q : Addr} {xs ys : List V} (I : Inv X pins σ H s) (hp : SqL X.K H p xs) (hq : SqL X.K H q ys) (fx : xs.all flatV = true) (fy : ys.all flatV = true) (hu : A.units < cLine) : SeqAt.RcNeAt A s (.ref p) (.ref q) (!eqVs xs ys) := by
  obtain ⟨us, r1, p1, _⟩ := I.list hp
  obtain ⟨ws, r2, p2, _⟩ := I.list hq
  have l1 := r1.length
  have l2 := r2.length
  have e := eqVs_range xs ys
  by_cases h : xs.length = ys.length
  · have z := SeqAt.RcNeAt.lists (A := A) (e := eAt xs ys) p1.isList p2.isList (by simp; omega) hu fun j h1 h2 => eAt_at r1 r2 fx fy j h1 h2
    have e2 : (List.range us.toArray.size).all (eAt xs ys) = eqVs xs ys := by
      rw [← e]
      have : min xs.length ys.length = us.toArray.size := by simp; omega
      rw [this, h]
      simp
    rw [e2] at z
    exact z
  · have hf : eqVs xs ys = false := by
      rw [← e]
      have : (xs.length == ys.length) = false := by simpa using h
      rw [this, Bool.and_false]
    rw [hf]
    refine SeqAt.RcNeAt.lists_lengths p1.isList p2.isList ?_ hu
    simp
    omega
theorem rcNe_tup {p q : Addr} {xs ys : List V} (I : Inv X pins σ H s) (hp : SqT X.K H p xs) (hq : SqT X.K H q ys) (fx : xs.all flatV = true) (fy : ys.all flatV = true) (hu : A.units < cLine) : SeqAt.RcNeAt A s (.ref p) (.ref q) (!eqVs xs ys) := by
  obtain ⟨us, r1, p1, _⟩ := I.tuple hp
  obtain ⟨ws, r2, p2, _⟩ := I.tuple hq
  have l1 := r1.length
  have l2 := r2.length
  have z := SeqAt.RcNeAt.tuples (A := A) (e := eAt xs ys) p1 p2 hu fun j h1 h2 => eAt_at r1 r2 fx fy j h1 h2
  have e2 : ((List.range (min us.toArray.size ws.toArray.size)).all (eAt xs ys) && us.toArray.size == ws.toArray.size) = eqVs xs ys := by
    rw [← eqVs_range xs ys]
    simp only [List.size_toArray, l1, l2]
  rw [e2] at z
  exact z
end
section
variable {X : Cx}
theorem op_ne_seq (hu : X.A.units < cLine) : OpR X (compareOp .NotEq) (rEqS X.K true) := by
  intro pins s σ H x y v u Q I rx ry h
  obtain ⟨p, q, xs, ys, rfl, rfl, hs, fx, fy, hq⟩ := h
  cases rx
  cases ry
  rcases hs with ⟨h1, h2⟩ | ⟨h1, h2⟩
  · exact rcNe_lst I h1 h2 fx fy hu X.prog X.w X.xe _ ⟨.bl _, H, I, rfl, hq⟩
  · exact rcNe_tup I h1 h2 fx fy hu X.prog X.w X.xe _ ⟨.bl _, H, I, rfl, hq⟩
def tupAt (H : Hp) (a : Addr) : List V := match H a with
  | some (.tup ys) => ys
  | _ => []
theorem tupAt_of {H : Hp} {a : Addr} {ys : List V} (h : H a = some (.tup ys)) : tupAt H a = ys := by unfold tupAt; rw [h]
def rInT (K : PySem.W.Frag) (neg : Bool) : R2 := fun x y H Q => ∃ (p : Addr) (xs : List V) (q : Addr) (tas : List Addr), x = .ref p ∧ SqT K H p xs ∧ xs.all flatV = true ∧ y = .ref q ∧ SqL K H q (tas.map V.ref) ∧ (∀ a ∈ tas, H a = some (.tup (tupAt H a)) ∧ (tupAt H a).all flatV = true) ∧
  Q (.bl (if neg then !(tas.any fun a => eqVs (tupAt H a) xs) else tas.any fun a => eqVs (tupAt H a) xs)) H
def evT (H : Hp) (xs : List V) (v : Value) : Bool := match v with
  | .ref a => eqVs (tupAt H a) xs
  | _ => false
theorem vals_refs : ∀ {tas : List Addr} {us : List Value}, Vals (tas.map V.ref) us → us = tas.map Value.ref
  | [], _, .nil => rfl
  | a :: tas, u :: us, .cons r t => by
    cases r
    rw [vals_refs t]
    rfl
theorem inT_core {pins : List (Addr × Obj)} {σ : St} {H : Hp} {s : Shared} {p q : Addr} {xs : List V} {tas : List Addr} (hu : X.A.in1.units < cLine) (I : Inv X pins σ H s) (hp : SqT X.K H p xs) (fx : xs.all flatV = true) (hq : SqL X.K H q (tas.map V.ref))
    (ht : ∀ a ∈ tas, H a = some (.tup (tupAt H a)) ∧ (tupAt H a).all flatV = true) : s.heap.IsList q (tas.map Value.ref).toArray ∧ ∀ y, y ∈ (tas.map Value.ref).toArray → SeqAt.EqAt X.A.in1 s y (.ref p) (evT H xs y) := by
  obtain ⟨us, r1, p1, _⟩ := I.list hq
  have e := vals_refs r1
  subst e
  refine ⟨p1.isList, fun y hy => ?_⟩
  have hy' : y ∈ tas.map Value.ref := by simpa using hy
  obtain ⟨a, ha, rfl⟩ := List.mem_map.mp hy'
  obtain ⟨h1, h2⟩ := ht a ha
  exact eqAt_tup I (SqT.of h1) hp h2 fx hu
theorem op_notIn_tups (hu : X.A.in1.units < cLine) : OpR X (compareOp .NotIn) (rInT X.K true) := by
  intro pins s σ H x y v u Q I rx ry h
  obtain ⟨p, xs, q, tas, rfl, hp, fx, rfl, hq, ht, k⟩ := h
  cases rx
  cases ry
  obtain ⟨h1, h2⟩ := inT_core hu I hp fx hq ht
  refine SeqAt.notIn_listAt (evT H xs) h1 h2 ⟨.bl _, H, I, rfl, ?_⟩
  have e : (tas.map Value.ref).toArray.any (evT H xs) = tas.any fun a => eqVs (tupAt H a) xs := by
    simp [evT, Function.comp_def]
  rw [e]
  exact k
end
theorem Same.laid {H : Hp} {a : Addr} {o : HO} (h : H a = none) : Same H (upd H a o) := fun b u e => by rw [upd_ne (ne_of_none e h)]; exact e
/-! ### rows: a list of distinct new lists -/
structure RowsAt (H : Hp) (D : Addr) (qs : List Addr) (n : Nat) (g : Nat → List V) : Prop where
  top : H D = some (.lst (qs.map V.ref))
  ln : qs.length = n
  nd : qs.Nodup
  ap : D ∉ qs
  at_ : ∀ (i : Nat) q, qs[i]? = some q → H q = some (.lst (g i))
theorem RowsAt.same {H H' : Hp} {D : Addr} {qs : List Addr} {n : Nat} {g : Nat → List V} (R : RowsAt H D qs n g) (s : Same H H') : RowsAt H' D qs n g := ⟨s _ _ R.top, R.ln, R.nd, R.ap, fun i q e => s _ _ (R.at_ i q e)⟩
theorem comp_new {n : Nat} {js : List Nat} {te : TE} {σ : St} {Q : VK} {J : It} {H1 : Hp} (xs : Nat → V) (g : Nat → List V) (hn : n ≤ 1000)
    (hJ : ∀ i H, Same H1 H → (i < n → J.go i H ∧ ∀ x H', J.yld i H x H' → x = xs i ∧ H' = H) ∧ (n ≤ i → J.stop i H))
    (hte : ∀ (i : Nat) Hc (k : VK), i < n → Same H1 Hc → (∀ q, Hc q = none → k (.ref q) (upd Hc q (.lst (g i)))) → te (some (xs i) :: fr1 js σ) Hc k)
    (hq : ∀ D qs H', H1 D = none → Same H1 H' → RowsAt H' D qs n g → (∀ q ∈ qs, H1 q = none) → Q (.ref D) H') : tC1 js tAll te σ Q J H1 := by
  intro D hD
  refine ⟨fun i m ys H => m = n - i ∧ i ≤ n ∧ ∃ qs, ys = qs.map V.ref ∧ Same H1 H ∧ RowsAt H D qs i g ∧ ∀ q ∈ qs, H1 q = none, ⟨n, by simp, Nat.zero_le _, [], rfl, Same.laid hD, ⟨upd_same, rfl, List.nodup_nil, List.not_mem_nil, fun i q e => by simp at e⟩, fun q h => absurd h List.not_mem_nil⟩, ?_⟩
  rintro i m ys H ⟨rfl, hi, qs, rfl, sm, R, fr⟩
  refine ⟨R.top, ?_⟩
  by_cases hlt : i < n
  · obtain ⟨h1, h2⟩ := (hJ i H sm).1 hlt
    refine .inr ⟨h1, fun x H' y => ?_⟩
    obtain ⟨rfl, rfl⟩ := h2 x H' y
    unfold tAll
    dsimp only
    rw [if_pos rfl]
    refine hte i _ _ hlt sm fun q hqn => ?_
    have nD : D ≠ q := ne_of_none R.top hqn
    have nq : q ∉ qs := fun z => by
      obtain ⟨j, hj⟩ := List.getElem?_of_mem z
      rw [R.at_ j q hj] at hqn
      cases hqn
    have ln := R.ln
    refine ⟨by rw [upd_ne nD]; exact R.top, small1000 (by rw [List.length_map]; omega), n - (i + 1), by omega, rfl, hlt, qs ++ [q], by simp, fun b o e => ?_, ⟨?_, by simp [ln], ?_, ?_, fun j q' e => ?_⟩, fun q' hq' => ?_⟩
    · rw [upd_ne (ne_of_none e hD), upd_ne (ne_of_none (sm b o e) hqn)]
      exact sm b o e
    · rw [upd_same, List.map_append]
      rfl
    · rw [List.nodup_append]
      refine ⟨R.nd, by simp, fun a ha b hb => ?_⟩
      have hb' : b = q := by simpa using hb
      rw [hb']
      rintro rfl
      exact nq ha
    · intro z
      rcases List.mem_append.mp z with z | z
      · exact R.ap z
      · exact nD (by simpa using z)
    · by_cases hj : j < qs.length
      · rw [List.getElem?_append_left hj] at e
        have hq0 := R.at_ j q' e
        have n1 : q' ≠ D := fun z => R.ap (by rw [← z]; exact List.mem_of_getElem? e)
        rw [upd_ne n1, upd_ne (ne_of_none hq0 hqn)]
        exact hq0
      · rw [List.getElem?_append_right (by omega)] at e
        have hj0 : j - qs.length = 0 := by
          have := (List.getElem?_eq_some_iff.mp e).1
          simp at this
          omega
        rw [hj0] at e
        have e' : q = q' := by simpa using e
        subst e'
        have hji : j = i := by omega
        subst hji
        rw [upd_ne (Ne.symm nD), upd_same]
    · rcases List.mem_append.mp hq' with z | z
      · exact fr q' z
      · have z' : q' = q := by simpa using z
        rw [z']
        exact sm.free hqn
  · have e : i = n := by omega
    subst e
    exact .inl ⟨(hJ i H sm).2 (Nat.le_refl _), hq D qs H hD sm R fr⟩
theorem itr_new {n : Nat} {H1 : Hp} : ∀ i H, Same H1 H → (i < n → (Itr 0 n).go i H ∧ ∀ x H', (Itr 0 n).yld i H x H' → x = .int (0 + (i : Int)) ∧ H' = H) ∧ (n ≤ i → (Itr 0 n).stop i H) :=
  fun i H _ => ⟨fun h => ⟨h, fun x H' y => by obtain ⟨e1, e2⟩ := y; subst e1 e2; exact ⟨rfl, rfl⟩⟩, fun h => h⟩
theorem itl_new {K : PySem.W.Frag} {a : Addr} {xs : List V} {H1 : Hp} (hx : SqL K H1 a xs) : ∀ i H, Same H1 H → (i < xs.length → (Itl K a).go i H ∧ ∀ x H', (Itl K a).yld i H x H' → x = xs.getD i .non ∧ H' = H) ∧ (xs.length ≤ i → (Itl K a).stop i H) := fun i H sm => by
  have q := sm.seq hx
  refine ⟨fun h => ⟨⟨xs, xs[i], q, by simp [h]⟩, fun x H' y => ?_⟩, fun h => ⟨xs, q, h⟩⟩
  obtain ⟨e, y⟩ := y
  have hy := y xs q
  exact ⟨by rw [List.getD_eq_getElem?_getD, hy]; rfl, e⟩
end L2

/-! LAMP G: defs, methods and classes of the text in short -/
namespace L2
open PySem PySem.Spec PyProof.Rows
structure Has (P : Program) (w : World) (K : PySem.W.Frag) (mg : Str → Option Value) (base : Heap) (CX : CXT) (k : Nat) (x : Str) (ps : List Str) (sp : Sp) : Prop where
  ex : ∃ f fd, FnOk P w K mg base CX k f fd ps sp ∧ Binds K fd ps [] ∧ mg x = some (.ref f) ∧ PySem.W.keepIn K (.ref f) = true
structure HasM (P : Program) (w : World) (K : PySem.W.Frag) (mg : Str → Option Value) (base : Heap) (CX : CXT) (k : Nat) (C : Addr) (m : Str) (ps : List Str) (dvs : List V) (sp : Sp) : Prop where
  ex : ∃ f fd ds, FnOk P w K mg base CX k f fd ps sp ∧ Binds K fd ps ds ∧ Vals dvs ds ∧ Meth K C m f
  cl : Cls K C
structure HasC (P : Program) (w : World) (K : PySem.W.Frag) (mg : Str → Option Value) (base : Heap) (CX : CXT) (k : Nat) (C : Addr) (x : Str) (ps : List Str) (sp : Sp) : Prop where
  ex : ∃ f fd, FnOk P w K mg base CX k f fd ps sp ∧ Binds K fd ps [] ∧ Mk K C f
  m : mg x = some (.ref C)
theorem pass0S {X : Cx} {E : St → XK} : PassesS CX0 X E := fun _ _ _ _ _ _ _ h => h.elim
section
variable {X : Cx} {CX : CXT} {k : Nat} {C : Addr} {ps : List Str} {sp : Sp} {dvs : List V} {E : St → XK} {x m : Str} {p pos apos : Pos} {e o : Expr} {es : List Expr} {ta : TE} {t : TA}
theorem pe_callH (h : Has X.prog X.w X.K X.mg X.base CX k x ps sp) (hr : Room k X.A) (hg : Gl X x) (hx : PassesS CX X E) (ha : PA X (e :: es) t)
    (hdb : (x == ("__debug__" : Str)) = false := by decide) (he : starEach (e :: es) X.env = (false, eval e X.env) :: starEach es X.env := by rfl) (hpl : (backTo pos (starEach es X.env)).any (·.1) = false := by rfl) :
    PE X (.Call (.Name x p) (e :: es) [] pos) (tCallS sp [] E t) := by
  obtain ⟨f, fd, F, b, hm, hk⟩ := h.ex
  exact pe_callS F hr hg hm hk b .nil hx ha hdb he hpl
theorem pe_methH {pl : Sem Bool} (he : PE X o ta) (h : HasM X.prog X.w X.K X.mg X.base CX k C m ps dvs sp) (hr : Room k X.A) (hx : PassesS CX X E) (ha : PA X (e :: es) t)
    (hst : starEach (e :: es) X.env = (false, eval e X.env) :: starEach es X.env := by rfl) (hpl : (backTo pos (starEach es X.env)).any (·.1) = false := by rfl)
    (ht : eval (.Call (.Attribute o m apos) (e :: es) [] pos) X.env = (do
      let ov ← eval o X.env
      standAt apos.atName
      let (f, first) ← holding [ov] (getMethod ov m pl)
      callWith pos f first (backTo pos (starEach (e :: es) X.env)) (backToKw pos (keywordEach [] X.env))) := by rfl) :
    PE X (.Call (.Attribute o m apos) (e :: es) [] pos) (tMethS C m sp dvs E ta t) := by
  obtain ⟨f, fd, ds, F, b, hd, hm⟩ := h.ex
  exact pe_methS he h.cl hm F hr b hd hx ha hst hpl ht
theorem pe_makeH (h : HasC X.prog X.w X.K X.mg X.base CX k C x ps sp) (hr : Room (k + 1) X.A) (hg : Gl X x) (hx : PassesS CX X E)
    (ha : PA X (e :: es) t) (hdb : (x == ("__debug__" : Str)) = false := by decide) (he : starEach (e :: es) X.env = (false, eval e X.env) :: starEach es X.env := by rfl) (hpl : (backTo pos (starEach es X.env)).any (·.1) = false := by rfl) :
    PE X (.Call (.Name x p) (e :: es) [] pos) (tMakeS C sp [] E t) := by
  obtain ⟨f, fd, F, b, M⟩ := h.ex
  exact pe_makeS M F hr hg h.m b .nil hx ha hdb he hpl
end
theorem posI {j : Int} (h : decide (0 < j) = true) : 0 < j := of_decide_eq_true h
theorem divI {i j : Int} (h : (decide (0 < j) && decide (j < 1073741824)) = true) : CDiv i j := by
  rw [Bool.and_eq_true, decide_eq_true_eq, decide_eq_true_eq] at h
  exact h
theorem mulL {i j : Int} (h : (decide (-(2 ^ 64) < i) && decide (i < 2 ^ 64)) = true) : CMul i j := by
  rw [Bool.and_eq_true, decide_eq_true_eq, decide_eq_true_eq] at h
  exact .inl h
section
variable {X : Cx} {N1 N2 : List Str} {sc1 sc2 : Scope} {c1 c2 : List (Str × Addr)} {C1 C2 : Addr} {s1 s2 : Shared} {H1 H2 : Hp} {f1 f2 : List Addr}
end
theorem kit_same {K : PySem.W.Frag} {t : Value} : PySem.W.kitOne K t t = some true := by
  unfold PySem.W.kitOne
  rw [if_pos (by simp)]
theorem atI_pair0 {x y : V} {m : Int} (h : m = 0) : atI [x, y] m = some x := by subst h; exact atI_nat (j := 0) rfl
theorem atI_pair1 {x y : V} {m : Int} (h : m = 1) : atI [x, y] m = some y := by subst h; exact atI_nat (j := 1) rfl
end L2

/-! LAMP H: promises lifted to those that may raise; isinstance of a caught exception; short names -/
namespace L2
open PySem PySem.Spec PyProof.Rows
theorem bootB_len : bootBuiltins "len" = some (.builtin "len") := PySem.boot_len
theorem bootB_list : bootBuiltins "list" = some (.type "list") := PyProof.Rows.boot_list
theorem bootB_bool : bootBuiltins "bool" = some (.type "bool") := PyProof.Rows.boot_bool
theorem bootB_int : bootBuiltins "int" = some (.type "int") := by decide +kernel
theorem bootB_isinstance : bootBuiltins "isinstance" = some (.builtin "isinstance") := by decide +kernel
theorem bootB_all : bootBuiltins "all" = some (.builtin "all") := by decide +kernel
structure LB (mg : Str → Option Value) : Prop where
  b_len : mg "len" = none
  b_list : mg "list" = none
  b_bool : mg "bool" = none
  b_int : mg "int" = none
  b_isinstance : mg "isinstance" = none
  b_all : mg "all" = none
  b_any : mg "any" = none
  b_range : mg "range" = none
  b_enumerate : mg "enumerate" = none
  b_ValueError : mg "ValueError" = none
  b_reversed : mg "reversed" = none
  b_str : mg "str" = none
  b_tuple : mg "tuple" = none
  b_set : mg "set" = none
  b_sorted : mg "sorted" = none
  b_min : mg "min" = none
section
variable {P : Program} {w : World} {K : PySem.W.Frag} {mg : Str → Option Value} {base : Heap} {k : Nat} {f : Addr} {fd : FuncData} {ps : List Str} {sp : Sp} {x : Str}
theorem FnOk.lift {CX : CXT} (F : FnOk P w K mg base CX0 k f fd ps sp) : FnOk P w K mg base CX k f fd ps sp :=
  ⟨F.len, fun A outer s H args us vs Q E hr he hb hv hs => codeAny_mono (F.run A outer s H args us vs Q E hr he hb hv hs) fun r s' q => by
    cases r with
    | error e => exact False.elim q
    | ok fl => cases fl <;> exact q⟩
theorem Has.mk' {CX : CXT} (F : FnOk P w K mg base CX k f fd ps sp) (b : Binds K fd ps []) (m : mg x = some (.ref f)) (kp : PySem.W.keepIn K (.ref f) = true) : Has P w K mg base CX k x ps sp := ⟨f, fd, F, b, m, kp⟩
end
/-! ### isinstance(e, C), e caught -/
structure ExcT (K : PySem.W.Frag) (C : Addr) : Prop where
  ga : PySem.W.findIn K (.ref C) "__getattribute__" = some (some (.builtin "BaseException.__getattribute__"))
  gh : PySem.W.findIn K (.ref C) "__getattr__" = some none
  mb : PySem.W.mroIn K C (.type "BaseException") = some true
  cs : (PySem.W.clsIn K C).isSome = true
  ha : PySem.W.findIn K (.ref C) "__class__" = some (some (.builtin "object.__class__"))
  hn : PySem.W.specialIn K (.builtin "object.__class__") "__get__" = some (some (.builtin "getset_descriptor.__get__"))
  tk : PySem.W.takesIn K (.builtin "object.__class__") = some true
  hm : PySem.W.mroIn K C (.type "object") = some true
section
variable {prog : Program} {w : World} {A : Around} {E : Value → Shared → Prop} {s : Shared} {K : PySem.W.Frag} {x C : Addr}
open PySem.W Builtin Builtin.ObjectAttr Builtin.Getset_descriptor in
open PySem.W Builtin Builtin.ObjectAttr Builtin.Getset_descriptor in
open PySem.W Builtin Builtin.ObjectAttr Builtin.Getset_descriptor in
open PySem.W Builtin Builtin.ObjectAttr Builtin.Getset_descriptor in
open PySem.W Builtin Builtin.ObjectAttr Builtin.Getset_descriptor in
open PySem.W Builtin Builtin.ObjectAttr Builtin.Getset_descriptor in
end
section
variable {X : Cx}
end
section
variable {X : Cx} {x : Str} {pos : Pos} {n : String} {a : Addr}
theorem pe_tyB (hg : Gl X x) (hm : X.mg x = none) (hv : bootBuiltins x = some (.type n)) (hn : x ≠ "__name__" := by decide) (hd : (x == ("__debug__" : Str)) = false := by decide) : PE X (.Name x pos) (tC (.ty n)) := pe_bltn hg hm hv rfl hn hd
end
/-! ### rules whose reading names K: K by name -/
section
variable {X : Cx}
theorem ixLK (K : PySem.W.Frag) (h : X.K = K := by rfl) : IxR X (rIxL K) := by subst h; exact ix_list
theorem ixTK (K : PySem.W.Frag) (h : X.K = K := by rfl) : IxR X (rIxT K) := by subst h; exact ix_tup
theorem isiK (K : PySem.W.Frag) (h : X.K = K := by rfl) : CallR X (.builtin "isinstance") (rIsi K) := by subst h; exact call_isi
theorem lenK (K : PySem.W.Frag) (h : X.K = K := by rfl) : CallR X (.builtin "len") (fun xs H Q => ∃ p ys, xs = [.ref p] ∧ (SqL K H p ys ∨ SqT K H p ys) ∧ Q (.int ys.length) H) := by subst h; exact call_len_seq
theorem listK (K : PySem.W.Frag) (h : X.K = K := by rfl) : CallR X (.type "list") (fun xs H Q => ∃ p ys, xs = [.ref p] ∧ (SqL K H p ys ∨ SqT K H p ys) ∧ ∀ l, H l = none → Q (.ref l) (upd H l (.lst ys))) := by subst h; exact call_list_of
theorem allK (K : PySem.W.Frag) (hc : X.calm = true) (h : X.K = K := by rfl) : CallR X (.builtin "all") (fun xs H Q => ∃ (p : Addr) (bs : List Bool), xs = [.ref p] ∧ SqL K H p (bs.map V.bl) ∧ Q (.bl (bs.all id)) H) := by subst h; exact call_all hc
theorem eqSK (K : PySem.W.Frag) (hu : X.A.units < cLine) (h : X.K = K := by rfl) : OpR X (compareOp .Eq) (rEqS K false) := by subst h; exact op_eq_seq hu
theorem neSK (K : PySem.W.Frag) (hu : X.A.units < cLine) (h : X.K = K := by rfl) : OpR X (compareOp .NotEq) (rEqS K true) := by subst h; exact op_ne_seq hu
theorem slLK (K : PySem.W.Frag) (h : X.K = K := by rfl) : SlR X (rSlL K) := by subst h; exact sl_list
theorem fldK (K : PySem.W.Frag) {e : Expr} {f : Str} {pos : Pos} {ta : TE} (he : PE X e ta) (hb : attributeBase e f X.env (eval e X.env) = eval e X.env := by rfl) (h : X.K = K := by rfl) : PE X (.Attribute e f pos) (tFld K ta f) := by subst h; exact pe_fld he hb
theorem piLK (K : PySem.W.Frag) {tg l : Expr} {tl : TE} (hl : PE X l tl) (h : X.K = K := by rfl) : PI X tg l (iList K tl) := by subst h; exact pi_list hl
end
/-! ### rows -/
theorem ix_nodup {α : Type} {N : List α} (hN : N.Nodup) {i j : Nat} {x : α} (a : N[i]? = some x) (b : N[j]? = some x) : i = j := by
  obtain ⟨h1, e1⟩ := List.getElem?_eq_some_iff.mp a
  obtain ⟨h2, e2⟩ := List.getElem?_eq_some_iff.mp b
  exact (List.getElem_inj hN).mp (e1.trans e2.symm)
theorem RowsAt.set {H : Hp} {D : Addr} {qs : List Addr} {n : Nat} {g : Nat → List V} (R : RowsAt H D qs n g) {a : Nat} {q : Addr} (hq : qs[a]? = some q) (ys : List V) : RowsAt (upd H q (.lst ys)) D qs n (fun i => if i = a then ys else g i) := by
  have m := List.mem_of_getElem? hq
  have nD : D ≠ q := fun z => R.ap (z ▸ m)
  refine ⟨by rw [upd_ne nD]; exact R.top, R.ln, R.nd, R.ap, fun i q' e => ?_⟩
  by_cases hi : i = a
  · subst hi
    rw [hq] at e
    cases e
    rw [upd_same, if_pos rfl]
  · have hne : q' ≠ q := fun z => hi (ix_nodup R.nd e (z ▸ hq))
    rw [upd_ne hne, if_neg hi]
    exact R.at_ i q' e
theorem RowsAt.congr {H : Hp} {D : Addr} {qs : List Addr} {n : Nat} {g g' : Nat → List V} (R : RowsAt H D qs n g) (h : ∀ i, i < n → g i = g' i) : RowsAt H D qs n g' :=
  ⟨R.top, R.ln, R.nd, R.ap, fun i q e => by
    have hi : i < n := by rw [← R.ln]; exact (List.getElem?_eq_some_iff.mp e).1
    rw [← h i hi]
    exact R.at_ i q e⟩
theorem RowsAt.row {H : Hp} {D : Addr} {qs : List Addr} {n : Nat} {g : Nat → List V} (R : RowsAt H D qs n g) {a : Nat} (h : a < n) : ∃ q, qs[a]? = some q ∧ atI (qs.map V.ref) (a : Int) = some (.ref q) ∧ H q = some (.lst (g a)) := by
  have hl : a < qs.length := by rw [R.ln]; exact h
  exact ⟨qs[a], by simp [hl], atI_nat (by simp [hl]), R.at_ _ _ (by simp [hl])⟩
theorem kit_ii {K : PySem.W.Frag} : PySem.W.kitOne K (.type "int") (.type "bool") = some false := by kernel_rfl
end L2

/-! LAMP J: xs == [], whatever the items -/
namespace L2
open PySem PySem.Spec PyProof.Rows
section
variable {X : Cx}
def rEqN (K : PySem.W.Frag) : R2 := fun x y H Q => ∃ p q xs, x = .ref p ∧ y = .ref q ∧ SqL K H p xs ∧ SqL K H q [] ∧ Q (.bl xs.isEmpty) H
theorem eqNK (K : PySem.W.Frag) (hu : X.A.units < cLine) (h : X.K = K := by rfl) : OpR X (compareOp .Eq) (rEqN K) := by
  subst h
  intro pins s σ H x y v u Q I rx ry h
  obtain ⟨p, q, xs, rfl, rfl, h1, h2, hq⟩ := h
  cases rx
  cases ry
  cases xs with
  | nil => exact rcAt_lst I h1 h2 rfl rfl hu X.prog X.w X.xe _ ⟨.bl _, H, I, rfl, hq⟩
  | cons a l =>
    obtain ⟨us, r1, p1, _⟩ := I.list h1
    obtain ⟨ws, r2, p2, _⟩ := I.list h2
    have l1 := r1.length
    have l2 := r2.length
    have z : SeqAt.RcAt X.A s (.ref p) (.ref q) false := by
      refine SeqAt.RcAt.lists_lengths p1.isList p2.isList ?_ hu
      have h3 : us.length = l.length + 1 := l1.symm
      have h4 : ws.length = 0 := l2.symm
      simp [h3, h4]
    exact z X.prog X.w X.xe _ ⟨.bl _, H, I, rfl, hq⟩
end
end L2

/-! LAMP Ra: comprehensions over enumerate with a test; over lists of pairs -/
namespace L2
open PySem PySem.Spec PyProof.Rows
theorem comp_pairs {K : PySem.W.Frag} {a : Addr} {zs : List (Addr × V × V)} {js : List Nat} {ti : TT} {te : TE} {σ : St} {Q : VK} {H1 : Hp} (p : Addr × V × V → Bool) (f : Addr × V × V → V) (hn : zs.length ≤ 1000) (hx : SqL K H1 a (zs.map fun z => V.ref z.1))
    (hz : ∀ z ∈ zs, H1 z.1 = some (.tup [z.2.1, z.2.2]))
    (hti : ∀ z Hc (k : Bool → Hp → Prop), z ∈ zs → Same H1 Hc → k (p z) Hc → ti (some z.2.1 :: some z.2.2 :: fr1 js σ) Hc k)
    (hte : ∀ z Hc (k : VK), z ∈ zs → p z = true → Same H1 Hc → k (f z) Hc → te (some z.2.1 :: some z.2.2 :: fr1 js σ) Hc k)
    (hq : ∀ D, H1 D = none → Q (.ref D) (upd H1 D (.lst ((zs.filter p).map f)))) : tC2 K js ti te σ Q (Itl K a) H1 := by
  intro D hD
  have sm : ∀ ys, Same H1 (upd H1 D (.lst ys)) := fun ys b o e => by rw [upd_ne (ne_of_none e hD)]; exact e
  refine ⟨fun i m ys H => m = zs.length - i ∧ i ≤ zs.length ∧ ys = ((zs.take i).filter p).map f ∧ H = upd H1 D (.lst ys), ⟨zs.length, by simp, Nat.zero_le _, rfl, rfl⟩, ?_⟩
  rintro i m ys H ⟨rfl, hi, rfl, rfl⟩
  refine ⟨upd_same, ?_⟩
  have hx' : ∀ ys, SqL K (upd H1 D (.lst ys)) a (zs.map fun z => V.ref z.1) := fun ys => (sm ys).seq hx
  by_cases hlt : i < zs.length
  · refine .inr ⟨⟨_, V.ref zs[i].1, hx' _, by simp [hlt]⟩, fun x H' y => ?_⟩
    obtain ⟨e1, y⟩ := y
    subst e1
    have hxi := y _ (hx' _)
    have ez : zs[i]? = some zs[i] := List.getElem?_eq_getElem hlt
    generalize zs[i] = z at ez
    rw [List.getElem?_map, ez] at hxi
    have exz : x = .ref z.1 := by
      have : some (V.ref z.1) = some x := hxi
      cases this
      rfl
    have hm : z ∈ zs := List.mem_of_getElem? ez
    refine ⟨z.1, z.2.1, z.2.2, exz, SqT.of (sm _ _ _ (hz z hm)), ?_⟩
    refine hti z _ _ hm (sm _) ?_
    have et : (zs.take (i + 1)) = zs.take i ++ [z] := by rw [List.take_add_one, ez]; rfl
    cases hp : p z with
    | true =>
      refine iteT (hte z _ _ hm hp (sm _) ⟨upd_same, ?_, zs.length - (i + 1), by omega, rfl, hlt, ?_, ?_⟩)
      · have h1 := List.length_filter_le p (zs.take i)
        have h2 := List.length_take_le i zs
        rw [List.length_map]
        exact small1000 (by omega)
      · rw [et, List.filter_append, List.map_append]
        simp [hp]
      · rw [upd_upd]
    | false =>
      refine iteF ⟨zs.length - (i + 1), by omega, rfl, hlt, ?_, rfl⟩
      rw [et, List.filter_append, List.map_append]
      simp [hp]
  · have e : i = zs.length := by omega
    subst e
    refine .inl ⟨⟨_, hx' _, by simp⟩, ?_⟩
    have := hq D hD
    rw [List.take_length]
    exact this
end L2

/-! LAMP Rc: from a list of pairs of lists a list of new pairs of new lists -/
namespace L2
open PySem PySem.Spec PyProof.Rows
structure PairsAt (H : Hp) (D : Addr) (ws : List (Addr × Addr × Addr)) (k : Nat) (g1 g2 : Nat → List V) : Prop where
  top : H D = some (.lst (ws.map fun w => V.ref w.1))
  ln : ws.length = k
  at_ : ∀ i w, ws[i]? = some w → H w.1 = some (.tup [.ref w.2.1, .ref w.2.2]) ∧ H w.2.1 = some (.lst (g1 i)) ∧ H w.2.2 = some (.lst (g2 i))
theorem PairsAt.same {H H' : Hp} {D : Addr} {ws : List (Addr × Addr × Addr)} {k : Nat} {g1 g2 : Nat → List V} (A : PairsAt H D ws k g1 g2) (s : Same H H') : PairsAt H' D ws k g1 g2 :=
  ⟨s _ _ A.top, A.ln, fun i w e => let ⟨h1, h2, h3⟩ := A.at_ i w e; ⟨s _ _ h1, s _ _ h2, s _ _ h3⟩⟩
theorem comp_prs {K : PySem.W.Frag} {a : Addr} {ws : List (Addr × Addr × Addr)} {n : Nat} {js : List Nat} {te : TE} {σ : St} {Q : VK} {H1 : Hp} {f1 f2 : Nat → List V} (g1 g2 : Nat → List V) (hn : n ≤ 1000) (A : PairsAt H1 a ws n f1 f2)
    (hte : ∀ (i : Nat) (w : Addr × Addr × Addr) Hc (k : VK), ws[i]? = some w → Same H1 Hc → (∀ t B L H', Same Hc H' → Hc t = none → Hc B = none → Hc L = none → H' t = some (.tup [.ref B, .ref L]) → H' B = some (.lst (g1 i)) → H' L = some (.lst (g2 i)) → k (.ref t) H') → te (some (.ref w.2.1) :: some (.ref w.2.2) :: fr1 js σ) Hc k)
    (hq : ∀ D vs H', H1 D = none → Same H1 H' → PairsAt H' D vs n g1 g2 → Q (.ref D) H') : tC2 K js tAll te σ Q (Itl K a) H1 := by
  intro D hD
  have hln := A.ln
  refine ⟨fun i m ys H => m = n - i ∧ i ≤ n ∧ ∃ vs, ys = vs.map (fun w => V.ref w.1) ∧ Same H1 H ∧ PairsAt H D vs i g1 g2 ∧ ∀ w ∈ vs, w.1 ≠ D ∧ w.2.1 ≠ D ∧ w.2.2 ≠ D, ⟨n, by simp, Nat.zero_le _, [], rfl, Same.laid hD, ⟨upd_same, rfl, fun i w e => by simp at e⟩, fun w h => absurd h List.not_mem_nil⟩, ?_⟩
  rintro i m ys H ⟨rfl, hi, vs, rfl, sm, V0, ne⟩
  refine ⟨V0.top, ?_⟩
  have hx' : SqL K H a (ws.map fun w => V.ref w.1) := SqL.of (sm _ _ A.top)
  by_cases hlt : i < n
  · have hlt' : i < ws.length := by omega
    refine .inr ⟨⟨_, V.ref ws[i].1, hx', by simp [hlt']⟩, fun x H' y => ?_⟩
    obtain ⟨e1, y⟩ := y
    subst e1
    have hxi := y _ hx'
    have ew : ws[i]? = some ws[i] := List.getElem?_eq_getElem hlt'
    generalize ws[i] = w at ew
    rw [List.getElem?_map, ew] at hxi
    have exw : x = .ref w.1 := by
      have : some (V.ref w.1) = some x := hxi
      cases this
      rfl
    obtain ⟨t1, t2, t3⟩ := A.at_ i w ew
    refine ⟨w.1, .ref w.2.1, .ref w.2.2, exw, SqT.of (sm _ _ t1), ?_⟩
    unfold tAll
    dsimp only
    rw [if_pos rfl]
    refine hte i w _ _ ew sm fun t B L H2 s2 nt nB nL ht hB hL => ?_
    have top2 := s2 _ _ V0.top
    have dt : t ≠ D := fun z => by rw [z, V0.top] at nt; cases nt
    have dB : B ≠ D := fun z => by rw [z, V0.top] at nB; cases nB
    have dL : L ≠ D := fun z => by rw [z, V0.top] at nL; cases nL
    have ln := V0.ln
    refine ⟨top2, small1000 (by rw [List.length_map]; omega), n - (i + 1), by omega, rfl, hlt, vs ++ [(t, B, L)], by simp, fun b o e => ?_, ⟨?_, by simp [ln], fun j w' e => ?_⟩, fun w' hw' => ?_⟩
    · rw [upd_ne (ne_of_none e hD)]
      exact s2 _ _ (sm _ _ e)
    · rw [upd_same, List.map_append]
      rfl
    · by_cases hj : j < vs.length
      · rw [List.getElem?_append_left hj] at e
        obtain ⟨h1, h2, h3⟩ := V0.at_ j w' e
        obtain ⟨n1, n2, n3⟩ := ne w' (List.mem_of_getElem? e)
        rw [upd_ne n1, upd_ne n2, upd_ne n3]
        exact ⟨s2 _ _ h1, s2 _ _ h2, s2 _ _ h3⟩
      · rw [List.getElem?_append_right (by omega)] at e
        have hj0 : j - vs.length = 0 := by
          have := (List.getElem?_eq_some_iff.mp e).1
          simp at this
          omega
        rw [hj0] at e
        have e' : (t, B, L) = w' := by simpa using e
        subst e'
        have hji : j = i := by omega
        subst hji
        dsimp only
        rw [upd_ne dt, upd_ne dB, upd_ne dL]
        exact ⟨ht, hB, hL⟩
    · rcases List.mem_append.mp hw' with z | z
      · exact ne w' z
      · have z' : w' = (t, B, L) := by simpa using z
        rw [z']
        exact ⟨dt, dB, dL⟩
  · have e : i = n := by omega
    subst e
    exact .inl ⟨⟨_, hx', by simp [hln]⟩, hq D vs H hD sm V0⟩
section
variable {X : Cx} {x y : Str} {px py tp pos : Pos} {kk : Nat} {elt iter : Expr} {ifs : List Expr} {scope : Scope} {js : List Nat} {wi : TI} {ti : TT} {te : TE}
theorem ps_compP {i : Nat} {z : Str} {pz spos : Pos} (hN : X.N.Nodup) (hiz : X.N[i]? = some z) (hz : Loc X.env.scope z) (hc : X.calm = true) (S : compOk X.N X.env.scope scope [x, y] js = true) (hi : PI X (.Tuple [.Name x px, .Name y py] kk tp) iter wi)
    (ht : ∀ cells C s H fp, PF (compCx X (cN [x, y] js X.N) scope cells C s H fp) ifs ti) (he : ∀ cells C s H fp, PE (compCx X (cN [x, y] js X.N) scope cells C s H fp) elt te)
    (hf : X.fn z = true ∨ X.env.scope.names.lookup z = some .local := by first | exact .inl rfl | exact .inr rfl)
    (hx : OwnName X scope x := by first | exact ⟨Or.inl rfl, Or.inr rfl⟩ | exact ⟨Or.inr rfl, Or.inl rfl⟩) (hy : OwnName X scope y := by first | exact ⟨Or.inl rfl, Or.inr rfl⟩ | exact ⟨Or.inr rfl, Or.inl rfl⟩)
    (hsw : swapsWith (.ListComp elt [⟨.Tuple [.Name x px, .Name y py] kk tp, iter, ifs, 0⟩] scope pos) (some (.Name z pz)) spos.line X.env = pure true := by rfl)
    (hs : ∀ x, foldedSetIterable iter X.env x = pure x := by intro _; rfl) : PS X (.Assign [.Name z pz] (.ListComp elt [⟨.Tuple [.Name x px, .Name y py] kk tp, iter, ifs, 0⟩] scope pos) spos) (fun D σ H => wi σ H (tC2 X.K js ti te σ fun v H1 => D.nx (σ.set i (some v)) H1)) := by
  intro pins s σ H D I h
  have S' := CompScope.of S
  rw [exec_Assign_Name_used _ _ _ _ hsw]
  refine wpAny_bind (wpAny_standAt (wpAny_bind ?_))
  show wpAny _ X.A (do let _ ← comprehension (.ListComp elt [⟨.Tuple [.Name x px, .Name y py] kk tp, iter, ifs, 0⟩] scope pos) scope X.env _ (newList []) false (eval iter X.env) (some (assign (.Name z pz) X.env))) _ _ s
  refine wpAny_bind (wpAny_mono (wpAny_comprehension_free (use := some (assign (.Name z pz) X.env)) (Q := fun _ s' => SP X pins D .next s') rfl hs (S'.clos I) S'.kind (fun y hy hl => by obtain ⟨a, b⟩ := y; cases hl; exact lookup_of_nd S'.nd hy) ?_)
    (fun _ s' hq => wpAny_pure (wpAny_pure hq)) fun _ _ z => z)
  refine comp_core hc S' hi (fun cells C s H fp => pg_tup (X := compCx X (cN [x, y] js X.N) scope cells C s H fp) hc (pgs_cons (pg_name (i := 0) S'.cnd rfl hx.1 hx.2) (pgs_cons (pg_name (i := 1) S'.cnd rfl hy.1 hy.2) pgs_nil))) ht he I h (fun J H1 q => tC2_at q) fun D' C H' s' I' b q => ?_
  show wpAny _ X.A (assign (.Name z pz) X.env (.ref D')) _ _ _
  refine wpAny_assign_Name (store_ok2 I' hN hiz hz (show RelV (.ref D') (.ref D') from rfl) (fun s2 I2 ⟨a, sb, ha⟩ => ?_) hf)
  obtain ⟨m, hm⟩ := b.ns
  have hCa : C ≠ a := by
    rcases ha with rfl | ha
    · exact b.nL
    · exact Ne.symm (b.cl _ _ ha)
  exact ⟨m, hm.sameBut sb hCa, fun h' hs' => ⟨_, H', I2.turned (t' := s2.toks) (fun b' o hb e => (hs'.2 b' hb).trans e) b.fr b.nL (.inr b.ab) b.cl b.pn, q⟩⟩
end
end L2

/-! LAMP Rd: a comprehension each of whose values is a new object -/
namespace L2
open PySem PySem.Spec PyProof.Rows
theorem comp_mk {n : Nat} {js : List Nat} {ti : TT} {te : TE} {σ : St} {Q : VK} {J : It} {H1 : Hp} (xs : Nat → V) (p : Nat → Bool) (O : Nat → HO) (hn : n ≤ 1000)
    (hJ : ∀ i H, Same H1 H → (i < n → J.go i H ∧ ∀ x H', J.yld i H x H' → x = xs i ∧ H' = H) ∧ (n ≤ i → J.stop i H))
    (hti : ∀ (i : Nat) Hc (k : Bool → Hp → Prop), i < n → Same H1 Hc → k (p i) Hc → ti (some (xs i) :: fr1 js σ) Hc k)
    (hte : ∀ (i : Nat) Hc (k : VK), i < n → p i = true → Same H1 Hc → (∀ t H', Same Hc H' → Hc t = none → H' t = some (O i) → k (.ref t) H') → te (some (xs i) :: fr1 js σ) Hc k)
    (hq : ∀ (D : Addr) (ts : List Addr) (H' : Hp), H1 D = none → Same H1 H' → H' D = some (.lst (ts.map V.ref)) → ts.length = ((List.range n).filter p).length → (∀ (x i : Nat) (t : Addr), ((List.range n).filter p)[x]? = some i → ts[x]? = some t → H' t = some (O i)) → Q (.ref D) H') : tC1 js ti te σ Q J H1 := by
  intro D hD
  refine ⟨fun i m ys H => m = n - i ∧ i ≤ n ∧ ∃ ts : List Addr, ys = ts.map V.ref ∧ Same H1 H ∧ H D = some (.lst (ts.map V.ref)) ∧ ts.length = ((List.range i).filter p).length ∧ (∀ (x k : Nat) (t : Addr), ((List.range i).filter p)[x]? = some k → ts[x]? = some t → H t = some (O k)) ∧ D ∉ ts,
    ⟨n, by simp, Nat.zero_le _, [], rfl, Same.laid hD, upd_same, rfl, fun x k t e => by simp at e, List.not_mem_nil⟩, ?_⟩
  rintro i m ys H ⟨rfl, hi, ts, rfl, sm, top, ln, at_, ap⟩
  refine ⟨top, ?_⟩
  by_cases hlt : i < n
  · obtain ⟨h1, h2⟩ := (hJ i H sm).1 hlt
    refine .inr ⟨h1, fun x H' y => ?_⟩
    obtain ⟨rfl, rfl⟩ := h2 x H' y
    refine hti i _ _ hlt sm ?_
    have er : (List.range (i + 1)).filter p = (List.range i).filter p ++ (if p i then [i] else []) := by
      rw [List.range_succ, List.filter_append]
      cases hp : p i <;> simp [hp]
    cases hp : p i with
    | true =>
      rw [hp, if_pos rfl] at er
      refine iteT (hte i _ _ hlt hp sm fun t H2 s2 nt ht => ?_)
      have nD : t ≠ D := fun z => by rw [z, top] at nt; cases nt
      have fl := List.length_filter_le p (List.range i)
      rw [List.length_range] at fl
      refine ⟨s2 _ _ top, small1000 (by rw [List.length_map]; omega), n - (i + 1), by omega, rfl, hlt, ts ++ [t], by simp, fun b o e => ?_, by rw [upd_same, List.map_append]; rfl, by rw [er, List.length_append, List.length_append, ln]; rfl, fun x k u e1 e2 => ?_, fun z => ?_⟩
      · rw [upd_ne (ne_of_none e hD)]
        exact s2 _ _ (sm _ _ e)
      · rw [er] at e1
        by_cases hx : x < ts.length
        · rw [List.getElem?_append_left (by omega)] at e1
          rw [List.getElem?_append_left hx] at e2
          rw [upd_ne fun z => ap (by rw [← z]; exact List.mem_of_getElem? e2)]
          exact s2 _ _ (at_ x k u e1 e2)
        · rw [List.getElem?_append_right (by omega)] at e1
          rw [List.getElem?_append_right (by omega)] at e2
          have x0 : x - ts.length = 0 := by
            have := (List.getElem?_eq_some_iff.mp e2).1
            simp at this
            omega
          rw [x0] at e2
          rw [show x - ((List.range i).filter p).length = 0 by omega] at e1
          have e1' : i = k := by simpa using e1
          have e2' : t = u := by simpa using e2
          subst e1' e2'
          rw [upd_ne nD]
          exact ht
      · rcases List.mem_append.mp z with z | z
        · exact ap z
        · exact nD (show t = D from (by simpa using z : D = t).symm)
    | false =>
      rw [hp, if_neg Bool.false_ne_true, List.append_nil] at er
      exact iteF ⟨n - (i + 1), by omega, rfl, hlt, ts, rfl, sm, top, by rw [er]; exact ln, by rw [er]; exact at_, ap⟩
  · have e : i = n := by omega
    subst e
    exact .inl ⟨(hJ i H sm).2 (Nat.le_refl _), hq D ts H hD sm top ln at_⟩
end L2

/-! LAMP Lm: a lambda made and called -/
namespace L2
open PySem PySem.Spec PyProof.Rows
theorem lam_call {P : Program} {w : World} {K : PySem.W.Frag} {mg : Str → Option Value} {base : Heap} {A : Around} {outer : List Env} {s : Shared} {H : Hp} {f c' : Addr} {name qual : Str} {params : Arguments} {body : Expr} {scope : Scope} {pm ctv : Value}
    {N ps : List Str} {vs : List V} {us : List Value} {args : Args} {Q : VK} {E : XK} {t : TE} {k : Nat} (hf : s.heap.get? f = some (PySem.W.kla_obj name qual params body scope [] pm c' ctv)) (hcd : s.heap.CodeRec (.ref c') qual) (S : FnScope N ps scope) (hr : Room (k + 1) A)
    (e0 : Env0 P w K mg base A outer s H) (hb : BindsTo s (PySem.W.kla_fn name qual params body scope [] pm (.ref c') ctv) args (ps.zip us)) (r : Vals vs us) (hl : vs.length = ps.length) (ht : PE (cxOf CX0 P w K mg base N qual scope f (.ref c') A outer s H E) body t) (hq : t (start N vs) H Q) :
    codeAny (model P w) A (.call (.ref f) args) (CR CX0 outer P w H s Q E) s := by
  have lim : s.heap.NoLimit := e0.mod.nolimit.keeps fun b o e => (e0.bs b o e).1
  have hkind : ∀ y ∈ ps.zip us, scope.names.lookup y.1 = some .local ∨ (scope.names.lookup y.1 = some .cell ∧ ((cellsFrom (s.heap.objs.size + 1) scope.names []).lookup y.1).isSome = true) := fun ⟨n, v⟩ hy => by
    rcases S.par n (List.of_mem_zip hy).1 with q | q
    · exact .inl q
    · exact .inr ⟨q, PySem.W.cellsFrom_some _ _ _ (.inl q)⟩
  refine PySem.W.kla_callFunE hr.depth hf rfl S.co S.gen rfl hcd (hb _ _ _ _ ?_)
  refine wpAny_newFunctionEnv_cells S.kind hkind fun env he s1 x => ?_
  subst he
  refine ⟨lim.keeps x.toInCall.keep, PySem.W.kla_codeExpr ?_⟩
  have I : Inv (cxOf CX0 P w K mg base N qual scope f (.ref c') A outer s H E) [] (start N vs) H s1 := inv_start S hr.hd e0 hl r x
  refine wpAny_mono (ht [] s1 (start N vs) H _ I hq) (fun u s' hs => ?_) fun e s' hs => ?_
  · obtain ⟨v, H', J, rv, q⟩ := hs
    exact ⟨v, H', J.os, J.bare, J.base, J.hok, rv, q⟩
  · exact hs
section
variable {X : Cx} {pins : List (Addr × Obj)} {σ : St} {H : Hp} {s : Shared} {h' : Heap}
theorem Inv.table {t' : Nat} {T : Addr} {ps more : Array Value} (I : Inv X pins σ H s) (hT : H T = some (.tbl ps)) (k : ∀ b u, b ≠ T → s.heap.get? b = some u → h'.get? b = some u) (hn : h'.get? T = some { cls := .none, data := .fields (ps ++ more) }) :
    Inv X pins σ (upd H T (.tbl (ps ++ more))) { s with heap := h', toks := t' } := by
  have ne : ∀ b, H b = none → b ≠ T := fun b n z => by rw [z, hT] at n; cases n
  have ne2 : ∀ b o, H b = some o → (∀ q, o ≠ .tbl q) → b ≠ T := fun b o n d z => by
    rw [z, hT] at n
    exact d ps (Option.some.inj n).symm
  refine I.un ⟨fun b o e n _ _ => k b o (ne b n) e, fun b o e n _ _ => ⟨o.slots, k b o (ne b n) e⟩, fun b o e n _ => by rw [upd_ne (ne b n)]; exact n, fun b o e _ => ?_, fun b xs e => by rw [upd_ne (ne2 b _ e fun _ z => nomatch z)]; exact e,
    fun b o u e => by rw [upd_ne (ne2 b _ e fun _ z => nomatch z)]; exact e, fun b q e => ?_⟩ fun b o e => ?_
  · by_cases z : b = T
    · exact ⟨_, by rw [z]; exact hn⟩
    · exact ⟨o, k b o z e⟩
  · by_cases z : b = T
    · rw [z, hT] at e
      cases e
      exact ⟨more, by rw [z, upd_same]⟩
    · exact ⟨#[], by rw [upd_ne z, e]; simp⟩
  · by_cases z : b = T
    · rw [z, upd_same] at e
      cases e
      rw [z]
      exact hn
    · rw [upd_ne z] at e
      refine (I.hok b o e).stay (fun c u hc q => k c u ?_ q) (fun c q => by rw [upd_ne (ne2 c _ q fun _ y => nomatch y)]; exact q) fun c xs q => by rw [upd_ne (ne2 c _ q fun _ y => nomatch y)]; exact q
      rcases hc with y | y
      · rw [y]
        exact z
      · exact ne2 c _ y fun _ y => nomatch y
end
def codeX (c : Addr) (qual : Str) : HO := .ext fun h => h.CodeRec (.ref c) qual
def objX (f : Addr) (o : Obj) : HO := .ext fun h => h.get? f = some o
theorem codeX_ok {P : Program} {w : World} {H : Hp} {h : Heap} {c : Addr} {qual : Str} (x : h.CodeRec (.ref c) qual) : ObjOk P w H h c (codeX c qual) := by
  refine ⟨x, ?_, fun h1 h2 y k => y.at fun o e => k o e⟩
  obtain ⟨c2, o, _, _, e, g, _⟩ := x
  cases e
  exact ⟨o, g⟩
theorem objX_ok {P : Program} {w : World} {H : Hp} {h : Heap} {f : Addr} {o : Obj} (x : h.get? f = some o) : ObjOk P w H h f (objX f o) := ⟨x, ⟨o, x⟩, fun _ _ y k => k o y⟩
section
variable {X : Cx} {pins : List (Addr × Obj)} {σ : St} {H : Hp} {s : Shared}
theorem Inv.codeX (I : Inv X pins σ H s) {c : Addr} {qual : Str} (h : H c = some (codeX c qual)) : s.heap.CodeRec (.ref c) qual := (I.hok c _ h).1
theorem Inv.objX (I : Inv X pins σ H s) {f : Addr} {o : Obj} (h : H f = some (objX f o)) : s.heap.get? f = some o := (I.hok f _ h).1
def BltMod (mg : Str → Option Value) (base : Heap) : Prop := ∃ bm o, mg "__builtins__" = some (.ref bm) ∧ bm ≠ builtinsNs ∧ bm ≠ mainGlobals ∧ base.get? bm = some o ∧ o.cls = .type "module" ∧ o.dict = some builtinsNs ∧ o.data = .plain
abbrev lamO (X : Cx) (params : Arguments) (body : Expr) (scope : Scope) (c' : Addr) (ctv : Value) : Obj := PySem.W.kla_obj "<lambda>" (X.env.qual ++ "<lambda>") params body scope [] ((X.mg "__name__").getD .none) c' ctv
theorem lam_eval {c Tb : Addr} {ps : Array Value} {params : Arguments} {body : Expr} {scope : Scope} {pos : Pos} {Q E : Value → Shared → Prop} (I : Inv X pins σ H s) (hdef : defaultsOf params X.env = ([], [])) (hcl : closureFor scope X.env = pure []) (hcode : X.env.code = .ref c)
    (C : PySem.W.CodeHd X.base c Tb) (hT : H Tb = some (.tbl ps)) (ht : TriplesOk ps.toList) (hnf : codeAmong pos ps.toList = none) (hb : BltMod X.mg X.base)
    (h : ∀ f c' ctv s', H f = none → H c' = none → f ≠ c' → Inv X pins σ (upd (upd (upd H Tb (.tbl (ps ++ #[rawInt pos.line, rawInt pos.col, .ref c']))) c' (codeX c' (X.env.qual ++ "<lambda>"))) f (objX f (lamO X params body scope c' ctv))) s' → Q (.ref f) s') :
    wpAny (model X.prog X.w) X.A (eval (.Lambda params body scope pos) X.env) Q E s := by
  obtain ⟨bm, ob, b1, b2, b3, b4, b5, b6, b7⟩ := hb
  have hP : s.heap.get? Tb = some { cls := .none, data := .fields ps } := I.hok Tb _ hT
  have gB : mainGlobals ≠ Tb := fun z => by
    obtain ⟨o, es, ep, e, d, _⟩ := I.mod.glob
    have := (I.bs _ _ e).2
    rw [z, hT] at this
    cases this
  have bB : bm ≠ Tb := fun z => by
    have := (I.bs _ _ b4).2
    rw [z, hT] at this
    cases this
  refine PySem.W.kla_eval hdef (PySem.W.kla_makeFunction (mg := X.mg) hcl I.ok.glob (I.mod.glob.keeps I.bk) hcode (C.keeps I.bk) hP ht hnf gB ⟨bm, ob, b1, b2, b3, bB, I.bk _ _ b4, b5, b6, b7⟩ fun c' ctv h1 tk hx hge hlt hrec htb => ?_)
  have I1 : Inv X pins σ (upd H Tb (.tbl (ps ++ #[rawInt pos.line, rawInt pos.col, .ref c']))) { s with heap := h1, toks := tk } := I.table hT (fun b u hb e => hx b u hb e) htb
  have nc : H c' = none := I.hok.fresh hge
  have cT : c' ≠ Tb := fun z => by rw [z, hT] at nc; cases nc
  have I2 : Inv X pins σ (upd (upd H Tb (.tbl (ps ++ #[rawInt pos.line, rawInt pos.col, .ref c']))) c' (codeX c' (X.env.qual ++ "<lambda>"))) { s with heap := h1, toks := tk } := by
    refine I1.track (by rw [upd_ne cT]; exact nc) (fun b u e z => ?_) (fun z => ?_) (fun x d e z => ?_) (fun p hp z => ?_) (codeX_ok hrec)
    · exact absurd (Nat.lt_of_lt_of_le (Heap.lt_size e) (Nat.le_trans I.sz hge)) (by rw [z]; exact Nat.lt_irrefl _)
    · exact absurd (Nat.lt_of_lt_of_le I.lt hge) (by rw [z]; exact Nat.lt_irrefl _)
    · obtain ⟨v, q⟩ := I.cell x d e
      exact absurd (Nat.lt_of_lt_of_le q.lt hge) (by rw [z]; exact Nat.lt_irrefl _)
    · exact absurd (Nat.lt_of_lt_of_le (Heap.lt_size (I.pin p hp).1) hge) (by rw [z]; exact Nat.lt_irrefl _)
  have I3 := I2.laid (a := h1.objs.size) (o := objX h1.objs.size (lamO X params body scope c' ctv)) (t' := tk) (h' := h1.push (lamO X params body scope c' ctv)) (fun b u e => Heap.get?_push_of_some _ e) (Nat.le_refl _) (objX_ok (Heap.get?_push_size _ rfl))
  have szl : s.heap.objs.size ≤ h1.objs.size := by omega
  exact h h1.objs.size c' ctv _ (I.hok.fresh szl) nc (Nat.ne_of_gt hlt) I3
theorem key_call {f c' : Addr} {name qual : Str} {params : Arguments} {body : Expr} {scope : Scope} {pm ctv : Value} {N : List Str} {x : Str} {v : V} {u : Value} {Q : VK} {t : TE} {k : Nat} (I : Inv X pins σ H s) (hf : s.heap.get? f = some (PySem.W.kla_obj name qual params body scope [] pm c' ctv))
    (hcd : s.heap.CodeRec (.ref c') qual) (S : FnScope N [x] scope) (hr : Room (k + 1) X.A.in1) (hb : ∀ s u, BindsTo s (PySem.W.kla_fn name qual params body scope [] pm (.ref c') ctv) ⟨[u], []⟩ [(x, u)]) (r : RelV v u)
    (ht : PE (cxOf CX0 X.prog X.w X.K X.mg X.base N qual scope f (.ref c') X.A.in1 X.stack s H E0) body t) (hq : t (start N [v]) H Q) :
    wpAny (model X.prog X.w) X.A.in1 (call (.ref f) [u]) (EP X pins σ Q) (fun _ _ => False) s := by
  refine wpAny_call (codeAny_mono (lam_call (ps := [x]) (us := [u]) hf hcd S hr I.env0.in1 (hb s u) (.cons r .nil) rfl ht hq) fun r s' h => ?_)
  cases r with
  | error e => exact h
  | ok fl =>
    cases fl with
    | ret u => exact I.after h
    | next => exact h
    | brk => exact h
    | cont => exact h
end
end L2

/-! LAMP Lt: x < y for lists and tuples -/
namespace L2
open PySem PySem.SeqAt
open PySem.AutoSeq1 (wpAny_loadPart')
open PySem.MeetsSeq PySem.MeetsSeq2 PySem.MeetsSeq3 PySem.SeqRoads2
def LtAt (A : Around) (s : Shared) (x y : Value) (b : Bool) : Prop := ∀ (pr : Program) (w : World) (E Q : Value → Shared → Prop), Q (.bool b) s → wpAny (model pr w) A (richCompare .Lt x y) Q E s
def ltF (m n : Nat) (e d : Nat → Bool) : Nat → Nat → Bool
  | 0, _ => decide (m < n)
  | k + 1, i => if e i then ltF m n e d k (i + 1) else d i
abbrev LsAt (s : Shared) (T : String) (l : Addr) (xs : Array Value) (n : Nat) (dd : Option Addr) (sl : Array (Option Value)) : Prop := s.heap.get? l = some { cls := .type T, dict := dd, data := .seq xs n, slots := sl }
theorem lt_loop (l b : Addr) (xs ys : Array Value) (n1 n2 : Nat) (d1 d2 : Option Addr) (sl1 sl2 : Array (Option Value)) (e d : Nat → Bool) (k : Nat) :
    ∀ i : Nat, min xs.size ys.size - i = k → i ≤ min xs.size ys.size → Meets (Builtin.«list.__eq__.loop» ⟨[.ref l, .ref b, rawInt i, rawInt 0], []⟩)
      (fun A R s => LsAt s "list" l xs n1 d1 sl1 ∧ LsAt s "list" b ys n2 d2 sl2 ∧ (∀ j (h1 : j < xs.size) (h2 : j < ys.size), EqAt A.in1 s xs[j] ys[j] (e j)) ∧
        (∀ j (h1 : j < xs.size) (h2 : j < ys.size), e j = false → LtAt A.in1 s xs[j] ys[j] (d j)) ∧ R (.ok (.ret (.bool (ltF xs.size ys.size e d k i)))) s) := by
  induction k with
  | zero =>
    intro i hk hi pr w A R s h
    obtain ⟨hp, g, dr, tk, os⟩ := s
    obtain ⟨hl, hb, he, hd, h⟩ := h
    wp_walk using wpAny_loadPart' hl, wpAny_loadPart' hb
    have no : xs[((i : Nat) : Int).toNat]? = none ∨ ys[((i : Nat) : Int).toNat]? = none := by
      rcases Nat.lt_or_ge i xs.size with q | q
      · right
        simp
        omega
      · left
        simp
        omega
    rcases no with z | z
    · rw [z]
      wp_walk using wpAny_loadPart' hl, wpAny_loadPart' hb
      exact h
    · rw [z]
      cases xs[((i : Nat) : Int).toNat]? <;>
      · wp_walk using wpAny_loadPart' hl, wpAny_loadPart' hb
        exact h
  | succ k ih =>
    intro i hk hi pr w A R s h
    obtain ⟨hp, g, dr, tk, os⟩ := s
    obtain ⟨hl, hb, he, hd, h⟩ := h
    wp_walk using wpAny_loadPart' hl, wpAny_loadPart' hb
    have q1 : i < xs.size := by omega
    have q2 : i < ys.size := by omega
    have a1 : xs[((i : Nat) : Int).toNat]? = some xs[i] := by simp [q1]
    have a2 : ys[((i : Nat) : Int).toNat]? = some ys[i] := by simp [q2]
    have ei : ((i : Int) + 1) = ((i + 1 : Nat) : Int) := by omega
    rw [ltF] at h
    rw [a1, a2]
    refine wpAny_bind (he i q1 q2 pr w _ _ ?_)
    cases c : e i with
    | true =>
      rw [c, if_pos rfl] at h
      wp_walk
      rw [ei]
      exact ⟨plainId_quiet plain_eq_loop _, codeAny_builtin entry_eq_loop (by
        rw [Around.under_plainId plain_eq_loop _]
        exact ih (i + 1) (by omega) (by omega) pr w A R _ ⟨hl, hb, he, hd, h⟩)⟩
    | false =>
      rw [c, if_neg Bool.false_ne_true] at h
      wp_walk using wpAny_loadPart' hl, wpAny_loadPart' hb
      rw [a1, a2]
      refine wpAny_bind (hd i q1 q2 c pr w _ _ ?_)
      wp_walk
      exact h
theorem list_lt (l b : Addr) (xs ys : Array Value) (n1 n2 : Nat) (d1 d2 : Option Addr) (sl1 sl2 : Array (Option Value)) (e d : Nat → Bool) :
    Meets (Builtin.«list.__lt__» ⟨[.ref l, .ref b], []⟩)
      (fun A R s => LsAt s "list" l xs n1 d1 sl1 ∧ LsAt s "list" b ys n2 d2 sl2 ∧ (∀ j (h1 : j < xs.size) (h2 : j < ys.size), EqAt A.in1 s xs[j] ys[j] (e j)) ∧
        (∀ j (h1 : j < xs.size) (h2 : j < ys.size), e j = false → LtAt A.in1 s xs[j] ys[j] (d j)) ∧ R (.ok (.ret (.bool (ltF xs.size ys.size e d (min xs.size ys.size) 0)))) s) := by
  intro pr w A R s h
  obtain ⟨hp, g, dr, tk, os⟩ := s
  obtain ⟨hl, hb, he, hd, h⟩ := h
  have f3 := AutoSeq1.sub_list_list
  wp_walk using wpAny_loadPart' hl, wpAny_loadPart' hb
  exact ⟨plainId_quiet plain_eq_loop _, codeAny_builtin entry_eq_loop (by
    rw [Around.under_plainId plain_eq_loop _]
    exact lt_loop l b xs ys n1 n2 d1 d2 sl1 sl2 e d _ 0 (by simp) (Nat.zero_le _) pr w A R _ ⟨hl, hb, he, hd, h⟩)⟩
theorem tuple_lt (l b : Addr) (xs ys : Array Value) (n1 n2 : Nat) (d1 d2 : Option Addr) (sl1 sl2 : Array (Option Value)) (e d : Nat → Bool) :
    Meets (Builtin.«tuple.__lt__» ⟨[.ref l, .ref b], []⟩)
      (fun A R s => LsAt s "tuple" l xs n1 d1 sl1 ∧ LsAt s "tuple" b ys n2 d2 sl2 ∧ (∀ j (h1 : j < xs.size) (h2 : j < ys.size), EqAt A.in1 s xs[j] ys[j] (e j)) ∧
        (∀ j (h1 : j < xs.size) (h2 : j < ys.size), e j = false → LtAt A.in1 s xs[j] ys[j] (d j)) ∧ R (.ok (.ret (.bool (ltF xs.size ys.size e d (min xs.size ys.size) 0)))) s) :=
  .of_wp fun pr w A R s h => by
    obtain ⟨hp, g, dr, tk, os⟩ := s
    obtain ⟨hl, hb, he, hd, h⟩ := h
    have f2 := AutoSeq1.sub_tuple_tuple
    have zl : (xs.toList.zip ys.toList).length = min xs.size ys.size := by simp
    wp_walk using wpAny_loadPart' hl, wpAny_loadPart' hb, wpAny_forIn_list _ (fun rest b s' => b.1 = none ∧ s' = ⟨hp, g, dr, tk, os⟩ ∧ ∃ i, i ≤ min xs.size ys.size ∧ rest = (xs.toList.zip ys.toList).drop i ∧
      R (.ok (.ret (.bool (ltF xs.size ys.size e d (min xs.size ys.size - i) i)))) ⟨hp, g, dr, tk, os⟩) _
    case turn =>
      rintro ⟨y, x⟩ rest b s' ⟨hb', rfl, i, hi, hz, hR⟩
      have q : i < (xs.toList.zip ys.toList).length := by
        rcases Nat.lt_or_ge i (xs.toList.zip ys.toList).length with h' | h'
        · exact h'
        · rw [List.drop_of_length_le h'] at hz
          cases hz
      have q0 : i < min xs.size ys.size := by rw [← zl]; exact q
      have q1 : i < xs.size := by omega
      have q2 : i < ys.size := by omega
      rw [List.drop_eq_getElem_cons q] at hz
      injection hz with z1 z2
      have y1 : y = xs[i] := by
        have := congrArg Prod.fst z1
        simpa using this
      have x1 : x = ys[i] := by
        have := congrArg Prod.snd z1
        simpa using this
      subst y1 x1
      rw [show min xs.size ys.size - i = (min xs.size ys.size - (i + 1)) + 1 by omega, ltF] at hR
      refine wpAny_bind (he i q1 q2 pr w _ _ ?_)
      cases c : e i with
      | true =>
        rw [c, if_pos rfl] at hR
        wp_walk
        exact ⟨rfl, rfl, i + 1, q0, z2, hR⟩
      | false =>
        rw [c, if_neg Bool.false_ne_true] at hR
        refine wpAny_bind (wpAny_rule (wpAny_bind (hd i q1 q2 c pr w _ _ ?_)))
        wp_walk
        exact ⟨_, rfl, hR⟩
    case fin =>
      rintro ⟨b1, b2⟩ s' ⟨hb', rfl, i, hi, hz, hR⟩
      simp only at hb'
      subst hb'
      have q : min xs.size ys.size ≤ i := by
        rcases Nat.lt_or_ge i (xs.toList.zip ys.toList).length with h' | h'
        · rw [List.drop_eq_getElem_cons h'] at hz
          cases hz
        · rw [← zl]
          exact h'
      rw [show min xs.size ys.size - i = 0 by omega, ltF] at hR
      wp_walk
      exact ⟨_, rfl, by simpa [Builtin.Tuple.tupleCompareSizes] using hR⟩
    case h =>
      exact ⟨rfl, rfl, 0, Nat.zero_le _, rfl, h⟩
section
variable {A : Around} {s : Shared}
theorem LtAt.lists {l b : Addr} {xs ys : Array Value} {e d : Nat → Bool} (hl : s.heap.IsList l xs) (hb : s.heap.IsList b ys) (hu : A.units < cLine) (he : ∀ j (h1 : j < xs.size) (h2 : j < ys.size), EqAt A.in1 s xs[j] ys[j] (e j))
    (hd : ∀ j (h1 : j < xs.size) (h2 : j < ys.size), e j = false → LtAt A.in1 s xs[j] ys[j] (d j)) : LtAt A s (.ref l) (.ref b) (ltF xs.size ys.size e d (min xs.size ys.size) 0) := fun pr w E Q h => by
  obtain ⟨⟨c1, d1, o1, sl1⟩, g1, e1, n1, f1⟩ := id hl
  obtain ⟨⟨c2, d2, o2, sl2⟩, g2, e2, n2, f2⟩ := id hb
  simp only at e1 f1 e2 f2
  subst e1 f1 e2 f2
  exact richCompare_meets_room (op := .Lt) ⟨_, g1, rfl⟩ ⟨_, g2, rfl⟩ F.slot_list_lt F.entry_list_lt (F.args_list_lt_2 _ _) (list_lt l b xs ys n1 n2 d1 d2 sl1 sl2 e d)
    ⟨g1, g2, he, hd, show Value.bool _ ≠ Value.notImplemented ∧ Q (.bool _) s from ⟨(fun x => nomatch x), h⟩⟩ hu
theorem LtAt.tuples {l b : Addr} {xs ys : Array Value} {e d : Nat → Bool} (hl : s.heap.IsTuple l xs) (hb : s.heap.IsTuple b ys) (hu : A.units < cLine) (he : ∀ j (h1 : j < xs.size) (h2 : j < ys.size), EqAt A.in1 s xs[j] ys[j] (e j))
    (hd : ∀ j (h1 : j < xs.size) (h2 : j < ys.size), e j = false → LtAt A.in1 s xs[j] ys[j] (d j)) : LtAt A s (.ref l) (.ref b) (ltF xs.size ys.size e d (min xs.size ys.size) 0) := fun pr w E Q h => by
  obtain ⟨⟨c1, d1, o1, sl1⟩, g1, e1, n1, f1⟩ := id hl
  obtain ⟨⟨c2, d2, o2, sl2⟩, g2, e2, n2, f2⟩ := id hb
  simp only at e1 f1 e2 f2
  subst e1 f1 e2 f2
  exact richCompare_meets_room (op := .Lt) ⟨_, g1, rfl⟩ ⟨_, g2, rfl⟩ F.slot_tuple_lt F.entry_tuple_lt (F.args_tuple_lt_2 _ _) (tuple_lt l b xs ys n1 n2 d1 d2 sl1 sl2 e d)
    ⟨g1, g2, he, hd, show Value.bool _ ≠ Value.notImplemented ∧ Q (.bool _) s from ⟨(fun x => nomatch x), h⟩⟩ hu
end
end L2

/-! LAMP Mn: min by a key, its loop -/
namespace L2
open PySem PyProof.Rows
section
variable {pr : Program} {w : World} {A : Around} {R : Result → Shared → Prop} {q I S : Addr} {d : Value}
def pairL : Option (Value × Value) → List Value
  | none => []
  | some p => [p.1, p.2]
def newBest (s : Shared) (S : Addr) (x y : Value) : Shared := { s with heap := s.heap.update S (Obj.mapSeq fun _ => #[x, y]) }
theorem min_go (J : Nat → Option (Value × Value) → Shared → Prop)
    (hS : ∀ n o s, J n o s → ∃ c, s.heap.get? S = some (seqObj "list" (pairL o).toArray c))
    (turn : ∀ n o s, J n o s → wpAny (model pr w) A.in1 (pyNext (.ref I)) (fun r s1 => match r with
      | none => (∃ c, s1.heap.get? S = some (seqObj "list" (pairL o).toArray c)) ∧ (match o with
        | none => R (.ok (.ret d)) s1
        | some p => R (.ok (.ret p.1)) { s1 with heap := s1.heap.update S (Obj.mapSeq fun _ => #[]) })
      | some x => wpAny (model pr w) A.in1 (call (.ref q) [x]) (fun y s2 => (∃ c, s2.heap.get? S = some (seqObj "list" (pairL o).toArray c)) ∧ (match o with
        | none => ∃ m, m < n ∧ J m (some (x, y)) (newBest s2 S x y)
        | some p => ∃ b, (∀ (E Q : Value → Shared → Prop), Q (.bool b) s2 → wpAny (model pr w) A.in1 (richCompare .Lt y p.2) Q E s2) ∧ ∃ m, m < n ∧ (if b = true then J m (some (x, y)) (newBest s2 S x y) else J m o s2))) (fun _ _ => False) s1) (fun _ _ => False) s) :
    ∀ (n : Nat) (o : Option (Value × Value)) (s : Shared), J n o s → codeAny (model pr w) A (.builtin "min.loop" ⟨[.ref I, .ref q, .ref S], [("default", d)]⟩) R s := by
  have nm : (toString "min" ++ toString ".loop" : String) = "min.loop" := by decide
  intro n
  induction n using Nat.strongRecOn with
  | ind n ih =>
    intro o s hJ
    obtain ⟨c, hc⟩ := hS n o s hJ
    refine codeAny_builtin PySem.F.entry_min_loop ?_
    rw [Around.under_plainId PySem.F.plain_min_loop _]
    show wpAny _ A.in1 (seqItems? (.ref S) >>= _) _ _ _
    refine wpAny_bind (wpAny_seqItems hc rfl ?_)
    show wpAny _ A.in1 (tryCatch (pyNext (.ref I)) _ >>= _) _ _ _
    refine wpAny_bind (wpAny_tryCatch (wpAny_mono (turn n o s hJ) (fun r s1 h1 => ?_) fun _ _ z => z.elim))
    cases r with
    | none =>
      obtain ⟨⟨c1, hc1⟩, h1⟩ := h1
      cases o with
      | none => exact wpAny_bind (wpAny_rule (wpAny_pure h1))
      | some p =>
        show wpAny _ A.in1 (updateSeq S (fun _ => #[]) >>= _) _ _ _
        exact wpAny_bind (wpAny_updateSeq hc1 rfl (wpAny_bind (wpAny_letGo (wpAny_pure h1))) (hz := by show 2 ≤ sizeLine; decide))
    | some x =>
      show wpAny _ A.in1 (tryCatch (holding [x] (call (.ref q) [x])) _ >>= _) _ _ _
      refine wpAny_bind (wpAny_tryCatch (wpAny_holding (wpAny_mono h1 (fun y s2 h2 => ?_) fun _ _ z => z.elim)))
      obtain ⟨⟨c2, hc2⟩, h2⟩ := h2
      cases o with
      | none =>
        obtain ⟨m, hm, j⟩ := h2
        show wpAny _ A.in1 (updateSeq S (fun _ => #[x, y]) >>= _) _ _ _
        refine wpAny_bind (wpAny_updateSeq hc2 rfl ?_)
        rw [nm]
        exact wpAny_pure ⟨plainId_quiet PySem.F.plain_min_loop _, ih m hm _ _ j⟩
      | some p =>
        obtain ⟨b, hb, m, hm, j⟩ := h2
        show wpAny _ A.in1 (tryCatch (holding [x, y] (richCompare .Lt y p.2 >>= _)) _ >>= _) _ _ _
        refine wpAny_bind (wpAny_tryCatch (wpAny_holding (wpAny_bind (hb _ _ ?_))))
        refine wpAny_bind (wpAny_holding (wpAny_truthy_bool ?_))
        refine wpAny_bind (wpAny_letGo (wpAny_pure ?_))
        cases b with
        | true =>
          rw [if_pos rfl] at j ⊢
          refine wpAny_bind (wpAny_updateSeq hc2 rfl (wpAny_bind (wpAny_letGo ?_)) (hz := by show 2 ≤ sizeLine; decide))
          rw [nm]
          exact wpAny_pure ⟨plainId_quiet PySem.F.plain_min_loop _, ih m hm _ _ j⟩
        | false =>
          rw [if_neg Bool.false_ne_true] at j ⊢
          refine wpAny_bind (wpAny_letGo ?_)
          rw [nm]
          exact wpAny_pure ⟨plainId_quiet PySem.F.plain_min_loop _, ih m hm _ _ j⟩
end
end L2

/-! LAMP Fe: the sets of buttons in the order in which they are made; the first of the fewest -/
namespace Lamp
def ltL : List Nat → List Nat → Bool
  | [], [] => false
  | [], _ :: _ => true
  | _ :: _, [] => false
  | a :: l, b :: m => if a = b then ltL l m else decide (a < b)
theorem ltL_irr : ∀ l : List Nat, ltL l l = false
  | [] => rfl
  | a :: l => by rw [ltL, if_pos rfl, ltL_irr l]
def ltK (a b : List Nat) : Bool := if a.length = b.length then ltL a b else decide (a.length < b.length)
def best : List Nat → List (List Nat) → List Nat
  | m, [] => m
  | m, x :: l => best (if ltK x m then x else m) l
theorem best_mem : ∀ {m : List Nat} {l : List (List Nat)}, best m l = m ∨ best m l ∈ l
  | m, [] => .inl rfl
  | m, x :: l => by
    rw [best]
    rcases best_mem (m := if ltK x m then x else m) (l := l) with h | h
    · rw [h]
      split
      · exact .inr List.mem_cons_self
      · exact .inl rfl
    · exact .inr (List.mem_cons_of_mem _ h)
def subs : Nat → List (List Nat)
  | 0 => [[]]
  | k + 1 => subs k ++ (subs k).map (· ++ [k])
theorem subs_len : ∀ n, (subs n).length = 2 ^ n
  | 0 => rfl
  | k + 1 => by rw [subs, List.length_append, List.length_map, subs_len k, Nat.pow_succ]; omega
theorem subs_long : ∀ {n : Nat} {os : List Nat}, os ∈ subs n → os.length ≤ n
  | 0, os, h => by
    rw [subs, List.mem_singleton] at h
    rw [h]
    exact Nat.le_refl _
  | k + 1, os, h => by
    rw [subs, List.mem_append, List.mem_map] at h
    rcases h with h | ⟨us, h, rfl⟩
    · have := subs_long h
      omega
    · have := subs_long h
      rw [List.length_append]
      simp
      omega
end Lamp

/-! LAMP Bx: sets of lamps as numbers -/
namespace Lamp
def wsum : Nat → (Nat → Bool) → Nat
  | 0, _ => 0
  | n + 1, p => (p 0).toNat + 2 * wsum n (fun j => p (j + 1))
theorem wsum_congr : ∀ {n : Nat} {p q : Nat → Bool}, (∀ j, j < n → p j = q j) → wsum n p = wsum n q
  | 0, _, _, _ => rfl
  | n + 1, p, q, h => by
    rw [wsum, wsum, h 0 (by omega), wsum_congr (n := n) fun j hj => h (j + 1) (by omega)]
theorem wsum_bit : ∀ (n : Nat) (p : Nat → Bool) (j : Nat), (wsum n p).testBit j = (decide (j < n) && p j)
  | 0, p, j => by simp [wsum]
  | n + 1, p, 0 => by
    rw [wsum, Nat.testBit_zero]
    cases p 0 <;> simp <;> omega
  | n + 1, p, j + 1 => by
    rw [wsum, Nat.testBit_succ]
    have : ((p 0).toNat + 2 * wsum n fun j => p (j + 1)) / 2 = wsum n fun j => p (j + 1) := by cases p 0 <;> simp <;> omega
    rw [this, wsum_bit n]
    have : decide (j + 1 < n + 1) = decide (j < n) := by simp
    rw [this]
theorem wsum_inj {n : Nat} {p q : Nat → Bool} (h : wsum n p = wsum n q) : ∀ j, j < n → p j = q j := fun j hj => by
  have h1 := wsum_bit n p j
  have h2 := wsum_bit n q j
  rw [h, h2, decide_eq_true hj, Bool.true_and, Bool.true_and] at h1
  exact h1.symm
theorem wsum_and (n : Nat) (p q : Nat → Bool) : wsum n p &&& wsum n q = wsum n fun j => p j && q j := by
  apply Nat.eq_of_testBit_eq
  intro j
  rw [Nat.testBit_and, wsum_bit, wsum_bit, wsum_bit]
  cases decide (j < n) <;> simp
theorem wsum_two : ∀ (n : Nat) (p q : Nat → Bool), wsum n p + wsum n q = wsum n (fun j => p j ^^ q j) + 2 * wsum n fun j => p j && q j
  | 0, _, _ => rfl
  | n + 1, p, q => by
    have := wsum_two n (fun j => p (j + 1)) fun j => q (j + 1)
    simp only [wsum]
    cases p 0 <;> cases q 0 <;> simp <;> omega
theorem wsum_set : ∀ {n l : Nat} {p : Nat → Bool}, l < n → p l = false → wsum n (fun j => p j || decide (j = l)) = wsum n p + 2 ^ l
  | 0, _, _, h, _ => absurd h (by omega)
  | n + 1, 0, p, _, h => by
    simp only [wsum]
    rw [h, wsum_congr (n := n) (q := fun j => p (j + 1)) fun j _ => by simp]
    simp
    omega
  | n + 1, l + 1, p, hl, h => by
    have := wsum_set (n := n) (l := l) (p := fun j => p (j + 1)) (by omega) h
    simp only [wsum]
    rw [wsum_congr (n := n) (p := fun j => p (j + 1) || decide (j + 1 = l + 1)) (q := fun j => p (j + 1) || decide (j = l)) fun j _ => by simp, this]
    have e : (p 0 || decide (0 = l + 1)) = p 0 := by simp
    rw [e, Nat.pow_succ]
    omega
theorem wsum_none (n : Nat) : wsum n (fun _ => false) = 0 := by
  induction n with
  | zero => rfl
  | succ n ih => simp only [wsum, ih]; rfl
def powS : List Nat → Nat
  | [] => 0
  | a :: l => 2 ^ a + powS l
theorem powS_append : ∀ (l m : List Nat), powS (l ++ m) = powS l + powS m
  | [], m => by rw [List.nil_append, powS]; omega
  | a :: l, m => by rw [List.cons_append, powS, powS, powS_append l m]; omega
theorem powS_wsum {n : Nat} : ∀ {os : List Nat}, os.Nodup → (∀ o ∈ os, o < n) → powS os = wsum n fun j => os.contains j
  | [], _, _ => by
    rw [powS, wsum_congr (q := fun _ => false) fun j _ => by simp, wsum_none]
  | a :: l, nd, h => by
    obtain ⟨n1, n2⟩ := List.nodup_cons.mp nd
    rw [powS, powS_wsum n2 fun o ho => h o (List.mem_cons_of_mem _ ho)]
    have := wsum_set (n := n) (l := a) (p := fun j => l.contains j) (h a List.mem_cons_self) (by simpa using n1)
    rw [wsum_congr (p := fun j => (a :: l).contains j) (q := fun j => l.contains j || decide (j = a)) fun j _ => by
      rw [List.contains_cons, Bool.or_comm]
      congr 1, this]
    omega
end Lamp

/-! LAMP Mi: min(xs, key=lambda .., default=None) of lists of whole numbers, by length and order -/
namespace L2
open PySem PySem.Spec PyProof.Rows PySem.SeqAt
theorem LtAt.ints {A : Around} {s : Shared} (a : Int) (t : Tok) (b : Int) (u : Tok) : LtAt A s (.int a t) (.int b u) (decide (a < b)) := fun pr w E Q h =>
  CmpOf.ints_lt (P := fun i v => (i = 0 ∧ v = .int a t) ∨ (i = 1 ∧ v = .int b u)) (fun i => if i = 0 then a else b) (fun i v z => by
    rcases z with ⟨rfl, rfl⟩ | ⟨rfl, rfl⟩
    · exact ⟨t, rfl⟩
    · exact ⟨u, rfl⟩) 0 1 _ _ s Q E (.inl ⟨rfl, rfl⟩) (.inr ⟨rfl, rfl⟩) (by simpa using h)
def natsV (os : List Nat) : List V := os.map fun j : Nat => V.int (j : Int)
theorem natsV_ints (os : List Nat) : natsV os = (os.map fun j : Nat => (j : Int)).map V.int := by
  unfold natsV
  rw [List.map_map]
  rfl
theorem natsV_len (os : List Nat) : (natsV os).length = os.length := by simp [natsV]
theorem natsV_flat (os : List Nat) : (natsV os).all flatV = true := by rw [natsV_ints]; exact all_flat_int _
theorem cast_inj : ∀ {a b : List Nat}, (a.map fun j : Nat => (j : Int)) = (b.map fun j : Nat => (j : Int)) → a = b
  | [], [], _ => rfl
  | [], _ :: _, h => by simp at h
  | _ :: _, [], h => by simp at h
  | a :: l, b :: m, h => by
    rw [List.map_cons, List.map_cons] at h
    injection h with h1 h2
    rw [cast_inj h2, Int.ofNat.inj h1]
theorem eqVs_nats (a b : List Nat) : eqVs (natsV a) (natsV b) = decide (a = b) := by
  rw [natsV_ints, natsV_ints, eqVs_int]
  exact decide_eq_decide.mpr ⟨cast_inj, fun h => by rw [h]⟩
theorem vals_at {os : List Nat} {us : List Value} (r : Vals (natsV os) us) (j : Nat) (h : j < us.toArray.size) : ∃ t, us.toArray[j] = .int ((os.getD j 0 : Nat) : Int) t := by
  have hl : us.length = os.length := by rw [← r.length, natsV_len]
  have hj : j < os.length := by rw [← hl]; simpa using h
  obtain ⟨u, hu, ru⟩ := Vals.get (i := j) (x := .int ((os.getD j 0 : Nat) : Int)) r (by
    unfold natsV
    rw [List.getElem?_map, List.getElem?_eq_getElem hj, List.getD_eq_getElem?_getD, List.getElem?_eq_getElem hj]
    rfl)
  obtain ⟨t, rfl⟩ := ru
  refine ⟨t, ?_⟩
  have h' : j < us.length := by rw [hl]; exact hj
  rw [List.getElem?_eq_getElem h'] at hu
  simpa using Option.some.inj hu
theorem ltF_L : ∀ (os us : List Nat) (m n i : Nat) (e d : Nat → Bool), (∀ j, e (i + j) = decide (os.getD j 0 = us.getD j 0)) → (∀ j, d (i + j) = decide (os.getD j 0 < us.getD j 0)) → (m < n ↔ os.length < us.length) → ltF m n e d (min os.length us.length) i = Lamp.ltL os us
  | [], [], m, n, i, e, d, _, _, h => by
    show decide (m < n) = false
    exact decide_eq_false fun z => absurd (h.mp z) (by simp)
  | [], b :: us, m, n, i, e, d, _, _, h => by
    rw [show min ([] : List Nat).length (b :: us).length = 0 by simp]
    show decide (m < n) = true
    exact decide_eq_true (h.mpr (by simp))
  | a :: os, [], m, n, i, e, d, _, _, h => by
    rw [show min (a :: os).length ([] : List Nat).length = 0 by simp]
    show decide (m < n) = false
    exact decide_eq_false fun z => absurd (h.mp z) (by simp)
  | a :: os, b :: us, m, n, i, e, d, he, hd, h => by
    rw [show min (a :: os).length (b :: us).length = min os.length us.length + 1 by simp only [List.length_cons]; omega, ltF, Lamp.ltL]
    have e0 := he 0
    have d0 := hd 0
    rw [Nat.add_zero] at e0 d0
    have e0 : e i = decide (a = b) := e0
    have d0 : d i = decide (a < b) := d0
    by_cases ab : a = b
    · rw [e0, decide_eq_true ab, if_pos rfl, if_pos ab]
      refine ltF_L os us m n (i + 1) e d (fun j => ?_) (fun j => ?_) (by rw [h]; simp)
      · have := he (j + 1)
        rw [show i + (j + 1) = i + 1 + j by omega] at this
        exact this
      · have := hd (j + 1)
        rw [show i + (j + 1) = i + 1 + j by omega] at this
        exact this
    · rw [e0, decide_eq_false ab, if_neg Bool.false_ne_true, if_neg ab, d0]
section
variable {X : Cx} {pins : List (Addr × Obj)} {σ : St} {H : Hp} {s : Shared} {A : Around}
theorem lt_lists (I : Inv X pins σ H s) {p q : Addr} {os us : List Nat} (hp : SqL X.K H p (natsV os)) (hq : SqL X.K H q (natsV us)) (hu : A.units < cLine) : LtAt A s (.ref p) (.ref q) (Lamp.ltL os us) := by
  obtain ⟨xs, r1, p1, _⟩ := I.list hp
  obtain ⟨ys, r2, p2, _⟩ := I.list hq
  have l1 : xs.length = os.length := by rw [← r1.length, natsV_len]
  have l2 : ys.length = us.length := by rw [← r2.length, natsV_len]
  have z := LtAt.lists (A := A) (e := fun j => decide (os.getD j 0 = us.getD j 0)) (d := fun j => decide (os.getD j 0 < us.getD j 0)) p1.isList p2.isList hu (fun j h1 h2 => ?_) fun j h1 h2 _ => ?_
  · rw [List.size_toArray, List.size_toArray, l1, l2, ltF_L os us _ _ 0 _ _ (fun j => by rw [Nat.zero_add]) (fun j => by rw [Nat.zero_add]) Iff.rfl] at z
    exact z
  · obtain ⟨t, e1⟩ := vals_at r1 j h1
    obtain ⟨u, e2⟩ := vals_at r2 j h2
    rw [e1, e2]
    have := EqAt.int_int (A := A.in1) (s := s) ((os.getD j 0 : Nat) : Int) t ((us.getD j 0 : Nat) : Int) u
    rw [show ((((os.getD j 0 : Nat) : Int) == ((us.getD j 0 : Nat) : Int)) : Bool) = decide (os.getD j 0 = us.getD j 0) by rw [Bool.eq_iff_iff]; simp; omega] at this
    exact this
  · obtain ⟨t, e1⟩ := vals_at r1 j h1
    obtain ⟨u, e2⟩ := vals_at r2 j h2
    rw [e1, e2]
    have := LtAt.ints (A := A.in1) (s := s) ((os.getD j 0 : Nat) : Int) t ((us.getD j 0 : Nat) : Int) u
    rw [show decide (((os.getD j 0 : Nat) : Int) < ((us.getD j 0 : Nat) : Int)) = decide (os.getD j 0 < us.getD j 0) by rw [Bool.eq_iff_iff]; simp] at this
    exact this
theorem natsV_inj {a b : List Nat} (h : natsV a = natsV b) : a = b := by
  have h1 := eqVs_nats a b
  rw [h, eqVs_nats b b, decide_eq_true rfl] at h1
  exact of_decide_eq_true h1.symm
theorem lt_keys (I : Inv X pins σ H s) {T T2 p q : Addr} {os us : List Nat} (hT : SqT X.K H T [.int (os.length : Int), .ref p]) (hT2 : SqT X.K H T2 [.int (us.length : Int), .ref q]) (hp : SqL X.K H p (natsV os)) (hq : SqL X.K H q (natsV us)) (hu : A.units < cLine) (hu1 : A.in1.units < cLine) :
    LtAt A s (.ref T) (.ref T2) (Lamp.ltK os us) := by
  obtain ⟨xs, r1, p1, _⟩ := I.tuple hT
  obtain ⟨ys, r2, p2, _⟩ := I.tuple hT2
  cases r1 with
  | cons a1 a2 =>
  cases a2 with
  | cons a2 a3 =>
  cases a3
  cases r2 with
  | cons b1 b2 =>
  cases b2 with
  | cons b2 b3 =>
  cases b3
  obtain ⟨t, rfl⟩ := a1
  obtain ⟨u, rfl⟩ := b1
  cases a2
  cases b2
  have eL : EqAt A.in1 s (.ref p) (.ref q) (decide (os = us)) := by
    by_cases pq : p = q
    · subst pq
      rw [decide_eq_true (natsV_inj (I.list_inj hp hq))]
      exact EqAt.same _
    · have := rcAt_lst (A := A.in1) I hp hq (natsV_flat _) (natsV_flat _) hu1
      rw [eqVs_nats] at this
      exact EqAt.of_refs pq this
  have z := LtAt.tuples (A := A) (e := fun j => if j = 0 then decide (os.length = us.length) else decide (os = us)) (d := fun j => if j = 0 then decide (os.length < us.length) else Lamp.ltL os us) p1 p2 hu (fun j h1 h2 => ?_) fun j h1 h2 hj => ?_
  · have ez : ltF 2 2 (fun j => if j = 0 then decide (os.length = us.length) else decide (os = us)) (fun j => if j = 0 then decide (os.length < us.length) else Lamp.ltL os us) 2 0 = Lamp.ltK os us := by
      show (if decide (os.length = us.length) = true then (if decide (os = us) = true then decide (2 < 2) else Lamp.ltL os us) else decide (os.length < us.length)) = _
      unfold Lamp.ltK
      by_cases h : os.length = us.length
      · rw [decide_eq_true h, if_pos rfl, if_pos h]
        by_cases h2 : os = us
        · rw [decide_eq_true h2, if_pos rfl, h2, Lamp.ltL_irr]
          rfl
        · rw [decide_eq_false h2, if_neg Bool.false_ne_true]
      · rw [decide_eq_false h, if_neg Bool.false_ne_true, if_neg h]
    exact ez ▸ z
  · match j, h1, h2 with
    | 0, _, _ =>
      have := EqAt.int_int (A := A.in1) (s := s) (os.length : Int) t (us.length : Int) u
      rw [show (((os.length : Int) == (us.length : Int)) : Bool) = decide (os.length = us.length) by rw [Bool.eq_iff_iff]; simp; omega] at this
      exact this
    | 1, _, _ => exact eL
    | j + 2, h1, _ => exact absurd h1 (by simp)
  · match j, h1, h2, hj with
    | 0, _, _, _ =>
      have := LtAt.ints (A := A.in1) (s := s) (os.length : Int) t (us.length : Int) u
      rw [show decide ((os.length : Int) < (us.length : Int)) = decide (os.length < us.length) by rw [Bool.eq_iff_iff]; simp] at this
      exact this
    | 1, _, _, _ => exact lt_lists I hp hq hu1
    | j + 2, h1, _, _ => exact absurd h1 (by simp)
end
theorem min_args (a v : Value) : argsOk "min" ⟨[a], [("key", v), ("default", .none)]⟩ := by unfold argsOk; kernel_rfl
abbrev iterO (l : Addr) : Obj := { cls := .type "list_iterator", data := .fields #[.ref l, .int 0 0] }
theorem min_enter {prog : Program} {w : World} {A : Around} {E : Value → Shared → Prop} {s : Shared} {l q : Addr} {vs : Array Value} {Q : Value → Shared → Prop} (hl : s.heap.IsList l vs)
    (h : codeAny (model prog w) A (.builtin "min.loop" ⟨[.ref s.heap.objs.size, .ref q, .ref (s.heap.push (iterO l)).objs.size], [("default", .none)]⟩) (fun r s' => match r with | .ok (.ret v) => Q v s' | .ok _ => False | .error e => E e s') { s with heap := (s.heap.push (iterO l)).push (seqObj "list" #[] 0) }) :
    wpAny (model prog w) A (call (.builtin "min") [.ref l] [("key", .ref q), ("default", .none)]) Q E s := by
  have nm : (toString "min" ++ toString ".loop" : String) = "min.loop" := by decide
  refine kmk_tree PySem.F.kind_min PySem.F.plain_min PySem.F.entry_min (min_args _ _) ?_
  show wpAny _ A.in1 (Builtin.Builtins.bindParams "min" ["key", "default"] 0 ⟨[], [("key", .ref q), ("default", .none)]⟩ >>= _) _ _ s
  refine wpAny_bind (wpAny_of_eq (show Builtin.Builtins.bindParams "min" ["key", "default"] 0 ⟨[], [("key", .ref q), ("default", .none)]⟩ = pure [some (.ref q), some .none] from rfl) ?_)
  refine wpAny_bind (wpAny_pure ?_)
  refine wpAny_bind (wpAny_pyIter_list hl ?_)
  refine wpAny_bind (wpAny_newList ?_ (Nat.zero_le _))
  rw [nm]
  exact wpAny_pure ⟨plainId_quiet PySem.F.plain_min_loop _, h⟩
theorem best_snoc : ∀ (m : List Nat) (l : List (List Nat)) (x : List Nat), Lamp.best m (l ++ [x]) = if Lamp.ltK x (Lamp.best m l) then x else Lamp.best m l
  | m, [], x => rfl
  | m, y :: l, x => by
    rw [List.cons_append, Lamp.best, Lamp.best]
    exact best_snoc _ l x
theorem pair_vals {o : Option (Value × Value)} {ws : List V} {jts : List Value} (r : Vals ws jts) (h : Vals ws (pairL o)) (hr : ∀ w ∈ ws, ∃ a, w = .ref a) : jts = pairL o := by
  induction r generalizing o with
  | nil =>
    cases h' : pairL o with
    | nil => rfl
    | cons a l => rw [h'] at h; cases h
  | cons a t ih =>
    have key : ∀ {ws : List V} {us vs : List Value}, Vals ws us → Vals ws vs → (∀ w ∈ ws, ∃ a, w = .ref a) → us = vs := by
      intro ws us vs r1
      induction r1 generalizing vs with
      | nil => intro r2 _; cases r2; rfl
      | cons a t ih =>
        intro r2 hr
        cases r2 with
        | cons b t2 =>
          obtain ⟨x, rfl⟩ := hr _ List.mem_cons_self
          cases a
          cases b
          rw [ih t2 fun w hw => hr w (List.mem_cons_of_mem _ hw)]
    exact key (.cons a t) h hr
section
variable {X : Cx} {pins : List (Addr × Obj)} {σ : St} {H : Hp} {s : Shared} {E Q : Value → Shared → Prop}
theorem min_run {l q : Addr} {zs : List (Addr × List Nat)} (I : Inv X pins σ H s) (hh : X.A.handled = none) (hu : X.A.in1.units < cLine) (hu1 : X.A.in1.in1.units < cLine) (hl : H l = some (.lst (zs.map fun z => V.ref z.1))) (hz : ∀ z ∈ zs, H z.1 = some (.lst (natsV z.2)))
    (key : ∀ z ∈ zs, ∀ (pins' : List (Addr × Obj)) (H' : Hp) (s' : Shared), Same H H' → Inv X pins' σ H' s' → wpAny (model X.prog X.w) X.A.in1 (call (.ref q) [.ref z.1]) (EP X pins' σ fun v H2 => ∃ T, v = .ref T ∧ H' T = none ∧ H2 = upd H' T (.tup [.int (z.2.length : Int), .ref z.1])) (fun _ _ => False) s')
    (fin0 : zs = [] → ∀ (H' : Hp) (s' : Shared), Same H H' → Inv X pins σ H' s' → Q .none s')
    (fin1 : ∀ z0 rest b, zs = z0 :: rest → b ∈ zs → b.2 = Lamp.best z0.2 (rest.map (·.2)) → ∀ (H' : Hp) (s' : Shared), Same H H' → Inv X pins σ H' s' → Q (.ref b.1) s') :
    wpAny (model X.prog X.w) X.A (call (.builtin "min") [.ref l] [("key", .ref q), ("default", .none)]) Q E s := by
  obtain ⟨its, r, pl, hlen⟩ := I.list (SqL.of hl)
  refine min_enter pl.isList ?_
  have I1 : Inv X pins σ H { s with heap := s.heap.push (iterO l) } := I.kept (t' := s.toks) fun b u e => Heap.get?_push_of_some _ e
  have I2 := I1.lnew (ys := []) (its := []) (t' := s.toks) .nil (Nat.zero_le _)
  have fr := I.fresh
  have fp := I.fpOk (H' := H) (Nat.le_refl _) fr
  have gI : ((s.heap.push (iterO l)).push (seqObj "list" #[] 0)).get? s.heap.objs.size = some (iterO l) := Heap.get?_push_of_some _ (Heap.get?_push_size _ rfl)
  have frS : H (s.heap.push (iterO l)).objs.size = none := I.hok.fresh (by rw [Heap.size_push]; omega)
  have neS : (s.heap.push (iterO l)).objs.size ≠ s.heap.objs.size := by rw [Heap.size_push]; omega
  have I2 : Inv X pins σ (upd H (s.heap.push (iterO l)).objs.size (.lst [])) { s with heap := (s.heap.push (iterO l)).push (seqObj "list" #[] 0) } := I2
  generalize (s.heap.push (iterO l)).objs.size = S at I2 frS neS ⊢
  generalize s.heap.objs.size = It at fr fp gI neS ⊢
  have nl : l ≠ It := fun z => by rw [← z, hl] at fr; cases fr
  let J : Nat → Option (Value × Value) → Shared → Prop := fun n o s' => ∃ (i : Nat) (H' : Hp) (ws : List V), n = zs.length - i ∧ i ≤ zs.length ∧ Inv X pins σ H' s' ∧ Same H H' ∧ s'.heap.IsListIter It l i ∧ H' It = none ∧ H' S = some (.lst ws) ∧ Vals ws (pairL o) ∧ (∀ w ∈ ws, ∃ a, w = .ref a) ∧
    ((o = none ∧ i = 0) ∨ ∃ z0 rest b T, zs = z0 :: rest ∧ 0 < i ∧ b ∈ zs ∧ b.2 = Lamp.best z0.2 ((rest.take (i - 1)).map (·.2)) ∧ o = some (.ref b.1, .ref T) ∧ H' T = some (.tup [.int (b.2.length : Int), .ref b.1]))
  have smS : ∀ {H' : Hp} {o : HO}, Same H H' → Same H (upd H' S o) := fun {H' o} sm b u e => by
    rw [upd_ne (ne_of_none e frS)]
    exact sm b u e
  refine min_go J ?_ ?_ (zs.length - 0) none _ ⟨0, _, [], rfl, Nat.zero_le _, I2, smS fun _ _ e => e, ⟨_, gI, rfl, rfl⟩, by rw [upd_ne neS.symm]; exact fr, upd_same, .nil, fun w hw => absurd hw List.not_mem_nil, .inl ⟨rfl, rfl⟩⟩
  · rintro n o s' ⟨i, H', ws, rfl, hi, I', sm, hit, nIt, hw, rw0, rr, rel⟩
    obtain ⟨_, jts, c, rv, _, e⟩ := I'.lstM hw
    rw [pair_vals rv rw0 rr] at e
    exact ⟨c, e⟩
  rintro n o s' ⟨i, H', ws, rfl, hi, I', sm, hit, nIt, hw, rw0, rr, rel⟩
  have hl' := sm _ _ hl
  obtain ⟨its', r', pl', _⟩ := I'.list (SqL.of hl')
  have e' : its' = (zs.map (·.1)).map Value.ref := vals_refs (tas := zs.map (·.1)) (by rw [List.map_map]; exact r')
  have W := Walks.list (prog := X.prog) (w := X.w) (A := X.A.in1) hh It l nl its'.toArray
  have sz : its'.toArray.size = zs.length := by rw [e']; simp
  by_cases lt : i < zs.length
  · refine W.item i s' _ _ (by rw [sz]; exact lt) ⟨hit, pl'.isList⟩ fun v h' tk hP hst hk => ?_
    obtain ⟨z, zi⟩ : ∃ z, zs[i]? = some z := ⟨zs[i], by simp [lt]⟩
    have zm := List.mem_of_getElem? zi
    have hv : v = .ref z.1 := by
      rw [e'] at hP
      simp [zi] at hP
      exact hP.symm
    subst hv
    have I3 : Inv X pins σ H' { s' with heap := h', toks := tk } := I'.turned (fun b o hb e => hk b o (by simpa using hb) e) nIt fp.2.1 fp.2.2.2.1 fp.2.2.2.2.1 fp.2.2.2.2.2
    obtain ⟨oI, gI2, oc, od⟩ := id hst.1
    have I4 : Inv X (pins ++ [(It, oI)]) σ H' { s' with heap := h', toks := tk } := I3.pins_of fun p hp => by
      rcases List.mem_append.mp hp with h | h
      · exact I3.pin p (List.mem_append_right _ h)
      · have : p = (It, oI) := by simpa using h
        subst this
        exact ⟨gI2, nIt, fp.2.1, fp.2.2.1, fun v => by rw [od]; intro z; cases z⟩
    refine wpAny_mono (key z zm _ H' _ sm I4) (fun y s2 hy => ?_) fun _ _ z => z
    obtain ⟨v', H2, I5, rv, T, rfl, nT, rfl⟩ := hy
    cases rv
    have pin5 := I5.pin (It, oI) (List.mem_append_right _ (List.mem_append_right _ (List.mem_singleton.mpr rfl)))
    have I6 := I5.pins_of (pins' := pins) fun p hp => I5.pin p (List.mem_append_right _ (List.mem_append_left _ hp))
    have hit2 : s2.heap.IsListIter It l (i + 1) := ⟨oI, pin5.1, oc, od⟩
    have nTS : T ≠ S := fun z => by rw [z, hw] at nT; cases nT
    have hw2 : (upd H' T (.tup [.int (z.2.length : Int), .ref z.1])) S = some (.lst ws) := by rw [upd_ne nTS.symm]; exact hw
    have sm2 : Same H (upd H' T (.tup [.int (z.2.length : Int), .ref z.1])) := fun b u e => by rw [upd_ne (ne_of_none (sm b u e) nT)]; exact sm b u e
    have nIt2 := pin5.2.1
    have hT2 : (upd H' T (.tup [.int (z.2.length : Int), .ref z.1])) T = some (.tup [.int (z.2.length : Int), .ref z.1]) := upd_same
    have old : ∀ b o, H' b = some o → (upd H' T (.tup [.int (z.2.length : Int), .ref z.1])) b = some o := fun b o e => by rw [upd_ne (ne_of_none e nT)]; exact e
    generalize upd H' T (.tup [.int (z.2.length : Int), .ref z.1]) = H2 at I5 I6 pin5 hw2 sm2 nIt2 hT2 old
    obtain ⟨_, jts, c, rvS, _, eS⟩ := I6.lstM hw2
    have ej := pair_vals rvS rw0 rr
    have newI : Inv X pins σ (upd H2 S (.lst [.ref z.1, .ref T])) (newBest s2 S (.ref z.1) (.ref T)) := I6.lset (f := fun _ => #[.ref z.1, .ref T]) (its' := [.ref z.1, .ref T]) (t' := s2.toks) hw2 eS rfl (.cons rfl (.cons rfl .nil)) (by show 2 ≤ sizeLine; decide)
    have hit3 : (newBest s2 S (.ref z.1) (.ref T)).heap.IsListIter It l (i + 1) := ⟨oI, (Heap.get?_update_other s2.heap _ neS).trans pin5.1, oc, od⟩
    have newJ : ∀ z0 rest, zs = z0 :: rest → z.2 = Lamp.best z0.2 ((rest.take i).map (·.2)) → J (zs.length - (i + 1)) (some (.ref z.1, .ref T)) (newBest s2 S (.ref z.1) (.ref T)) := fun z0 rest ez eb =>
      ⟨i + 1, _, [.ref z.1, .ref T], rfl, lt, newI, smS sm2, hit3, by rw [upd_ne neS.symm]; exact nIt2, upd_same, .cons rfl (.cons rfl .nil), fun w hw => by
        rcases List.mem_cons.mp hw with h | h
        · exact ⟨_, h⟩
        · exact ⟨_, List.mem_singleton.mp h⟩, .inr ⟨z0, rest, z, T, ez, Nat.succ_pos _, zm, eb, rfl, by rw [upd_ne nTS]; exact hT2⟩⟩
    rw [ej] at eS
    refine ⟨⟨c, eS⟩, ?_⟩
    rcases rel with ⟨rfl, rfl⟩ | ⟨z0, rest, b, Tb, ez, i0, bm, eb, rfl, hTb⟩
    · refine ⟨zs.length - (0 + 1), by omega, ?_⟩
      cases hzs : zs with
      | nil => rw [hzs] at zi; cases zi
      | cons z0 rest =>
        rw [hzs] at zi
        have e0 : z0 = z := by simpa using zi
        subst e0
        rw [← hzs]
        exact newJ z0 rest hzs rfl
    · have snoc : Lamp.best z0.2 ((rest.take i).map (·.2)) = if Lamp.ltK z.2 b.2 then z.2 else b.2 := by
        have ei : i = (i - 1) + 1 := by omega
        have zr : rest[i - 1]? = some z := by
          rw [ez, ei] at zi
          simpa using zi
        rw [ei, List.take_add_one, zr, List.map_append]
        show Lamp.best z0.2 ((rest.take (i - 1)).map (·.2) ++ [z.2]) = _
        rw [best_snoc, ← eb]
      refine ⟨Lamp.ltK z.2 b.2, fun E' Q' h => lt_keys I6 (SqT.of hT2) (SqT.of (old _ _ hTb)) (SqL.of (sm2 _ _ (hz z zm))) (SqL.of (sm2 _ _ (hz b bm))) hu hu1 X.prog X.w E' Q' h, zs.length - (i + 1), by omega, ?_⟩
      cases cc : Lamp.ltK z.2 b.2 with
      | true =>
        rw [if_pos rfl]
        rw [cc, if_pos rfl] at snoc
        exact newJ z0 rest ez snoc.symm
      | false =>
        rw [if_neg Bool.false_ne_true]
        rw [cc, if_neg Bool.false_ne_true] at snoc
        exact ⟨i + 1, _, ws, rfl, lt, I6, sm2, hit2, nIt2, hw2, rw0, rr, .inr ⟨z0, rest, b, Tb, ez, Nat.succ_pos _, bm, snoc.symm, rfl, old _ _ hTb⟩⟩
  · have ei : i = zs.length := by omega
    refine W.done s' _ _ ⟨by rw [sz, ← ei]; exact hit, pl'.isList⟩ fun h' tk hk => ?_
    have I3 : Inv X pins σ H' { s' with heap := h', toks := tk } := I'.turned (fun b o hb e => hk b o (by simpa using hb) e) nIt fp.2.1 fp.2.2.2.1 fp.2.2.2.2.1 fp.2.2.2.2.2
    obtain ⟨_, jts, c, rvS, _, eS⟩ := I3.lstM hw
    have eS' := eS
    rw [pair_vals rvS rw0 rr] at eS'
    refine ⟨⟨c, eS'⟩, ?_⟩
    rcases rel with ⟨rfl, rfl⟩ | ⟨z0, rest, b, Tb, ez, i0, bm, eb, rfl, hTb⟩
    · exact fin0 (List.length_eq_zero_iff.mp ei.symm) H' _ sm I3
    · have newI : Inv X pins σ (upd H' S (.lst [])) { s' with heap := h'.update S (Obj.mapSeq fun _ => #[]), toks := tk } := I3.lset (f := fun _ => #[]) (its' := []) (t' := tk) hw eS rfl .nil (Nat.zero_le _)
      refine fin1 z0 rest b ez bm ?_ _ _ (smS sm) newI
      rw [eb, ei, ez]
      congr 2
      rw [List.length_cons, Nat.add_sub_cancel, List.take_of_length_le (Nat.le_refl _)]
end
end L2

/-! LAMP Mj: the expression min(xs, key=lambda x: .., default=None) -/
namespace L2
open PySem PySem.Spec PyProof.Rows
section
variable {X : Cx} {e body : Expr} {p pos k1 k2 lp cp : Pos} {j : Nat} {x : Str} {params : Arguments} {scope : Scope} {ta : TA} {t : TE} {N : List Str} {c Tb : Addr} {k : Nat}
def SameT (T : Addr) (H H' : Hp) : Prop := ∀ b o, b ≠ T → H b = some o → H' b = some o
end
end L2

/-! LAMP Mk: a law one of whose defs makes a lambda: its code's table is tracked -/
namespace L2
open PySem PySem.Spec PyProof.Rows
theorem law_callT {P : Program} {w : World} {K : PySem.W.Frag} {mg mb : Str → Option Value} {CX : CXT} {k : Nat} {fa a Tb : Addr} {fd : FuncData} {x : Str} {sp : Sp} {s₁ : Shared} {vs : List Value} {ns : List Int}
    (KX : K.In s₁.heap) (hns : s₁.heap.Ns mainGlobals mg) (hb : s₁.heap.Ns builtinsNs mb) (hbb : ∀ x : Str, x ≠ "__name__" → mb x = bootBuiltins x) (hlim : s₁.heap.NoLimit) (hg : s₁.gens = #[])
    (ha : s₁.heap.get? a = some { cls := .type "list", data := .seq vs.toArray }) (hi : IntsAre vs ns) (hl : ns.length ≤ sizeLine) (hr : Room k callerA)
    (hT : s₁.heap.get? Tb = some { cls := .none, data := .fields #[] }) (hTK : K.lookup Tb = none) (hTC : isCodeTable s₁.heap Tb) (hbm : BltMod mg s₁.heap)
    (F : ∀ base : Heap, K.In base → base.Ns mainGlobals mg → BltMod mg base → FnOk P w K mg base CX k fa fd [x] sp) (hbind : ∀ (s : Shared) (u : Value), BindsTo s fd ⟨[u], []⟩ [(x, u)])
    (hsp : ∀ H : Hp, SqL K H a (ns.map V.int) → H Tb = some (.tbl #[]) → sp [.ref a] H (fun v _ => v = .bl true) fun _ _ _ => False)
    (hCX : ∀ H e s', CX [] H s₁ (fun _ _ _ => False) e s' → False) :
    codeAny (model P w) callerA (.call (.ref fa) ⟨[.ref a], []⟩) (fun r s' => r = .ok (.ret (.bool true)) ∧ OldK s₁.heap s'.heap ∧ s'.os = s₁.os ∧ AllBare s'.gens) s₁ := by
  have rv := vals_ints hi
  have lenV := hi.length
  have aT : a ≠ Tb := fun z => by
    rw [z, hT] at ha
    cases ha
  have core : ∀ H : Hp, (∀ b, b ≠ Tb → H b = none ∨ ∃ o xs, H b = some (.frz o (.lst xs))) → SqL K H a (ns.map V.int) → HOk P w H s₁.heap → (∀ b, H b ≠ none → b = a ∨ b = Tb) → (H a ≠ none → K.lookup a = none) → H Tb = some (.tbl #[]) →
      codeAny (model P w) callerA (.call (.ref fa) ⟨[.ref a], []⟩) (fun r s' => r = .ok (.ret (.bool true)) ∧ OldK s₁.heap s'.heap ∧ s'.os = s₁.os ∧ AllBare s'.gens) s₁ := by
    intro H hO hS hok hA hK hHT
    have base_of : ∀ {b : Addr} {o : Obj}, s₁.heap.get? b = some o → H b = none → (hidT s₁.heap H).get? b = some o := fun e n => hidT_get e n
    have noA : ∀ {b : Addr} {o : Obj} {es : Array DictEntry} {ep : Nat}, s₁.heap.get? b = some o → o.data = .dict es ep → H b = none := fun {b o es ep} e d => by
      cases q : H b with
      | none => rfl
      | some u =>
        rcases hA b (by rw [q]; simp) with e' | e'
        · subst e'
          rw [ha] at e; cases e
          have d' : Data.seq vs.toArray _ = Data.dict es ep := d
          cases d'
        · subst e'
          rw [hT] at e; cases e
          have d' : Data.fields #[] = Data.dict es ep := d
          cases d'
    have nsK : ∀ {b : Addr} {m : Str → Option Value}, s₁.heap.Ns b m → (hidT s₁.heap H).Ns b m := fun {b m} ⟨o, es, ep, e, d, r⟩ => ⟨o, es, ep, base_of e (noA e d), d, r⟩
    have hKb : K.In (hidT s₁.heap H) := fun b o e => base_of (KX b o e) (by
      cases q : H b with
      | none => rfl
      | some u =>
        rcases hA b (by rw [q]; simp) with e' | e'
        · subst e'
          rw [hK (by rw [q]; simp)] at e; cases e
        · subst e'
          rw [hTK] at e; cases e)
    have hBM : BltMod mg (hidT s₁.heap H) := by
      obtain ⟨bm, ob, b1, b2, b3, b4, b5, b6, b7⟩ := hbm
      refine ⟨bm, ob, b1, b2, b3, base_of b4 ?_, b5, b6, b7⟩
      cases q : H bm with
      | none => rfl
      | some u =>
        rcases hA bm (by rw [q]; simp) with e' | e'
        · subst e'
          rw [ha] at b4; cases b4
          have b5' : Value.type "list" = Value.type "module" := b5
          exact absurd (Value.type.inj b5') (by decide)
        · subst e'
          rw [hT] at b4; cases b4
          have b5' : Value.none = Value.type "module" := b5
          cases b5'
    have hM : Mod K mg (hidT s₁.heap H) := ⟨hKb, nsK hns, ⟨mb, nsK hb, hbb⟩, let ⟨mc, h1, h2⟩ := hlim; ⟨mc, nsK h1, h2⟩⟩
    have e0 : Env0 P w K mg (hidT s₁.heap H) callerA [] s₁ H := ⟨rfl, hM, fun b o e => of_hidT e, Nat.le_of_eq (hidT_size _ _), trivial, fun b hb => absurd (show b ∈ ([] : List Addr) from hb) (by simp), hok, .of_eq hg⟩
    refine codeAny_mono ((F _ hKb (nsK hns) hBM).run callerA [] s₁ H ⟨[.ref a], []⟩ [.ref a] [.ref a] _ _ hr e0 (hbind s₁ (.ref a)) (.cons rfl .nil) (hsp H hS hHT)) fun r s' h => ?_
    cases r with
    | error e => exact (hCX H e s' h).elim
    | ok fl =>
      cases fl with
      | next => exact False.elim h
      | brk => exact False.elim h
      | cont => exact False.elim h
      | ret u =>
        obtain ⟨v, H', os, bare, un, hok', r', q⟩ := h
        have q' : v = .bl true := q
        subst q'
        obtain rfl : u = Value.bool true := r'
        have kept : ∀ b o, b ≠ Tb → s₁.heap.get? b = some o → s'.heap.get? b = some o := fun b o bT e => by
          cases q : H b with
          | none => exact un.keep b o e q (by intro z; exact absurd (show b ∈ ([] : List Addr) from z) (by simp)) (by simp)
          | some u =>
            rcases hO b bT with z | ⟨ob, xs, z⟩
            · rw [q] at z; cases z
            · have z2 := un.frzs b ob _ z
              obtain ⟨e1, _⟩ := hok b _ z
              obtain ⟨e2, _⟩ := hok' b _ z2
              rw [e] at e1; cases e1
              exact e2
        obtain ⟨more, hm⟩ := un.tbls Tb #[] hHT
        have gT : s'.heap.get? Tb = some { cls := .none, data := .fields (#[] ++ more) } := hok' Tb _ hm
        refine ⟨rfl, ⟨fun b o e => ?_, fun b o e => ?_⟩, os, bare⟩
        · by_cases z : b = Tb
          · subst z
            rw [hT] at e
            cases e
            exact .inr (.inl ⟨hTC, rfl, #[], more, rfl, gT⟩)
          · exact .inl (kept b o z e)
        · by_cases z : b = Tb
          · exact ⟨_, by rw [z]; exact gT⟩
          · exact ⟨o, kept b o z e⟩
  cases hk : K.lookup a with
  | some o =>
    have e := KX a o hk
    rw [ha] at e
    cases e
    refine core (fun b => if b = Tb then some (.tbl #[]) else none) (fun b bT => .inl (if_neg bT)) (.inr ⟨_, vs.toArray, _, hk, rfl, rfl, rfl, by rw [List.size_toArray, lenV]; exact hl, by simpa using rv⟩) (fun b u z => ?_) (fun b z => ?_) (fun z => absurd (if_neg aT) z) (if_pos rfl)
    · by_cases hb : b = Tb
      · have z' := (if_pos hb).symm.trans z
        cases z'
        rw [hb]
        exact hT
      · have z' := (if_neg hb).symm.trans z
        cases z'
    · by_cases hb : b = Tb
      · exact .inr hb
      · exact absurd (if_neg hb) z
  | none =>
    refine core (fun b => if b = a then some (.frz { cls := .type "list", data := .seq vs.toArray } (.lst (ns.map V.int))) else if b = Tb then some (.tbl #[]) else none) (fun b bT => ?_) (.inl (.inr ⟨{ cls := .type "list", data := .seq vs.toArray }, if_pos rfl⟩)) (fun b u z => ?_) (fun b z => ?_) (fun _ => hk) ((if_neg (Ne.symm aT)).trans (if_pos rfl))
    · by_cases hb : b = a
      · exact .inr ⟨_, _, if_pos hb⟩
      · exact .inl ((if_neg hb).trans (if_neg bT))
    · by_cases hb : b = a
      · have z' := (if_pos hb).symm.trans z
        cases z'
        subst hb
        exact ⟨ha, by rw [List.length_map]; exact hl, vs, _, rv, ha⟩
      · have z' := (if_neg hb).symm.trans z
        by_cases hc : b = Tb
        · have z' := (if_pos hc).symm.trans z'
          cases z'
          rw [hc]
          exact hT
        · have z' := (if_neg hc).symm.trans z'
          cases z'
    · by_cases hb : b = a
      · exact .inl hb
      · by_cases hc : b = Tb
        · exact .inr hc
        · exact absurd ((if_neg hb).trans (if_neg hc)) z
theorem Fun.okEC {P : Program} {w : World} {K : PySem.W.Frag} {mg : Str → Option Value} {base : Heap} {x qual : Str} {st : Stmt} {f : Addr} {fd : FuncData} {N ps : List Str} {k : Nat} {sp : Sp} (F : Fun K x qual st f fd) (S : FnScope N ps (defScope st))
    (len : ∀ vs H Q E, sp vs H Q E → vs.length = ps.length)
    (hbody : ∀ (cdv : Value), fd.code = cdv → ∀ (A : Around) (outer : List Env) (s : Shared) (H : Hp) (vs : List V) (Q : VK) (E : XK), Room k (A.deeper (envOfC qual (defScope st) s.heap.objs.size f cdv)) → sp vs H Q E →
      ∃ t, PSs (cxOf (CXE P w) P w K mg base N qual (defScope st) f cdv A outer s H E) (defBody st) t ∧ t { nx := fun _ H' => Q .non H', rt := Q } (start N vs) H) : FnOk P w K mg base (CXE P w) (k + 1) f fd ps sp := by
  obtain ⟨oc, od, kV, doc, pm, an, cdv, ct, osl, rfl, lk, hcd⟩ := F.ex
  exact fn_of lk hcd S len fun A outer s H vs Q E hr hsp => hbody cdv rfl A outer s H vs Q E hr hsp
def retE (s : Stmt) : Expr := match s with
  | .Return (some e) _ => e
  | _ => .Constant .none 0 ⟨0, 0, 0, 0⟩
def kwE (e : Expr) (i : Nat) : Expr := match e with
  | .Call _ _ ks _ => (match ks[i]? with | some k => k.value | none => e)
  | _ => e
def lamB (e : Expr) : Expr := match e with
  | .Lambda _ b _ _ => b
  | _ => e
def lamS (e : Expr) : Scope := match e with
  | .Lambda _ _ s _ => s
  | _ => { kind := .function, names := [], isGenerator := false, isCoroutine := false }
end L2

/-! LAMP Ml: a lambda made again; min(xs, key=lambda x: .., default=None) as often as wanted -/
namespace L2
open PySem PySem.Spec PyProof.Rows
def TabOk (H : Hp) (Tb : Addr) (pos : Pos) (qual : Str) : Prop := H Tb = some (.tbl #[]) ∨ ∃ c', H Tb = some (.tbl #[rawInt pos.line, rawInt pos.col, .ref c']) ∧ H c' = some (codeX c' qual)
theorem TabOk.same {H H' : Hp} {Tb : Addr} {pos : Pos} {qual : Str} (t : TabOk H Tb pos qual) (s : Same H H') : TabOk H' Tb pos qual := by
  rcases t with h | ⟨c', h1, h2⟩
  · exact .inl (s _ _ h)
  · exact .inr ⟨c', s _ _ h1, s _ _ h2⟩
theorem TabOk.tbl {H : Hp} {Tb : Addr} {pos : Pos} {qual : Str} (t : TabOk H Tb pos qual) : ∃ ps, H Tb = some (.tbl ps) := by
  rcases t with h | ⟨c', h1, _⟩
  · exact ⟨_, h⟩
  · exact ⟨_, h1⟩
section
variable {X : Cx} {pins : List (Addr × Obj)} {σ : St} {H : Hp} {s : Shared}
theorem lam_hit {c Tb c' : Addr} {ps : Array Value} {params : Arguments} {body : Expr} {scope : Scope} {pos : Pos} {Q E : Value → Shared → Prop} (I : Inv X pins σ H s) (hdef : defaultsOf params X.env = ([], [])) (hcl : closureFor scope X.env = pure []) (hcode : X.env.code = .ref c)
    (C : PySem.W.CodeHd X.base c Tb) (hT : H Tb = some (.tbl ps)) (ht : TriplesOk ps.toList) (hf : codeAmong pos ps.toList = some (.ref c')) (hb : BltMod X.mg X.base)
    (h : ∀ f ctv s', H f = none → Inv X pins σ (upd H f (objX f (lamO X params body scope c' ctv))) s' → Q (.ref f) s') : wpAny (model X.prog X.w) X.A (eval (.Lambda params body scope pos) X.env) Q E s := by
  obtain ⟨bm, ob, b1, b2, b3, b4, b5, b6, b7⟩ := hb
  have hP : s.heap.get? Tb = some { cls := .none, data := .fields ps } := I.hok Tb _ hT
  have bB : bm ≠ Tb := fun z => by
    have := (I.bs _ _ b4).2
    rw [z, hT] at this
    cases this
  refine PySem.W.kla_eval hdef (PySem.W.kla_makeFunctionHit (mg := X.mg) hcl I.ok.glob (I.mod.glob.keeps I.bk) hcode (C.keeps I.bk) hP ht hf ⟨bm, ob, b1, b2, b3, bB, I.bk _ _ b4, b5, b6, b7⟩ fun ctv h1 tk hk hsz => ?_)
  have I1 : Inv X pins σ H { s with heap := h1, toks := tk } := I.kept hk
  have I3 := I1.laid (a := h1.objs.size) (o := objX h1.objs.size (lamO X params body scope c' ctv)) (t' := tk) (h' := h1.push (lamO X params body scope c' ctv)) (fun b u e => Heap.get?_push_of_some _ e) (Nat.le_refl _) (objX_ok (Heap.get?_push_size _ rfl))
  exact h h1.objs.size ctv _ (I.hok.fresh hsz) I3
end
section
variable {X : Cx} {e body : Expr} {p pos k1 k2 lp cp : Pos} {j : Nat} {x : Str} {params : Arguments} {scope : Scope} {ta : TA} {t : TE} {N : List Str} {c Tb : Addr} {k : Nat}
def tMinT (Tb : Addr) (lp : Pos) (qual : Str) (ta : TA) : TE := fun σ H Q => ta σ H fun vs H1 => ∃ (l : Addr) (zs : List (Addr × List Nat)), vs = [.ref l] ∧ H1 l = some (.lst (zs.map fun z => V.ref z.1)) ∧ (∀ z ∈ zs, H1 z.1 = some (.lst (natsV z.2))) ∧ TabOk H1 Tb lp qual ∧
  ∀ H', SameT Tb H1 H' → TabOk H' Tb lp qual → (zs = [] → Q .non H') ∧ ∀ z0 rest b, zs = z0 :: rest → b ∈ zs → b.2 = Lamp.best z0.2 (rest.map (·.2)) → Q (.ref b.1) H'
theorem pe_minT (hr : Room (k + 2) X.A) (hg : Gl X "min") (hm : X.mg "min" = none) (ha : PA X [e] ta) (hdef : defaultsOf params X.env = ([], [])) (hcl : closureFor scope X.env = pure []) (hcode : X.env.code = .ref c) (C : PySem.W.CodeHd X.base c Tb) (hb : BltMod X.mg X.base)
    (S : FnScope N [x] scope) (hbind : ∀ (s : Shared) (u pm cd ctv : Value), BindsTo s (PySem.W.kla_fn "<lambda>" (X.env.qual ++ "<lambda>") params body scope [] pm cd ctv) ⟨[u], []⟩ [(x, u)])
    (ht : ∀ (f c' : Addr) (A : Around) (outer : List Env) (s : Shared) (H : Hp), PE (cxOf CX0 X.prog X.w X.K X.mg X.base N (X.env.qual ++ "<lambda>") scope f (.ref c') A outer s H E0) body t)
    (hkey : ∀ (H : Hp) (b : Addr) (os : List Nat) (Q : VK), H b = some (.lst (natsV os)) → (∀ T, H T = none → Q (.ref T) (upd H T (.tup [.int (os.length : Int), .ref b]))) → t (start N [.ref b]) H Q)
    (he : starEach [e] X.env = [(false, eval e X.env)] := by rfl) : PE X (.Call (.Name "min" p) [e] [⟨some "key", .Lambda params body scope lp, k1⟩, ⟨some "default", .Constant .none j cp, k2⟩] pos) (tMinT Tb lp (X.env.qual ++ "<lambda>") ta) := by
  intro pins s σ H Q I h
  refine wpAny_Call_Name_kw (ld_blt I hg hm (show bootBuiltins "min" = some (.builtin "min") by decide +kernel) ?_ (by decide) (by decide))
  refine callWith_kw (thn (ha pos pins s σ H _ I h) fun us s1 ⟨vs, H1, I1, r1, l, zs, ev, hl, hz, hT, q⟩ => ?_) (by simp only [he]; rfl) (by simp only [he]; rfl)
  subst ev
  obtain ⟨u, rfl, ru⟩ := Vals.one r1
  cases ru
  have un : X.A.units + 16 * (k + 2) + 200 < cLine := hr.un
  have lT : ∀ b xs, H1 b = some (.lst xs) → b ≠ Tb := fun b xs e z => by
    obtain ⟨ps, hp⟩ := hT.tbl
    rw [z, hp] at e
    cases e
  have core : ∀ (f c' : Addr) (ctv : Value) (s2 : Shared) (H3 : Hp), Inv X pins σ H3 s2 → (∀ b o, b ≠ Tb → H1 b = some o → H3 b = some o) → H3 f = some (objX f (lamO X params body scope c' ctv)) → H3 c' = some (codeX c' (X.env.qual ++ "<lambda>")) → TabOk H3 Tb lp (X.env.qual ++ "<lambda>") →
      wpAny (model X.prog X.w) X.A (evalAll ((backToKw pos (keywordEach [⟨some "default", .Constant .none j cp, k2⟩] X.env)).map (·.2))) (fun vs s₂ => wpAny (model X.prog X.w) X.A (call (.builtin "min") [.ref l] (((backToKw pos (keywordEach [⟨some "key", .Lambda params body scope lp, k1⟩, ⟨some "default", .Constant .none j cp, k2⟩] X.env)).filterMap (·.1)).zip (.ref f :: vs))) (EP X pins σ Q) X.xe s₂) X.xe s2 := by
    intro f c' ctv s2 H3 I2 up hf3 hc3 tab3
    refine kws_cons (thn (pe_non pins s2 σ _ (fun v H' => v = .non ∧ H' = _) I2 ⟨rfl, rfl⟩) fun w s3 ⟨v, H4, I3, rv, e1, e2⟩ => kws_nil ?_)
    subst e1 e2
    cases rv
    show wpAny _ _ (call (.builtin "min") [.ref l] [("key", .ref f), ("default", .none)]) _ _ _
    refine min_run I3 hr.hd (by show X.A.units + 1 < _; omega) (by show X.A.units + 1 + 1 < _; omega) (up _ _ (lT _ _ hl) hl) (fun z h => up _ _ (lT _ _ (hz z h)) (hz z h)) (fun z zm pins' H' s' sm I' => ?_) (fun ez H' s' sm I' => ?_) fun z0 rest b ez bm eb H' s' sm I' => ?_
    · exact key_call (v := .ref z.1) I' (I'.objX (sm _ _ hf3)) (I'.codeX (sm _ _ hc3)) S hr.in1 (fun s u => hbind s u _ _ _) rfl (ht f c' _ _ _ _) (hkey H' z.1 z.2 _ (sm _ _ (up _ _ (lT _ _ (hz z zm)) (hz z zm))) fun T hT' => ⟨T, rfl, hT', rfl⟩)
    · exact ⟨.non, H', I', rfl, (q H' (fun b o hb e => sm _ _ (up b o hb e)) (tab3.same sm)).1 ez⟩
    · exact ⟨.ref b.1, H', I', rfl, (q H' (fun b o hb e => sm _ _ (up b o hb e)) (tab3.same sm)).2 z0 rest b ez bm eb⟩
  rcases hT with hT | ⟨c', hT, hc'⟩
  · refine kws_cons (lam_eval I1 hdef hcl hcode C hT trivial rfl hb fun f c' ctv s2 nf nc fc I2 => ?_)
    have cT : c' ≠ Tb := fun z => by rw [z, hT] at nc; cases nc
    have fT : f ≠ Tb := fun z => by rw [z, hT] at nf; cases nf
    refine core f c' ctv s2 _ I2 (fun b o hb e => ?_) upd_same (by rw [upd_ne fc.symm, upd_same]) (.inr ⟨c', ?_, by rw [upd_ne fc.symm, upd_same]⟩)
    · rw [upd_ne (ne_of_none e nf), upd_ne (ne_of_none e nc), upd_ne hb]
      exact e
    · rw [upd_ne fT.symm, upd_ne cT.symm, upd_same]
      rfl
  · refine kws_cons (lam_hit I1 hdef hcl hcode C hT trivial (codeAmong_snoc [] trivial rfl) hb fun f ctv s2 nf I2 => ?_)
    have sm : Same H1 (upd H1 f (objX f (lamO X params body scope c' ctv))) := Same.laid nf
    exact core f c' ctv s2 _ I2 (fun b o _ e => sm b o e) upd_same (sm _ _ hc') (TabOk.same (.inr ⟨c', hT, hc'⟩) sm)
end
def lamP (e : Expr) : Pos := match e with
  | .Lambda _ _ _ p => p
  | _ => ⟨0, 0, 0, 0⟩
end L2

/-! LAMP Mm: min of a list of pairs (length, list) -/
namespace L2
open PySem PySem.Spec PyProof.Rows PySem.SeqAt
section
variable {pr : Program} {w : World} {A : Around} {R : Result → Shared → Prop} {I S : Addr}
def twiceL : Option Value → List Value
  | none => []
  | some x => [x, x]
theorem min_go0 (J : Nat → Option Value → Shared → Prop)
    (hS : ∀ n o s, J n o s → ∃ c, s.heap.get? S = some (seqObj "list" (twiceL o).toArray c))
    (turn : ∀ n o s, J n o s → wpAny (model pr w) A.in1 (pyNext (.ref I)) (fun r s1 => (∃ c, s1.heap.get? S = some (seqObj "list" (twiceL o).toArray c)) ∧ (match r with
      | none => (match o with
        | none => False
        | some x => R (.ok (.ret x)) { s1 with heap := s1.heap.update S (Obj.mapSeq fun _ => #[]) })
      | some x => (match o with
        | none => ∃ m, m < n ∧ J m (some x) (newBest s1 S x x)
        | some y => ∃ b, (∀ (E Q : Value → Shared → Prop), Q (.bool b) s1 → wpAny (model pr w) A.in1 (richCompare .Lt x y) Q E s1) ∧ ∃ m, m < n ∧ (if b = true then J m (some x) (newBest s1 S x x) else J m o s1)))) (fun _ _ => False) s) :
    ∀ (n : Nat) (o : Option Value) (s : Shared), J n o s → codeAny (model pr w) A (.builtin "min.loop" ⟨[.ref I, .none, .ref S], []⟩) R s := by
  have nm : (toString "min" ++ toString ".loop" : String) = "min.loop" := by decide
  intro n
  induction n using Nat.strongRecOn with
  | ind n ih =>
    intro o s hJ
    obtain ⟨c, hc⟩ := hS n o s hJ
    refine codeAny_builtin PySem.F.entry_min_loop ?_
    rw [Around.under_plainId PySem.F.plain_min_loop _]
    show wpAny _ A.in1 (seqItems? (.ref S) >>= _) _ _ _
    refine wpAny_bind (wpAny_seqItems hc rfl ?_)
    show wpAny _ A.in1 (tryCatch (pyNext (.ref I)) _ >>= _) _ _ _
    refine wpAny_bind (wpAny_tryCatch (wpAny_mono (turn n o s hJ) (fun r s1 h1 => ?_) fun _ _ z => z.elim))
    obtain ⟨⟨c1, hc1⟩, h1⟩ := h1
    cases r with
    | none =>
      cases o with
      | none => exact h1.elim
      | some x =>
        show wpAny _ A.in1 (updateSeq S (fun _ => #[]) >>= _) _ _ _
        exact wpAny_bind (wpAny_updateSeq hc1 rfl (wpAny_bind (wpAny_letGo (wpAny_pure h1))) (hz := by show 2 ≤ sizeLine; decide))
    | some x =>
      refine wpAny_bind (wpAny_pure ?_)
      cases o with
      | none =>
        obtain ⟨m, hm, j⟩ := h1
        show wpAny _ A.in1 (updateSeq S (fun _ => #[x, x]) >>= _) _ _ _
        refine wpAny_bind (wpAny_updateSeq hc1 rfl ?_)
        rw [nm]
        exact wpAny_pure ⟨plainId_quiet PySem.F.plain_min_loop _, ih m hm _ _ j⟩
      | some y =>
        obtain ⟨b, hb, m, hm, j⟩ := h1
        show wpAny _ A.in1 (tryCatch (holding [x, x] (richCompare .Lt x y >>= _)) _ >>= _) _ _ _
        refine wpAny_bind (wpAny_tryCatch (wpAny_holding (wpAny_bind (hb _ _ ?_))))
        refine wpAny_bind (wpAny_holding (wpAny_truthy_bool ?_))
        refine wpAny_bind (wpAny_letGo (wpAny_pure ?_))
        cases b with
        | true =>
          rw [if_pos rfl] at j ⊢
          refine wpAny_bind (wpAny_updateSeq hc1 rfl (wpAny_bind (wpAny_letGo ?_)) (hz := by show 2 ≤ sizeLine; decide))
          rw [nm]
          exact wpAny_pure ⟨plainId_quiet PySem.F.plain_min_loop _, ih m hm _ _ j⟩
        | false =>
          rw [if_neg Bool.false_ne_true] at j ⊢
          refine wpAny_bind (wpAny_letGo ?_)
          rw [nm]
          exact wpAny_pure ⟨plainId_quiet PySem.F.plain_min_loop _, ih m hm _ _ j⟩
end
theorem min_args0 (a : Value) : argsOk "min" ⟨[a], []⟩ := by unfold argsOk; kernel_rfl
theorem min_enter0 {prog : Program} {w : World} {A : Around} {E : Value → Shared → Prop} {s : Shared} {l : Addr} {vs : Array Value} {Q : Value → Shared → Prop} (hl : s.heap.IsList l vs)
    (h : codeAny (model prog w) A (.builtin "min.loop" ⟨[.ref s.heap.objs.size, .none, .ref (s.heap.push (iterO l)).objs.size], []⟩) (fun r s' => match r with | .ok (.ret v) => Q v s' | .ok _ => False | .error e => E e s') { s with heap := (s.heap.push (iterO l)).push (seqObj "list" #[] 0) }) :
    wpAny (model prog w) A (call (.builtin "min") [.ref l]) Q E s := by
  have nm : (toString "min" ++ toString ".loop" : String) = "min.loop" := by decide
  refine kmk_tree PySem.F.kind_min PySem.F.plain_min PySem.F.entry_min (min_args0 _) ?_
  show wpAny _ A.in1 (Builtin.Builtins.bindParams "min" ["key", "default"] 0 ⟨[], []⟩ >>= _) _ _ s
  refine wpAny_bind (wpAny_of_eq (show Builtin.Builtins.bindParams "min" ["key", "default"] 0 ⟨[], []⟩ = pure [none, none] from rfl) ?_)
  refine wpAny_bind (wpAny_pure ?_)
  refine wpAny_bind (wpAny_pyIter_list hl ?_)
  refine wpAny_bind (wpAny_newList ?_ (Nat.zero_le _))
  rw [nm]
  exact wpAny_pure ⟨plainId_quiet PySem.F.plain_min_loop _, h⟩
theorem ref_vals : ∀ {ws : List V} {us vs : List Value}, Vals ws us → Vals ws vs → (∀ w ∈ ws, ∃ a, w = .ref a) → us = vs := by
  intro ws us vs r1
  induction r1 generalizing vs with
  | nil => intro r2 _; cases r2; rfl
  | cons a t ih =>
    intro r2 hr
    cases r2 with
    | cons b t2 =>
      obtain ⟨x, rfl⟩ := hr _ List.mem_cons_self
      cases a
      cases b
      rw [ih t2 fun w hw => hr w (List.mem_cons_of_mem _ hw)]
section
variable {X : Cx} {pins : List (Addr × Obj)} {σ : St} {H : Hp} {s : Shared} {E Q : Value → Shared → Prop}
structure KeysAt (H : Hp) (l : Addr) (zs : List (Addr × Addr × List Nat)) : Prop where
  top : H l = some (.lst (zs.map fun z => V.ref z.1))
  at_ : ∀ z ∈ zs, H z.1 = some (.tup [.int (z.2.2.length : Int), .ref z.2.1]) ∧ H z.2.1 = some (.lst (natsV z.2.2))
theorem min_run0 {l : Addr} {zs : List (Addr × Addr × List Nat)} (I : Inv X pins σ H s) (hh : X.A.handled = none) (hu : X.A.in1.units < cLine) (hu1 : X.A.in1.in1.units < cLine) (hl : KeysAt H l zs) (hne : zs ≠ [])
    (fin1 : ∀ z0 rest b, zs = z0 :: rest → b ∈ zs → b.2.2 = Lamp.best z0.2.2 (rest.map (·.2.2)) → ∀ (H' : Hp) (s' : Shared), Same H H' → Inv X pins σ H' s' → Q (.ref b.1) s') : wpAny (model X.prog X.w) X.A (call (.builtin "min") [.ref l]) Q E s := by
  obtain ⟨its, r, pl, hlen⟩ := I.list (SqL.of hl.top)
  refine min_enter0 pl.isList ?_
  have I1 : Inv X pins σ H { s with heap := s.heap.push (iterO l) } := I.kept (t' := s.toks) fun b u e => Heap.get?_push_of_some _ e
  have I2 := I1.lnew (ys := []) (its := []) (t' := s.toks) .nil (Nat.zero_le _)
  have fr := I.fresh
  have fp := I.fpOk (H' := H) (Nat.le_refl _) fr
  have gI : ((s.heap.push (iterO l)).push (seqObj "list" #[] 0)).get? s.heap.objs.size = some (iterO l) := Heap.get?_push_of_some _ (Heap.get?_push_size _ rfl)
  have frS : H (s.heap.push (iterO l)).objs.size = none := I.hok.fresh (by rw [Heap.size_push]; omega)
  have neS : (s.heap.push (iterO l)).objs.size ≠ s.heap.objs.size := by rw [Heap.size_push]; omega
  have I2 : Inv X pins σ (upd H (s.heap.push (iterO l)).objs.size (.lst [])) { s with heap := (s.heap.push (iterO l)).push (seqObj "list" #[] 0) } := I2
  generalize (s.heap.push (iterO l)).objs.size = S at I2 frS neS ⊢
  generalize s.heap.objs.size = It at fr fp gI neS ⊢
  have nl : l ≠ It := fun z => by rw [← z, hl.top] at fr; cases fr
  let J : Nat → Option Value → Shared → Prop := fun n o s' => ∃ (i : Nat) (H' : Hp) (ws : List V), n = zs.length - i ∧ i ≤ zs.length ∧ Inv X pins σ H' s' ∧ Same H H' ∧ s'.heap.IsListIter It l i ∧ H' It = none ∧ H' S = some (.lst ws) ∧ Vals ws (twiceL o) ∧ (∀ w ∈ ws, ∃ a, w = .ref a) ∧
    ((o = none ∧ i = 0) ∨ ∃ z0 rest b, zs = z0 :: rest ∧ 0 < i ∧ b ∈ zs ∧ b.2.2 = Lamp.best z0.2.2 ((rest.take (i - 1)).map (·.2.2)) ∧ o = some (.ref b.1))
  have smS : ∀ {H' : Hp} {o : HO}, Same H H' → Same H (upd H' S o) := fun {H' o} sm b u e => by
    rw [upd_ne (ne_of_none e frS)]
    exact sm b u e
  refine min_go0 J ?_ ?_ (zs.length - 0) none _ ⟨0, _, [], rfl, Nat.zero_le _, I2, smS fun _ _ e => e, ⟨_, gI, rfl, rfl⟩, by rw [upd_ne neS.symm]; exact fr, upd_same, .nil, fun w hw => absurd hw List.not_mem_nil, .inl ⟨rfl, rfl⟩⟩
  · rintro n o s' ⟨i, H', ws, rfl, hi, I', sm, hit, nIt, hw, rw0, rr, rel⟩
    obtain ⟨_, jts, c, rv, _, e⟩ := I'.lstM hw
    rw [ref_vals rv rw0 rr] at e
    exact ⟨c, e⟩
  rintro n o s' ⟨i, H', ws, rfl, hi, I', sm, hit, nIt, hw, rw0, rr, rel⟩
  have hl' := sm _ _ hl.top
  obtain ⟨its', r', pl', _⟩ := I'.list (SqL.of hl')
  have e' : its' = (zs.map (·.1)).map Value.ref := vals_refs (tas := zs.map (·.1)) (by rw [List.map_map]; exact r')
  have W := Walks.list (prog := X.prog) (w := X.w) (A := X.A.in1) hh It l nl its'.toArray
  have sz : its'.toArray.size = zs.length := by rw [e']; simp
  by_cases lt : i < zs.length
  · refine W.item i s' _ _ (by rw [sz]; exact lt) ⟨hit, pl'.isList⟩ fun v h' tk hP hst hk => ?_
    obtain ⟨z, zi⟩ : ∃ z, zs[i]? = some z := ⟨zs[i], by simp [lt]⟩
    have zm := List.mem_of_getElem? zi
    have hv : v = .ref z.1 := by
      rw [e'] at hP
      simp [zi] at hP
      exact hP.symm
    subst hv
    have I3 : Inv X pins σ H' { s' with heap := h', toks := tk } := I'.turned (fun b o hb e => hk b o (by simpa using hb) e) nIt fp.2.1 fp.2.2.2.1 fp.2.2.2.2.1 fp.2.2.2.2.2
    obtain ⟨_, jts, c, rvS, _, eS⟩ := I3.lstM hw
    have ej := ref_vals rvS rw0 rr
    have eS0 := eS
    rw [ej] at eS0
    have newI : Inv X pins σ (upd H' S (.lst [.ref z.1, .ref z.1])) (newBest { s' with heap := h', toks := tk } S (.ref z.1) (.ref z.1)) := I3.lset (f := fun _ => #[.ref z.1, .ref z.1]) (its' := [.ref z.1, .ref z.1]) (t' := tk) hw eS rfl (.cons rfl (.cons rfl .nil)) (by show 2 ≤ sizeLine; decide)
    obtain ⟨oI, gI2, oc, od⟩ := id hst.1
    have hit3 : (newBest { s' with heap := h', toks := tk } S (.ref z.1) (.ref z.1)).heap.IsListIter It l (i + 1) := ⟨oI, (Heap.get?_update_other h' _ neS).trans gI2, oc, od⟩
    have newJ : ∀ z0 rest, zs = z0 :: rest → z.2.2 = Lamp.best z0.2.2 ((rest.take i).map (·.2.2)) → J (zs.length - (i + 1)) (some (.ref z.1)) (newBest { s' with heap := h', toks := tk } S (.ref z.1) (.ref z.1)) := fun z0 rest ez eb =>
      ⟨i + 1, _, [.ref z.1, .ref z.1], rfl, lt, newI, smS sm, hit3, by rw [upd_ne neS.symm]; exact nIt, upd_same, .cons rfl (.cons rfl .nil), fun w hw => by
        rcases List.mem_cons.mp hw with h | h
        · exact ⟨_, h⟩
        · exact ⟨_, List.mem_singleton.mp h⟩, .inr ⟨z0, rest, z, ez, Nat.succ_pos _, zm, eb, rfl⟩⟩
    refine ⟨⟨c, eS0⟩, ?_⟩
    rcases rel with ⟨rfl, rfl⟩ | ⟨z0, rest, b, ez, i0, bm, eb, rfl⟩
    · refine ⟨zs.length - (0 + 1), by omega, ?_⟩
      cases hzs : zs with
      | nil => rw [hzs] at zi; cases zi
      | cons z0 rest =>
        rw [hzs] at zi
        have e0 : z0 = z := by simpa using zi
        subst e0
        rw [← hzs]
        exact newJ z0 rest hzs rfl
    · have snoc : Lamp.best z0.2.2 ((rest.take i).map (·.2.2)) = if Lamp.ltK z.2.2 b.2.2 then z.2.2 else b.2.2 := by
        have ei : i = (i - 1) + 1 := by omega
        have zr : rest[i - 1]? = some z := by
          rw [ez, ei] at zi
          simpa using zi
        rw [ei, List.take_add_one, zr, List.map_append]
        show Lamp.best z0.2.2 ((rest.take (i - 1)).map (·.2.2) ++ [z.2.2]) = _
        rw [best_snoc, ← eb]
      obtain ⟨t1, t2⟩ := hl.at_ z zm
      obtain ⟨u1, u2⟩ := hl.at_ b bm
      refine ⟨Lamp.ltK z.2.2 b.2.2, fun E' Q' h => lt_keys I3 (SqT.of (sm _ _ t1)) (SqT.of (sm _ _ u1)) (SqL.of (sm _ _ t2)) (SqL.of (sm _ _ u2)) hu hu1 X.prog X.w E' Q' h, zs.length - (i + 1), by omega, ?_⟩
      cases cc : Lamp.ltK z.2.2 b.2.2 with
      | true =>
        rw [if_pos rfl]
        rw [cc, if_pos rfl] at snoc
        exact newJ z0 rest ez snoc.symm
      | false =>
        rw [if_neg Bool.false_ne_true]
        rw [cc, if_neg Bool.false_ne_true] at snoc
        exact ⟨i + 1, _, ws, rfl, lt, I3, sm, hst.1, nIt, hw, rw0, rr, .inr ⟨z0, rest, b, ez, Nat.succ_pos _, bm, snoc.symm, rfl⟩⟩
  · have ei : i = zs.length := by omega
    refine W.done s' _ _ ⟨by rw [sz, ← ei]; exact hit, pl'.isList⟩ fun h' tk hk => ?_
    have I3 : Inv X pins σ H' { s' with heap := h', toks := tk } := I'.turned (fun b o hb e => hk b o (by simpa using hb) e) nIt fp.2.1 fp.2.2.2.1 fp.2.2.2.2.1 fp.2.2.2.2.2
    obtain ⟨_, jts, c, rvS, _, eS⟩ := I3.lstM hw
    have eS' := eS
    rw [ref_vals rvS rw0 rr] at eS'
    refine ⟨⟨c, eS'⟩, ?_⟩
    rcases rel with ⟨rfl, rfl⟩ | ⟨z0, rest, b, ez, i0, bm, eb, rfl⟩
    · exact absurd (List.length_eq_zero_iff.mp ei.symm) hne
    · have newI : Inv X pins σ (upd H' S (.lst [])) { s' with heap := h'.update S (Obj.mapSeq fun _ => #[]), toks := tk } := I3.lset (f := fun _ => #[]) (its' := []) (t' := tk) hw eS rfl .nil (Nat.zero_le _)
      refine fin1 z0 rest b ez bm ?_ _ _ (smS sm) newI
      rw [eb, ei, ez]
      congr 2
      rw [List.length_cons, Nat.add_sub_cancel, List.take_of_length_le (Nat.le_refl _)]
end
theorem call_minT {X : Cx} (K : PySem.W.Frag) (hc : X.calm = true) (hu : X.A.in1.units < cLine) (hu1 : X.A.in1.in1.units < cLine) (h : X.K = K := by rfl) : CallR X (.builtin "min") (fun xs H Q => ∃ (l : Addr) (zs : List (Addr × Addr × List Nat)), xs = [.ref l] ∧ KeysAt H l zs ∧ zs ≠ [] ∧
    ∀ z0 rest b, zs = z0 :: rest → b ∈ zs → b.2.2 = Lamp.best z0.2.2 (rest.map (·.2.2)) → ∀ H', Same H H' → Q (.ref b.1) H') := by
  intro pins s σ H xs us Q I r h
  obtain ⟨l, zs, rfl, hl, hne, q⟩ := h
  obtain ⟨u, rfl, ru⟩ := Vals.one r
  cases ru
  exact min_run0 I (I.ok.hd hc) hu hu1 hl hne fun z0 rest b ez bm eb H' s' sm I' => ⟨.ref b.1, H', I', rfl, q z0 rest b ez bm eb H' sm⟩
theorem bootB_min : bootBuiltins "min" = some (.builtin "min") := by decide +kernel
end L2

/-! LAMP M: lights, presses, plain mathematics -/
namespace Lamp
def par (M : Nat → Nat → Bool) : List Nat → Nat → Bool
  | [], _ => false
  | l :: ps, j => M l j ^^ par M ps j
theorem par_append (M : Nat → Nat → Bool) (ps qs : List Nat) (j : Nat) : par M (ps ++ qs) j = (par M ps j ^^ par M qs j) := by
  induction ps with
  | nil => simp [par]
  | cons l ps ih => simp [par, ih]
def flips (f : Nat → Bool) : List Nat → Nat → Bool
  | [] => f
  | o :: os => flips (fun j => if j = o then !f j else f j) os
theorem flips_of : ∀ (os : List Nat) (f : Nat → Bool) (j : Nat), os.Nodup → flips f os j = if j ∈ os then !f j else f j
  | [], f, j, _ => by simp [flips]
  | o :: os, f, j, h => by
    rw [List.nodup_cons] at h
    rw [flips, flips_of os _ j h.2]
    by_cases hj : j = o
    · subst hj
      simp [h.1]
    · simp [hj]
def mat (ties : List (Nat × Nat)) (shy : Nat → Bool) (i j : Nat) : Bool := if i = j then !shy i else ties.contains (i, j) || ties.contains (j, i)
def put2 (M : Nat → Nat → Bool) (a b : Nat) (v : Bool) (i j : Nat) : Bool := if (i = a ∧ j = b) ∨ (i = b ∧ j = a) then v else M i j
def putD (M : Nat → Nat → Bool) (a : Nat) (v : Bool) (i j : Nat) : Bool := if i = a ∧ j = a then v else M i j
theorem put2_comm (M : Nat → Nat → Bool) (a b : Nat) (v : Bool) : put2 M a b v = put2 M b a v := by
  funext i j
  unfold put2
  by_cases h1 : i = a ∧ j = b
  · simp [h1]
  · by_cases h2 : i = b ∧ j = a
    · simp [h2]
    · simp [h1, h2]
theorem mat_push {ts : List (Nat × Nat)} {f : Nat → Bool} {x y : Nat} (h : x ≠ y) : mat (ts ++ [(x, y)]) f = put2 (mat ts f) x y true := by
  funext i j
  unfold mat put2
  by_cases hij : i = j
  · subst hij
    have n1 : ¬ (i = x ∧ i = y) := fun z => h (z.1.symm.trans z.2)
    have n2 : ¬ (i = y ∧ i = x) := fun z => h (z.2.symm.trans z.1)
    simp [n1, n2]
  · by_cases h1 : i = x ∧ j = y
    · obtain ⟨rfl, rfl⟩ := h1
      simp [hij]
    · by_cases h2 : i = y ∧ j = x
      · obtain ⟨rfl, rfl⟩ := h2
        simp [hij]
      · have h2' : ¬ (j = x ∧ i = y) := fun z => h2 ⟨z.2, z.1⟩
        have e1 : ((i, j) == (x, y)) = false := by
          rw [beq_eq_false_iff_ne]
          intro z
          injection z with z1 z2
          exact h1 ⟨z1, z2⟩
        have e2 : ((j, i) == (x, y)) = false := by
          rw [beq_eq_false_iff_ne]
          intro z
          injection z with z1 z2
          exact h2 ⟨z2, z1⟩
        simp [hij, h1, h2, h2']
theorem mat_none {ts : List (Nat × Nat)} {f : Nat → Bool} {x y : Nat} (h : x ≠ y) (h1 : (x, y) ∉ ts) (h2 : (y, x) ∉ ts) : mat ts f x y = false := by
  unfold mat
  simp [h, h1, h2]
theorem mat_putD {ts : List (Nat × Nat)} {f : Nat → Bool} {a : Nat} {v : Bool} : putD (mat ts f) a v = mat ts (fun j => if j = a then !v else f j) := by
  funext i j
  unfold putD mat
  by_cases hij : i = j
  · subst hij
    by_cases ha : i = a
    · simp [ha]
    · simp [ha]
  · have : ¬ (i = a ∧ j = a) := fun z => hij (z.1.trans z.2.symm)
    simp [hij, this]
theorem mat_congr {ts : List (Nat × Nat)} {f g : Nat → Bool} {n : Nat} (h : ∀ j, j < n → f j = g j) : ∀ i j, i < n → mat ts f i j = mat ts g i j := fun i j hi => by
  unfold mat
  rw [h i hi]
theorem put2_back {M : Nat → Nat → Bool} {a b : Nat} {u : Bool} (h1 : M a b = false) (h2 : M b a = false) : put2 (put2 M a b u) b a false = M := by
  funext i j
  unfold put2
  by_cases c1 : i = a ∧ j = b
  · obtain ⟨rfl, rfl⟩ := c1
    simp [h1]
  · by_cases c2 : i = b ∧ j = a
    · obtain ⟨rfl, rfl⟩ := c2
      simp [h2]
    · simp [c1, c2]
theorem flips_push (f : Nat → Bool) (o : Nat) : ∀ (os : List Nat), flips f (os ++ [o]) = fun j => if j = o then !flips f os j else flips f os j := by
  intro os
  induction os generalizing f with
  | nil => rfl
  | cons p os ih => exact ih _
end Lamp

/-! LAMP Ma: sums of bits, more unknowns than rows, steps and what they leave -/
namespace Lamp
def xsum {α : Type} (f : α → Bool) : List α → Bool
  | [] => false
  | a :: l => f a ^^ xsum f l
section
variable {α β : Type}
end
/-! ### vectors over n places -/
def turn (n : Nat) (M : Nat → Nat → Bool) (u : Nat → Bool) (j : Nat) : Bool := xsum (fun i => u i && M i j) (List.range n)
def hdF (n : Nat) (p : Nat → Bool) : Option Nat := (List.range n).find? p
structure Ech (n : Nat) (M : Nat → Nat → Bool) (k : Nat) (t u : Nat → Nat → Bool) : Prop where
  tu : ∀ i, i < k → ∀ j, j < n → t i j = turn n M (u i) j
  own : ∀ i, i < k → u i i = true
  up : ∀ i, i < k → ∀ j, i < j → j < n → u i j = false
  hd : ∀ i h, hdF n (t i) = some h → ∀ i', i < i' → i' < k → t i' h = false
section
variable {n : Nat} {M : Nat → Nat → Bool} {t u : Nat → Nat → Bool}
end
end Lamp

/-! LAMP Q: rising lists, parities of a symmetric matrix -/
namespace Lamp
end Lamp

/-! ## the yard's defs -/
namespace Lp
open PySem L2 Lamp
def top (i : Nat) : Stmt := PySem.Challenge.pw_lampyard_k13_whole_fewest.main.body.getD i (.Pass ⟨0, 0, 0, 0⟩)
abbrev s_check_lamp : Stmt := top 11
abbrev s_check_pair : Stmt := top 12
abbrev s_untied_rows : Stmt := top 13
abbrev s_init : Stmt := inClass (top 14) 0
abbrev s_tie : Stmt := inClass (top 14) 1
abbrev s_untie : Stmt := inClass (top 14) 2
abbrev s_put_tie : Stmt := inClass (top 14) 3
abbrev s_is_tied : Stmt := inClass (top 14) 4
abbrev s_set_shy : Stmt := inClass (top 14) 5
abbrev s_is_shy : Stmt := inClass (top 14) 6
abbrev s_turns : Stmt := inClass (top 14) 7
theorem rgL {n : Nat} : -(2 ^ 62) ≤ (n : Int) := by omega
theorem rgU {n : Nat} (h : n ≤ 24) : (n : Int) < 2 ^ 62 := by omega
theorem r1000 {n : Nat} (h : n ≤ 24) : n ≤ 1000 := by omega
theorem tn0 (i : Nat) : (0 + (i : Int)).toNat = i := by omega
theorem filt_t {α : Type} (l : List α) : l.filter (fun _ => true) = l := List.filter_eq_self.mpr fun _ _ => rfl
def rowL (n : Nat) (f : Nat → Bool) : List Bool := (List.range n).map f
def rowV (n : Nat) (f : Nat → Bool) : List V := (rowL n f).map V.bl
def idM (i j : Nat) : Bool := decide (j = i)
theorem mr : ¬ (("many" : Str) = "rows") := by decide +kernel
def yf (n : Int) (r : Addr) : List (Str × V) := putF "rows" (.ref r) (putF "many" (.int n) [])
theorem yf_many (n : Int) (r : Addr) : (yf n r).lookup ("many" : Str) = some (.int n) := by
  unfold yf
  rw [lookup_putF, if_neg mr, lookup_putF, if_pos rfl]
theorem yf_rows (n : Int) (r : Addr) : (yf n r).lookup ("rows" : Str) = some (.ref r) := by
  unfold yf
  rw [lookup_putF, if_pos rfl]
theorem yf_no (n : Int) (r : Addr) {m : Str} (h1 : ¬ m = "rows") (h2 : ¬ m = "many") : (yf n r).lookup m = none := by
  unfold yf
  rw [lookup_putF, if_neg h1, lookup_putF, if_neg h2]
  all_goals rfl
theorem nodup_ix' {α : Type} {N : List α} (hN : N.Nodup) {i j : Nat} {x : α} (a : N[i]? = some x) (b : N[j]? = some x) : i = j := by
  obtain ⟨h1, e1⟩ := List.getElem?_eq_some_iff.mp a
  obtain ⟨h2, e2⟩ := List.getElem?_eq_some_iff.mp b
  exact (List.getElem_inj hN).mp (e1.trans e2.symm)
structure YardAt (C : Addr) (H : Hp) (p dx r : Addr) (qs : List Addr) (n : Nat) (M : Nat → Nat → Bool) : Prop where
  ob : H p = some (.ins C dx (yf n r))
  rw : H r = some (.lst (qs.map V.ref))
  ln : qs.length = n
  nd : qs.Nodup
  at_ : ∀ (i : Nat) q, qs[i]? = some q → H q = some (.lst (rowV n (M i)))
theorem YardAt.same {C : Addr} {H H' : Hp} {p dx r : Addr} {qs : List Addr} {n : Nat} {M : Nat → Nat → Bool} (Y : YardAt C H p dx r qs n M) (s : Same H H') : YardAt C H' p dx r qs n M :=
  ⟨s _ _ Y.ob, s _ _ Y.rw, Y.ln, Y.nd, fun i q e => s _ _ (Y.at_ i q e)⟩
theorem rowV_len (n : Nat) (f : Nat → Bool) : (rowV n f).length = n := by simp [rowV, rowL]
theorem rowV_at {n : Nat} (f : Nat → Bool) {j : Nat} (h : j < n) : (rowV n f)[j]? = some (.bl (f j)) := by simp [rowV, rowL, h]
theorem rowV_set {n : Nat} (f : Nat → Bool) (j : Nat) (v : Bool) : (rowV n f).set j (.bl v) = rowV n (fun k => if k = j then v else f k) := by
  apply List.ext_getElem?
  intro i
  by_cases hi : i < n
  · rw [rowV_at _ hi]
    by_cases hj : i = j
    · subst hj
      rw [List.getElem?_set_self (by rw [rowV_len]; exact hi), if_pos rfl]
    · rw [List.getElem?_set_ne (Ne.symm hj), rowV_at _ hi, if_neg hj]
  · rw [List.getElem?_eq_none (by rw [List.length_set, rowV_len]; omega), List.getElem?_eq_none (by rw [rowV_len]; omega)]
theorem rowV_congr {n : Nat} {f g : Nat → Bool} (h : ∀ j, j < n → f j = g j) : rowV n f = rowV n g := by
  unfold rowV rowL
  rw [List.map_map, List.map_map]
  apply List.map_congr_left
  intro j hj
  rw [Function.comp, Function.comp, h j (List.mem_range.mp hj)]
theorem atI_of {α : Type} {xs : List α} {a : Int} {v : α} (h0 : 0 ≤ a) (h : xs[a.toNat]? = some v) : atI xs a = some v := by
  have e : ((a.toNat : Nat) : Int) = a := by omega
  rw [← e]
  exact atI_nat h
theorem ixN_of {n : Nat} {a : Int} (h0 : 0 ≤ a) (h : a < n) : ixN n a = some a.toNat := by
  unfold ixN
  rw [if_pos h0, if_pos h]
theorem YardAt.row {C : Addr} {H : Hp} {p dx r : Addr} {qs : List Addr} {n : Nat} {M : Nat → Nat → Bool} (Y : YardAt C H p dx r qs n M) {a : Int} (h0 : 0 ≤ a) (h1 : a < n) :
    ∃ q, qs[a.toNat]? = some q ∧ atI (qs.map V.ref) a = some (.ref q) ∧ H q = some (.lst (rowV n (M a.toNat))) := by
  have hl : a.toNat < qs.length := by rw [Y.ln]; omega
  refine ⟨qs[a.toNat], by simp [hl], atI_of h0 (by simp [hl]), Y.at_ _ _ (by simp [hl])⟩
theorem YardAt.apart {C : Addr} {H : Hp} {p dx r : Addr} {qs : List Addr} {n : Nat} {M : Nat → Nat → Bool} (Y : YardAt C H p dx r qs n M) (hn : 0 < n) : p ∉ qs ∧ r ∉ qs ∧ p ≠ r := by
  refine ⟨fun z => ?_, fun z => ?_, ne_of Y.ob Y.rw (by intro z; cases z)⟩
  · obtain ⟨j, hj⟩ := List.getElem?_of_mem z
    have h := Y.at_ j p hj
    rw [Y.ob] at h
    cases h
  · obtain ⟨j, hj⟩ := List.getElem?_of_mem z
    have h := Y.at_ j r hj
    rw [Y.rw] at h
    have h' : qs.map V.ref = rowV n (M j) := by injection h with h; injection h
    have e := congrArg (fun l => l[0]?) h'
    have hl : 0 < qs.length := by rw [Y.ln]; exact hn
    simp [rowV_at _ hn, hl] at e
theorem YardAt.put {C : Addr} {H : Hp} {p dx r : Addr} {qs : List Addr} {n : Nat} {M : Nat → Nat → Bool} (Y : YardAt C H p dx r qs n M) {a b : Nat} (ha : a < n) (v : Bool) {q : Addr} (hq : qs[a]? = some q) :
    YardAt C (upd H q (.lst ((rowV n (M a)).set b (.bl v)))) p dx r qs n (fun i j => if i = a ∧ j = b then v else M i j) := by
  obtain ⟨h1, h2, _⟩ := Y.apart (by omega)
  have m := List.mem_of_getElem? hq
  have np : p ≠ q := fun z => h1 (z ▸ m)
  have nr : r ≠ q := fun z => h2 (z ▸ m)
  refine ⟨by rw [upd_ne np]; exact Y.ob, by rw [upd_ne nr]; exact Y.rw, Y.ln, Y.nd, fun i q' e => ?_⟩
  by_cases hi : i = a
  · subst hi
    rw [hq] at e
    cases e
    rw [upd_same, rowV_set]
    congr 2
    apply rowV_congr
    intro j _
    simp
  · have hne : q' ≠ q := fun z => hi (nodup_ix' Y.nd e (z ▸ hq))
    rw [upd_ne hne, Y.at_ i q' e]
    congr 2
    apply rowV_congr
    intro j _
    simp [hi]
structure YT (K : PySem.W.Frag) (mg : Str → Option Value) (C NL AL NY TD UT : Addr) : Prop where
  cl : Cls K C
  nM : NoAttr K C "many"
  nR : NoAttr K C "rows"
  mgC : mg "Yard" = some (.ref C)
  nl : mg "NoLamp" = some (.ref NL)
  xl : PySem.W.excIn K NL bmV "ValueError.__new__" = true
  al : mg "Alone" = some (.ref AL)
  xa : PySem.W.excIn K AL bmV "ValueError.__new__" = true
  ny : mg "NoYard" = some (.ref NY)
  xy : PySem.W.excIn K NY bmV "ValueError.__new__" = true
  td : mg "Tied" = some (.ref TD)
  xt : PySem.W.excIn K TD bmV "ValueError.__new__" = true
  ut : mg "Untied" = some (.ref UT)
  xu : PySem.W.excIn K UT bmV "ValueError.__new__" = true
  rng : mg "range" = none
  most : ∃ t, mg "MOST_LAMPS" = some (.int 24 t)
section
variable {P : Program} {w : World} {K : PySem.W.Frag} {mg : Str → Option Value} {base : Heap} {C NL AL NY TD UT : Addr}
/-! ### check_lamp -/
def spCheck (NL : Addr) : Sp := fun vs H Q E => ∃ l m : Int, vs = [.int l, .int m] ∧ (0 ≤ l ∧ l < m → Q .non H) ∧ (¬ (0 ≤ l ∧ l < m) → E (.ref NL) none H)
theorem sc_check_lamp : FnScope ["lamp", "many"] ["lamp", "many"] (defScope s_check_lamp) := ⟨rfl, rfl, rfl, by decide +kernel, rfl, by decide +kernel, by decide +kernel⟩
theorem ok_check_lamp {f : Addr} {fd : FuncData} (F : Fun K "check_lamp" "check_lamp" s_check_lamp f fd) (T : YT K mg C NL AL NY TD UT) : FnOk P w K mg base (CXE P w) 1 f fd ["lamp", "many"] (spCheck NL) := by
  refine F.okE sc_check_lamp (fun vs H Q E h => ?_) (fun cdv A outer s H vs Q E hr h => ?_)
  · obtain ⟨l, m, rfl, _⟩ := h
    rfl
  · obtain ⟨l, m, rfl, h1, h2⟩ := h
    refine ⟨_, pss_one (ps_if (PW.pt (pw_or (pt_cmpR op_lt (pv 0) pe_int (nomark _)) (pw_or1 (pt_cmpR op_ge (pv 0) (pv 1) (nomark _)))))
      (pss_one (ps_raise (R := fun _ H => E (.ref NL) none H) rfl rfl T.nl T.xl fun pins σ H s h1 e args I hm hR => raiseE I hm hR)) pss_nil), ?_⟩
    refine ⟨_, rfl, _, _, rfl, rfl, _, rfl, ?_⟩
    refine ite2 (fun c => iteT ?_) (fun c => ?_)
    · have c' : l < 0 := of_decide_eq_true c
      exact h2 (by omega)
    · have c' : ¬ l < 0 := fun z => c (decide_eq_true z)
      refine ⟨_, rfl, _, rfl, _, _, rfl, rfl, _, rfl, ?_⟩
      refine ite2 (fun d => ?_) (fun d => ?_)
      · have d' : m ≤ l := of_decide_eq_true d
        exact h2 (by omega)
      · have d' : ¬ m ≤ l := fun z => d (decide_eq_true z)
        exact h1 (by omega)
/-! ### check_pair -/
def spPair (NL AL : Addr) : Sp := fun vs H Q E => ∃ a b m : Int, vs = [.int a, .int b, .int m] ∧ ((0 ≤ a ∧ a < m) ∧ (0 ≤ b ∧ b < m) ∧ a ≠ b → Q .non H) ∧ (¬ ((0 ≤ a ∧ a < m) ∧ (0 ≤ b ∧ b < m)) → E (.ref NL) none H) ∧
  ((0 ≤ a ∧ a < m) ∧ (0 ≤ b ∧ b < m) ∧ a = b → E (.ref AL) none H)
theorem sc_check_pair : FnScope ["one", "other", "many"] ["one", "other", "many"] (defScope s_check_pair) := ⟨rfl, rfl, rfl, by decide +kernel, rfl, by decide +kernel, by decide +kernel⟩
theorem ok_check_pair {f f1 : Addr} {fd fd1 : FuncData} (F : Fun K "check_pair" "check_pair" s_check_pair f fd) (T : YT K mg C NL AL NY TD UT) (G : FnOk P w K mg base (CXE P w) 1 f1 fd1 ["lamp", "many"] (spCheck NL)) (b1 : Binds K fd1 ["lamp", "many"] [])
    (m1 : mg "check_lamp" = some (.ref f1)) (k1 : PySem.W.keepIn K (.ref f1) = true) : FnOk P w K mg base (CXE P w) 2 f fd ["one", "other", "many"] (spPair NL AL) := by
  refine F.okE sc_check_pair (fun vs H Q E h => ?_) (fun cdv A outer s H vs Q E hr h => ?_)
  · obtain ⟨a, b, m, rfl, _⟩ := h
    rfl
  · obtain ⟨a, b, m, rfl, h1, h2, h3⟩ := h
    refine ⟨_, pss_cons (ps_expr (pe_callS G hr rfl m1 k1 b1 .nil passE.s (pa_cons (pv 0) (pa_cons (pv 2) pa_nil))))
      (pss_cons (ps_expr (pe_callS G hr rfl m1 k1 b1 .nil passE.s (pa_cons (pv 1) (pa_cons (pv 2) pa_nil))))
      (pss_one (ps_if (pt_cmpR op_eq (pv 0) (pv 1) (nomark _)) (pss_one (ps_raise (R := fun _ H => E (.ref AL) none H) rfl rfl T.al T.xa fun pins σ H s h1 e args I hm hR => raiseE I hm hR)) pss_nil))), ?_⟩
    refine ⟨_, rfl, _, rfl, a, m, rfl, fun c1 => ?_, fun c1 => h2 (fun z => c1 z.1)⟩
    refine ⟨_, rfl, _, rfl, b, m, rfl, fun c2 => ?_, fun c2 => h2 (fun z => c2 z.2)⟩
    refine ⟨_, rfl, _, rfl, rfl, _, rfl, ?_⟩
    refine ite2 (fun d => ?_) (fun d => ?_)
    · have d' : V.int a = V.int b := of_decide_eq_true d
      exact h3 ⟨c1, c2, V.int.inj d'⟩
    · exact h1 ⟨c1, c2, fun z => d (decide_eq_true (congrArg V.int z))⟩
/-! ### untied_rows -/
def spRows : Sp := fun vs H Q _ => ∃ n : Nat, vs = [.int n] ∧ n ≤ 24 ∧ ∀ (r : Addr) (qs : List Addr) (H' : Hp), Same H H' → H r = none → (∀ q ∈ qs, H q = none) → qs.length = n → qs.Nodup → r ∉ qs → H' r = some (.lst (qs.map V.ref)) →
  (∀ (i : Nat) q, qs[i]? = some q → H' q = some (.lst (rowV n (idM i)))) → Q (.ref r) H'
theorem sc_untied_rows : FnScope ["many", "rows", "lamp"] ["many"] (defScope s_untied_rows) := ⟨rfl, rfl, rfl, by decide +kernel, rfl, by decide +kernel, by decide +kernel⟩
theorem ok_untied_rows {f : Addr} {fd : FuncData} (F : Fun K "untied_rows" "untied_rows" s_untied_rows f fd) (T : YT K mg C NL AL NY TD UT) : FnOk P w K mg base CX0 1 f fd ["many"] spRows := by
  refine F.ok sc_untied_rows (fun vs H Q E h => ?_) (fun cdv A outer s H vs Q E hr h => ?_)
  · obtain ⟨n, rfl, _⟩ := h
    rfl
  · obtain ⟨n, rfl, hn, k⟩ := h
    refine ⟨_, pss_cons (ps_set (i := 1) sc_untied_rows.nd rfl (Or.inl rfl) (pe_lst pa_nil))
      (pss_cons (ps_for PassesOwn.never rfl (pi_range1 rfl T.rng (pa_cons (pv 0) pa_nil)) (pg_name (i := 2) sc_untied_rows.nd rfl (Or.inr rfl))
        (pss_one (ps_expr (pe_bm PySem.F.plainAttrs_list PySem.F.slot_list_append PySem.F.type_list_append mt_append (pv 1) (pa_cons
          (pe_compN (js := [2]) rfl (by kernel_rfl) (pi_range1 rfl T.rng (pa_cons (pv 0) pa_nil)) (fun _ _ _ _ _ => pf_nil) (fun _ _ _ _ _ => pe_cmpR op_eq (pv 0) (pv 1) (nomark _))) pa_nil)))))
      (pss_one (ps_ret (pv 1)))), ?_⟩
    refine ⟨Nat.zero_le _, fun r hr0 => ?_⟩
    have s0 : Same H (upd H r (.lst [])) := fun b o e => by rw [upd_ne (ne_of_none e hr0)]; exact e
    refine ⟨_, rfl, n, rfl, rgL, rgU (by assumption), for_range (lo := 0) (n := n) (fun i σ H2 => ∃ (qs : List Addr) (v : Option V), σ = [some (.int n), some (.ref r), v] ∧ Same H H2 ∧ H2 r = some (.lst (qs.map V.ref)) ∧ qs.length = i ∧ qs.Nodup ∧ r ∉ qs ∧
      (∀ q ∈ qs, H q = none) ∧ ∀ (j : Nat) q, qs[j]? = some q → H2 q = some (.lst (rowV n (idM j)))) ⟨[], none, rfl, s0, upd_same, rfl, List.nodup_nil, List.not_mem_nil, fun q hq => absurd hq List.not_mem_nil, fun j q e => by simp at e⟩ ?_ ?_⟩
    · rintro i σ H2 hi ⟨qs, v, rfl, s2, hr2, hl, nd, hrq, hf, hat⟩
      refine ⟨_, rfl, .inl ⟨rfl, _, SqL.of hr2⟩, _, rfl, n, rfl, rgL, rgU (by assumption), comp_range (n := n) (fun _ => true) (fun j => V.bl (decide (j = i))) (r1000 (by assumption)) (fun j Hc k _ _ q => q) (fun j Hc k hj _ _ q => ?_) fun D hD => ?_⟩
      · have e : decide (V.int (0 + (j : Int)) = V.int (0 + (i : Int))) = decide (j = i) := by
          rw [Bool.eq_iff_iff]
          simp
          omega
        refine ⟨_, rfl, _, rfl, rfl, ?_⟩
        rw [e]
        exact q
      · have hDq : D ∉ qs := fun z => by
          obtain ⟨j, hj⟩ := List.getElem?_of_mem z
          rw [hat j D hj] at hD
          cases hD
        refine ⟨r, _, _, rfl, rfl, (by rw [upd_ne (ne_of_none hr2 hD)]; exact hr2), small1000 (by rw [List.length_map]; omega), qs ++ [D], _, rfl, fun b o e => ?_, ?_, by simp [hl], ?_, ?_, fun q hq => ?_, fun j q e => ?_⟩
        · have e2 := s2 b o e
          have hb : b ≠ r := ne_of_none e hr0
          rw [upd_ne hb, upd_ne (ne_of_none e2 hD)]
          exact e2
        · rw [upd_same, List.map_append]
          rfl
        · rw [List.nodup_append]
          refine ⟨nd, by simp, fun a ha b hb => ?_⟩
          have hb' : b = D := by simpa using hb
          rw [hb']
          rintro rfl
          exact hDq ha
        · intro z
          rcases List.mem_append.mp z with z | z
          · exact hrq z
          · have z' : r = D := by simpa using z
            rw [← z', hr2] at hD
            cases hD
        · rcases List.mem_append.mp hq with z | z
          · exact hf q z
          · have z' : q = D := by simpa using z
            rw [z']
            exact s2.free hD
        · by_cases hj : j < qs.length
          · rw [List.getElem?_append_left hj] at e
            have hq := hat j q e
            have n1 : q ≠ r := fun z => hrq (by rw [← z]; exact List.mem_of_getElem? e)
            rw [upd_ne n1, upd_ne (ne_of_none hq hD)]
            exact hq
          · rw [List.getElem?_append_right (by omega)] at e
            have hj0 : j - qs.length = 0 := by
              have := (List.getElem?_eq_some_iff.mp e).1
              simp at this
              omega
            rw [hj0] at e
            have e' : D = q := by simpa using e
            subst e'
            have n1 : D ≠ r := Ne.symm (ne_of_none hr2 hD)
            have hji : j = i := by omega
            subst hji
            rw [upd_ne n1, upd_same, rowV, rowL, List.map_map, filt_t]
            rfl
    · rintro σ H2 ⟨qs, v, rfl, s2, hr2, hl, nd, hrq, hf, hat⟩
      exact ⟨_, rfl, k r qs H2 s2 hr0 hf hl nd hrq hr2 hat⟩
/-! ### Yard.__init__ -/
def spInit (C NY : Addr) : Sp := fun vs H Q E => ∃ (p dx : Addr) (n : Int), vs = [.ref p, .int n] ∧ H p = some (.ins C dx []) ∧
  (1 ≤ n ∧ n ≤ 24 → ∀ (r : Addr) (qs : List Addr) (H' : Hp), YardAt C H' p dx r qs n.toNat idM → (∀ b o, H b = some o → b ≠ p → H' b = some o) → H r = none → (∀ q ∈ qs, H q = none) → r ∉ qs → Q .non H') ∧ (¬ (1 ≤ n ∧ n ≤ 24) → E (.ref NY) none H)
theorem sc_init : FnScope ["self", "many"] ["self", "many"] (defScope s_init) := ⟨rfl, rfl, rfl, by decide +kernel, rfl, by decide +kernel, by decide +kernel⟩
theorem ok_init {f f1 : Addr} {fd fd1 : FuncData} (F : Fun K "__init__" "Yard.__init__" s_init f fd) (T : YT K mg C NL AL NY TD UT) (G : FnOk P w K mg base CX0 1 f1 fd1 ["many"] spRows) (b1 : Binds K fd1 ["many"] [])
    (m1 : mg "untied_rows" = some (.ref f1)) (k1 : PySem.W.keepIn K (.ref f1) = true) : FnOk P w K mg base (CXE P w) 2 f fd ["self", "many"] (spInit C NY) := by
  obtain ⟨tk, hmost⟩ := T.most
  refine F.okE sc_init (fun vs H Q E h => ?_) (fun cdv A outer s H vs Q E hr h => ?_)
  · obtain ⟨p, dx, n, rfl, _⟩ := h
    rfl
  · obtain ⟨p, dx, n, rfl, hp, h1, h2⟩ := h
    refine ⟨_, pss_cons (ps_if (PW.pt (pw_or (pt_cmpR op_lt (pv 1) pe_int (nomark _)) (pw_or1 (pt_cmpR op_gt (pv 1) (pe_glob (v := .int 24) rfl hmost ⟨_, rfl⟩) (nomark _)))))
      (pss_one (ps_raise (R := fun _ H => E (.ref NY) none H) rfl rfl T.ny T.xy fun pins σ H s h1 e args I hm hR => raiseE I hm hR)) pss_nil)
      (pss_cons (ps_fld (pv 0) (pv 1) rfl)
      (pss_one (ps_fld (pv 0) (pe_call G hr rfl m1 k1 b1 .nil pass0 (pa_cons (pv 1) pa_nil)) rfl))), ?_⟩
    refine ⟨_, rfl, _, _, rfl, rfl, _, rfl, ?_⟩
    refine ite2 (fun c => iteT ?_) (fun c => ?_)
    · have c' : n < 1 := of_decide_eq_true c
      exact h2 (by omega)
    have c' : ¬ n < 1 := fun z => c (decide_eq_true z)
    refine ⟨_, rfl, _, _, rfl, rfl, _, rfl, ?_⟩
    refine ite2 (fun d => ?_) (fun d => ?_)
    · have d' : 24 < n := of_decide_eq_true d
      exact h2 (by omega)
    have d' : ¬ 24 < n := fun z => d (decide_eq_true z)
    have hn : ((n.toNat : Nat) : Int) = n := by omega
    refine ⟨_, rfl, _, rfl, p, C, dx, [], rfl, hp, T.cl, T.nM, (by show 0 < 1000; decide), ?_⟩
    refine ⟨_, rfl, n.toNat, by rw [hn]; rfl, by omega, fun r qs H' s' hr0 hq0 hl nd hrq hr' hat => ?_⟩
    have hp1 : (upd H p (.ins C dx (putF "many" (.int n) []))) p = some (.ins C dx (putF "many" (.int n) [])) := upd_same
    have hp2 := s' _ _ hp1
    refine ⟨_, rfl, p, C, dx, _, rfl, hp2, T.cl, T.nR, (by show 1 < 1000; decide), ?_⟩
    have npr : p ≠ r := ne_of_none hp1 hr0
    have npq : ∀ q ∈ qs, p ≠ q := fun q hq => ne_of_none hp1 (hq0 q hq)
    have fr : ∀ b, (upd H p (.ins C dx (putF "many" (.int n) []))) b = none → H b = none := fun b e => by
      have hb : b ≠ p := fun z => by rw [z, hp1] at e; cases e
      rw [upd_ne hb] at e
      exact e
    refine h1 (by omega) r qs _ ⟨?_, by rw [upd_ne npr.symm]; exact hr', hl, nd, fun i q e => ?_⟩ (fun b o e hb => ?_) (fr r hr0) (fun q hq => fr q (hq0 q hq)) hrq
    · rw [upd_same, hn]
      rfl
    · rw [upd_ne (npq q (List.mem_of_getElem? e)).symm]
      exact hat i q e
    · rw [upd_ne hb]
      exact s' b o (by rw [upd_ne hb]; exact e)
/-! ### is_tied -/
def okL (n : Nat) (a : Int) : Prop := 0 ≤ a ∧ a < n
theorem okI {n i : Nat} (h : i < n) : okL n (0 + (i : Int)) := ⟨by omega, by omega⟩
theorem ok00 {n : Nat} (h : 1 ≤ n) : okL n 0 := ⟨by omega, by omega⟩
theorem okN1 {n : Nat} (h : 1 ≤ n) : okL n ((n : Int) - 1) := ⟨by omega, by omega⟩
theorem lt_one {i j : Nat} (h : ¬ j = i) : (j < i + 1) = (j < i) := propext ⟨fun _ => by omega, fun _ => by omega⟩
def spIsTied (C NL AL : Addr) : Sp := fun vs H Q E => ∃ (p dx r : Addr) (qs : List Addr) (n : Nat) (M : Nat → Nat → Bool) (a b : Int), vs = [.ref p, .int a, .int b] ∧ YardAt C H p dx r qs n M ∧
  (okL n a ∧ okL n b ∧ a ≠ b → Q (.bl (M a.toNat b.toNat)) H) ∧ (¬ (okL n a ∧ okL n b) → E (.ref NL) none H) ∧ (okL n a ∧ okL n b ∧ a = b → E (.ref AL) none H)
theorem sc_is_tied : FnScope ["self", "one", "other"] ["self", "one", "other"] (defScope s_is_tied) := ⟨rfl, rfl, rfl, by decide +kernel, rfl, by decide +kernel, by decide +kernel⟩
theorem ok_is_tied {f f1 : Addr} {fd fd1 : FuncData} (F : Fun K "is_tied" "Yard.is_tied" s_is_tied f fd) (T : YT K mg C NL AL NY TD UT) (G : FnOk P w K mg base (CXE P w) 2 f1 fd1 ["one", "other", "many"] (spPair NL AL)) (b1 : Binds K fd1 ["one", "other", "many"] [])
    (m1 : mg "check_pair" = some (.ref f1)) (k1 : PySem.W.keepIn K (.ref f1) = true) : FnOk P w K mg base (CXE P w) 3 f fd ["self", "one", "other"] (spIsTied C NL AL) := by
  refine F.okE sc_is_tied (fun vs H Q E h => ?_) (fun cdv A outer s H vs Q E hr h => ?_)
  · obtain ⟨p, dx, r, qs, n, M, a, b, rfl, _⟩ := h
    rfl
  · obtain ⟨p, dx, r, qs, n, M, a, b, rfl, Y, h1, h2, h3⟩ := h
    refine ⟨_, pss_cons (ps_expr (pe_callS G hr rfl m1 k1 b1 .nil passE.s (pa_cons (pv 1) (pa_cons (pv 2) (pa_cons (pe_fld (pv 0) rfl) pa_nil)))))
      (pss_one (ps_ret (pe_ix ix_list (pe_ix ix_list (pe_fld (pv 0) rfl) (pv 1) (fun _ _ => rfl)) (pv 2) (fun _ _ => rfl)))), ?_⟩
    refine ⟨_, rfl, _, rfl, _, rfl, p, C, dx, _, _, rfl, Y.ob, T.cl, T.nM, yf_many _ _, a, b, n, rfl, fun ok => ?_, fun bad => h2 bad, fun al => h3 al⟩
    obtain ⟨q, _, hq, hrow⟩ := Y.row ok.1.1 ok.1.2
    refine ⟨_, rfl, p, C, dx, _, _, rfl, Y.ob, T.cl, T.nR, yf_rows _ _, _, rfl, r, _, a, _, rfl, rfl, SqL.of Y.rw, hq, _, rfl, q, _, b, _, rfl, rfl, SqL.of hrow, atI_of ok.2.1.1 (rowV_at _ (by have := ok.2.1.2; omega)), h1 ok⟩
/-! ### is_shy -/
/-! ### turns -/
def spTurns (C NL : Addr) : Sp := fun vs H Q E => ∃ (p dx r : Addr) (qs : List Addr) (n : Nat) (M : Nat → Nat → Bool) (a : Int), vs = [.ref p, .int a] ∧ YardAt C H p dx r qs n M ∧ n ≤ 24 ∧
  (okL n a → ∀ D, H D = none → Q (.ref D) (upd H D (.lst (((List.range n).filter (M a.toNat)).map fun j : Nat => V.int (j : Int))))) ∧ (¬ okL n a → E (.ref NL) none H)
theorem sc_turns : FnScope ["self", "lamp", "row"] ["self", "lamp"] (defScope s_turns) := ⟨rfl, rfl, rfl, by decide +kernel, rfl, by decide +kernel, by decide +kernel⟩
theorem ok_turns {f f1 : Addr} {fd fd1 : FuncData} (F : Fun K "turns" "Yard.turns" s_turns f fd) (T : YT K mg C NL AL NY TD UT) (G : FnOk P w K mg base (CXE P w) 1 f1 fd1 ["lamp", "many"] (spCheck NL)) (b1 : Binds K fd1 ["lamp", "many"] [])
    (m1 : mg "check_lamp" = some (.ref f1)) (k1 : PySem.W.keepIn K (.ref f1) = true) : FnOk P w K mg base (CXE P w) 2 f fd ["self", "lamp"] (spTurns C NL) := by
  refine F.okE sc_turns (fun vs H Q E h => ?_) (fun cdv A outer s H vs Q E hr h => ?_)
  · obtain ⟨p, dx, r, qs, n, M, a, rfl, _⟩ := h
    rfl
  · obtain ⟨p, dx, r, qs, n, M, a, rfl, Y, hn, h1, h2⟩ := h
    refine ⟨_, pss_cons (ps_expr (pe_callS G hr rfl m1 k1 b1 .nil passE.s (pa_cons (pv 1) (pa_cons (pe_fld (pv 0) rfl) pa_nil))))
      (pss_cons (ps_set (i := 2) sc_turns.nd rfl (Or.inr rfl) (pe_ix ix_list (pe_fld (pv 0) rfl) (pv 1) (fun _ _ => rfl)))
      (pss_one (ps_ret (pe_compN (js := [2]) rfl (by kernel_rfl) (pi_range1 rfl T.rng (pa_cons (pe_fld (pv 0) rfl) pa_nil)) (fun _ _ _ _ _ => pf_one (pt_val (pe_ix ixC (pv 1) (pv 0) (fun _ _ => rfl)))) (fun _ _ _ _ _ => pv 0))))), ?_⟩
    refine ⟨_, rfl, _, rfl, p, C, dx, _, _, rfl, Y.ob, T.cl, T.nM, yf_many _ _, a, n, rfl, fun ok => ?_, fun bad => h2 bad⟩
    obtain ⟨q, _, hq, hrow⟩ := Y.row ok.1 ok.2
    refine ⟨_, rfl, p, C, dx, _, _, rfl, Y.ob, T.cl, T.nR, yf_rows _ _, _, rfl, r, _, a, _, rfl, rfl, SqL.of Y.rw, hq, ?_⟩
    refine ⟨_, rfl, p, C, dx, _, _, rfl, Y.ob, T.cl, T.nM, yf_many _ _, n, rfl, rgL, rgU (by assumption), comp_range (n := n) (M a.toNat) (fun j => V.int (0 + j)) (r1000 (by assumption)) (fun j Hc k hj sm q' => ?_) (fun j Hc k hj hp sm q' => ⟨_, rfl, q'⟩) fun D hD => ?_⟩
    · refine ⟨_, rfl, _, rfl, q, _, _, _, rfl, rfl, SqL.of (sm _ _ hrow), atI_of (by omega) ?_, _, rfl, q'⟩
      rw [tn0 j]
      exact rowV_at _ hj
    · have e : (fun j : Nat => V.int (0 + (j : Int))) = fun j : Nat => V.int j := by funext j; rw [Int.zero_add]
      rw [e]
      exact h1 ok D hD
/-! ### put_tie -/
def spPut (C : Addr) : Sp := fun vs H Q _ => ∃ (p dx r : Addr) (qs : List Addr) (n : Nat) (M : Nat → Nat → Bool) (a b : Int) (v : Bool), vs = [.ref p, .int a, .int b, .bl v] ∧ YardAt C H p dx r qs n M ∧ okL n a ∧ okL n b ∧ a ≠ b ∧
  ∀ H', YardAt C H' p dx r qs n (put2 M a.toNat b.toNat v) → (∀ c o, H c = some o → c ∉ qs → H' c = some o) → Q .non H'
theorem sc_put_tie : FnScope ["self", "one", "other", "answer"] ["self", "one", "other", "answer"] (defScope s_put_tie) := ⟨rfl, rfl, rfl, by decide +kernel, rfl, by decide +kernel, by decide +kernel⟩
theorem ok_put_tie {f : Addr} {fd : FuncData} (F : Fun K "put_tie" "Yard.put_tie" s_put_tie f fd) (T : YT K mg C NL AL NY TD UT) : FnOk P w K mg base CX0 1 f fd ["self", "one", "other", "answer"] (spPut C) := by
  refine F.ok sc_put_tie (fun vs H Q E h => ?_) (fun cdv A outer s H vs Q E hr h => ?_)
  · obtain ⟨p, dx, r, qs, n, M, a, b, v, rfl, _⟩ := h
    rfl
  · obtain ⟨p, dx, r, qs, n, M, a, b, v, rfl, Y, ha, hb, hab, k⟩ := h
    refine ⟨_, pss_cons (ps_asg (pv 3) (pg_sub (pe_ix ix_list (pe_fld (pv 0) rfl) (pv 1) (fun _ _ => rfl)) (pv 2) set_list))
      (pss_one (ps_asg (pv 3) (pg_sub (pe_ix ix_list (pe_fld (pv 0) rfl) (pv 2) (fun _ _ => rfl)) (pv 1) set_list))), ?_⟩
    obtain ⟨q1, hq1, hx1, hrow1⟩ := Y.row ha.1 ha.2
    have hlt1 : a.toNat < n := by have := ha.2; have := ha.1; omega
    have hlt2 : b.toNat < n := by have := hb.2; have := hb.1; omega
    have Y1 := Y.put (b := b.toNat) hlt1 v hq1
    obtain ⟨q2, hq2, hx2, hrow2⟩ := Y1.row hb.1 hb.2
    have Y2 := Y1.put (b := a.toNat) hlt2 v hq2
    refine ⟨_, rfl, _, rfl, p, C, dx, _, _, rfl, Y.ob, T.cl, T.nR, yf_rows _ _, _, rfl, r, _, a, _, rfl, rfl, SqL.of Y.rw, hx1, _, rfl, q1, _, b, b.toNat, rfl, rfl, hrow1, (by rw [rowV_len]; exact ixN_of hb.1 hb.2), ?_⟩
    refine ⟨_, rfl, _, rfl, p, C, dx, _, _, rfl, Y1.ob, T.cl, T.nR, yf_rows _ _, _, rfl, r, _, b, _, rfl, rfl, SqL.of Y1.rw, hx2, _, rfl, q2, _, a, a.toNat, rfl, rfl, hrow2, (by rw [rowV_len]; exact ixN_of ha.1 ha.2), ?_⟩
    refine k _ ?_ (fun c o e hc => ?_)
    · have e : (put2 M a.toNat b.toNat v) = (fun i j => if i = b.toNat ∧ j = a.toNat then v else if i = a.toNat ∧ j = b.toNat then v else M i j) := by
        funext i j
        unfold put2
        by_cases c1 : i = b.toNat ∧ j = a.toNat
        · simp [c1]
        · by_cases c2 : i = a.toNat ∧ j = b.toNat
          · simp [c2]
          · simp [c1, c2]
      rw [e]
      exact Y2
    · have n1 : c ≠ q1 := fun z => hc (z ▸ List.mem_of_getElem? hq1)
      have n2 : c ≠ q2 := fun z => hc (z ▸ List.mem_of_getElem? hq2)
      rw [upd_ne n2, upd_ne n1]
      exact e
/-! ### tie, untie -/
def spTie (C NL AL TD : Addr) (v : Bool) : Sp := fun vs H Q E => ∃ (p dx r : Addr) (qs : List Addr) (n : Nat) (M : Nat → Nat → Bool) (a b : Int), vs = [.ref p, .int a, .int b] ∧ YardAt C H p dx r qs n M ∧
  (okL n a ∧ okL n b ∧ a ≠ b ∧ M a.toNat b.toNat = !v → ∀ H', YardAt C H' p dx r qs n (put2 M a.toNat b.toNat v) → (∀ c o, H c = some o → c ∉ qs → H' c = some o) → Q .non H') ∧
  (¬ (okL n a ∧ okL n b) → E (.ref NL) none H) ∧ (okL n a ∧ okL n b ∧ a = b → E (.ref AL) none H) ∧ (okL n a ∧ okL n b ∧ a ≠ b ∧ M a.toNat b.toNat = v → E (.ref TD) none H)
theorem sc_tie : FnScope ["self", "one", "other"] ["self", "one", "other"] (defScope s_tie) := ⟨rfl, rfl, rfl, by decide +kernel, rfl, by decide +kernel, by decide +kernel⟩
theorem ok_tie {f f1 f2 : Addr} {fd fd1 fd2 : FuncData} (F : Fun K "tie" "Yard.tie" s_tie f fd) (T : YT K mg C NL AL NY TD UT) (G : FnOk P w K mg base (CXE P w) 3 f1 fd1 ["self", "one", "other"] (spIsTied C NL AL)) (b1 : Binds K fd1 ["self", "one", "other"] []) (M1 : Meth K C "is_tied" f1)
    (G2 : FnOk P w K mg base CX0 1 f2 fd2 ["self", "one", "other", "answer"] (spPut C)) (b2 : Binds K fd2 ["self", "one", "other", "answer"] []) (M2 : Meth K C "put_tie" f2) : FnOk P w K mg base (CXE P w) 4 f fd ["self", "one", "other"] (spTie C NL AL TD true) := by
  refine F.okE sc_tie (fun vs H Q E h => ?_) (fun cdv A outer s H vs Q E hr h => ?_)
  · obtain ⟨p, dx, r, qs, n, M, a, b, rfl, _⟩ := h
    rfl
  · obtain ⟨p, dx, r, qs, n, M, a, b, rfl, Y, h1, h2, h3, h4⟩ := h
    refine ⟨_, pss_cons (ps_if (pt_val (pe_methS (pv 0) T.cl M1 G hr b1 .nil passE.s (pa_cons (pv 1) (pa_cons (pv 2) pa_nil))))
      (pss_one (ps_raise (R := fun _ H => E (.ref TD) none H) rfl rfl T.td T.xt fun pins σ H s h1 e args I hm hR => raiseE I hm hR)) pss_nil)
      (pss_one (ps_expr (pe_meth (pv 0) T.cl M2 G2 (hr.mono (by decide)) b2 .nil pass0 (pa_cons (pv 1) (pa_cons (pv 2) (pa_cons pe_bl pa_nil)))))), ?_⟩
    refine ⟨_, rfl, p, dx, _, rfl, Y.ob, yf_no _ _ (by decide +kernel) (by decide +kernel), _, rfl, _, rfl, p, dx, r, qs, n, M, a, b, rfl, Y, fun ok => ?_, h2, h3⟩
    refine ⟨_, rfl, ?_⟩
    cases hM : M a.toNat b.toNat with
    | true => exact iteT (h4 ⟨ok.1, ok.2.1, ok.2.2, hM⟩)
    | false => exact iteF ⟨_, rfl, p, dx, _, rfl, Y.ob, yf_no _ _ (by decide +kernel) (by decide +kernel), _, rfl, _, rfl, p, dx, r, qs, n, M, a, b, true, rfl, Y, ok.1, ok.2.1, ok.2.2, fun H' Y' fr => h1 ⟨ok.1, ok.2.1, ok.2.2, hM⟩ H' Y' fr⟩
theorem sc_untie : FnScope ["self", "one", "other"] ["self", "one", "other"] (defScope s_untie) := ⟨rfl, rfl, rfl, by decide +kernel, rfl, by decide +kernel, by decide +kernel⟩
theorem ok_untie {f f1 f2 : Addr} {fd fd1 fd2 : FuncData} (F : Fun K "untie" "Yard.untie" s_untie f fd) (T : YT K mg C NL AL NY TD UT) (G : FnOk P w K mg base (CXE P w) 3 f1 fd1 ["self", "one", "other"] (spIsTied C NL AL)) (b1 : Binds K fd1 ["self", "one", "other"] []) (M1 : Meth K C "is_tied" f1)
    (G2 : FnOk P w K mg base CX0 1 f2 fd2 ["self", "one", "other", "answer"] (spPut C)) (b2 : Binds K fd2 ["self", "one", "other", "answer"] []) (M2 : Meth K C "put_tie" f2) : FnOk P w K mg base (CXE P w) 4 f fd ["self", "one", "other"] (spTie C NL AL UT false) := by
  refine F.okE sc_untie (fun vs H Q E h => ?_) (fun cdv A outer s H vs Q E hr h => ?_)
  · obtain ⟨p, dx, r, qs, n, M, a, b, rfl, _⟩ := h
    rfl
  · obtain ⟨p, dx, r, qs, n, M, a, b, rfl, Y, h1, h2, h3, h4⟩ := h
    refine ⟨_, pss_cons (ps_if (pt_not (pt_val (pe_methS (pv 0) T.cl M1 G hr b1 .nil passE.s (pa_cons (pv 1) (pa_cons (pv 2) pa_nil)))))
      (pss_one (ps_raise (R := fun _ H => E (.ref UT) none H) rfl rfl T.ut T.xu fun pins σ H s h1 e args I hm hR => raiseE I hm hR)) pss_nil)
      (pss_one (ps_expr (pe_meth (pv 0) T.cl M2 G2 (hr.mono (by decide)) b2 .nil pass0 (pa_cons (pv 1) (pa_cons (pv 2) (pa_cons pe_bl pa_nil)))))), ?_⟩
    refine ⟨_, rfl, p, dx, _, rfl, Y.ob, yf_no _ _ (by decide +kernel) (by decide +kernel), _, rfl, _, rfl, p, dx, r, qs, n, M, a, b, rfl, Y, fun ok => ?_, h2, h3⟩
    refine ⟨_, rfl, ?_⟩
    cases hM : M a.toNat b.toNat with
    | false => exact iteT (h4 ⟨ok.1, ok.2.1, ok.2.2, hM⟩)
    | true => exact iteF ⟨_, rfl, p, dx, _, rfl, Y.ob, yf_no _ _ (by decide +kernel) (by decide +kernel), _, rfl, _, rfl, p, dx, r, qs, n, M, a, b, false, rfl, Y, ok.1, ok.2.1, ok.2.2, fun H' Y' fr => h1 ⟨ok.1, ok.2.1, ok.2.2, hM⟩ H' Y' fr⟩
/-! ### set_shy -/
def spShy (C NL : Addr) : Sp := fun vs H Q E => ∃ (p dx r : Addr) (qs : List Addr) (n : Nat) (M : Nat → Nat → Bool) (a : Int) (v : Bool), vs = [.ref p, .int a, .bl v] ∧ YardAt C H p dx r qs n M ∧
  (okL n a → ∀ H', YardAt C H' p dx r qs n (putD M a.toNat (!v)) → (∀ c o, H c = some o → c ∉ qs → H' c = some o) → Q .non H') ∧ (¬ okL n a → E (.ref NL) none H)
theorem sc_set_shy : FnScope ["self", "lamp", "answer"] ["self", "lamp", "answer"] (defScope s_set_shy) := ⟨rfl, rfl, rfl, by decide +kernel, rfl, by decide +kernel, by decide +kernel⟩
theorem ok_set_shy {f f1 : Addr} {fd fd1 : FuncData} (F : FunD K "set_shy" "Yard.set_shy" s_set_shy f fd [.bool true]) (T : YT K mg C NL AL NY TD UT) (G : FnOk P w K mg base (CXE P w) 1 f1 fd1 ["lamp", "many"] (spCheck NL)) (b1 : Binds K fd1 ["lamp", "many"] [])
    (m1 : mg "check_lamp" = some (.ref f1)) (k1 : PySem.W.keepIn K (.ref f1) = true) : FnOk P w K mg base (CXE P w) 2 f fd ["self", "lamp", "answer"] (spShy C NL) := by
  refine F.okE sc_set_shy (fun vs H Q E h => ?_) (fun cdv A outer s H vs Q E hr h => ?_)
  · obtain ⟨p, dx, r, qs, n, M, a, v, rfl, _⟩ := h
    rfl
  · obtain ⟨p, dx, r, qs, n, M, a, v, rfl, Y, h1, h2⟩ := h
    refine ⟨_, pss_cons (ps_expr (pe_callS G hr rfl m1 k1 b1 .nil passE.s (pa_cons (pv 1) (pa_cons (pe_fld (pv 0) rfl) pa_nil))))
      (pss_one (ps_asg (pe_not (pv 2)) (pg_sub (pe_ix ix_list (pe_fld (pv 0) rfl) (pv 1) (fun _ _ => rfl)) (pv 1) set_list))), ?_⟩
    refine ⟨_, rfl, _, rfl, p, C, dx, _, _, rfl, Y.ob, T.cl, T.nM, yf_many _ _, a, n, rfl, fun ok => ?_, h2⟩
    obtain ⟨q, hq, hx, hrow⟩ := Y.row ok.1 ok.2
    have hlt : a.toNat < n := by have := ok.2; have := ok.1; omega
    refine ⟨_, rfl, _, rfl, _, rfl, p, C, dx, _, _, rfl, Y.ob, T.cl, T.nR, yf_rows _ _, _, rfl, r, _, a, _, rfl, rfl, SqL.of Y.rw, hx, _, rfl, q, _, a, a.toNat, rfl, rfl, hrow, (by rw [rowV_len]; exact ixN_of ok.1 ok.2), ?_⟩
    refine h1 ok _ (Y.put (b := a.toNat) hlt (!v) hq) (fun c o e hc => ?_)
    have n1 : c ≠ q := fun z => hc (z ▸ List.mem_of_getElem? hq)
    rw [upd_ne n1]
    exact e
theorem two_of {l : List Value} (h : l.length = 2) : ∃ a b, l = [a, b] := by
  cases l with
  | nil => cases h
  | cons a l =>
    cases l with
    | nil => cases h
    | cons b l =>
      cases l with
      | nil => exact ⟨a, b, rfl⟩
      | cons c l => cases h
theorem three_of {l : List Value} (h : l.length = 3) : ∃ a b c, l = [a, b, c] := by
  cases l with
  | nil => cases h
  | cons a l =>
    obtain ⟨b, c, rfl⟩ := two_of (Nat.succ.inj h)
    exact ⟨a, b, c, rfl⟩
theorem binds_shy2 {f : Addr} {fd : FuncData} (F : FunD K "set_shy" "Yard.set_shy" s_set_shy f fd [.bool true]) : Binds K fd ["self", "lamp", "answer"] [.bool true] := by
  obtain ⟨oc, od, T, kV, doc, pm, an, cdv, ct, osl, ot, nt, rfl, lk, hcd, lT, hd⟩ := F.ex
  intro s us X hl
  have hl' : us.length = 2 := by
    rw [List.length_append] at hl
    have h1 : ([Value.bool true] : List Value).length = 1 := rfl
    have h2 : (["self", "lamp", "answer"] : List Str).length = 3 := rfl
    omega
  obtain ⟨u1, u2, rfl⟩ := two_of hl'
  exact PySem.W.binds_K X rfl lT hd rfl rfl
theorem binds_shy3 {f : Addr} {fd : FuncData} (F : FunD K "set_shy" "Yard.set_shy" s_set_shy f fd [.bool true]) : Binds K fd ["self", "lamp", "answer"] [] := by
  obtain ⟨oc, od, T, kV, doc, pm, an, cdv, ct, osl, ot, nt, rfl, lk, hcd, lT, hd⟩ := F.ex
  intro s us X hl
  rw [List.append_nil] at hl ⊢
  obtain ⟨u1, u2, u3, rfl⟩ := three_of hl
  exact PySem.W.binds_K X rfl lT hd rfl rfl
end
end Lp

/-! ## pressing -/
namespace Lp
open PySem L2 Lamp
abbrev s_turned : Stmt := top 16
abbrev s_pressed : Stmt := (.Pass ⟨0, 0, 0, 0⟩)
def natV (os : List Nat) : List V := os.map fun j : Nat => V.int (j : Int)
theorem natV_flat (os : List Nat) : (natV os).all flatV = true := by simp [natV, flatV]
theorem inV_nat (os : List Nat) (i : Nat) : inV (.int i) (natV os) = os.contains i := by
  unfold inV natV
  rw [Bool.eq_iff_iff]
  simp [eqV]
  constructor
  · rintro ⟨a, ha, e⟩
    have e' : a = i := by omega
    rw [← e']; exact ha
  · intro h
    exact ⟨i, h, rfl⟩
theorem rowV_flat (n : Nat) (f : Nat → Bool) : (rowV n f).all flatV = true := by simp [rowV, flatV]
theorem rowV_mapIdx {n : Nat} (f : Nat → Bool) (g : Nat → Bool → Bool) (h : Nat → V → V) (e : ∀ i b, h i (.bl b) = .bl (g i b)) : (rowV n f).mapIdx h = rowV n (fun j => g j (f j)) := by
  apply List.ext_getElem?
  intro i
  by_cases hi : i < n
  · rw [List.getElem?_mapIdx, rowV_at _ hi, rowV_at _ hi, Option.map_some, e]
  · rw [List.getElem?_eq_none (by rw [List.length_mapIdx, rowV_len]; omega), List.getElem?_eq_none (by rw [rowV_len]; omega)]
section
variable {P : Program} {w : World} {K : PySem.W.Frag} {mg : Str → Option Value} {base : Heap} {C NL : Addr}
/-! ### turned -/
def spTurned (K : PySem.W.Frag) : Sp := fun vs H Q _ => ∃ (a b : Addr) (n : Nat) (f : Nat → Bool) (os : List Nat), vs = [.ref a, .ref b] ∧ n ≤ 24 ∧ SqL K H a (rowV n f) ∧ SqL K H b (natV os) ∧
  ∀ D H', H D = none → Same H H' → H' D = some (.lst (rowV n fun j => if os.contains j then !f j else f j)) → Q (.ref D) H'
theorem sc_turned : FnScope ["light", "lamps"] ["light", "lamps"] (defScope s_turned) := ⟨rfl, rfl, rfl, by decide +kernel, rfl, by decide +kernel, by decide +kernel⟩
theorem ok_turned {f : Addr} {fd : FuncData} (F : Fun K "turned" "turned" s_turned f fd) (hen : mg "enumerate" = none) : FnOk P w K mg base CX0 1 f fd ["light", "lamps"] (spTurned K) := by
  refine F.ok sc_turned (fun vs H Q E h => ?_) (fun cdv A outer s H vs Q E hr h => ?_)
  · obtain ⟨a, b, n, f, os, rfl, _⟩ := h
    rfl
  · obtain ⟨a, b, n, f, os, rfl, hn, ha, hb, k⟩ := h
    refine ⟨_, pss_one (ps_ret (pe_compP (js := [1]) rfl (by kernel_rfl) (pi_enum rfl hen (pa_cons (pv 0) pa_nil)) (fun _ _ _ _ _ => pf_nil)
      (fun _ _ _ _ _ => pe_ifExp (pt_cmpR inC (pv 0) (pv 2) rfl) (pe_not (pv 1)) (pv 1)))), ?_⟩
    refine ⟨_, rfl, a, rfl, ⟨_, ha⟩, comp_enum (xs := rowV n f) (fun i x => match x with | .bl c => .bl (if os.contains i then !c else c) | y => y) (by rw [rowV_len]; omega) ha (fun i x Hc k' hx sm q => ?_) fun D H2 hD sm hd => ?_⟩
    · have hi : i < n := by
        have := (List.getElem?_eq_some_iff.mp hx).1
        rwa [rowV_len] at this
      rw [rowV_at f hi] at hx
      cases hx
      refine ⟨_, rfl, _, rfl, b, natV os, rfl, .inl (sm.seq hb), rfl, natV_flat _, ?_⟩
      refine ⟨_, rfl, ?_⟩
      rw [if_neg Bool.false_ne_true, inV_nat]
      dsimp only at q
      cases hc : os.contains i with
      | true =>
        rw [hc] at q
        exact iteT ⟨_, rfl, _, rfl, q⟩
      | false =>
        rw [hc] at q
        exact iteF ⟨_, rfl, q⟩
    · refine k D H2 hD sm ?_
      rw [hd, rowV_mapIdx f (fun i c => if os.contains i then !c else c) _ fun i b => rfl]
/-! ### pressed -/
end
end Lp

/-! ## the law's own draws -/
namespace Lp
open PySem L2 Lamp
abbrev s_cell : Stmt := top 22
abbrev s_mix : Stmt := top 23
abbrev s_many : Stmt := top 24
abbrev s_drawn : Stmt := top 25
def cellF (ns : List Int) (k : Int) : Int := if k < ns.length then ns.getD k.toNat 0 else 0
def mix1 (c k : Int) : Int := (c + 7919 * (k + 3)) % 2147483647
def mix2 (c k : Int) : Int := (mix1 c k * mix1 c k + 104729 * k + 5) % 2147483629
def mixF (c k : Int) : Int := mix2 c k * mix2 c k % 2147483587
def manyF (c : Int) : Int := if c % 4 = 3 then 1 + c / 4 % 24 else 1 + c / 4 % 10
theorem manyF_ok (c : Int) : 1 ≤ manyF c ∧ manyF c ≤ 24 := by
  unfold manyF
  split <;> omega
theorem mix1_ok (c k : Int) : -(2 ^ 64) < mix1 c k ∧ mix1 c k < 2 ^ 64 := by
  unfold mix1
  omega
theorem mix2_ok (c k : Int) : -(2 ^ 64) < mix2 c k ∧ mix2 c k < 2 ^ 64 := by
  unfold mix2
  omega
section
variable {P : Program} {w : World} {K : PySem.W.Frag} {mg : Str → Option Value} {base : Heap}
def spCell (K : PySem.W.Frag) : Sp := fun vs H Q _ => ∃ (a : Addr) (ns : List Int) (k : Int), vs = [.ref a, .int k] ∧ 0 ≤ k ∧ SqL K H a (ns.map V.int) ∧ Q (.int (cellF ns k)) H
theorem sc_cell : FnScope ["script", "k"] ["script", "k"] (defScope s_cell) := ⟨rfl, rfl, rfl, by decide +kernel, rfl, by decide +kernel, by decide +kernel⟩
theorem ok_cell {f : Addr} {fd : FuncData} (F : Fun K "_law_cell_at" "_law_cell_at" s_cell f fd) (T : LB mg) : FnOk P w K mg base CX0 1 f fd ["script", "k"] (spCell K) := by
  refine F.ok sc_cell (fun vs H Q E h => ?_) (fun cdv A outer s H vs Q E hr h => ?_)
  · obtain ⟨a, ns, k, rfl, _⟩ := h
    rfl
  · obtain ⟨a, ns, k, rfl, hk, hs, q⟩ := h
    refine ⟨_, pss_cons (ps_if (pt_cmpR op_lt (pv 1) (pe_callB call_len_seq rfl T.b_len PySem.boot_len (pa_cons (pv 0) pa_nil)) (nomark _)) (pss_one (ps_ret (pe_ix ix_list (pv 0) (pv 1) (fun _ _ => rfl)))) pss_nil) (pss_one (ps_ret pe_int)), ?_⟩
    refine ⟨_, rfl, _, rfl, a, _, rfl, .inl hs, _, _, rfl, rfl, _, rfl, ?_⟩
    refine ite2 (fun c => ?_) (fun c => ?_)
    · have c' : k < ns.length := by
        have := of_decide_eq_true c
        rwa [List.length_map] at this
      refine ⟨_, rfl, _, rfl, a, _, k, .int (cellF ns k), rfl, rfl, hs, atI_of hk ?_, q⟩
      have hlt : k.toNat < ns.length := by omega
      unfold cellF
      rw [if_pos c', List.getElem?_map, List.getD_eq_getElem?_getD]
      simp [hlt]
    · have c' : ¬ k < ns.length := fun z => c (decide_eq_true (by rw [List.length_map]; exact z))
      have e : cellF ns k = 0 := by unfold cellF; rw [if_neg c']
      rw [e] at q
      exact q
def spMix : Sp := fun vs H Q _ => ∃ c k : Int, vs = [.int c, .int k] ∧ Q (.int (mixF c k)) H
theorem sc_mix : FnScope ["cell", "k", "seed"] ["cell", "k"] (defScope s_mix) := ⟨rfl, rfl, rfl, by decide +kernel, rfl, by decide +kernel, by decide +kernel⟩
theorem ok_mix {f : Addr} {fd : FuncData} (F : Fun K "_law_mix" "_law_mix" s_mix f fd) : FnOk P w K mg base CX0 1 f fd ["cell", "k"] spMix := by
  refine F.ok sc_mix (fun vs H Q E h => ?_) (fun cdv A outer s H vs Q E hr h => ?_)
  · obtain ⟨c, k, rfl, _⟩ := h
    rfl
  · obtain ⟨c, k, rfl, q⟩ := h
    refine ⟨_, pss_cons (ps_set (i := 2) sc_mix.nd rfl (Or.inl rfl) (pe_op op_mod (pe_op op_add (pv 0) (pe_op op_mul pe_int (pe_op op_add (pv 1) pe_int))) pe_int))
      (pss_cons (ps_set (i := 2) sc_mix.nd rfl (Or.inl rfl) (pe_op op_mod (pe_op op_add (pe_op op_add (pe_op op_mul (pv 2) (pv 2)) (pe_op op_mul pe_int (pv 1))) pe_int) pe_int))
      (pss_one (ps_ret (pe_op op_mod (pe_op op_mul (pv 2) (pv 2)) pe_int)))), ?_⟩
    refine ⟨_, rfl, _, rfl, _, _, rfl, rfl, _, _, rfl, rfl, .inl ⟨by decide, by decide⟩, _, _, rfl, rfl, _, _, rfl, rfl, posI rfl, ?_⟩
    refine ⟨_, rfl, _, rfl, mix1 c k, mix1 c k, rfl, rfl, .inl (mix1_ok c k), _, rfl, _, _, rfl, rfl, .inl ⟨by decide, by decide⟩, _, _, rfl, rfl, _, _, rfl, rfl, _, _, rfl, rfl, posI rfl, ?_⟩
    exact ⟨_, rfl, _, rfl, mix2 c k, mix2 c k, rfl, rfl, .inl (mix2_ok c k), _, _, rfl, rfl, posI rfl, q⟩
def spMany : Sp := fun vs H Q _ => ∃ c : Int, vs = [.int c] ∧ Q (.int (manyF c)) H
theorem sc_many : FnScope ["cell"] ["cell"] (defScope s_many) := ⟨rfl, rfl, rfl, by decide +kernel, rfl, by decide +kernel, by decide +kernel⟩
theorem ok_many {f : Addr} {fd : FuncData} (F : Fun K "_law_many" "_law_many" s_many f fd) : FnOk P w K mg base CX0 1 f fd ["cell"] spMany := by
  refine F.ok sc_many (fun vs H Q E h => ?_) (fun cdv A outer s H vs Q E hr h => ?_)
  · obtain ⟨c, rfl, _⟩ := h
    rfl
  · obtain ⟨c, rfl, q⟩ := h
    refine ⟨_, pss_cons (ps_if (pt_cmpR op_eq (pe_op op_mod (pv 0) pe_int) pe_int (nomark _)) (pss_one (ps_ret (pe_op op_add pe_int (pe_op op_mod (pe_op op_fdiv (pv 0) pe_int) pe_int)))) pss_nil)
      (pss_one (ps_ret (pe_op op_add pe_int (pe_op op_mod (pe_op op_fdiv (pv 0) pe_int) pe_int)))), ?_⟩
    refine ⟨_, rfl, _, _, rfl, rfl, posI rfl, rfl, _, rfl, ?_⟩
    refine ite2 (fun z => ?_) (fun z => ?_)
    · have z' : c % 4 = 3 := by
        have := of_decide_eq_true z
        exact V.int.inj this
      unfold manyF at q
      rw [if_pos z'] at q
      exact ⟨_, rfl, _, _, rfl, rfl, ⟨by decide, by decide⟩, _, _, rfl, rfl, posI rfl, _, _, rfl, rfl, q⟩
    · have z' : ¬ c % 4 = 3 := fun y => z (decide_eq_true (congrArg V.int y))
      unfold manyF at q
      rw [if_neg z'] at q
      exact ⟨_, rfl, _, _, rfl, rfl, ⟨by decide, by decide⟩, _, _, rfl, rfl, posI rfl, _, _, rfl, rfl, q⟩
end
structure TiesP (H : Hp) (lt : Addr) (zs : List (Addr × Nat × Nat)) (p : Nat → Nat → Prop) : Prop where
  top : H lt = some (.lst (zs.map fun z => V.ref z.1))
  at_ : ∀ z ∈ zs, H z.1 = some (.tup [.int (z.2.1 : Int), .int (z.2.2 : Int)])
  nd : (zs.map (·.2)).Nodup
  ok : ∀ z ∈ zs, z.2.1 < z.2.2 ∧ p z.2.1 z.2.2
abbrev TiesAt (H : Hp) (lt : Addr) (zs : List (Addr × Nat × Nat)) (n : Nat) : Prop := TiesP H lt zs fun _ b => b < n
theorem TiesP.same {H H' : Hp} {lt : Addr} {zs : List (Addr × Nat × Nat)} {p : Nat → Nat → Prop} (T : TiesP H lt zs p) (s : Same H H') : TiesP H' lt zs p := ⟨s _ _ T.top, fun z hz => s _ _ (T.at_ z hz), T.nd, T.ok⟩
theorem TiesP.mono {H : Hp} {lt : Addr} {zs : List (Addr × Nat × Nat)} {p q : Nat → Nat → Prop} (T : TiesP H lt zs p) (h : ∀ a b, p a b → q a b) : TiesP H lt zs q := ⟨T.top, T.at_, T.nd, fun z hz => ⟨(T.ok z hz).1, h _ _ (T.ok z hz).2⟩⟩
theorem TiesP.push {H : Hp} {lt t : Addr} {zs : List (Addr × Nat × Nat)} {p q : Nat → Nat → Prop} {a b : Nat} (T : TiesP H lt zs p) (ht : H t = none) (hab : a < b) (hn : ¬ p a b) (hpq : ∀ x y, p x y → q x y) (hq : q a b) :
    TiesP (upd (upd H t (.tup [.int (a : Int), .int (b : Int)])) lt (.lst ((zs.map fun z => V.ref z.1) ++ [.ref t]))) lt (zs ++ [(t, a, b)]) q := by
  have nlt : lt ≠ t := ne_of_none T.top ht
  refine ⟨by rw [upd_same]; simp, fun z hz => ?_, ?_, fun z hz => ?_⟩
  · rcases List.mem_append.mp hz with hz | hz
    · have h := T.at_ z hz
      have n1 : z.1 ≠ lt := ne_of h T.top (by intro e; cases e)
      rw [upd_ne n1, upd_ne (ne_of_none h ht)]
      exact h
    · have e : z = (t, a, b) := by simpa using hz
      subst e
      rw [upd_ne nlt.symm, upd_same]
  · rw [List.map_append, List.nodup_append]
    refine ⟨T.nd, by simp, fun x hx y hy => ?_⟩
    have hy' : y = (a, b) := by simpa using hy
    rw [hy']
    rintro rfl
    obtain ⟨z, hz, e⟩ := List.mem_map.mp hx
    have := (T.ok z hz).2
    rw [e] at this
    exact hn this
  · rcases List.mem_append.mp hz with hz | hz
    · exact ⟨(T.ok z hz).1, hpq _ _ (T.ok z hz).2⟩
    · have e : z = (t, a, b) := by simpa using hz
      subst e
      exact ⟨hab, hq⟩
theorem atI_ints {xs : List Int} {m : Int} (h0 : 0 ≤ m) (h : m < xs.length) : atI (xs.map V.int) m = some (.int (xs.getD m.toNat 0)) := by
  refine atI_of h0 ?_
  have hl : m.toNat < xs.length := by omega
  rw [List.getElem?_map, List.getD_eq_getElem?_getD]
  simp [hl]
theorem rowV_comp (n : Nat) (f : Nat → Bool) : ((List.range n).filter (fun _ => true)).map (fun j => V.bl (f j)) = rowV n f := by
  rw [filt_t, rowV, rowL, List.map_map]
  rfl
section
variable {P : Program} {w : World} {K : PySem.W.Frag} {mg : Str → Option Value} {base : Heap}
def spDrawn (K : PySem.W.Frag) : Sp := fun vs H Q _ => ∃ (a : Addr) (ns : List Int), vs = [.ref a] ∧ SqL K H a (ns.map V.int) ∧ ∀ (t lt ls : Addr) (zs : List (Addr × Nat × Nat)) (n : Nat) (f : Nat → Bool) (H' : Hp), Same H H' → 1 ≤ n → n ≤ 24 →
  H' t = some (.tup [.int (n : Int), .ref lt, .ref ls]) → TiesAt H' lt zs n → zs.length ≤ 600 → H' ls = some (.lst (rowV n f)) → H lt = none → H ls = none → Q (.ref t) H'
def spDrawnN (K : PySem.W.Frag) : Sp := fun vs H Q _ => ∃ (a : Addr) (ns : List Int), vs = [.ref a] ∧ SqL K H a (ns.map V.int) ∧ ∀ (t lt ls : Addr) (zs : List (Addr × Nat × Nat)) (n : Nat) (f : Nat → Bool) (H' : Hp), Same H H' → 1 ≤ n → n ≤ 24 →
  H' t = some (.tup [.int (n : Int), .ref lt, .ref ls]) → TiesAt H' lt zs n → zs.length ≤ 600 → H' ls = some (.lst (rowV n f)) → H lt = none → H ls = none → (n : Int) = manyF (cellF ns 0) → Q (.ref t) H'
theorem fn_weaken {CX : CXT} {k : Nat} {f : Addr} {fd : FuncData} {ps : List Str} {sp sp' : Sp} (F : FnOk P w K mg base CX k f fd ps sp') (h : ∀ vs H Q E, sp vs H Q E → sp' vs H Q E) : FnOk P w K mg base CX k f fd ps sp :=
  ⟨fun vs H Q E x => F.len _ _ _ _ (h _ _ _ _ x), fun A outer s H args us vs Q E hr e0 hb r x => F.run A outer s H args us vs Q E hr e0 hb r (h _ _ _ _ x)⟩
theorem sc_drawn : FnScope ["script", "many", "much", "ties", "other", "one", "drawn", "shy"] ["script"] (defScope s_drawn) := ⟨rfl, rfl, rfl, by decide +kernel, rfl, by decide +kernel, by decide +kernel⟩
theorem ok_drawnN {f : Addr} {fd : FuncData} (F : Fun K "_law_drawn" "_law_drawn" s_drawn f fd) (T : LB mg) (hC : Has P w K mg base CX0 1 "_law_cell_at" ["script", "k"] (spCell K)) (hM : Has P w K mg base CX0 1 "_law_many" ["cell"] spMany) (hX : Has P w K mg base CX0 1 "_law_mix" ["cell", "k"] spMix) :
    FnOk P w K mg base CX0 2 f fd ["script"] (spDrawnN K) := by
  refine F.ok sc_drawn (fun vs H Q E h => ?_) (fun cdv A outer s H vs Q E hr h => ?_)
  · obtain ⟨a, ns, rfl, _⟩ := h
    rfl
  · obtain ⟨a, ns, rfl, hs, k⟩ := h
    refine ⟨_, (L2.pss_cons (ps_set (i := 1) sc_drawn.nd rfl (Or.inl rfl) (pe_callH hM hr rfl pass0S (E := fun _ => E0) (L2.pa_cons (pe_callH hC hr rfl pass0S (E := fun _ => E0) (L2.pa_cons (pv 0) (L2.pa_cons (pe_int) L2.pa_nil))) L2.pa_nil))) (L2.pss_cons (ps_set (i := 2) sc_drawn.nd rfl (Or.inl rfl) (pe_op op_mod (pe_callH hC hr rfl pass0S (E := fun _ => E0) (L2.pa_cons (pv 0) (L2.pa_cons (pe_int) L2.pa_nil))) pe_int)) (L2.pss_cons (ps_set (i := 3) sc_drawn.nd rfl (Or.inl rfl) (pe_lst L2.pa_nil)) (L2.pss_cons (ps_for PassesOwn.never rfl (pi_range1 rfl T.b_range (L2.pa_cons (pv 1) L2.pa_nil)) (pg_name (i := 4) sc_drawn.nd rfl (Or.inl rfl)) (L2.pss_one (ps_for PassesOwn.never rfl (pi_range1 rfl T.b_range (L2.pa_cons (pv 4) L2.pa_nil)) (pg_name (i := 5) sc_drawn.nd rfl (Or.inl rfl)) (L2.pss_cons (ps_set (i := 6) sc_drawn.nd rfl (Or.inl rfl) (pe_op op_fdiv (pe_callH hX hr rfl pass0S (E := fun _ => E0) (L2.pa_cons (pe_op op_add (pe_callH hC hr rfl pass0S (E := fun _ => E0) (L2.pa_cons (pv 0) (L2.pa_cons (pe_op op_add pe_int (pe_op op_mod (pv 4) pe_int)) L2.pa_nil))) (pe_op op_mul pe_int (pv 4))) (L2.pa_cons (pv 5) L2.pa_nil))) pe_int)) (L2.pss_one (ps_if (pt_cmpR op_lt (pe_op op_mod (pv 6) pe_int) (pe_ix ix_list (pe_lst (L2.pa_cons (pe_int) (L2.pa_cons (pe_int) (L2.pa_cons (pe_int) (L2.pa_cons (pe_int) (L2.pa_cons (pe_int) L2.pa_nil)))))) (pv 2) (fun _ _ => rfl)) (nomark _))
            (L2.pss_one (ps_expr (pe_bm PySem.F.plainAttrs_list PySem.F.slot_list_append PySem.F.type_list_append mt_append (pv 3) (L2.pa_cons (pe_tup (L2.pa_cons (pv 5) (L2.pa_cons (pv 4) L2.pa_nil))) L2.pa_nil)))) pss_nil)))))) (L2.pss_cons (ps_compN (i := 7) (js := []) sc_drawn.nd rfl (Or.inl rfl) rfl (by kernel_rfl) (pi_range1 rfl T.b_range (L2.pa_cons (pv 1) L2.pa_nil)) (fun _ _ _ _ _ => pf_nil) (fun _ _ _ _ _ => pe_bl)) (L2.pss_cons (ps_if (pt_cmpR op_eq (pe_op op_mod (pe_op op_fdiv (pe_callH hC hr rfl pass0S (E := fun _ => E0) (L2.pa_cons (pv 0) (L2.pa_cons (pe_int) L2.pa_nil))) pe_int) pe_int) pe_int (nomark _))
        (L2.pss_one (ps_compN (i := 7) (js := [0]) sc_drawn.nd rfl (Or.inl rfl) rfl (by kernel_rfl) (pi_range1 rfl T.b_range (L2.pa_cons (pv 1) L2.pa_nil)) (fun _ _ _ _ _ => pf_nil)
          (fun _ _ _ _ _ => pe_cmpR op_eq (pe_op op_mod (pe_op op_fdiv (pe_callH hX hr rfl pass0S (E := fun _ => E0) (L2.pa_cons (pe_callH hC hr rfl pass0S (E := fun _ => E0) (L2.pa_cons (pv 1) (L2.pa_cons (pe_int) L2.pa_nil))) (L2.pa_cons (pv 0) L2.pa_nil))) pe_int) pe_int) pe_int (nomark _)))) pss_nil) (L2.pss_one (ps_ret (pe_tup (L2.pa_cons (pv 1) (L2.pa_cons (pv 3) (L2.pa_cons (pv 7) L2.pa_nil)))))))))))), ?_⟩
    obtain ⟨m1, m2⟩ := manyF_ok (cellF ns 0)
    generalize hN : manyF (cellF ns 0) = N at m1 m2
    have en : ((N.toNat : Nat) : Int) = N := by omega
    refine ⟨_, rfl, a, ns, 0, rfl, by decide, hs, _, rfl, ?_⟩
    rw [hN]
    refine ⟨_, rfl, a, ns, 1, rfl, by decide, hs, _, _, rfl, rfl, posI rfl, ?_⟩
    have u1 : 0 ≤ cellF ns 1 % 5 := by omega
    have u2 : cellF ns 1 % 5 < 5 := by omega
    refine ⟨Nat.zero_le _, fun lt hlt => ?_⟩
    have s0 : Same H (upd H lt (.lst [])) := Same.laid hlt
    refine ⟨_, rfl, N, rfl, by omega, by omega, for_range (lo := 0) (n := N.toNat) (fun i σ H2 => ∃ (zs : List (Addr × Nat × Nat)) (v4 v5 v6 : Option V), σ = [some (.ref a), some (.int N), some (.int (cellF ns 1 % 5)), some (.ref lt), v4, v5, v6, none] ∧ Same H H2 ∧ TiesP H2 lt zs (fun _ y => y < i) ∧ zs.length ≤ 24 * i)
      ⟨[], none, none, none, rfl, s0, ⟨upd_same, fun z hz => absurd hz List.not_mem_nil, List.nodup_nil, fun z hz => absurd hz List.not_mem_nil⟩, Nat.zero_le _⟩ ?_ ?_⟩
    · rintro i σ H2 hi ⟨zs, v4, v5, v6, rfl, s2, T2, hz⟩
      refine ⟨_, rfl, 0 + (i : Int), rfl, by omega, by omega, for_range (lo := 0) (n := (0 + (i : Int)).toNat) (fun j σ H3 => ∃ (zs : List (Addr × Nat × Nat)) (v5 v6 : Option V), σ = [some (.ref a), some (.int N), some (.int (cellF ns 1 % 5)), some (.ref lt), some (.int (0 + (i : Int))), v5, v6, none] ∧ Same H H3 ∧ TiesP H3 lt zs (fun x y => y < i ∨ (y = i ∧ x < j)) ∧ zs.length ≤ 24 * i + j)
        ⟨zs, v5, v6, rfl, s2, T2.mono fun x y h => .inl h, by omega⟩ ?_ ?_⟩
      · rintro j σ H3 hj ⟨zs, v5, v6, rfl, s3, T3, hz⟩
        have hj' : j < i := by omega
        refine ⟨_, rfl, _, rfl, _, _, rfl, rfl, posI rfl, _, _, rfl, rfl, a, ns, _, rfl, by omega, s3.seq hs, _, rfl, _, _, rfl, rfl, mulL rfl, _, _, rfl, rfl, _, rfl, _, _, rfl, _, _, rfl, rfl, divI rfl, ?_⟩
        refine ⟨_, rfl, _, _, rfl, rfl, posI rfl, (by show 5 ≤ sizeLine; decide), fun p hp => ?_⟩
        refine ⟨_, rfl, p, _, cellF ns 1 % 5, _, rfl, rfl, SqL.of upd_same, atI_ints (xs := [0, 2, 4, 6, 12]) u1 (by simpa using u2), _, _, rfl, rfl, _, rfl, ?_⟩
        have s4 : Same H3 (upd H3 p (.lst [.int 0, .int 2, .int 4, .int 6, .int 12])) := Same.laid hp
        have T4 := T3.same s4
        refine ite2 (fun c => ?_) (fun c => ?_)
        · refine ⟨_, rfl, .inl ⟨rfl, _, SqL.of T4.top⟩, _, rfl, _, rfl, (by show 2 ≤ sizeLine; decide), fun t ht => ?_⟩
          have nlt : lt ≠ t := ne_of_none T4.top ht
          refine ⟨lt, _, _, rfl, rfl, (by rw [upd_ne nlt]; exact T4.top), small1000 (by rw [List.length_map]; omega), ?_⟩
          rw [show V.int (0 + (j : Int)) = V.int (j : Int) by rw [Int.zero_add], show V.int (0 + (i : Int)) = V.int (i : Int) by rw [Int.zero_add]]
          refine ⟨zs ++ [(t, j, i)], _, _, rfl, fun b o e => ?_, T4.push ht hj' (by omega) (fun x y h => by omega) (by omega), by simp; omega⟩
          rw [upd_ne (ne_of_none e hlt), upd_ne (ne_of_none (s4 _ _ (s3 _ _ e)) ht)]
          exact s4 _ _ (s3 _ _ e)
        · exact ⟨zs, _, _, rfl, s3.trans s4, T4.mono (fun x y h => by omega), by omega⟩
      · rintro σ H3 ⟨zs, v5, v6, rfl, s3, T3, hz⟩
        exact ⟨zs, _, v5, v6, rfl, s3, ⟨T3.top, T3.at_, T3.nd, fun z hz => ⟨(T3.ok z hz).1, by
          have h1 := (T3.ok z hz).1
          have h2 := (T3.ok z hz).2
          omega⟩⟩, by omega⟩
    · rintro σ H2 ⟨zs, v4, v5, v6, rfl, s2, T2, hz⟩
      have fin : ∀ (ls : Addr) (g : Nat → Bool) (H3 : Hp), Same H2 H3 → H3 ls = some (.lst (rowV N.toNat g)) → H2 ls = none → ∀ p, H3 p = none → Q (.ref p) (upd H3 p (.tup [.int N, .ref lt, .ref ls])) := fun ls g H3 s3 hls nls p hp => by
        have s4 : Same H3 (upd H3 p (.tup [.int N, .ref lt, .ref ls])) := Same.laid hp
        refine k p lt ls zs N.toNat g _ ((s2.trans s3).trans s4) (by omega) (by omega) (by rw [upd_same, en]) ((T2.same s3).same s4) (by omega) (s4 _ _ hls) hlt (s2.free nls) (by rw [en, hN])
      refine ⟨_, rfl, N, rfl, by omega, by omega, comp_range (n := N.toNat) (fun _ => true) (fun _ => V.bl false) (by omega) (fun j Hc k _ _ q => q) (fun j Hc k _ _ _ q => q) fun ls hls => ?_⟩
      rw [show ((List.range N.toNat).filter (fun _ => true)).map (fun _ => V.bl false) = rowV N.toNat (fun _ => false) from rowV_comp _ _]
      have s3 : Same H2 (upd H2 ls (.lst (rowV N.toNat fun _ => false))) := Same.laid hls
      refine ⟨_, rfl, a, ns, 1, rfl, by decide, (s2.trans s3).seq hs, _, _, rfl, rfl, divI rfl, _, _, rfl, rfl, posI rfl, rfl, _, rfl, ?_⟩
      refine ite2 (fun c => ?_) (fun c => ?_)
      · refine ⟨_, rfl, N, rfl, by omega, by omega, comp_range (n := N.toNat) (fun _ => true) (fun j => V.bl (decide (V.int (mixF (cellF ns 10) (0 + (j : Int)) / 7 % 3) = V.int 0))) (by omega) (fun j Hc k _ _ q => q) (fun j Hc k _ _ sm q => ?_) fun l2 hl2 => ?_⟩
        · exact ⟨_, rfl, a, ns, 10, rfl, by decide, ((s2.trans s3).trans sm).seq hs, _, rfl, _, _, rfl, _, _, rfl, rfl, divI rfl, _, _, rfl, rfl, posI rfl, rfl, q⟩
        · rw [rowV_comp]
          exact ⟨_, rfl, _, rfl, _, rfl, (by show 3 ≤ sizeLine; decide), fin l2 _ _ (s3.trans (Same.laid hl2)) upd_same (s3.free hl2)⟩
      · exact ⟨_, rfl, _, rfl, _, rfl, (by show 3 ≤ sizeLine; decide), fin ls _ _ s3 upd_same hls⟩
theorem ok_drawn {f : Addr} {fd : FuncData} (F : Fun K "_law_drawn" "_law_drawn" s_drawn f fd) (T : LB mg) (hC : Has P w K mg base CX0 1 "_law_cell_at" ["script", "k"] (spCell K)) (hM : Has P w K mg base CX0 1 "_law_many" ["cell"] spMany) (hX : Has P w K mg base CX0 1 "_law_mix" ["cell", "k"] spMix) :
    FnOk P w K mg base CX0 2 f fd ["script"] (spDrawn K) := fn_weaken (ok_drawnN F T hC hM hX) fun vs H Q E ⟨a, ns, e, hs, k⟩ => ⟨a, ns, e, hs, fun t lt ls zs n f H' h1 h2 h3 h4 h5 h6 h7 h8 h9 _ => k t lt ls zs n f H' h1 h2 h3 h4 h5 h6 h7 h8 h9⟩
end
end Lp

/-! ## the law's own yard, its turns, lights and presses -/
namespace Lp
open PySem L2 Lamp
abbrev s_built : Stmt := top 26
theorem YardAt.congr {C : Addr} {H : Hp} {p dx r : Addr} {qs : List Addr} {n : Nat} {M N : Nat → Nat → Bool} (Y : YardAt C H p dx r qs n M) (h : ∀ i j, i < n → j < n → M i j = N i j) : YardAt C H p dx r qs n N :=
  ⟨Y.ob, Y.rw, Y.ln, Y.nd, fun i q e => by
    have hi : i < n := by rw [← Y.ln]; exact (List.getElem?_eq_some_iff.mp e).1
    rw [Y.at_ i q e, rowV_congr fun j hj => h i j hi hj]⟩
def Left (qs : List Addr) (H H' : Hp) : Prop := ∀ c o, H c = some o → c ∉ qs → H' c = some o
theorem Left.same {qs : List Addr} {H0 H H' : Hp} (l : Left qs H H') (s : Same H0 H) (fr : ∀ q ∈ qs, H0 q = none) : Same H0 H' := fun b o e => l b o (s b o e) fun z => by
  rw [fr b z] at e
  cases e
theorem tie_facts {ts : List (Nat × Nat)} {g : Nat → Bool} {x y n a b : Nat} (ho : a = x ∧ b = y ∨ a = y ∧ b = x) (hxy : x < y) (hy : y < n) (h1 : (x, y) ∉ ts) (h2 : (y, x) ∉ ts) :
    okL n (a : Int) ∧ okL n (b : Int) ∧ (a : Int) ≠ (b : Int) ∧ mat ts g (a : Int).toNat (b : Int).toNat = false ∧ put2 (mat ts g) (a : Int).toNat (b : Int).toNat true = mat (ts ++ [(x, y)]) g := by
  have ne : x ≠ y := by omega
  rcases ho with ⟨rfl, rfl⟩ | ⟨rfl, rfl⟩
  · exact ⟨⟨by omega, by omega⟩, ⟨by omega, by omega⟩, by omega, mat_none (by simpa using ne) h1 h2, (mat_push ne).symm⟩
  · refine ⟨⟨by omega, by omega⟩, ⟨by omega, by omega⟩, by omega, mat_none (by simpa using ne.symm) h2 h1, ?_⟩
    rw [mat_push ne, put2_comm]
    rfl
theorem TiesP.fresh {H : Hp} {lt : Addr} {zs : List (Addr × Nat × Nat)} {p : Nat → Nat → Prop} (T : TiesP H lt zs p) {i : Nat} {z : Addr × Nat × Nat} (hz : zs[i]? = some z) : (z.2.1, z.2.2) ∉ (zs.take i).map (·.2) := fun m => by
  obtain ⟨u, hu, e⟩ := List.mem_map.mp m
  obtain ⟨j, hj⟩ := List.getElem?_of_mem hu
  have hji : j < i := by
    have := (List.getElem?_eq_some_iff.mp hj).1
    rw [List.length_take] at this
    omega
  rw [List.getElem?_take_of_lt hji] at hj
  have a1 : (zs.map (·.2))[j]? = some u.2 := by rw [List.getElem?_map, hj]; rfl
  have a2 : (zs.map (·.2))[i]? = some u.2 := by rw [List.getElem?_map, hz, e]; rfl
  have := nodup_ix' T.nd a1 a2
  omega
theorem TiesP.turned {H : Hp} {lt : Addr} {zs us : List (Addr × Nat × Nat)} {p : Nat → Nat → Prop} (T : TiesP H lt zs p) (h : ∀ u ∈ us, u ∈ zs) {x y : Nat} (hxy : x < y) : (y, x) ∉ us.map (·.2) := fun m => by
  obtain ⟨u, hu, e⟩ := List.mem_map.mp m
  have := (T.ok u (h u hu)).1
  rw [e] at this
  exact absurd this (by show ¬ y < x; omega)
section
variable {P : Program} {w : World} {K : PySem.W.Frag} {mg : Str → Option Value} {base : Heap} {C NL AL NY TD UT : Addr}
def spBuilt (C : Addr) : Sp := fun vs H Q _ => ∃ (lt ls : Addr) (zs : List (Addr × Nat × Nat)) (n : Nat) (f : Nat → Bool), vs = [.int (n : Int), .ref lt, .ref ls] ∧ 1 ≤ n ∧ n ≤ 24 ∧ TiesAt H lt zs n ∧ zs.length ≤ 600 ∧ H ls = some (.lst (rowV n f)) ∧
  ∀ (p dx r : Addr) (qs : List Addr) (H' : Hp), Same H H' → YardAt C H' p dx r qs n (mat (zs.map (·.2)) f) → H p = none → H r = none → (∀ q ∈ qs, H q = none) → Q (.ref p) H'
theorem sc_built : FnScope ["many", "ties", "shy", "yard", "k", "lamp"] ["many", "ties", "shy"] (defScope s_built) := ⟨rfl, rfl, rfl, by decide +kernel, rfl, by decide +kernel, by decide +kernel⟩
theorem ok_built {f : Addr} {fd : FuncData} (F : Fun K "_law_built" "_law_built" s_built f fd) (T : LB mg) (hY : HasC P w K mg base (CXE P w) 2 C "Yard" ["self", "many"] (spInit C NY))
    (hT : HasM P w K mg base (CXE P w) 4 C "tie" ["self", "one", "other"] [] (spTie C NL AL TD true)) (hU : HasM P w K mg base (CXE P w) 4 C "untie" ["self", "one", "other"] [] (spTie C NL AL UT false))
    (hS2 : HasM P w K mg base (CXE P w) 2 C "set_shy" ["self", "lamp", "answer"] [.bl true] (spShy C NL)) (hS3 : HasM P w K mg base (CXE P w) 2 C "set_shy" ["self", "lamp", "answer"] [] (spShy C NL)) :
    FnOk P w K mg base CX0 5 f fd ["many", "ties", "shy"] (spBuilt C) := by
  refine F.ok sc_built (fun vs H Q E h => ?_) (fun cdv A outer s H vs Q E hr h => ?_)
  · obtain ⟨lt, ls, zs, n, f, rfl, _⟩ := h
    rfl
  · obtain ⟨lt, ls, zs, n, f, rfl, hn1, hn2, hT0, hzl, hS0, k⟩ := h
    have hr2 : Room 2 _ := hr.mono (by decide)
    have hr3 : Room 3 _ := hr.mono (by decide)
    have hu : (A.deeper (PyProof.Rows.envOfC "_law_built" (defScope s_built) s.heap.objs.size _ cdv)).in1.units < cLine := (hr3.in1).units0
    refine ⟨_, (L2.pss_cons (ps_set (i := 3) sc_built.nd rfl (Or.inl rfl) (pe_makeH hY hr3 rfl passN (L2.pa_cons (pv 0) L2.pa_nil))) (L2.pss_cons (ps_for PassesOwn.never rfl (pi_range1 rfl T.b_range (L2.pa_cons (pe_callB call_len_seq rfl T.b_len PySem.boot_len (L2.pa_cons (pv 1) L2.pa_nil)) L2.pa_nil)) (pg_name (i := 4) sc_built.nd rfl (Or.inl rfl))
        (L2.pss_one (ps_expr (pe_methH (pv 3) hT hr passN (L2.pa_cons (pe_ix ix_tup (pe_ix ix_list (pv 1) (pv 4) (fun _ _ => rfl)) (pe_op op_mod (pv 4) pe_int) (fun _ _ => rfl)) (L2.pa_cons (pe_ix ix_tup (pe_ix ix_list (pv 1) (pv 4) (fun _ _ => rfl)) (pe_op op_sub pe_int (pe_op op_mod (pv 4) pe_int)) (fun _ _ => rfl)) L2.pa_nil)))))) (L2.pss_cons (ps_for PassesOwn.never rfl (pi_range1 rfl T.b_range (L2.pa_cons (pv 0) L2.pa_nil)) (pg_name (i := 5) sc_built.nd rfl (Or.inl rfl))
        (L2.pss_one (ps_if (pt_val (pe_ix ix_list (pv 2) (pv 5) (fun _ _ => rfl))) (L2.pss_one (ps_expr (pe_methH (pv 3) hS2 hr2 passN (L2.pa_cons (pv 5) L2.pa_nil)))) pss_nil))) (L2.pss_cons (ps_expr (pe_methH (pv 3) hS3 hr2 passN (L2.pa_cons (pe_int) (L2.pa_cons (pe_not (pe_ix ix_list (pv 2) pe_int (fun _ _ => rfl))) L2.pa_nil)))) (L2.pss_cons (ps_expr (pe_methH (pv 3) hS3 hr2 passN (L2.pa_cons (pe_int) (L2.pa_cons (pe_ix ix_list (pv 2) pe_int (fun _ _ => rfl)) L2.pa_nil)))) (L2.pss_cons (ps_if (PW.pt (pw_and (pt_cmpR op_gt (pv 0) pe_int (nomark _)) (pw_and1 (pt_cmpR (op_notIn_tups hu) (pe_tup (L2.pa_cons (pe_int) (L2.pa_cons (pe_op op_sub (pv 0) pe_int) L2.pa_nil))) (pv 1) rfl))))
        (L2.pss_cons (ps_expr (pe_methH (pv 3) hT hr passN (L2.pa_cons (pe_op op_sub (pv 0) pe_int) (L2.pa_cons (pe_int) L2.pa_nil)))) (L2.pss_one (ps_expr (pe_methH (pv 3) hU hr passN (L2.pa_cons (pe_int) (L2.pa_cons (pe_op op_sub (pv 0) pe_int) L2.pa_nil)))))) pss_nil) (L2.pss_one (ps_ret (pv 3))))))))), ?_⟩
    -- yard = Yard(many)
    refine ⟨_, rfl, fun x dx hx hdx hne => ⟨x, dx, n, rfl, upd_same, fun ok r qs H1 Y1 kp hr0 hq0 hrq => ⟨rfl, ?_⟩, fun bad => absurd (by omega) bad⟩⟩
    have Y1 : YardAt C H1 x dx r qs n idM := Y1
    have s0 : Same H (upd (upd H dx (.own x)) x (.ins C dx [])) := fun b o e => by
      rw [upd_ne (ne_of_none e hx), upd_ne (ne_of_none e hdx)]
      exact e
    have s1 : Same H H1 := fun b o e => kp b o (s0 b o e) (ne_of_none e hx)
    have hrf : H r = none := s0.free hr0
    have hqf : ∀ q ∈ qs, H q = none := fun q hq => s0.free (hq0 q hq)
    have hlen : ((zs.map fun z => V.ref z.1).length : Int).toNat = zs.length := by simp
    -- the ties
    refine ⟨_, rfl, lt, _, rfl, .inl (SqL.of (s1 _ _ hT0.top)), _, rfl, (by rw [List.length_map]; omega), (by rw [List.length_map]; omega), for_range (lo := 0) (fun i σ H2 => ∃ (v4 : Option V), σ = [some (.int (n : Int)), some (.ref lt), some (.ref ls), some (.ref x), v4, none] ∧ Same H H2 ∧ YardAt C H2 x dx r qs n (mat ((zs.take i).map (·.2)) fun _ => false))
      ⟨none, rfl, s1, Y1.congr fun i j _ _ => ?_⟩ ?_ ?_⟩
    · unfold idM mat
      by_cases hij : i = j
      · simp [hij]
      · have : ¬ j = i := fun z => hij z.symm
        simp [hij, this]
    · rintro i σ H2 hi ⟨v4, rfl, s2, Y⟩
      rw [hlen] at hi
      have hz : zs[i]? = some zs[i] := by simp [hi]
      generalize zs[i] = z at hz
      have hm : z ∈ zs := List.mem_of_getElem? hz
      have hat := s2 _ _ (hT0.at_ z hm)
      obtain ⟨hxy, hyn⟩ := hT0.ok z hm
      have tk : (zs.take (i + 1)).map (·.2) = (zs.take i).map (·.2) ++ [(z.2.1, z.2.2)] := by
        rw [List.take_add_one, hz, List.map_append]
        rfl
      have hrow : atI (zs.map fun z => V.ref z.1) (0 + (i : Int)) = some (.ref z.1) := atI_of (by omega) (by
        rw [tn0 i, List.getElem?_map, hz]
        rfl)
      have n1 := hT0.fresh hz
      have n2 := hT0.turned (us := zs.take i) (fun u hu => List.mem_of_mem_take hu) hxy
      have step : ∀ (a b : Nat), (a = z.2.1 ∧ b = z.2.2 ∨ a = z.2.2 ∧ b = z.2.1) → spTie C NL AL TD true [.ref x, .int (a : Int), .int (b : Int)] H2 (fun _ H' => ∃ (v4 : Option V), [some (V.int (n : Int)), some (.ref lt), some (.ref ls), some (.ref x), some (.int (0 + (i : Int))), none] = [some (.int (n : Int)), some (.ref lt), some (.ref ls), some (.ref x), v4, none] ∧ Same H H' ∧ YardAt C H' x dx r qs n (mat ((zs.take (i + 1)).map (·.2)) fun _ => false)) E0 := fun a b ho => by
        obtain ⟨o1, o2, o3, o4, o5⟩ := tie_facts (g := fun _ => false) ho hxy hyn n1 n2
        refine ⟨x, dx, r, qs, n, _, a, b, rfl, Y, fun _ H3 Y3 fr => ⟨_, rfl, Left.same fr s2 hqf, ?_⟩, fun bad => absurd ⟨o1, o2⟩ bad, fun al => absurd al.2.2 o3, fun td => by rw [td.2.2.2] at o4; cases o4⟩
        rw [tk, ← o5]
        exact Y3
      have pr : (0 + (i : Int)) % 2 = 0 ∨ (0 + (i : Int)) % 2 = 1 := by omega
      rcases pr with e | e
      · exact ⟨_, rfl, x, dx, _, rfl, Y.ob, yf_no _ _ (by decide +kernel) (by decide +kernel), _, rfl, _, rfl, lt, _, _, _, rfl, rfl, SqL.of (s2 _ _ hT0.top), hrow, _, rfl, _, _, rfl, rfl, posI rfl, z.1, _, _, _, rfl, rfl, SqT.of hat, atI_pair0 e,
          _, rfl, _, rfl, lt, _, _, _, rfl, rfl, SqL.of (s2 _ _ hT0.top), hrow, _, rfl, _, _, rfl, rfl, posI rfl, _, _, rfl, rfl, z.1, _, _, _, rfl, rfl, SqT.of hat, atI_pair1 (by rw [e]; rfl), step _ _ (.inl ⟨rfl, rfl⟩)⟩
      · exact ⟨_, rfl, x, dx, _, rfl, Y.ob, yf_no _ _ (by decide +kernel) (by decide +kernel), _, rfl, _, rfl, lt, _, _, _, rfl, rfl, SqL.of (s2 _ _ hT0.top), hrow, _, rfl, _, _, rfl, rfl, posI rfl, z.1, _, _, _, rfl, rfl, SqT.of hat, atI_pair1 e,
          _, rfl, _, rfl, lt, _, _, _, rfl, rfl, SqL.of (s2 _ _ hT0.top), hrow, _, rfl, _, _, rfl, rfl, posI rfl, _, _, rfl, rfl, z.1, _, _, _, rfl, rfl, SqT.of hat, atI_pair0 (by rw [e]; rfl), step _ _ (.inr ⟨rfl, rfl⟩)⟩
    · rintro σ H2 ⟨v4, rfl, s2, Y⟩
      rw [hlen, List.take_of_length_le (Nat.le_refl _)] at Y
      generalize hts : zs.map (·.2) = ts at Y k
      -- the shy ones
      refine ⟨_, rfl, _, rfl, rgL, rgU hn2, for_range (lo := 0) (fun i σ H3 => ∃ (v5 : Option V), σ = [some (.int (n : Int)), some (.ref lt), some (.ref ls), some (.ref x), v4, v5] ∧ Same H H3 ∧ YardAt C H3 x dx r qs n (mat ts fun j => f j && decide (j < i)))
        ⟨none, rfl, s2, Y.congr fun i j hi _ => mat_congr (fun j _ => by simp) i j hi⟩ ?_ ?_⟩
      · rintro i σ H3 hi ⟨v5, rfl, s3, Y⟩
        have hi' : i < n := by omega
        have ix : atI (rowV n f) (0 + (i : Int)) = some (.bl (f i)) := atI_of (by omega) (by rw [tn0 i]; exact rowV_at f hi')
        refine ⟨_, rfl, _, rfl, ls, _, _, _, rfl, rfl, SqL.of (s3 _ _ hS0), ix, _, rfl, ?_⟩
        cases hf : f i with
        | true =>
          refine iteT ⟨_, rfl, x, dx, _, rfl, Y.ob, yf_no _ _ (by decide +kernel) (by decide +kernel), _, rfl, x, dx, r, qs, n, _, _, true, rfl, Y, fun _ H4 Y4 fr => ⟨_, rfl, Left.same fr s3 hqf, ?_⟩, fun bad => absurd (okI hi') bad⟩
          rw [mat_putD, tn0 i] at Y4
          refine Y4.congr fun a b ha _ => mat_congr (n := n) (fun j _ => ?_) a b ha
          by_cases hj : j = i
          · subst hj
            simp [hf]
          · have : (j < i + 1) = (j < i) := lt_one hj
            simp [hj, this]
        | false =>
          refine iteF ⟨_, rfl, s3, Y.congr fun a b ha _ => mat_congr (n := n) (fun j _ => ?_) a b ha⟩
          by_cases hj : j = i
          · subst hj
            simp [hf]
          · have : (j < i + 1) = (j < i) := lt_one hj
            simp [this]
      · rintro σ H3 ⟨v5, rfl, s3, Y⟩
        have Y := Y.congr (N := mat ts f) fun a b ha _ => mat_congr (n := n) (fun j hj => by
          simp [hj]) a b ha
        have ix : atI (rowV n f) 0 = some (.bl (f 0)) := atI_of (by omega) (rowV_at f (by omega))
        -- shy set, and set again
        refine ⟨_, rfl, x, dx, _, rfl, Y.ob, yf_no _ _ (by decide +kernel) (by decide +kernel), _, rfl, ls, _, _, _, rfl, rfl, SqL.of (s3 _ _ hS0), ix, _, rfl, x, dx, r, qs, n, _, 0, _, rfl, Y, fun _ H4 Y4 fr => ?_, fun bad => absurd (ok00 hn1) bad⟩
        have s4 : Same H H4 := Left.same fr s3 hqf
        refine ⟨_, rfl, x, dx, _, rfl, Y4.ob, yf_no _ _ (by decide +kernel) (by decide +kernel), _, rfl, ls, _, _, _, rfl, rfl, SqL.of (s4 _ _ hS0), ix, x, dx, r, qs, n, _, 0, _, rfl, Y4, fun _ H5 Y5 fr => ?_, fun bad => absurd (ok00 hn1) bad⟩
        have s5 : Same H H5 := Left.same fr s4 hqf
        rw [mat_putD, mat_putD] at Y5
        have Y5 := Y5.congr (N := mat ts f) fun a b ha _ => mat_congr (n := n) (fun j hj => by
          by_cases h0 : j = 0
          · subst h0
            simp
          · simp [h0]) a b ha
        -- the tie put in and taken out
        refine ⟨_, rfl, _, _, rfl, rfl, _, rfl, ?_⟩
        refine ite2 (fun c => ?_) (fun c => ?_)
        · have c' : (1 : Int) < n := of_decide_eq_true c
          refine ⟨_, rfl, _, _, rfl, rfl, (by show 2 ≤ sizeLine; decide), fun t ht => ?_⟩
          have s6 : Same H (upd H5 t (.tup [.int 0, .int ((n : Int) - 1)])) := s5.trans (Same.laid ht)
          have Y6 := Y5.same (Same.laid (o := .tup [.int 0, .int ((n : Int) - 1)]) ht)
          have T6 := hT0.same s6
          refine ⟨_, rfl, t, _, lt, zs.map (·.1), rfl, SqT.of upd_same, rfl, rfl, SqL.of (by rw [T6.top, List.map_map]; rfl), (fun a ha => ?_), _, rfl, ?_⟩
          · obtain ⟨z, hz, rfl⟩ := List.mem_map.mp ha
            rw [tupAt_of (T6.at_ z hz)]
            exact ⟨T6.at_ z hz, rfl⟩
          · rw [if_pos rfl]
            refine ite2 (fun d => ?_) (fun d => ⟨_, rfl, k x dx r qs _ s6 Y6 hx hrf hqf⟩)
            have no : (0, n - 1) ∉ ts := fun m => by
              rw [← hts] at m
              obtain ⟨z, hz, e⟩ := List.mem_map.mp m
              have hany : ((zs.map (·.1)).any fun a => eqVs (tupAt (upd H5 t (.tup [.int 0, .int ((n : Int) - 1)])) a) [.int 0, .int ((n : Int) - 1)]) = true := by
                rw [List.any_eq_true]
                refine ⟨z.1, List.mem_map.mpr ⟨z, hz, rfl⟩, ?_⟩
                rw [tupAt_of (T6.at_ z hz), e]
                have : ((n - 1 : Nat) : Int) = (n : Int) - 1 := by omega
                simp [eqVs, eqV, this]
              rw [hany] at d
              cases d
            have no2 : (n - 1, 0) ∉ ts := by
              rw [← hts]
              exact hT0.turned (us := zs) (fun u hu => hu) (by omega)
            have en : ((n : Int) - 1).toNat = n - 1 := by omega
            have m1 : mat ts f (n - 1) 0 = false := mat_none (by omega) no2 no
            have m2 : mat ts f 0 (n - 1) = false := mat_none (by omega) no no2
            refine ⟨_, rfl, x, dx, _, rfl, Y6.ob, yf_no _ _ (by decide +kernel) (by decide +kernel), _, rfl, _, _, rfl, rfl, x, dx, r, qs, n, _, _, _, rfl, Y6, fun _ H7 Y7 fr => ?_, fun bad => absurd ⟨okN1 hn1, ok00 hn1⟩ bad, fun al => absurd al.2.2 (by omega), fun td => ?_⟩
            · have s7 : Same H H7 := Left.same fr s6 hqf
              refine ⟨_, rfl, x, dx, _, rfl, Y7.ob, yf_no _ _ (by decide +kernel) (by decide +kernel), _, rfl, _, _, rfl, rfl, x, dx, r, qs, n, _, _, _, rfl, Y7, fun _ H8 Y8 fr => ?_, fun bad => absurd ⟨ok00 hn1, okN1 hn1⟩ bad, fun al => absurd al.2.2 (by omega), fun td => ?_⟩
              · have s8 : Same H H8 := Left.same fr s7 hqf
                rw [en, show ((0 : Int)).toNat = 0 from rfl, put2_back m1 m2] at Y8
                exact ⟨_, rfl, k x dx r qs _ s8 Y8 hx hrf hqf⟩
              · have td := td.2.2.2
                rw [en] at td
                simp [put2] at td
            · have td := td.2.2.2
              rw [en, show ((0 : Int)).toNat = 0 from rfl, m1] at td
              cases td
        · exact iteF ⟨_, rfl, k x dx r qs _ s5 Y5 hx hrf hqf⟩
end
end Lp

/-! ## the law's own turns, lights and presses -/
namespace Lp
open PySem L2 Lamp
abbrev s_turnsL : Stmt := top 27
abbrev s_light : Stmt := top 28
abbrev s_pressedL : Stmt := top 29
abbrev s_alike_light : Stmt := (.Pass ⟨0, 0, 0, 0⟩)
theorem natV_ints (os : List Nat) : natV os = (os.map fun j : Nat => (j : Int)).map V.int := by
  rw [natV, List.map_map]
  rfl
theorem natV_len (os : List Nat) : (natV os).length = os.length := by simp [natV]
theorem natV_at {os : List Nat} {i : Nat} {x : V} (h : (natV os)[i]? = some x) : ∃ o, os[i]? = some o ∧ x = .int (o : Int) := by
  rw [natV, List.getElem?_map] at h
  cases e : os[i]? with
  | none => rw [e] at h; cases h
  | some o =>
    rw [e] at h
    cases h
    exact ⟨o, rfl, rfl⟩
theorem natV_push (os : List Nat) (o : Nat) : natV (os ++ [o]) = natV os ++ [.int (o : Int)] := by simp [natV]
theorem comp_nat {n : Nat} (p : Nat → Bool) : ((List.range n).filter p).map (fun j : Nat => V.int (0 + (j : Int))) = natV ((List.range n).filter p) := by
  rw [natV]
  apply List.map_congr_left
  intro j _
  rw [Int.zero_add]
section
variable {P : Program} {w : World} {K : PySem.W.Frag} {mg : Str → Option Value} {base : Heap}
/-! ### turns -/
def spTurnsL : Sp := fun vs H Q _ => ∃ (lt ls : Addr) (zs : List (Addr × Nat × Nat)) (n : Nat) (f : Nat → Bool), vs = [.int (n : Int), .ref lt, .ref ls] ∧ n ≤ 24 ∧ TiesAt H lt zs n ∧ zs.length ≤ 600 ∧ H ls = some (.lst (rowV n f)) ∧
  ∀ (D : Addr) (qs : List Addr) (H' : Hp), Same H H' → RowsAt H' D qs n (fun i => natV ((List.range n).filter (mat (zs.map (·.2)) f i))) → H D = none → (∀ q ∈ qs, H q = none) → Q (.ref D) H'
theorem sc_turnsL : FnScope ["many", "ties", "shy", "found", "one", "other"] ["many", "ties", "shy"] (defScope s_turnsL) := ⟨rfl, rfl, rfl, by decide +kernel, rfl, by decide +kernel, by decide +kernel⟩
theorem ok_turnsL {f : Addr} {fd : FuncData} (F : Fun K "_law_turns" "_law_turns" s_turnsL f fd) (T : LB mg) : FnOk P w K mg base CX0 1 f fd ["many", "ties", "shy"] spTurnsL := by
  refine F.ok sc_turnsL (fun vs H Q E h => ?_) (fun cdv A outer s H vs Q E hr h => ?_)
  · obtain ⟨lt, ls, zs, n, f, rfl, _⟩ := h
    rfl
  · obtain ⟨lt, ls, zs, n, f, rfl, hn, hT, hz, hS, k⟩ := h
    refine ⟨_, ((L2.pss_cons (ps_compN (i := 3) (js := [0, 2]) sc_turnsL.nd rfl (by first | exact Or.inl rfl | exact Or.inr rfl) rfl (by kernel_rfl) (pi_range1 rfl T.b_range (L2.pa_cons ((pv 0)) L2.pa_nil)) (fun _ _ _ _ _ => pf_nil) (fun _ _ _ _ _ => (pe_compN (js := [0, 2]) rfl (by kernel_rfl) (pi_range1 rfl T.b_range (L2.pa_cons ((pv 1)) L2.pa_nil)) (fun _ _ _ _ _ => pf_nil) (fun _ _ _ _ _ => (pe_and (pe_not (pe_ix (ixLK K) (pv 2) (pv 1) (fun _ _ => rfl))) (pe_one (pe_cmpR op_eq (pv 1) (pv 0) (nomark _)))))))) (L2.pss_cons (ps_for PassesOwn.never rfl (piLK K (pv 1)) (pg_tup rfl (pgs_cons (pg_name (i := 4) sc_turnsL.nd rfl (by first | exact Or.inl rfl | exact Or.inr rfl)) (pgs_cons (pg_name (i := 5) sc_turnsL.nd rfl (by first | exact Or.inl rfl | exact Or.inr rfl)) (pgs_nil)))) ((L2.pss_cons (ps_asg (pe_bl) (pg_sub (pe_ix (ixLK K) (pv 3) (pv 4) (fun _ _ => rfl)) (pv 5) set_list)) (L2.pss_one (ps_asg (pe_bl) (pg_sub (pe_ix (ixLK K) (pv 3) (pv 5) (fun _ _ => rfl)) (pv 4) set_list)))))) (L2.pss_one (ps_ret (pe_compN (js := [0]) rfl (by kernel_rfl) (piLK K (pv 3)) (fun _ _ _ _ _ => pf_nil) (fun _ _ _ _ _ => (pe_compN (js := [0]) rfl (by kernel_rfl) (pi_range1 rfl T.b_range (L2.pa_cons ((pv 1)) L2.pa_nil)) (fun _ _ _ _ _ => pf_one (pt_val (pe_ix (ixLK K) (pv 1) (pv 0) (fun _ _ => rfl)))) (fun _ _ _ _ _ => (pv 0)))))))))), ?_⟩
    refine ⟨_, rfl, n, rfl, rgL, rgU (by assumption), comp_new (n := n) (fun i => .int (0 + (i : Int))) (fun i => rowV n fun j => !f i && decide (i = j)) (r1000 (by assumption)) itr_new (fun i Hc k' hi sm hk => ?_) fun D qs H1 hD s1 R fr => ?_⟩
    · have ix : atI (rowV n f) (0 + (i : Int)) = some (.bl (f i)) := atI_of (by omega) (by rw [tn0 i]; exact rowV_at f hi)
      refine ⟨_, rfl, n, rfl, rgL, rgU (by assumption), comp_range (n := n) (fun _ => true) (fun j => V.bl (!f i && decide (i = j))) (r1000 (by assumption)) (fun j Hd k2 _ _ q => q) (fun j Hd k2 hj _ sm2 q => ?_) fun q hq => ?_⟩
      · refine ⟨_, rfl, _, rfl, ls, _, _, _, rfl, rfl, SqL.of (sm2 _ _ (sm _ _ hS)), ix, _, rfl, _, rfl, ?_⟩
        cases hf : f i with
        | true =>
          rw [hf] at q
          exact iteF q
        | false =>
          rw [hf] at q
          refine iteT ⟨_, rfl, _, rfl, rfl, ?_⟩
          have e : decide (V.int (0 + (i : Int)) = V.int (0 + (j : Int))) = decide (i = j) := by
            rw [Bool.eq_iff_iff]
            simp
            omega
          rw [e]
          exact q
      · rw [rowV_comp]
        exact hk q hq
    -- the ties
    have len : (zs.map fun z => V.ref z.1).length = zs.length := by simp
    refine ⟨_, rfl, lt, rfl, ⟨_, SqL.of (s1 _ _ hT.top)⟩, for_list (xs := zs.map fun z => V.ref z.1) (fun i σ H2 => ∃ v4 v5, σ = [some (.int (n : Int)), some (.ref lt), some (.ref ls), some (.ref D), v4, v5] ∧ Same H H2 ∧ RowsAt H2 D qs n (fun a => rowV n (mat ((zs.take i).map (·.2)) f a)))
      ⟨none, none, rfl, s1, R.congr fun i hi => rowV_congr fun j hj => ?_⟩ (fun i σ H2 _ ⟨_, _, _, s2, _⟩ => SqL.of (s2 _ _ hT.top)) ?_ ?_⟩
    · unfold mat
      by_cases hij : i = j
      · simp [hij]
      · simp [hij]
    · rintro i x σ H2 hx ⟨v4, v5, rfl, s2, R2⟩
      rw [List.getElem?_map] at hx
      cases hz' : zs[i]? with
      | none => rw [hz'] at hx; cases hx
      | some z =>
        rw [hz'] at hx
        cases hx
        have hm : z ∈ zs := List.mem_of_getElem? hz'
        have hat := s2 _ _ (hT.at_ z hm)
        obtain ⟨hxy, hyn⟩ := hT.ok z hm
        obtain ⟨q1, hq1, hx1, hrow1⟩ := R2.row (a := z.2.1) (by omega)
        have R3 := R2.set hq1 ((rowV n (mat ((zs.take i).map (·.2)) f z.2.1)).set z.2.2 (.bl true))
        obtain ⟨q2, hq2, hx2, hrow2⟩ := R3.row (a := z.2.2) (by omega)
        have R4 := R3.set hq2 ((rowV n (mat ((zs.take i).map (·.2)) f z.2.2)).set z.2.1 (.bl true))
        rw [if_neg (by omega)] at hrow2
        refine ⟨z.1, _, rfl, SqT.of hat, rfl, _, _, rfl, _, _, rfl, rfl, ?_⟩
        refine ⟨_, rfl, _, rfl, D, _, _, _, rfl, rfl, SqL.of R2.top, hx1, _, rfl, q1, _, _, z.2.2, rfl, rfl, hrow1, (by rw [rowV_len]; exact ixN_of (by omega) (by omega)), ?_⟩
        refine ⟨_, rfl, _, rfl, D, _, _, _, rfl, rfl, SqL.of R3.top, hx2, _, rfl, q2, _, _, z.2.1, rfl, rfl, hrow2, (by rw [rowV_len]; exact ixN_of (by omega) (by omega)), ?_⟩
        have f1 := fr q1 (List.mem_of_getElem? hq1)
        have f2 := fr q2 (List.mem_of_getElem? hq2)
        refine ⟨_, _, rfl, fun b o e => ?_, R4.congr fun a ha => ?_⟩
        · have e2 := s2 b o e
          rw [upd_ne (ne_of_none e f2), upd_ne (ne_of_none e f1)]
          exact e2
        · have tk : (zs.take (i + 1)).map (·.2) = (zs.take i).map (·.2) ++ [(z.2.1, z.2.2)] := by
            rw [List.take_add_one, hz', List.map_append]
            rfl
          rw [tk, mat_push (by omega)]
          by_cases ha2 : a = z.2.2
          · rw [if_pos ha2, rowV_set]
            apply rowV_congr
            intro j hj
            subst ha2
            unfold put2
            by_cases hj1 : j = z.2.1
            · simp [hj1]
            · have : ¬ z.2.2 = z.2.1 := by omega
              simp [hj1, this]
          · rw [if_neg ha2]
            by_cases ha1 : a = z.2.1
            · rw [if_pos ha1, rowV_set]
              apply rowV_congr
              intro j hj
              subst ha1
              unfold put2
              by_cases hj1 : j = z.2.2
              · simp [hj1]
              · simp [hj1, ha2]
            · rw [if_neg ha1]
              apply rowV_congr
              intro j hj
              unfold put2
              simp [ha1, ha2]
    · rintro σ H2 ⟨v4, v5, rfl, s2, R2⟩
      rw [len, List.take_of_length_le (Nat.le_refl _)] at R2
      have hql : (qs.map V.ref).length = n := by rw [List.length_map, R2.ln]
      refine ⟨_, rfl, D, rfl, ⟨_, SqL.of R2.top⟩, comp_new (n := n) (fun i => (qs.map V.ref).getD i .non) (fun i => natV ((List.range n).filter (mat (zs.map (·.2)) f i))) (r1000 (by assumption))
        (fun i H3 sm => by have := itl_new (K := K) (a := D) (xs := qs.map V.ref) (H1 := H2) (SqL.of R2.top) i H3 sm; rwa [hql] at this) (fun i Hc k' hi sm hk => ?_) fun D2 qs2 H3 hD2 s3 R3 fr3 => k D2 qs2 H3 (s2.trans s3) R3 (s2.free hD2) fun q hq => s2.free (fr3 q hq)⟩
      obtain ⟨q, hq, _, hrow⟩ := R2.row hi
      have eg : (qs.map V.ref).getD i .non = .ref q := by rw [List.getD_eq_getElem?_getD, List.getElem?_map, hq]; rfl
      rw [eg]
      refine ⟨_, rfl, n, rfl, rgL, rgU (by assumption), comp_range (n := n) (mat (zs.map (·.2)) f i) (fun j => V.int (0 + (j : Int))) (r1000 (by assumption)) (fun j Hd k2 hj sm2 q' => ?_) (fun j Hd k2 _ _ _ q => ⟨_, rfl, q⟩) fun q' hq' => ?_⟩
      · refine ⟨_, rfl, _, rfl, q, _, _, _, rfl, rfl, SqL.of (sm2 _ _ (sm _ _ hrow)), atI_of (by omega) ?_, _, rfl, q'⟩
        rw [tn0 j]
        exact rowV_at _ hj
      · rw [comp_nat]
        exact hk q' hq'
/-! ### light -/
def spLight : Sp := fun vs H Q _ => ∃ (c : Int) (n : Nat), vs = [.int c, .int (n : Int)] ∧ n ≤ 24 ∧ ∀ (D : Addr) (g : Nat → Bool) (H' : Hp), H D = none → Same H H' → H' D = some (.lst (rowV n g)) → Q (.ref D) H'
theorem sc_light : FnScope ["cell", "many"] ["cell", "many"] (defScope s_light) := ⟨rfl, rfl, rfl, by decide +kernel, rfl, by decide +kernel, by decide +kernel⟩
theorem ok_light {f : Addr} {fd : FuncData} (F : Fun K "_law_light" "_law_light" s_light f fd) (T : LB mg) (hF_mix : Has P w K mg base (CXE P w) 1 "_law_mix" ["cell", "k"] spMix) : FnOk P w K mg base CX0 2 f fd ["cell", "many"] spLight := by
  refine F.ok sc_light (fun vs H Q E h => ?_) (fun cdv A outer s H vs Q E hr h => ?_)
  · obtain ⟨c, n, rfl, _⟩ := h
    rfl
  · obtain ⟨cc, n, rfl, hn, k⟩ := h
    refine ⟨_, ((L2.pss_cons (ps_if (pt_cmpR op_eq (pe_op op_mod (pv 0) (pe_int)) (pe_int) (nomark _)) ((L2.pss_one (ps_ret (pe_compN (js := []) rfl (by kernel_rfl) (pi_range1 rfl T.b_range (L2.pa_cons ((pv 1)) L2.pa_nil)) (fun _ _ _ _ _ => pf_nil) (fun _ _ _ _ _ => (pe_bl)))))) pss_nil) (L2.pss_cons (ps_if (pt_cmpR op_eq (pe_op op_mod (pv 0) (pe_int)) (pe_int) (nomark _)) ((L2.pss_one (ps_ret (pe_compN (js := []) rfl (by kernel_rfl) (pi_range1 rfl T.b_range (L2.pa_cons ((pv 1)) L2.pa_nil)) (fun _ _ _ _ _ => pf_nil) (fun _ _ _ _ _ => (pe_bl)))))) pss_nil) (L2.pss_one (ps_ret (pe_compN (js := [0]) rfl (by kernel_rfl) (pi_range1 rfl T.b_range (L2.pa_cons ((pv 1)) L2.pa_nil)) (fun _ _ _ _ _ => pf_nil) (fun _ _ _ _ _ => (pe_cmpR op_eq (pe_op op_mod (pe_op op_fdiv (pe_callH hF_mix (hr.mono (by decide)) rfl (passN) (L2.pa_cons ((pv 1)) (L2.pa_cons ((pv 0)) L2.pa_nil))) (pe_int)) (pe_int)) (pe_int) (nomark _))))))))), ?_⟩
    have fin : ∀ (g : Nat → Bool) (D : Addr), H D = none → Q (.ref D) (upd H D (.lst (((List.range n).filter fun _ => true).map fun j => V.bl (g j)))) := fun g D hD => by
      rw [rowV_comp]
      exact k D g _ hD (Same.laid hD) upd_same
    refine ⟨_, rfl, _, _, rfl, rfl, posI rfl, rfl, _, rfl, ?_⟩
    refine ite2 (fun c => ?_) (fun c => ?_)
    · exact ⟨_, rfl, n, rfl, rgL, rgU (by assumption), comp_range (n := n) (fun _ => true) (fun _ => V.bl false) (r1000 (by assumption)) (fun j Hc k _ _ q => q) (fun j Hc k _ _ _ q => q) fun D hD => fin _ D hD⟩
    refine ⟨_, rfl, _, _, rfl, rfl, posI rfl, rfl, _, rfl, ?_⟩
    refine ite2 (fun c => ?_) (fun c => ?_)
    · exact ⟨_, rfl, n, rfl, rgL, rgU (by assumption), comp_range (n := n) (fun _ => true) (fun _ => V.bl true) (r1000 (by assumption)) (fun j Hc k _ _ q => q) (fun j Hc k _ _ _ q => q) fun D hD => fin _ D hD⟩
    refine ⟨_, rfl, n, rfl, rgL, rgU (by assumption), comp_range (n := n) (fun _ => true) (fun j => V.bl (decide (V.int (mixF cc (0 + (j : Int)) / 7 % 2) = V.int 1))) (r1000 (by assumption)) (fun j Hc k _ _ q => q) (fun j Hc k _ _ _ q => ?_) fun D hD => fin _ D hD⟩
    exact ⟨_, rfl, _, rfl, _, _, rfl, _, _, rfl, rfl, divI rfl, _, _, rfl, rfl, posI rfl, rfl, q⟩
/-! ### pressed, as the law reckons it -/
def spPressedL (K : PySem.W.Frag) : Sp := fun vs H Q _ => ∃ (a D b : Addr) (qs : List Addr) (n : Nat) (M : Nat → Nat → Bool) (f : Nat → Bool) (ps : List Nat), vs = [.ref a, .ref D, .ref b] ∧ n ≤ 24 ∧ SqL K H a (rowV n f) ∧ RowsAt H D qs n (fun i => natV ((List.range n).filter (M i))) ∧
  SqL K H b (natV ps) ∧ (∀ p ∈ ps, p < n) ∧ ∀ (L : Addr) (H' : Hp), H L = none → Same H H' → H' L = some (.lst (rowV n fun j => f j ^^ par M ps j)) → Q (.ref L) H'
theorem par_push (M : Nat → Nat → Bool) (ps : List Nat) (p j : Nat) : par M (ps ++ [p]) j = (par M ps j ^^ M p j) := by
  rw [par_append]
  simp [par]
theorem sc_pressedL : FnScope ["light", "turns", "presses", "lamp", "other"] ["light", "turns", "presses"] (defScope s_pressedL) := ⟨rfl, rfl, rfl, by decide +kernel, rfl, by decide +kernel, by decide +kernel⟩
theorem ok_pressedL {f : Addr} {fd : FuncData} (F : Fun K "_law_pressed" "_law_pressed" s_pressedL f fd) (T : LB mg) : FnOk P w K mg base CX0 1 f fd ["light", "turns", "presses"] (spPressedL K) := by
  refine F.ok sc_pressedL (fun vs H Q E h => ?_) (fun cdv A outer s H vs Q E hr h => ?_)
  · obtain ⟨a, D, b, qs, n, M, f, ps, rfl, _⟩ := h
    rfl
  · obtain ⟨a, D, b, qs, n, M, f, ps, rfl, hn, ha, R, hb, hp, k⟩ := h
    refine ⟨_, ((L2.pss_cons (ps_set (i := 0) sc_pressedL.nd rfl (by first | exact Or.inl rfl | exact Or.inr rfl) (pe_callTy (listK K) rfl T.b_list bootB_list (L2.pa_cons ((pv 0)) L2.pa_nil))) (L2.pss_cons (ps_for PassesOwn.never rfl (piLK K (pv 2)) (pg_name (i := 3) sc_pressedL.nd rfl (by first | exact Or.inl rfl | exact Or.inr rfl)) ((L2.pss_one (ps_for PassesOwn.never rfl (piLK K (pe_ix (ixLK K) (pv 1) (pv 3) (fun _ _ => rfl))) (pg_name (i := 4) sc_pressedL.nd rfl (by first | exact Or.inl rfl | exact Or.inr rfl)) ((L2.pss_one (ps_asg (pe_not (pe_ix (ixLK K) (pv 0) (pv 4) (fun _ _ => rfl))) (pg_sub (pv 0) (pv 4) set_list)))))))) (L2.pss_one (ps_ret (pv 0)))))), ?_⟩
    refine ⟨_, rfl, a, _, rfl, .inl ha, fun L hL => ?_⟩
    have s0 : Same H (upd H L (.lst (rowV n f))) := Same.laid hL
    refine ⟨_, rfl, b, rfl, ⟨_, s0.seq hb⟩, for_list (xs := natV ps) (fun i σ H2 => ∃ v3 v4, σ = [some (.ref L), some (.ref D), some (.ref b), v3, v4] ∧ Same H H2 ∧ H2 L = some (.lst (rowV n fun j => f j ^^ par M (ps.take i) j)))
      ⟨none, none, rfl, s0, by rw [upd_same]; simp [par]⟩ (fun i σ H2 _ ⟨_, _, _, s2, _⟩ => s2.seq hb) ?_ ?_⟩
    · rintro i x σ H2 hx ⟨v3, v4, rfl, s2, hL2⟩
      obtain ⟨p, hp', rfl⟩ := natV_at hx
      have hpn : p < n := hp p (List.mem_of_getElem? hp')
      obtain ⟨q, hq, hxq, hrow⟩ := R.row hpn
      have nd : ((List.range n).filter (M p)).Nodup := List.nodup_range.filter _
      refine ⟨_, rfl, _, rfl, D, _, _, _, rfl, rfl, SqL.of (s2 _ _ R.top), hxq, q, rfl, ⟨_, SqL.of (s2 _ _ hrow)⟩,
        for_list (xs := natV ((List.range n).filter (M p))) (fun t σ H3 => ∃ v4, σ = [some (.ref L), some (.ref D), some (.ref b), some (.int (p : Int)), v4] ∧ Same H H3 ∧ H3 L = some (.lst (rowV n (flips (fun j => f j ^^ par M (ps.take i) j) (((List.range n).filter (M p)).take t)))))
          ⟨v4, rfl, s2, by rw [hL2]; rfl⟩ (fun t σ H3 _ ⟨_, _, s3, _⟩ => SqL.of (s3 _ _ hrow)) ?_ ?_⟩
      · rintro t x σ H3 hx3 ⟨v4, rfl, s3, hL3⟩
        obtain ⟨o, ho, rfl⟩ := natV_at hx3
        have hon : o < n := List.mem_range.mp (List.mem_filter.mp (List.mem_of_getElem? ho)).1
        refine ⟨_, rfl, _, rfl, L, _, _, _, rfl, rfl, SqL.of hL3, atI_nat (rowV_at _ hon), _, rfl, _, rfl, _, rfl, L, _, _, o, rfl, rfl, hL3, (by rw [rowV_len]; exact ixN_of (by omega) (by omega)), ?_⟩
        refine ⟨_, rfl, fun c u e => ?_, ?_⟩
        · rw [upd_ne (ne_of_none e hL)]
          exact s3 _ _ e
        · rw [upd_same, rowV_set, List.take_add_one, ho]
          show some (HO.lst _) = some (.lst (rowV n (flips _ (_ ++ [o]))))
          rw [flips_push]
          congr 2
          apply rowV_congr
          intro j _
          by_cases hj : j = o
          · subst hj; simp
          · simp [hj]
      · rintro σ H3 ⟨v4, rfl, s3, hL3⟩
        rw [natV_len, List.take_of_length_le (Nat.le_refl _)] at hL3
        refine ⟨_, _, rfl, s3, ?_⟩
        rw [hL3]
        congr 2
        apply rowV_congr
        intro j hj
        rw [flips_of _ _ _ nd, List.take_add_one, hp']
        show _ = (f j ^^ par M (ps.take i ++ [p]) j)
        rw [par_push]
        by_cases hm : M p j = true
        · rw [if_pos (List.mem_filter.mpr ⟨List.mem_range.mpr hj, hm⟩), hm]
          cases f j <;> cases par M (ps.take i) j <;> rfl
        · have hm' : M p j = false := by simpa using hm
          rw [if_neg (fun z => hm (List.mem_filter.mp z).2), hm']
          cases f j <;> cases par M (ps.take i) j <;> rfl
    · rintro σ H2 ⟨v3, v4, rfl, s2, hL2⟩
      rw [natV_len, List.take_of_length_le (Nat.le_refl _)] at hL2
      exact ⟨_, rfl, k L H2 hL s2 hL2⟩
/-! ### two lights alike -/
end
end Lp

/-! ## what the laws share -/
namespace Lp
open PySem L2 Lamp
theorem cut_ints (ns : List Int) (lo hi : Option Int) : ∃ cs : List Int, cutV (ns.map V.int) lo hi = cs.map V.int ∧ cs.length ≤ ns.length := by
  refine ⟨(ns.drop (HT.sIx ns.length 0 lo)).take (HT.sIx ns.length ns.length hi - HT.sIx ns.length 0 lo), ?_, ?_⟩
  · unfold cutV
    rw [List.length_map, List.map_take, List.map_drop]
  · rw [List.length_take, List.length_drop]
    omega
end Lp

/-! ## whole numbers, lists of them -/
namespace Lp
open PySem L2 Lamp
abbrev s_whole : Stmt := top 31
abbrev s_alike : Stmt := top 32
section
variable {P : Program} {w : World} {K : PySem.W.Frag} {mg : Str → Option Value} {base : Heap}
def spWhole : Sp := fun vs H Q _ => ∃ i : Int, vs = [.int i] ∧ Q (.bl true) H
theorem sc_whole : FnScope ["found"] ["found"] (defScope s_whole) := ⟨rfl, rfl, rfl, by decide +kernel, rfl, by decide +kernel, by decide +kernel⟩
theorem ok_whole {f : Addr} {fd : FuncData} (F : Fun K "_law_whole" "_law_whole" s_whole f fd) (T : LB mg) : FnOk P w K mg base CX0 1 f fd ["found"] spWhole := by
  refine F.ok sc_whole (fun vs H Q E h => ?_) (fun cdv A outer s H vs Q E hr h => ?_)
  · obtain ⟨i, rfl, _⟩ := h
    rfl
  · obtain ⟨i, rfl, q⟩ := h
    refine ⟨_, ((L2.pss_one (ps_ret (pe_and (pe_callB (isiK K) rfl T.b_isinstance bootB_isinstance (L2.pa_cons ((pv 0)) (L2.pa_cons ((pe_tyB rfl T.b_int bootB_int)) L2.pa_nil))) (pe_one (pe_not (pe_callB (isiK K) rfl T.b_isinstance bootB_isinstance (L2.pa_cons ((pv 0)) (L2.pa_cons ((pe_tyB rfl T.b_bool bootB_bool)) L2.pa_nil))))))))), ?_⟩
    exact ⟨_, rfl, _, _, _, _, true, rfl, .inl ⟨_, rfl, rfl⟩, .int _, kit_same, _, rfl, iteT ⟨_, rfl, _, _, _, _, false, rfl, .inl ⟨_, rfl, rfl⟩, .int _, kit_ii, _, rfl, q⟩⟩
def spAlike (K : PySem.W.Frag) : Sp := fun vs H Q _ => ∃ (a b : Addr) (xs ys : List Int), vs = [.ref a, .ref b] ∧ H a = some (.lst (xs.map V.int)) ∧ SqL K H b (ys.map V.int) ∧ xs.length ≤ 1000 ∧ ∀ H', Same H H' → Q (.bl (decide (xs = ys))) H'
theorem sc_alike : FnScope ["found", "due"] ["found", "due"] (defScope s_alike) := ⟨rfl, rfl, rfl, by decide +kernel, rfl, by decide +kernel, by decide +kernel⟩
theorem ok_alike {f : Addr} {fd : FuncData} (F : Fun K "_law_alike" "_law_alike" s_alike f fd) (T : LB mg) (hF_whole : Has P w K mg base (CXE P w) 1 "_law_whole" ["found"] spWhole) : FnOk P w K mg base CX0 2 f fd ["found", "due"] (spAlike K) := by
  refine F.ok sc_alike (fun vs H Q E h => ?_) (fun cdv A outer s H vs Q E hr h => ?_)
  · obtain ⟨a, b, xs, ys, rfl, _⟩ := h
    rfl
  · obtain ⟨a, b, xs, ys, rfl, ha, hb, hl, k⟩ := h
    have hu := hr.units0
    refine ⟨_, ((L2.pss_cons (ps_if (PW.pt (pw_or (pt_not (pt_val (pe_callB (isiK K) rfl T.b_isinstance bootB_isinstance (L2.pa_cons ((pv 0)) (L2.pa_cons ((pe_tyB rfl T.b_list bootB_list)) L2.pa_nil))))) (pw_or1 (pt_cmpR op_ne (pe_callB (lenK K) rfl T.b_len bootB_len (L2.pa_cons ((pv 0)) L2.pa_nil)) (pe_callB (lenK K) rfl T.b_len bootB_len (L2.pa_cons ((pv 1)) L2.pa_nil)) (nomark _))))) ((L2.pss_one (ps_ret (pe_bl)))) pss_nil) (L2.pss_one (ps_ret (pe_and (pe_callB (allK K rfl) rfl T.b_all bootB_all (L2.pa_cons ((pe_compN (js := []) rfl (by kernel_rfl) (piLK K (pv 0)) (fun _ _ _ _ _ => pf_nil) (fun _ _ _ _ _ => (pe_callH hF_whole (hr.mono (by decide)) rfl (passN) (L2.pa_cons ((pv 0)) L2.pa_nil))))) L2.pa_nil)) (pe_one (pe_cmpR (op_eq_seq hu) (pv 0) (pv 1) (nomark _)))))))), ?_⟩
    refine ⟨_, rfl, _, _, _, _, true, rfl, .inl ⟨_, rfl, rfl⟩, .lst ha, kit_same, _, rfl, iteF ⟨_, rfl, a, _, rfl, .inl (SqL.of ha), _, rfl, b, _, rfl, .inl hb, rfl, _, rfl, ?_⟩⟩
    by_cases he : xs.length = ys.length
    · have e : (!decide (V.int ((xs.map V.int).length : Int) = V.int ((ys.map V.int).length : Int))) = false := by simp [he]
      rw [e]
      refine iteF ⟨_, rfl, a, rfl, ⟨_, SqL.of ha⟩, comp_list (xs := xs.map V.int) (fun _ => true) (fun _ => V.bl true) (by simpa using hl) (SqL.of ha) (fun x Hc k' hx sm q => q) (fun x Hc k' hx _ sm q => ?_) fun D hD => ?_⟩
      · obtain ⟨i, _, rfl⟩ := List.mem_map.mp hx
        exact ⟨_, rfl, i, rfl, q⟩
      · have sm : Same H (upd H D (.lst (((xs.map V.int).filter fun _ => true).map fun _ => V.bl true))) := Same.laid hD
        have eb : ((xs.map V.int).filter fun _ => true).map (fun _ => V.bl true) = (xs.map fun _ => true).map V.bl := by
          rw [filt_t, List.map_map, List.map_map]
          rfl
        have ea : (xs.map fun _ => true).all id = true := by simp
        refine ⟨D, xs.map fun _ => true, rfl, SqL.of (by rw [upd_same, eb]), _, rfl, ?_⟩
        rw [ea]
        refine iteT ⟨_, rfl, _, rfl, a, b, _, _, rfl, rfl, .inl ⟨SqL.of (sm _ _ ha), sm.seq hb⟩, all_flat_int _, all_flat_int _, ?_⟩
        rw [if_neg Bool.false_ne_true, eqVs_int]
        exact k _ sm
    · have e : (!decide (V.int ((xs.map V.int).length : Int) = V.int ((ys.map V.int).length : Int))) = true := by
        simp only [List.length_map, Bool.not_eq_true', decide_eq_false_iff_not]
        intro z
        injection z with z
        omega
      rw [e]
      refine iteT ?_
      have := k H (Same.refl H)
      rwa [decide_eq_false (fun z => he (congrArg List.length z))] at this
end
end Lp

/-! ## what the laws of stage 2 share -/
namespace Lp
open PySem L2 Lamp
abbrev s_wished : Stmt := top 30
abbrev s_lamps : Stmt := (.Pass ⟨0, 0, 0, 0⟩)
abbrev s_differ : Stmt := top 33
theorem iteFe {c : Bool} {A B : Prop} (e : c = false) (h : B) : if c = true then A else B := by
  subst e
  exact iteF h
theorem iteTe {c : Bool} {A B : Prop} (e : c = true) (h : A) : if c = true then A else B := by
  subst e
  exact iteT h
theorem ne_bl (x y : Bool) : (!decide (V.bl x = V.bl y)) = (x != y) := by cases x <;> cases y <;> rfl
theorem natV_comp0 (l : List Nat) : l.map (fun i : Nat => V.int (0 + (i : Int))) = natV l := by
  unfold natV
  apply List.map_congr_left
  intro i _
  rw [Int.zero_add]
theorem rowV_at0 {n : Nat} (f : Nat → Bool) {i : Nat} (h : i < n) : atI (rowV n f) (0 + (i : Int)) = some (.bl (f i)) := atI_of (by omega) (by rw [tn0 i]; exact rowV_at f h)
section
variable {P : Program} {w : World} {K : PySem.W.Frag} {mg : Str → Option Value} {base : Heap}
def spDiffer (K : PySem.W.Frag) : Sp := fun vs H Q _ => ∃ (a b : Addr) (n : Nat) (f g : Nat → Bool), vs = [.ref a, .ref b] ∧ n ≤ 24 ∧ SqL K H a (rowV n f) ∧ SqL K H b (rowV n g) ∧ ∀ D, H D = none → Q (.ref D) (upd H D (.lst (natV ((List.range n).filter fun i => f i != g i))))
theorem sc_differ : FnScope ["one", "other"] ["one", "other"] (defScope s_differ) := ⟨rfl, rfl, rfl, by decide +kernel, rfl, by decide +kernel, by decide +kernel⟩
theorem ok_differ {f : Addr} {fd : FuncData} (F : Fun K "_law_differ" "_law_differ" s_differ f fd) (T : LB mg) : FnOk P w K mg base CX0 1 f fd ["one", "other"] (spDiffer K) := by
  refine F.ok sc_differ (fun vs H Q E h => ?_) (fun cdv A outer s H vs Q E hr h => ?_)
  · obtain ⟨a, b, n, f, g, rfl, _⟩ := h
    rfl
  · obtain ⟨a, b, n, f, g, rfl, hn, ha, hb, k⟩ := h
    refine ⟨_, ((L2.pss_one (ps_ret (pe_compN (js := [0, 1]) rfl (by kernel_rfl) (pi_range1 rfl T.b_range (L2.pa_cons ((pe_callB (lenK K) rfl T.b_len bootB_len (L2.pa_cons ((pv 0)) L2.pa_nil))) L2.pa_nil)) (fun _ _ _ _ _ => pf_one (pt_cmpR op_ne (pe_ix (ixLK K) (pv 1) (pv 0) (fun _ _ => rfl)) (pe_ix (ixLK K) (pv 2) (pv 0) (fun _ _ => rfl)) (nomark _))) (fun _ _ _ _ _ => (pv 0)))))), ?_⟩
    refine ⟨_, rfl, a, _, rfl, .inl ha, _, rfl, (by rw [rowV_len]; omega), (by rw [rowV_len]; omega), ?_⟩
    rw [rowV_len]
    refine comp_range (n := n) (fun i => f i != g i) (fun i => V.int (0 + (i : Int))) (r1000 (by assumption)) (fun i Hc k' hi sm q => ?_) (fun i Hc k' hi _ sm q => ⟨_, rfl, q⟩) fun D hD => ?_
    · refine ⟨_, rfl, _, rfl, a, _, _, _, rfl, rfl, sm.seq ha, rowV_at0 f hi, _, rfl, _, rfl, b, _, _, _, rfl, rfl, sm.seq hb, rowV_at0 g hi, rfl, _, rfl, ?_⟩
      rw [ne_bl]
      exact q
    · rw [natV_comp0]
      exact k D hD
def spWished (K : PySem.W.Frag) : Sp := fun vs H Q _ => ∃ (a : Addr) (ns : List Int) (L D : Addr) (qs : List Addr) (n : Nat) (M : Nat → Nat → Bool) (f : Nat → Bool), vs = [.ref a, .ref L, .ref D] ∧ n ≤ 24 ∧ SqL K H a (ns.map V.int) ∧ SqL K H L (rowV n f) ∧
  RowsAt H D qs n (fun i => natV ((List.range n).filter (M i))) ∧ ∀ (W : Addr) (g : Nat → Bool) (H' : Hp), H W = none → Same H H' → H' W = some (.lst (rowV n g)) → (cellF ns 12 % 2 = 1 → ∃ ps : List Nat, (∀ p ∈ ps, p < n) ∧ ∀ j, g j = (f j ^^ par M ps j)) → Q (.ref W) H'
theorem sc_wished : FnScope ["script", "light", "turns", "many", "presses"] ["script", "light", "turns"] (defScope s_wished) := ⟨rfl, rfl, rfl, by decide +kernel, rfl, by decide +kernel, by decide +kernel⟩
theorem ok_wished {f : Addr} {fd : FuncData} (F : Fun K "_law_wished" "_law_wished" s_wished f fd) (T : LB mg) (hF_cell_at : Has P w K mg base (CXE P w) 1 "_law_cell_at" ["script", "k"] (spCell K)) (hF_mix : Has P w K mg base (CXE P w) 1 "_law_mix" ["cell", "k"] spMix)
    (hF_pressed : Has P w K mg base (CXE P w) 1 "_law_pressed" ["light", "turns", "presses"] (spPressedL K)) (hF_light : Has P w K mg base (CXE P w) 2 "_law_light" ["cell", "many"] spLight) : FnOk P w K mg base CX0 3 f fd ["script", "light", "turns"] (spWished K) := by
  refine F.ok sc_wished (fun vs H Q E h => ?_) (fun cdv A outer s H vs Q E hr h => ?_)
  · obtain ⟨a, ns, L, D, qs, n, M, f, rfl, _⟩ := h
    rfl
  · obtain ⟨a, ns, L, D, qs, n, M, f, rfl, hn, hs, hL, R, k⟩ := h
    refine ⟨_, ((L2.pss_cons (ps_set (i := 3) sc_wished.nd rfl (by first | exact Or.inl rfl | exact Or.inr rfl) (pe_callB (lenK K) rfl T.b_len bootB_len (L2.pa_cons ((pv 1)) L2.pa_nil))) (L2.pss_cons (ps_if (pt_cmpR op_eq (pe_op op_mod (pe_callH hF_cell_at (hr.mono (by decide)) rfl (passN) (L2.pa_cons ((pv 0)) (L2.pa_cons ((pe_int)) L2.pa_nil))) (pe_int)) (pe_int) (nomark _)) ((L2.pss_cons (ps_compN (i := 4) (js := [0]) sc_wished.nd rfl (by first | exact Or.inl rfl | exact Or.inr rfl) rfl (by kernel_rfl) (pi_range1 rfl T.b_range (L2.pa_cons ((pv 3)) L2.pa_nil)) (fun _ _ _ _ _ => pf_one (pt_cmpR op_eq (pe_op op_mod (pe_op op_fdiv (pe_callH hF_mix (hr.mono (by decide)) rfl (passN) (L2.pa_cons ((pe_callH hF_cell_at (hr.mono (by decide)) rfl (passN) (L2.pa_cons ((pv 1)) (L2.pa_cons ((pe_int)) L2.pa_nil)))) (L2.pa_cons ((pv 0)) L2.pa_nil))) (pe_int)) (pe_int)) (pe_int) (nomark _))) (fun _ _ _ _ _ => (pv 0))) (L2.pss_one (ps_ret (pe_callH hF_pressed (hr.mono (by decide)) rfl (passN) (L2.pa_cons ((pv 1)) (L2.pa_cons ((pv 2)) (L2.pa_cons ((pv 4)) L2.pa_nil)))))))) pss_nil) (L2.pss_one (ps_ret (pe_callH hF_light (hr.mono (by decide)) rfl (passN) (L2.pa_cons ((pe_callH hF_cell_at (hr.mono (by decide)) rfl (passN) (L2.pa_cons ((pv 0)) (L2.pa_cons ((pe_int)) L2.pa_nil)))) (L2.pa_cons ((pv 3)) L2.pa_nil)))))))), ?_⟩
    refine ⟨_, rfl, L, _, rfl, .inl hL, ?_⟩
    rw [rowV_len]
    refine ⟨_, rfl, a, ns, 12, rfl, by decide, hs, _, _, rfl, rfl, posI rfl, rfl, _, rfl, ite2 (fun z => ?_) (fun z => ?_)⟩
    · refine ⟨_, rfl, n, rfl, rgL, rgU (by assumption), comp_range (n := n) (fun i => decide (V.int (mixF (cellF ns 13) (0 + (i : Int)) / 7 % 2) = V.int 1)) (fun i => V.int (0 + (i : Int))) (r1000 (by assumption)) (fun i Hc k' hi sm q => ?_) (fun i Hc k' hi _ sm q => ⟨_, rfl, q⟩) fun b hb => ?_⟩
      · exact ⟨_, rfl, a, ns, 13, rfl, by decide, sm.seq hs, _, rfl, _, _, rfl, _, _, rfl, rfl, divI rfl, _, _, rfl, rfl, posI rfl, rfl, _, rfl, q⟩
      · rw [natV_comp0]
        have t := Same.laid (o := .lst (natV ((List.range n).filter fun i => decide (V.int (mixF (cellF ns 13) (0 + (i : Int)) / 7 % 2) = V.int 1)))) hb
        have hp : ∀ p ∈ (List.range n).filter (fun i : Nat => decide (V.int (mixF (cellF ns 13) (0 + (i : Int)) / 7 % 2) = V.int 1)), p < n := fun p h => List.mem_range.mp (List.mem_filter.mp h).1
        refine ⟨_, rfl, _, rfl, _, rfl, L, D, b, qs, n, M, f, _, rfl, hn, t.seq hL, R.same t, SqL.of upd_same, hp, fun W H' hW s' hg => k W _ H' (t.free hW) (t.trans s') hg fun _ => ⟨_, hp, fun j => rfl⟩⟩
    · refine ⟨_, rfl, a, ns, 13, rfl, by decide, hs, _, rfl, _, n, rfl, hn, fun W g H' hW s' hg => k W g H' hW s' hg fun e => ?_⟩
      exact absurd (decide_eq_true (show V.int (cellF ns 12 % 2) = V.int 1 by rw [e])) z
end
end Lp

/-! ## fewest -/
namespace Lp
open PySem L2 Lamp
abbrev s_lights_behind : Stmt := top 19
abbrev s_fewest : Stmt := top 20
def isWay (n : Nat) (M : Nat → Nat → Bool) (f g : Nat → Bool) (os : List Nat) : Bool := eqVs (rowV n fun j => f j ^^ par M os j) (rowV n g)
theorem rowV_inj {n : Nat} {f g : Nat → Bool} (h : rowV n f = rowV n g) : ∀ j, j < n → f j = g j := fun j hj => by
  have h1 := rowV_at f hj
  rw [h, rowV_at g hj] at h1
  exact (V.bl.inj (Option.some.inj h1)).symm
theorem isWay_iff {n : Nat} {M : Nat → Nat → Bool} {f g : Nat → Bool} {os : List Nat} : isWay n M f g os = true ↔ ∀ j, j < n → (f j ^^ par M os j) = g j := by
  unfold isWay
  have e : ∀ h : Nat → Bool, rowV n h = (rowL n h).map V.bl := fun _ => rfl
  rw [e, e, eqVs_bl, decide_eq_true_iff]
  constructor
  · intro z
    exact rowV_inj (by rw [e, e, z])
  · intro z
    unfold rowL
    exact List.map_congr_left fun j hj => z j (List.mem_range.mp hj)
theorem filterR {α : Type} (d : α) (p : α → Bool) (l : List α) : l.filter p = ((List.range l.length).filter fun i => p (l.getD i d)).map fun i => l.getD i d := by
  have e : l = (List.range l.length).map fun i => l.getD i d := by
    apply List.ext_getElem?
    intro i
    by_cases h : i < l.length
    · rw [List.getElem?_map, List.getElem?_range h, Option.map_some, List.getD_eq_getElem?_getD, List.getElem?_eq_getElem h]
      rfl
    · rw [List.getElem?_eq_none (by omega), List.getElem?_eq_none (by simp; omega)]
  conv => lhs; rw [e]
  rw [List.filter_map]
  rfl
theorem subs_le {i : Nat} (h : i ≤ 8) : (subs i).length ≤ 256 := by
  rw [subs_len]
  exact Nat.pow_le_pow_right (by decide) h
theorem getD_left {α : Type} {l m : List α} {d : α} {i : Nat} (h : i < l.length) : (l ++ m).getD i d = l.getD i d := by
  rw [List.getD_eq_getElem?_getD, List.getD_eq_getElem?_getD, List.getElem?_append_left h]
theorem getD_right {α : Type} {l m : List α} {d : α} {i : Nat} (h : l.length ≤ i) : (l ++ m).getD i d = m.getD (i - l.length) d := by
  rw [List.getD_eq_getElem?_getD, List.getD_eq_getElem?_getD, List.getElem?_append_right h]
section
variable {P : Program} {w : World} {K : PySem.W.Frag} {mg : Str → Option Value} {base : Heap} {C NL TM : Addr}
def spBehind (K : PySem.W.Frag) (C : Addr) : Sp := fun vs H Q _ => ∃ (p dx r : Addr) (qs : List Addr) (n : Nat) (M : Nat → Nat → Bool) (a : Addr) (f : Nat → Bool), vs = [.ref p, .ref a] ∧ YardAt C H p dx r qs n M ∧ 1 ≤ n ∧ n ≤ 9 ∧ SqL K H a (rowV n f) ∧
  ∀ (D : Addr) (ws : List (Addr × Addr × Addr)) (H' : Hp), Same H H' → PairsAt H' D ws (subs n).length (fun i => natV ((subs n).getD i [])) (fun i => rowV n fun j => f j ^^ par M ((subs n).getD i []) j) → Q (.ref D) H'
theorem sc_lights_behind : FnScope ["yard", "light", "found", "lamp", "lamps"] ["yard", "light"] (defScope s_lights_behind) := ⟨rfl, rfl, rfl, by decide +kernel, rfl, by decide +kernel, by decide +kernel⟩
theorem ok_lights {f : Addr} {fd : FuncData} (F : Fun K "lights_behind" "lights_behind" s_lights_behind f fd) (T : LB mg) (Y0 : Cls K C) (nM : NoAttr K C "many") (hM_turns : HasM P w K mg base (CXE P w) 2 C "turns" ["self", "lamp"] [] (spTurns C NL))
    (hF_turned : Has P w K mg base (CXE P w) 1 "turned" ["light", "lamps"] (spTurned K)) : FnOk P w K mg base CX0 3 f fd ["yard", "light"] (spBehind K C) := by
  refine F.ok sc_lights_behind (fun vs H Q E h => ?_) (fun cdv A outer s H vs Q E hr h => ?_)
  · obtain ⟨p, dx, r, qs, n, M, a, f, rfl, _⟩ := h
    rfl
  · obtain ⟨p, dx, r, qs, n, M, a, f, rfl, Y, hn1, hn, ha, k⟩ := h
    have hn24 : n ≤ 24 := by omega
    refine ⟨_, ((L2.pss_cons (ps_set (i := 2) sc_lights_behind.nd rfl (by first | exact Or.inl rfl | exact Or.inr rfl) (pe_lst (L2.pa_cons ((pe_tup (L2.pa_cons ((pe_lst L2.pa_nil)) (L2.pa_cons ((pe_callTy (listK K) rfl T.b_list bootB_list (L2.pa_cons ((pv 1)) L2.pa_nil))) L2.pa_nil)))) L2.pa_nil))) (L2.pss_cons (ps_for PassesOwn.never rfl (pi_range1 rfl T.b_range (L2.pa_cons ((fldK K (pv 0))) L2.pa_nil)) (pg_name (i := 3) sc_lights_behind.nd rfl (by first | exact Or.inl rfl | exact Or.inr rfl)) ((L2.pss_cons (ps_set (i := 4) sc_lights_behind.nd rfl (by first | exact Or.inl rfl | exact Or.inr rfl) (pe_methH (pv 0) hM_turns (hr.mono (by decide)) (passN) (L2.pa_cons ((pv 3)) L2.pa_nil))) (L2.pss_one (ps_set (i := 2) sc_lights_behind.nd rfl (by first | exact Or.inl rfl | exact Or.inr rfl) (pe_op op_cat (pv 2) (pe_compP (js := [3, 4]) rfl (by kernel_rfl) (piLK K (pv 2)) (fun _ _ _ _ _ => pf_nil) (fun _ _ _ _ _ => (pe_tup (L2.pa_cons ((pe_op op_cat (pv 0) (pe_lst (L2.pa_cons ((pv 2)) L2.pa_nil)))) (L2.pa_cons ((pe_callH hF_turned (hr.mono (by decide)) rfl (passN) (L2.pa_cons ((pv 1)) (L2.pa_cons ((pv 3)) L2.pa_nil)))) L2.pa_nil))))))))))) (L2.pss_one (ps_ret (pv 2)))))), ?_⟩
    refine ⟨Nat.zero_le _, fun e he => ⟨_, rfl, a, _, rfl, .inl ((Same.laid he).seq ha), fun l hl => ⟨(by show 2 ≤ sizeLine; decide), fun t ht => ⟨(by show 1 ≤ sizeLine; decide), fun D hD => ?_⟩⟩⟩⟩
    have t1 := Same.laid (o := .lst []) he
    have t2 := Same.laid (o := .lst (rowV n f)) hl
    have t3 := Same.laid (o := .tup [.ref e, .ref l]) ht
    have t4 := Same.laid (o := .lst [.ref t]) hD
    have s1 := ((t1.trans t2).trans t3).trans t4
    have A1 : PairsAt (upd (upd (upd (upd H e (.lst [])) l (.lst (rowV n f))) t (.tup [.ref e, .ref l])) D (.lst [.ref t])) D [(t, e, l)] (subs 0).length (fun i => natV ((subs 0).getD i [])) (fun i => rowV n fun j => f j ^^ par M ((subs 0).getD i []) j) := by
      refine ⟨upd_same, rfl, fun i w ew => ?_⟩
      have i0 : i = 0 := by
        have := (List.getElem?_eq_some_iff.mp ew).1
        simp at this
        exact this
      subst i0
      cases ew
      refine ⟨t4 _ _ upd_same, t4 _ _ (t3 _ _ (t2 _ _ upd_same)), ?_⟩
      have e0 : rowV n (fun j => f j ^^ par M ((subs 0).getD 0 []) j) = rowV n f := rowV_congr fun j _ => Bool.xor_false _
      show _ = some (HO.lst (rowV n fun j => f j ^^ par M ((subs 0).getD 0 []) j))
      rw [e0]
      exact t4 _ _ (t3 _ _ upd_same)
    generalize (upd (upd (upd (upd H e (.lst [])) l (.lst (rowV n f))) t (.tup [.ref e, .ref l])) D (.lst [.ref t])) = H1 at s1 A1
    refine ⟨_, rfl, p, C, dx, _, _, rfl, (Y.same s1).ob, Y0, nM, yf_many _ _, n, rfl, rgL, rgU hn24, for_range (lo := 0) (n := n) (fun i σ H2 => ∃ (D : Addr) (ws : List (Addr × Addr × Addr)) (v3 v4 : Option V), σ = [some (.ref p), some (.ref a), some (.ref D), v3, v4] ∧ Same H H2 ∧
      PairsAt H2 D ws (subs i).length (fun x => natV ((subs i).getD x [])) (fun x => rowV n fun j => f j ^^ par M ((subs i).getD x []) j)) ⟨D, _, none, none, rfl, s1, A1⟩ ?_ ?_⟩
    · rintro i σ H2 hi ⟨D, ws, v3, v4, rfl, s2, A2⟩
      have Y2 := Y.same s2
      have sl := subs_le (i := i) (by omega)
      have wl := A2.ln
      refine ⟨_, rfl, p, dx, _, rfl, Y2.ob, yf_no _ _ (by decide +kernel) (by decide +kernel), _, rfl, p, dx, r, qs, n, M, _, rfl, Y2, hn24, fun ok Lm hLm => ?_, fun bad => absurd (show okL n (0 + (i : Int)) from ⟨by omega, by omega⟩) bad⟩
      have eD : ((List.range n).filter (M (0 + (i : Int)).toNat)).map (fun j : Nat => V.int (j : Int)) = natV ((List.range n).filter (M i)) := by
        rw [tn0 i]
        rfl
      rw [eD]
      have u1 := Same.laid (o := .lst (natV ((List.range n).filter (M i)))) hLm
      have hLm3 : (upd H2 Lm (.lst (natV ((List.range n).filter (M i))))) Lm = some (.lst (natV ((List.range n).filter (M i)))) := upd_same
      have s3 := s2.trans u1
      have A3 := A2.same u1
      generalize (upd H2 Lm (.lst (natV ((List.range n).filter (M i))))) = H3 at hLm3 s3 A3
      refine ⟨_, rfl, _, rfl, D, rfl, ⟨_, SqL.of A3.top⟩, comp_prs (fun x => natV ((subs i).getD x [] ++ [i])) (fun x => rowV n fun j => f j ^^ par M ((subs i).getD x [] ++ [i]) j) (by omega) A3 (fun x w Hc k' hw sm q => ?_) fun D2 vs H4 hD2 s4 A4 => ?_⟩
      · obtain ⟨w1, w2, w3⟩ := A3.at_ x w hw
        refine ⟨_, rfl, _, rfl, (by show 1 ≤ sizeLine; decide), fun l1 hl1 => ?_⟩
        have c1 := Same.laid (o := .lst [.int (0 + (i : Int))]) hl1
        have os9 : ((subs i).getD x []).length ≤ 900 := by
          have hx := (List.getElem?_eq_some_iff.mp hw).1
          have hm : (subs i).getD x [] ∈ subs i := by
            rw [List.getD_eq_getElem?_getD, List.getElem?_eq_getElem (show x < (subs i).length by omega)]
            exact List.getElem_mem _
          have := subs_long hm
          omega
        refine ⟨w.2.1, l1, _, _, rfl, rfl, c1 _ _ (sm _ _ w2), upd_same, Nat.le_of_lt (small1000 (by rw [natV_len, List.length_singleton]; omega)), fun l2 hl2 => ?_⟩
        have c2 := Same.laid (o := .lst (natV ((subs i).getD x []) ++ [.int (0 + (i : Int))])) hl2
        have e2 : natV ((subs i).getD x []) ++ [V.int (0 + (i : Int))] = natV ((subs i).getD x [] ++ [i]) := by rw [natV_push, Int.zero_add]
        have g2 : (upd (upd Hc l1 (.lst [.int (0 + (i : Int))])) l2 (.lst (natV ((subs i).getD x []) ++ [.int (0 + (i : Int))]))) l2 = some (.lst (natV ((subs i).getD x [] ++ [i]))) := by rw [upd_same, e2]
        have c12 := c1.trans c2
        have fl2 : Hc l2 = none := c1.free hl2
        refine ⟨_, rfl, _, rfl, w.2.2, Lm, n, _, _, rfl, hn24, SqL.of (c12 _ _ (sm _ _ w3)), SqL.of (c12 _ _ (sm _ _ hLm3)), fun L' H5 fL' s5 hL' => ⟨(by show 2 ≤ sizeLine; decide), fun t5 ht5 => ?_⟩⟩
        have c5 := Same.laid (o := .tup [.ref l2, .ref L']) ht5
        refine q t5 l2 L' _ ((c12.trans s5).trans c5) ((c12.trans s5).free ht5) fl2 (c12.free fL') upd_same (c5 _ _ (s5 _ _ g2)) ?_
        rw [c5 _ _ hL']
        congr 2
        refine rowV_congr fun j hj => ?_
        rw [par_push]
        have ec : ((List.range n).filter (M i)).contains j = M i j := by
          rw [Bool.eq_iff_iff, List.contains_iff_mem, List.mem_filter, List.mem_range]
          exact ⟨fun z => z.2, fun z => ⟨hj, z⟩⟩
        rw [ec]
        cases M i j <;> cases f j <;> cases par M ((subs i).getD x []) j <;> rfl
      · have A3' := A3.same s4
        refine ⟨D, D2, _, _, rfl, rfl, A3'.top, A4.top, Nat.le_of_lt (small1000 (by rw [List.length_map, List.length_map, A3'.ln, A4.ln]; omega)), fun D3 hD3 => ?_⟩
        have c6 := Same.laid (o := .lst ((ws.map fun w => V.ref w.1) ++ vs.map fun w => V.ref w.1)) hD3
        refine ⟨D3, ws ++ vs, _, _, rfl, (s3.trans s4).trans c6, ⟨by rw [upd_same, List.map_append], by rw [List.length_append, A3'.ln, A4.ln, subs, List.length_append, List.length_map], fun x w ew => ?_⟩⟩
        by_cases hx : x < ws.length
        · rw [List.getElem?_append_left hx] at ew
          obtain ⟨w1, w2, w3⟩ := A3'.at_ x w ew
          have e : (subs (i + 1)).getD x [] = (subs i).getD x [] := by
            rw [subs]
            exact getD_left (by omega)
          rw [e]
          exact ⟨c6 _ _ w1, c6 _ _ w2, c6 _ _ w3⟩
        · rw [List.getElem?_append_right (by omega)] at ew
          obtain ⟨w1, w2, w3⟩ := A4.at_ _ w ew
          have hx2 := (List.getElem?_eq_some_iff.mp ew).1
          have vl := A4.ln
          have e : (subs (i + 1)).getD x [] = (subs i).getD (x - ws.length) [] ++ [i] := by
            rw [subs, getD_right (by omega), ← wl, List.getD_eq_getElem?_getD, List.getD_eq_getElem?_getD, List.getElem?_map, List.getElem?_eq_getElem (show x - ws.length < (subs i).length by omega)]
            rfl
          rw [e]
          exact ⟨c6 _ _ w1, c6 _ _ w2, c6 _ _ w3⟩
    · rintro σ H2 ⟨D, ws, v3, v4, rfl, s2, A2⟩
      exact ⟨_, rfl, k D ws H2 s2 A2⟩
abbrev x_lam : Expr := kwE (retE ((defBody s_fewest).getD 2 (.Pass ⟨0, 0, 0, 0⟩))) 0
abbrev TabF (H : Hp) (Tb : Addr) : Prop := TabOk H Tb (lamP x_lam) ("fewest.<locals>." ++ "<lambda>")
def spFewest (K : PySem.W.Frag) (C TM Tb : Addr) : Sp := fun vs H Q E => ∃ (p dx r : Addr) (qs : List Addr) (n : Nat) (M : Nat → Nat → Bool) (a b : Addr) (f g : Nat → Bool), vs = [.ref p, .ref a, .ref b] ∧ YardAt C H p dx r qs n M ∧ 1 ≤ n ∧ n ≤ 24 ∧
  SqL K H a (rowV n f) ∧ SqL K H b (rowV n g) ∧ TabF H Tb ∧ (n ≤ 9 → ∀ H', SameT Tb H H' → TabF H' Tb → (∀ (D : Addr) (os : List Nat), H' D = some (.lst (natV os)) → (∀ m l, (subs n).filter (isWay n M f g) = m :: l → os = best m l) → (subs n).filter (isWay n M f g) ≠ [] → Q (.ref D) H') ∧ ((subs n).filter (isWay n M f g) = [] → Q .non H')) ∧ (9 < n → ∀ H', Same H H' → E (.ref TM) none H')
theorem sc_lam : FnScope ["buttons"] ["buttons"] (lamS x_lam) := ⟨rfl, rfl, rfl, by decide +kernel, rfl, by decide +kernel, by decide +kernel⟩
def lstOf (H : Hp) (v : V) : List V := match v with
  | .ref a => (match H a with | some (.lst xs) => xs | _ => [])
  | _ => []
theorem lstOf_of {H : Hp} {a : Addr} {xs : List V} (h : H a = some (.lst xs)) : lstOf H (.ref a) = xs := by unfold lstOf; dsimp only; rw [h]
theorem sc_fewest : FnScope ["yard", "light", "wished", "leading"] ["yard", "light", "wished"] (defScope s_fewest) := ⟨rfl, rfl, rfl, by decide +kernel, rfl, by decide +kernel, by decide +kernel⟩
theorem ok_fewest {c Tb : Addr} {fa : Addr} {fd : FuncData} (F : Fun K "fewest" "fewest" s_fewest fa fd) (hcd : fd.code = .ref c) (T : LB mg) (Y0 : Cls K C) (nM : NoAttr K C "many") (hmost : ∃ t, mg "MOST_SEARCHED" = some (.int 9 t)) (gT : mg "TooMany" = some (.ref TM)) (xT : PySem.W.excIn K TM bmV "ValueError.__new__" = true)
    (CH : PySem.W.CodeHd base c Tb) (hB : BltMod mg base) (hF_lights_behind : Has P w K mg base (CXE P w) 3 "lights_behind" ["yard", "light"] (spBehind K C)) : FnOk P w K mg base (CXE P w) 5 fa fd ["yard", "light", "wished"] (spFewest K C TM Tb) := by
  obtain ⟨tk, hmost⟩ := hmost
  refine F.okEC sc_fewest (fun vs H Q E h => ?_) (fun cdv hcv A outer s H vs Q E hr h => ?_)
  · obtain ⟨p, dx, r, qs, n, M, a, b, f, g, rfl, _⟩ := h
    rfl
  · obtain ⟨p, dx, r, qs, n, M, a, b, f, g, rfl, Y, hn1, hn, ha, hb, hTb, k1, k2⟩ := h
    obtain rfl : cdv = .ref c := hcv.symm.trans hcd
    have hu := hr.units0
    have hr3 : Room 3 (A.deeper (PyProof.Rows.envOfC "fewest" (defScope s_fewest) s.heap.objs.size fa (.ref c))) := hr.mono (by decide)
    have kread : ∀ (f c' : Addr) (A : Around) (outer : List Env) (s : Shared) (H : Hp), PE (cxOf CX0 P w K mg base ["buttons"] ("fewest.<locals>." ++ "<lambda>") (lamS x_lam) f (.ref c') A outer s H E0) (lamB x_lam) _ := fun _ _ _ _ _ _ => pe_tup ((L2.pa_cons ((pe_callB (lenK K) rfl T.b_len bootB_len ((L2.pa_cons ((pv 0)) L2.pa_nil)))) (L2.pa_cons ((pv 0)) L2.pa_nil)))
    refine ⟨_, ((L2.pss_cons (ps_if (pt_cmpR op_gt (fldK K (pv 0)) (pe_glob (v := .int 9) rfl hmost ⟨_, rfl⟩) (nomark _)) ((L2.pss_one ((ps_raise (R := fun _ H => E (.ref TM) none H) rfl rfl gT xT fun pins σ H s h1 e args I hm hR => raiseE I hm hR)))) pss_nil) (L2.pss_cons (ps_compP (i := 3) (js := [2]) sc_fewest.nd rfl (by first | exact Or.inl rfl | exact Or.inr rfl) rfl (by kernel_rfl) (piLK K (pe_callH hF_lights_behind (hr.mono (by decide)) rfl (passE.s) (L2.pa_cons ((pv 0)) (L2.pa_cons ((pv 1)) L2.pa_nil)))) (fun _ _ _ _ _ => pf_one (pt_cmpR (eqSK K hu) (pv 1) (pv 2) (nomark _))) (fun _ _ _ _ _ => (pv 0))) (L2.pss_one ((ps_ret (pe_minT (k := 1) (N := ["buttons"]) (x := "buttons") (scope := lamS x_lam) (body := lamB x_lam) hr3 rfl T.b_min ((L2.pa_cons ((pv 3)) L2.pa_nil)) rfl rfl rfl CH hB sc_lam (fun _ _ _ _ _ => .of_eq rfl) kread (fun H b os Q hb q => ⟨_, rfl, b, _, rfl, .inl (SqL.of hb), _, rfl, (by show 2 ≤ sizeLine; decide), fun T hT => by rw [natsV_len]; exact q T hT⟩)))))))), ?_⟩
    refine ⟨_, rfl, p, C, dx, _, _, rfl, Y.ob, Y0, nM, yf_many _ _, _, _, rfl, rfl, _, rfl, ite2 (fun z => ?_) (fun z => ?_)⟩
    · exact k2 (by have := of_decide_eq_true z; omega) H (Same.refl H)
    have n9 : n ≤ 9 := by
      rcases Nat.lt_or_ge 9 n with y | y
      · exact absurd (decide_eq_true (show (n : Int) > 9 by omega)) z
      · exact y
    have k1 := k1 n9
    refine ⟨_, rfl, _, rfl, p, dx, r, qs, n, M, a, f, rfl, Y, hn1, n9, ha, fun D0 ws H1 s1 A1 => ?_⟩
    have wl := A1.ln
    have sl : (subs n).length ≤ 512 := by
      rw [subs_len]
      exact Nat.pow_le_pow_right (by decide) n9
    refine ⟨D0, rfl, ⟨_, SqL.of A1.top⟩, comp_pairs (zs := ws.map fun w => (w.1, V.ref w.2.1, V.ref w.2.2)) (fun z => eqVs (lstOf H1 z.2.2) (rowV n g)) (fun z => z.2.1) (by rw [List.length_map]; omega) (SqL.of (by rw [A1.top, List.map_map]; rfl)) (fun z hm => ?_) (fun z Hc k' hm sm q => ?_) (fun z Hc k' hm _ sm q => ⟨_, rfl, q⟩) fun D hD => ?_⟩
    · obtain ⟨w, hw, rfl⟩ := List.mem_map.mp hm
      obtain ⟨i, hi⟩ := List.getElem?_of_mem hw
      exact (A1.at_ i w hi).1
    · obtain ⟨w, hw, rfl⟩ := List.mem_map.mp hm
      obtain ⟨i, hi⟩ := List.getElem?_of_mem hw
      obtain ⟨_, _, w3⟩ := A1.at_ i w hi
      refine ⟨_, rfl, _, rfl, w.2.2, b, _, _, rfl, rfl, .inl ⟨SqL.of (sm _ _ w3), sm.seq (s1.seq hb)⟩, rowV_flat _ _, rowV_flat _ _, _, rfl, ?_⟩
      rw [if_neg Bool.false_ne_true]
      dsimp only at q
      rw [lstOf_of w3] at q
      exact q
    let Z : List (Addr × List Nat) := ((List.range (subs n).length).filter fun i => isWay n M f g ((subs n).getD i [])).map fun i => ((ws.getD i (0, 0, 0)).2.1, (subs n).getD i [])
    have wat : ∀ i, i < (subs n).length → ws[i]? = some (ws.getD i (0, 0, 0)) := fun i hi => by
      rw [List.getD_eq_getElem?_getD, List.getElem?_eq_getElem (show i < ws.length by omega)]
      rfl
    have eD : ((ws.map fun w => (w.1, V.ref w.2.1, V.ref w.2.2)).filter fun z => eqVs (lstOf H1 z.2.2) (rowV n g)).map (fun z => z.2.1) = Z.map fun z => V.ref z.1 := by
      rw [List.filter_map, filterR (0, 0, 0), List.map_map, List.map_map, List.map_map, wl]
      have e1 : (List.range (subs n).length).filter (fun i => ((fun z : Addr × V × V => eqVs (lstOf H1 z.2.2) (rowV n g)) ∘ fun w : Addr × Addr × Addr => (w.1, V.ref w.2.1, V.ref w.2.2)) (ws.getD i (0, 0, 0))) = (List.range (subs n).length).filter fun i => isWay n M f g ((subs n).getD i []) := by
        apply List.filter_congr
        intro i hi
        obtain ⟨_, _, w3⟩ := A1.at_ i _ (wat i (List.mem_range.mp hi))
        show eqVs (lstOf H1 (V.ref (ws.getD i (0, 0, 0)).2.2)) (rowV n g) = _
        rw [lstOf_of w3]
        rfl
      rw [e1]
      rfl
    have eS : Z.map (·.2) = (subs n).filter (isWay n M f g) := by
      rw [filterR [] (isWay n M f g) (subs n), List.map_map]
      rfl
    have hD2 : (upd H1 D (.lst (((ws.map fun w => (w.1, V.ref w.2.1, V.ref w.2.2)).filter fun z => eqVs (lstOf H1 z.2.2) (rowV n g)).map fun z => z.2.1))) D = some (.lst (Z.map fun z => V.ref z.1)) := by rw [upd_same, eD]
    have t2 := Same.laid (o := .lst (((ws.map fun w => (w.1, V.ref w.2.1, V.ref w.2.2)).filter fun z => eqVs (lstOf H1 z.2.2) (rowV n g)).map fun z => z.2.1)) hD
    generalize (upd H1 D (.lst (((ws.map fun w => (w.1, V.ref w.2.1, V.ref w.2.2)).filter fun z => eqVs (lstOf H1 z.2.2) (rowV n g)).map fun z => z.2.1))) = H2 at hD2 t2
    have s2 := s1.trans t2
    have hz : ∀ z ∈ Z, H2 z.1 = some (.lst (natsV z.2)) := fun z hm => by
      obtain ⟨i, hi, rfl⟩ := List.mem_map.mp hm
      have hi := List.mem_range.mp (List.mem_filter.mp hi).1
      exact t2 _ _ (A1.at_ i _ (wat i hi)).2.1
    generalize hZ : Z = Z' at hD2 eS hz
    refine ⟨_, rfl, D, Z', rfl, hD2, hz, TabOk.same hTb s2, fun H' sT tab => ⟨fun ez => ?_, fun z0 rest b' ez bm eb => ?_⟩⟩
    · refine (k1 H' (fun x o hx e => sT x o hx (s2 _ _ e)) tab).2 ?_
      rw [← eS, ez]
      rfl
    · have eF : (subs n).filter (isWay n M f g) = z0.2 :: rest.map (·.2) := by rw [← eS, ez]; rfl
      refine (k1 H' (fun x o hx e => sT x o hx (s2 _ _ e)) tab).1 b'.1 b'.2 (sT _ _ (fun e => ?_) (hz b' bm)) (fun m l e => ?_) (by rw [eF]; exact List.cons_ne_nil _ _)
      · obtain ⟨ps, hp⟩ := TabOk.tbl hTb
        have h1 := hz b' bm
        rw [e, s2 _ _ hp] at h1
        cases h1
      · rw [eF] at e
        cases e
        exact eb
end
end Lp

/-! ## worth, due -/
namespace Lp
open PySem L2 Lamp
abbrev s_worth : Stmt := top 34
abbrev s_due : Stmt := top 35
theorem pow_at {l : Nat} (h : l < 9) {z : Int} (hz : z = (l : Int)) : atI [V.int 1, V.int 2, V.int 4, V.int 8, V.int 16, V.int 32, V.int 64, V.int 128, V.int 256] z = some (.int ((2 ^ l : Nat) : Int)) := by
  subst hz
  refine atI_of (by omega) ?_
  rw [Int.toNat_natCast]
  match l, h with
  | 0, _ => rfl
  | 1, _ => rfl
  | 2, _ => rfl
  | 3, _ => rfl
  | 4, _ => rfl
  | 5, _ => rfl
  | 6, _ => rfl
  | 7, _ => rfl
  | 8, _ => rfl
  | l + 9, h => omega
theorem bitXor_wsum (p q : Nat → Bool) : Builtin.bitXor ((wsum 9 p : Nat) : Int) ((wsum 9 q : Nat) : Int) = ((wsum 9 (fun j => p j ^^ q j) : Nat) : Int) := by
  rw [PyProof.Rows.bitXor_and, PyProof.Rows.bitAnd_pp (by omega) (by omega), Int.toNat_natCast, Int.toNat_natCast, wsum_and]
  have := wsum_two 9 p q
  omega
theorem take_snoc {α : Type} {l : List α} {i : Nat} {x : α} (h : l[i]? = some x) : l.take (i + 1) = l.take i ++ [x] := by
  rw [List.take_add_one, h]
  rfl
section
variable {P : Program} {w : World} {K : PySem.W.Frag} {mg : Str → Option Value} {base : Heap}
def spWorth (K : PySem.W.Frag) : Sp := fun vs H Q _ => ∃ (a : Addr) (os : List Nat), vs = [.ref a] ∧ SqL K H a (natV os) ∧ (∀ o ∈ os, o < 9) ∧ ∀ H', Same H H' → Q (.int ((powS os : Nat) : Int)) H'
theorem sc_worth : FnScope ["lamps", "worth", "lamp"] ["lamps"] (defScope s_worth) := ⟨rfl, rfl, rfl, by decide +kernel, rfl, by decide +kernel, by decide +kernel⟩
theorem ok_worth {f : Addr} {fd : FuncData} (F : Fun K "_law_worth" "_law_worth" s_worth f fd) (T : LB mg) : FnOk P w K mg base CX0 1 f fd ["lamps"] (spWorth K) := by
  refine F.ok sc_worth (fun vs H Q E h => ?_) (fun cdv A outer s H vs Q E hr h => ?_)
  · obtain ⟨a, os, rfl, _⟩ := h
    rfl
  · obtain ⟨a, os, rfl, ha, h9, k⟩ := h
    refine ⟨_, ((L2.pss_cons (ps_set (i := 1) sc_worth.nd rfl (by first | exact Or.inl rfl | exact Or.inr rfl) (pe_int)) (L2.pss_cons (ps_for PassesOwn.never rfl (piLK K (pv 0)) (pg_name (i := 2) sc_worth.nd rfl (by first | exact Or.inl rfl | exact Or.inr rfl)) ((L2.pss_one (ps_set (i := 1) sc_worth.nd rfl (by first | exact Or.inl rfl | exact Or.inr rfl) (pe_op op_add (pv 1) (pe_ix (ixLK K) (pe_lst (L2.pa_cons ((pe_int)) (L2.pa_cons ((pe_int)) (L2.pa_cons ((pe_int)) (L2.pa_cons ((pe_int)) (L2.pa_cons ((pe_int)) (L2.pa_cons ((pe_int)) (L2.pa_cons ((pe_int)) (L2.pa_cons ((pe_int)) (L2.pa_cons ((pe_int)) L2.pa_nil)))))))))) (pv 2) (fun _ _ => rfl))))))) (L2.pss_one (ps_ret (pv 1)))))), ?_⟩
    refine ⟨_, rfl, a, rfl, ⟨_, ha⟩, for_list (xs := natV os) (fun i σ H2 => ∃ v2 : Option V, σ = [some (.ref a), some (.int ((powS (os.take i) : Nat) : Int)), v2] ∧ Same H H2) ⟨none, rfl, Same.refl _⟩ (fun i σ H2 _ ⟨_, _, s2⟩ => s2.seq ha) ?_ ?_⟩
    · rintro i x σ H2 hx ⟨v2, rfl, s2⟩
      obtain ⟨o, ho, rfl⟩ := natV_at hx
      have o9 := h9 o (List.mem_of_getElem? ho)
      refine ⟨_, rfl, (by show 9 ≤ sizeLine; decide), fun l hl => ⟨_, rfl, l, _, _, _, rfl, rfl, SqL.of upd_same, pow_at o9 rfl, _, _, rfl, rfl, some (.int (o : Int)), ?_, s2.trans (Same.laid hl)⟩⟩
      rw [take_snoc ho, powS_append]
      show _ = [some (V.ref a), some (V.int (((powS (os.take i) + (2 ^ o + 0)) : Nat) : Int)), some (V.int (o : Int))]
      rw [Nat.add_zero, Int.natCast_add]
      rfl
    · rintro σ H2 ⟨v2, rfl, s2⟩
      refine ⟨_, rfl, ?_⟩
      have := k H2 s2
      rw [natV_len, List.take_of_length_le (Nat.le_refl _)]
      exact this
structure SetsAt (H : Hp) (D : Addr) (vs : List Addr) (k : Nat) (g : Nat → List V) : Prop where
  top : H D = some (.lst (vs.map V.ref))
  ln : vs.length = k
  at_ : ∀ (i : Nat) (v : Addr), vs[i]? = some v → H v = some (.lst (g i))
theorem SetsAt.same {H H' : Hp} {D : Addr} {vs : List Addr} {k : Nat} {g : Nat → List V} (A : SetsAt H D vs k g) (s : Same H H') : SetsAt H' D vs k g := ⟨s _ _ A.top, A.ln, fun i v e => s _ _ (A.at_ i v e)⟩
theorem SetsAt.get {H : Hp} {D : Addr} {vs : List Addr} {k : Nat} {g : Nat → List V} (A : SetsAt H D vs k g) {i : Nat} (h : i < k) {z : Int} (hz : z = (i : Int)) : atI (vs.map V.ref) z = some (.ref (vs.getD i 0)) ∧ H (vs.getD i 0) = some (.lst (g i)) := by
  have hl : i < vs.length := by rw [A.ln]; exact h
  have e : vs[i]? = some (vs.getD i 0) := by
    rw [List.getD_eq_getElem?_getD, List.getElem?_eq_getElem hl]
    rfl
  subst hz
  exact ⟨atI_of (by omega) (by rw [Int.toNat_natCast, List.getElem?_map, e]; rfl), A.at_ i _ e⟩
theorem mapR {α : Type} (d : α) (l : List α) : (List.range l.length).map (fun i => l.getD i d) = l := by
  apply List.ext_getElem?
  intro i
  by_cases h : i < l.length
  · rw [List.getElem?_map, List.getElem?_range h, Option.map_some, List.getD_eq_getElem?_getD, List.getElem?_eq_getElem h]
    rfl
  · rw [List.getElem?_eq_none (by simp; omega), List.getElem?_eq_none (by omega)]
def effN (n : Nat) (M : Nat → Nat → Bool) (os : List Nat) : Nat := wsum 9 fun j => decide (j < n) && par M os j
theorem effN_push (n : Nat) (M : Nat → Nat → Bool) (os : List Nat) (i : Nat) : Builtin.bitXor ((effN n M os : Nat) : Int) ((wsum 9 (fun j => decide (j < n) && M i j) : Nat) : Int) = ((effN n M (os ++ [i]) : Nat) : Int) := by
  unfold effN
  rw [bitXor_wsum]
  congr 1
  refine wsum_congr fun j _ => ?_
  rw [par_push]
  cases decide (j < n) <;> cases par M os j <;> cases M i j <;> rfl
theorem flt_worth {n : Nat} (hn : n ≤ 9) (p : Nat → Bool) : powS ((List.range n).filter p) = wsum 9 fun j => decide (j < n) && p j := by
  rw [powS_wsum (n := 9) (List.nodup_range.filter _) fun o ho => by have := List.mem_range.mp (List.mem_filter.mp ho).1; omega]
  refine wsum_congr fun j _ => ?_
  rw [Bool.eq_iff_iff, List.contains_iff_mem, List.mem_filter, List.mem_range]
  simp
def effV (n : Nat) (M : Nat → Nat → Bool) (i : Nat) : List V := (subs i).map fun os => V.int ((effN n M os : Nat) : Int)
theorem effV_at {n : Nat} {M : Nat → Nat → Bool} {i x : Nat} (h : x < (subs i).length) {z : Int} (hz : z = (x : Int)) : atI (effV n M i) z = some (.int ((effN n M ((subs i).getD x []) : Nat) : Int)) := by
  subst hz
  refine atI_of (by omega) ?_
  unfold effV
  rw [Int.toNat_natCast, List.getElem?_map, List.getD_eq_getElem?_getD, List.getElem?_eq_getElem h]
  rfl
theorem effN_way {n : Nat} (hn : n ≤ 9) {M : Nat → Nat → Bool} {f g : Nat → Bool} {os : List Nat} : decide (V.int ((effN n M os : Nat) : Int) = V.int ((powS ((List.range n).filter fun i => f i != g i) : Nat) : Int)) = isWay n M f g os := by
  rw [flt_worth hn, Bool.eq_iff_iff, decide_eq_true_iff, isWay_iff]
  unfold effN
  constructor
  · intro e j hj
    have := wsum_inj (Int.ofNat.inj (V.int.inj e)) j (by omega)
    rw [decide_eq_true hj, Bool.true_and, Bool.true_and] at this
    rw [this]
    cases f j <;> cases g j <;> rfl
  · intro h
    congr 2
    refine wsum_congr fun j _ => ?_
    by_cases hj : j < n
    · rw [← h j hj]
      cases f j <;> cases par M os j <;> rfl
    · rw [decide_eq_false hj]
      rfl
def spDue (K : PySem.W.Frag) : Sp := fun vs H Q _ => ∃ (tu df : Addr) (qs : List Addr) (n : Nat) (M : Nat → Nat → Bool) (f g : Nat → Bool), vs = [.ref tu, .ref df] ∧ 1 ≤ n ∧ n ≤ 9 ∧ RowsAt H tu qs n (fun i => natV ((List.range n).filter (M i))) ∧ SqL K H df (natV ((List.range n).filter fun i => f i != g i)) ∧
  ∀ H', Same H H' → ((subs n).filter (isWay n M f g) = [] → Q .non H') ∧ ∀ (D : Addr) (m : List Nat) (l : List (List Nat)), (subs n).filter (isWay n M f g) = m :: l → H' D = some (.lst (natV (best m l))) → Q (.ref D) H'
theorem sc_due : FnScope ["turns", "differ", "effects", "sets", "lamp", "mask", "wanted", "good"] ["turns", "differ"] (defScope s_due) := ⟨rfl, rfl, rfl, by decide +kernel, rfl, by decide +kernel, by decide +kernel⟩
theorem ok_due {fa : Addr} {fd : FuncData} (F : Fun K "_law_due" "_law_due" s_due fa fd) (T : LB mg) (hF_worth : Has P w K mg base (CXE P w) 1 "_law_worth" ["lamps"] (spWorth K)) : FnOk P w K mg base CX0 2 fa fd ["turns", "differ"] (spDue K) := by
  refine F.ok sc_due (fun vs H Q E h => ?_) (fun cdv A outer s H vs Q E hr h => ?_)
  · obtain ⟨tu, df, qs, n, M, f, g, rfl, _⟩ := h
    rfl
  · obtain ⟨tu, df, qs, n, M, f, g, rfl, hn1, hn, R, hdf, k⟩ := h
    have hu := hr.units0
    have un := hr.un
    have hu1 : (A.deeper (PyProof.Rows.envOfC "_law_due" (defScope s_due) s.heap.objs.size fa cdv)).in1.units < cLine := by show _ + 1 < _; omega
    have hu2 : (A.deeper (PyProof.Rows.envOfC "_law_due" (defScope s_due) s.heap.objs.size fa cdv)).in1.in1.units < cLine := by show _ + 1 + 1 < _; omega
    refine ⟨_, ((L2.pss_cons (ps_set (i := 2) sc_due.nd rfl (by first | exact Or.inl rfl | exact Or.inr rfl) (pe_lst (L2.pa_cons ((pe_int)) L2.pa_nil))) (L2.pss_cons (ps_set (i := 3) sc_due.nd rfl (by first | exact Or.inl rfl | exact Or.inr rfl) (pe_lst (L2.pa_cons ((pe_lst L2.pa_nil)) L2.pa_nil))) (L2.pss_cons (ps_for PassesOwn.never rfl (pi_range1 rfl T.b_range (L2.pa_cons ((pe_callB (lenK K) rfl T.b_len bootB_len (L2.pa_cons ((pv 0)) L2.pa_nil))) L2.pa_nil)) (pg_name (i := 4) sc_due.nd rfl (by first | exact Or.inl rfl | exact Or.inr rfl)) ((L2.pss_cons (ps_set (i := 5) sc_due.nd rfl (by first | exact Or.inl rfl | exact Or.inr rfl) (pe_callH hF_worth (hr.mono (by decide)) rfl (passN) (L2.pa_cons ((pe_ix (ixLK K) (pv 0) (pv 4) (fun _ _ => rfl))) L2.pa_nil))) (L2.pss_cons (ps_set (i := 2) sc_due.nd rfl (by first | exact Or.inl rfl | exact Or.inr rfl) (pe_op op_cat (pv 2) (pe_compN (js := [5]) rfl (by kernel_rfl) (piLK K (pv 2)) (fun _ _ _ _ _ => pf_nil) (fun _ _ _ _ _ => (pe_op op_xor (pv 0) (pv 1)))))) (L2.pss_one (ps_set (i := 3) sc_due.nd rfl (by first | exact Or.inl rfl | exact Or.inr rfl) (pe_op op_cat (pv 3) (pe_compN (js := [4]) rfl (by kernel_rfl) (piLK K (pv 3)) (fun _ _ _ _ _ => pf_nil) (fun _ _ _ _ _ => (pe_op op_cat (pv 0) (pe_lst (L2.pa_cons ((pv 1)) L2.pa_nil)))))))))))) (L2.pss_cons (ps_set (i := 6) sc_due.nd rfl (by first | exact Or.inl rfl | exact Or.inr rfl) (pe_callH hF_worth (hr.mono (by decide)) rfl (passN) (L2.pa_cons ((pv 1)) L2.pa_nil))) (L2.pss_cons (ps_compN (i := 7) (js := [2, 3, 6]) sc_due.nd rfl (by first | exact Or.inl rfl | exact Or.inr rfl) rfl (by kernel_rfl) (pi_range1 rfl T.b_range (L2.pa_cons ((pe_callB (lenK K) rfl T.b_len bootB_len (L2.pa_cons ((pv 3)) L2.pa_nil))) L2.pa_nil)) (fun _ _ _ _ _ => pf_one (pt_cmpR op_eq (pe_ix (ixLK K) (pv 1) (pv 0) (fun _ _ => rfl)) (pv 3) (nomark _))) (fun _ _ _ _ _ => (pe_tup (L2.pa_cons ((pe_callB (lenK K) rfl T.b_len bootB_len (L2.pa_cons ((pe_ix (ixLK K) (pv 2) (pv 0) (fun _ _ => rfl))) L2.pa_nil))) (L2.pa_cons ((pe_ix (ixLK K) (pv 2) (pv 0) (fun _ _ => rfl))) L2.pa_nil))))) (L2.pss_cons (ps_if (pt_cmpR (eqNK K hu) (pv 7) (pe_lst L2.pa_nil) (nomark _)) ((L2.pss_one (ps_ret (pe_non)))) pss_nil) (L2.pss_one (ps_ret (pe_ix (ixTK K) (pe_callB (call_minT K rfl hu1 hu2) rfl T.b_min bootB_min (L2.pa_cons ((pv 7)) L2.pa_nil)) (pe_int) (fun _ _ => rfl))))))))))), ?_⟩
    -- effects, sets
    refine ⟨(by show 1 ≤ sizeLine; decide), fun Ea hEa => ⟨Nat.zero_le _, fun e he => ⟨(by show 1 ≤ sizeLine; decide), fun Sa hSa => ?_⟩⟩⟩
    have t1 := Same.laid (o := .lst [.int 0]) hEa
    have t2 := Same.laid (o := .lst []) he
    have t3 := Same.laid (o := .lst [.ref e]) hSa
    have s1 := (t1.trans t2).trans t3
    have E1 : (upd (upd (upd H Ea (.lst [.int 0])) e (.lst [])) Sa (.lst [.ref e])) Ea = some (.lst (effV n M 0)) := by
      rw [t3 _ _ (t2 _ _ upd_same)]
      have e0 : effN n M [] = 0 := by
        unfold effN
        rw [wsum_congr (q := fun _ => false) fun j _ => by show (decide (j < n) && false) = false; exact Bool.and_false _, wsum_none]
      show _ = some (HO.lst [V.int ((effN n M [] : Nat) : Int)])
      rw [e0]
      rfl
    have S1 : SetsAt (upd (upd (upd H Ea (.lst [.int 0])) e (.lst [])) Sa (.lst [.ref e])) Sa [e] (subs 0).length (fun x => natV ((subs 0).getD x [])) := ⟨upd_same, rfl, fun i v ev => by
      have i0 : i = 0 := by
        have := (List.getElem?_eq_some_iff.mp ev).1
        simp at this
        exact this
      subst i0
      cases ev
      exact t3 _ _ upd_same⟩
    generalize (upd (upd (upd H Ea (.lst [.int 0])) e (.lst [])) Sa (.lst [.ref e])) = H1 at s1 E1 S1
    have R1 := R.same s1
    refine ⟨_, rfl, tu, _, rfl, .inl (SqL.of R1.top), (n : Int), (by rw [List.length_map, R1.ln]), rgL, rgU (by omega), ?_⟩
    refine for_range (lo := 0) (n := n) (fun i σ H2 => ∃ (Ea Sa : Addr) (vs : List Addr) (v4 v5 : Option V), σ = [some (.ref tu), some (.ref df), some (.ref Ea), some (.ref Sa), v4, v5, none, none] ∧ Same H H2 ∧ H2 Ea = some (.lst (effV n M i)) ∧ SetsAt H2 Sa vs (subs i).length (fun x => natV ((subs i).getD x []))) ⟨Ea, Sa, [e], none, none, rfl, s1, E1, S1⟩ ?_ ?_
    · rintro i σ H2 hi ⟨Ea, Sa, vs, v4, v5, rfl, s2, E2, S2⟩
      have R2 := R.same s2
      have sl := subs_le (i := i) (by omega)
      have vl := S2.ln
      obtain ⟨q, hq, hx, hrow⟩ := R2.row hi
      refine ⟨_, rfl, _, rfl, tu, _, _, _, rfl, rfl, SqL.of R2.top, (by rw [Int.zero_add]; exact hx), q, _, rfl, SqL.of hrow, (fun o ho => by have := List.mem_range.mp (List.mem_filter.mp ho).1; omega), fun H3 s3 => ?_⟩
      rw [flt_worth hn]
      -- effects
      refine ⟨_, rfl, _, rfl, Ea, rfl, ⟨_, SqL.of (s3 _ _ E2)⟩, comp_list (xs := effV n M i) (fun _ => true) (fun v => match v with | .int y => .int (Builtin.bitXor y ((wsum 9 (fun j => decide (j < n) && M i j) : Nat) : Int)) | y => y) (by unfold effV; rw [List.length_map]; omega) (SqL.of (s3 _ _ E2)) (fun x Hc k' _ _ q => q) (fun x Hc k' hx _ sm q => ?_) fun E4 hE4 => ?_⟩
      · unfold effV at hx
        obtain ⟨os, _, rfl⟩ := List.mem_map.mp hx
        exact ⟨_, rfl, _, rfl, _, _, rfl, rfl, q⟩
      have ee : ((effV n M i).filter fun _ => true).map (fun v => match v with | .int y => V.int (Builtin.bitXor y ((wsum 9 (fun j => decide (j < n) && M i j) : Nat) : Int)) | y => y) = (subs i).map fun os => V.int ((effN n M (os ++ [i]) : Nat) : Int) := by
        rw [filt_t]
        unfold effV
        rw [List.map_map]
        exact List.map_congr_left fun os _ => by show V.int (Builtin.bitXor _ _) = _; rw [effN_push]
      rw [ee]
      have t4 := Same.laid (o := .lst ((subs i).map fun os => V.int ((effN n M (os ++ [i]) : Nat) : Int))) hE4
      refine ⟨Ea, E4, _, _, rfl, rfl, t4 _ _ (s3 _ _ E2), upd_same, Nat.le_of_lt (small1000 (by unfold effV; rw [List.length_map, List.length_map]; omega)), fun E5 hE5 => ?_⟩
      have eo : effV n M i ++ ((subs i).map fun os => V.int ((effN n M (os ++ [i]) : Nat) : Int)) = effV n M (i + 1) := by
        unfold effV
        rw [subs, List.map_append, List.map_map]
        rfl
      rw [eo]
      have t5 := Same.laid (o := .lst (effV n M (i + 1))) hE5
      have E5' : (upd (upd H3 E4 (.lst ((subs i).map fun os => V.int ((effN n M (os ++ [i]) : Nat) : Int)))) E5 (.lst (effV n M (i + 1)))) E5 = some (.lst (effV n M (i + 1))) := upd_same
      have s25 := (s3.trans t4).trans t5
      have S5 := S2.same s25
      generalize (upd (upd H3 E4 (.lst ((subs i).map fun os => V.int ((effN n M (os ++ [i]) : Nat) : Int)))) E5 (.lst (effV n M (i + 1)))) = H5 at E5' s25 S5
      -- sets
      refine ⟨_, rfl, _, rfl, Sa, rfl, ⟨_, SqL.of S5.top⟩, comp_mk (n := (subs i).length) (fun x => (vs.map V.ref).getD x .non) (fun _ => true) (fun x => .lst (natV ((subs i).getD x [] ++ [i]))) (by omega)
        (fun x H6 sm => by have := itl_new (K := K) (a := Sa) (xs := vs.map V.ref) (H1 := H5) (SqL.of S5.top) x H6 sm; rwa [List.length_map, vl] at this) (fun x Hc k' _ _ q => q) (fun x Hc k' hx _ sm q => ?_) fun D6 ts H6 hD6 s6 top6 ln6 at6 => ?_⟩
      · obtain ⟨_, hv⟩ := S5.get hx rfl
        have eg : (vs.map V.ref).getD x .non = .ref (vs.getD x 0) := by
          rw [List.getD_eq_getElem?_getD, List.getElem?_map, List.getD_eq_getElem?_getD, List.getElem?_eq_getElem (show x < vs.length by omega)]
          rfl
        rw [eg]
        have os9 : ((subs i).getD x []).length ≤ 900 := by
          have hm : (subs i).getD x [] ∈ subs i := by
            rw [List.getD_eq_getElem?_getD, List.getElem?_eq_getElem hx]
            exact List.getElem_mem _
          have := subs_long hm
          omega
        refine ⟨_, rfl, _, rfl, (by show 1 ≤ sizeLine; decide), fun l1 hl1 => ?_⟩
        have c1 := Same.laid (o := .lst [.int (0 + (i : Int))]) hl1
        refine ⟨vs.getD x 0, l1, _, _, rfl, rfl, c1 _ _ (sm _ _ hv), upd_same, Nat.le_of_lt (small1000 (by rw [natV_len, List.length_singleton]; omega)), fun l2 hl2 => ?_⟩
        have c2 := Same.laid (o := .lst (natV ((subs i).getD x []) ++ [.int (0 + (i : Int))])) hl2
        exact q l2 _ (c1.trans c2) (c1.free hl2) (by rw [upd_same, natV_push, Int.zero_add])
      rw [filt_t] at ln6 at6
      rw [List.length_range] at ln6
      have S6 := S5.same s6
      refine ⟨Sa, D6, _, _, rfl, rfl, S6.top, top6, Nat.le_of_lt (small1000 (by rw [List.length_map, List.length_map, vl, ln6]; omega)), fun D7 hD7 => ?_⟩
      have t7 := Same.laid (o := .lst (vs.map V.ref ++ ts.map V.ref)) hD7
      refine ⟨E5, D7, vs ++ ts, _, _, rfl, ((s2.trans s25).trans s6).trans t7, t7 _ _ (s6 _ _ E5'), ⟨by rw [upd_same, List.map_append], by rw [List.length_append, vl, ln6, subs, List.length_append, List.length_map], fun x v ev => ?_⟩⟩
      by_cases hx : x < vs.length
      · rw [List.getElem?_append_left hx] at ev
        have e : (subs (i + 1)).getD x [] = (subs i).getD x [] := by
          rw [subs]
          exact getD_left (by omega)
        rw [e]
        exact t7 _ _ (S6.at_ x v ev)
      · rw [List.getElem?_append_right (by omega)] at ev
        have hx2 := (List.getElem?_eq_some_iff.mp ev).1
        have e : (subs (i + 1)).getD x [] = (subs i).getD (x - vs.length) [] ++ [i] := by
          rw [subs, getD_right (by omega), ← vl, List.getD_eq_getElem?_getD, List.getD_eq_getElem?_getD, List.getElem?_map, List.getElem?_eq_getElem (show x - vs.length < (subs i).length by omega)]
          rfl
        rw [e]
        exact t7 _ _ (at6 (x - vs.length) (x - vs.length) v (List.getElem?_range (by omega)) ev)
    · rintro σ H2 ⟨Ea, Sa, vs, v4, v5, rfl, s2, E2, S2⟩
      have sl : (subs n).length ≤ 512 := by
        rw [subs_len]
        exact Nat.pow_le_pow_right (by decide) hn
      have vl := S2.ln
      -- wanted
      refine ⟨_, rfl, df, _, rfl, s2.seq hdf, (fun o ho => by have := List.mem_range.mp (List.mem_filter.mp ho).1; omega), fun H3 s3 => ?_⟩
      have S3 := S2.same s3
      have E3 := s3 _ _ E2
      -- good
      refine ⟨_, rfl, Sa, _, rfl, .inl (SqL.of S3.top), ((subs n).length : Int), (by rw [List.length_map, vl]), rgL, (by omega), ?_⟩
      refine comp_mk (n := (subs n).length) (fun x => .int (0 + (x : Int))) (fun x => isWay n M f g ((subs n).getD x [])) (fun x => .tup [.int (((subs n).getD x []).length : Int), .ref (vs.getD x 0)]) (by omega) itr_new (fun x Hc k' hx sm q => ?_) (fun x Hc k' hx _ sm q => ?_) fun G ts H4 hG s4 top4 ln4 at4 => ?_
      · refine ⟨_, rfl, _, rfl, Ea, _, _, _, rfl, rfl, SqL.of (sm _ _ E3), effV_at hx (by omega), _, rfl, rfl, _, rfl, ?_⟩
        rw [effN_way hn]
        exact q
      · obtain ⟨h1, h2⟩ := S3.get hx (z := 0 + (x : Int)) (by omega)
        refine ⟨_, rfl, _, rfl, Sa, _, _, _, rfl, rfl, SqL.of (sm _ _ S3.top), h1, _, _, rfl, .inl (SqL.of (sm _ _ h2)), _, rfl, _, rfl, Sa, _, _, _, rfl, rfl, SqL.of (sm _ _ S3.top), h1, (by show 2 ≤ sizeLine; decide), fun t ht => ?_⟩
        exact q t _ (Same.laid ht) ht (by rw [upd_same, natV_len])
      have eF : (subs n).filter (isWay n M f g) = ((List.range (subs n).length).filter fun x => isWay n M f g ((subs n).getD x [])).map fun x => (subs n).getD x [] := filterR [] _ _
      generalize hI : (List.range (subs n).length).filter (fun x => isWay n M f g ((subs n).getD x [])) = idx at ln4 at4 eF
      have idxlt : ∀ x i, idx[x]? = some i → i < (subs n).length := fun x i e => by
        have := List.mem_of_getElem? e
        rw [← hI] at this
        exact List.mem_range.mp (List.mem_filter.mp this).1
      have s24 := s3.trans s4
      refine ⟨_, rfl, Nat.zero_le _, fun e he => ⟨G, e, _, rfl, rfl, SqL.of (Same.laid he _ _ top4), SqL.of upd_same, _, rfl, ?_⟩⟩
      have t5 := Same.laid (o := .lst []) he
      have s05 := (s2.trans s24).trans t5
      have top5 := t5 _ _ top4
      have at5 : ∀ (x i : Nat) (t : Addr), idx[x]? = some i → ts[x]? = some t → (upd H4 e (.lst [])) t = some (.tup [.int (((subs n).getD i []).length : Int), .ref (vs.getD i 0)]) := fun x i t e1 e2 => t5 _ _ (at4 x i t e1 e2)
      have S5 := (S3.same s4).same t5
      generalize (upd H4 e (.lst [])) = H5 at s05 top5 at5 S5
      cases hts : ts with
      | nil =>
        refine iteT ((k H5 s05).1 ?_)
        rw [hts] at ln4
        have : idx = [] := List.length_eq_zero_iff.mp ln4.symm
        rw [eF, this]
        rfl
      | cons t0 tr =>
        refine iteF ?_
        let zs : List (Addr × Addr × List Nat) := (List.range idx.length).map fun x => (ts.getD x 0, vs.getD (idx.getD x 0) 0, (subs n).getD (idx.getD x 0) [])
        have z1 : zs.map (fun z => V.ref z.1) = ts.map V.ref := by
          have h1 := mapR (0 : Addr) ts
          conv => rhs; rw [← h1]
          rw [List.map_map, List.map_map, ln4]
          rfl
        have z2 : zs.map (·.2.2) = (subs n).filter (isWay n M f g) := by
          have h1 := mapR (0 : Nat) idx
          rw [eF]
          conv => rhs; rw [← h1]
          rw [List.map_map, List.map_map]
          rfl
        have keys : KeysAt H5 G zs := ⟨by rw [z1]; exact top5, fun z hz => by
          obtain ⟨x, hx, rfl⟩ := List.mem_map.mp hz
          have hx := List.mem_range.mp hx
          have e1 : idx[x]? = some (idx.getD x 0) := by
            rw [List.getD_eq_getElem?_getD, List.getElem?_eq_getElem hx]
            rfl
          have e2 : ts[x]? = some (ts.getD x 0) := by
            rw [List.getD_eq_getElem?_getD, List.getElem?_eq_getElem (show x < ts.length by omega)]
            rfl
          exact ⟨at5 x _ _ e1 e2, (S5.get (idxlt x _ e1) rfl).2⟩⟩
        have ne : zs ≠ [] := fun z => by
          have := congrArg List.length z1
          rw [z, hts] at this
          simp at this
        generalize zs = Z at z2 keys ne
        refine ⟨_, rfl, G, Z, rfl, keys, ne, fun z0 rest b ez bm eb H6 s6 => ?_⟩
        obtain ⟨b1, b2⟩ := keys.at_ b bm
        refine ⟨b.1, _, _, _, rfl, rfl, SqT.of (s6 _ _ b1), atI_pair1 rfl, ?_⟩
        refine (k H6 (s05.trans s6)).2 b.2.1 z0.2.2 (rest.map (·.2.2)) (by rw [← z2, ez]; rfl) ?_
        rw [← eb]
        exact s6 _ _ b2
end
end Lp

/-! ## law k13 -/
namespace Lp
open PySem L2 Lamp
abbrev s_law : Stmt := top 36
def sndI : List V → Int
  | [_, .int y] => y
  | _ => 0
theorem cut_row {n m : Nat} (h : m ≤ n) (f : Nat → Bool) : cutV (rowV n f) none (some (m : Int)) = rowV m f := by
  unfold cutV
  rw [rowV_len, HT.sIx_none, HT.sIx_nat, List.drop_zero, Nat.sub_zero, Nat.min_eq_left h]
  apply List.ext_getElem?
  intro i
  by_cases hi : i < m
  · rw [List.getElem?_take_of_lt hi, rowV_at f (by omega), rowV_at f hi]
  · rw [List.getElem?_eq_none (by rw [List.length_take, rowV_len]; omega), List.getElem?_eq_none (by rw [rowV_len]; omega)]
theorem min_nat (n : Nat) : V.int (if (9 : Int) < (n : Int) then 9 else (n : Int)) = V.int ((min n 9 : Nat) : Int) := by
  congr 1
  split <;> omega
theorem YardAt.sameT {C Tb : Addr} {H H' : Hp} {p dx r : Addr} {qs : List Addr} {n : Nat} {M : Nat → Nat → Bool} (Y : YardAt C H p dx r qs n M) {ps : Array Value} (hT : H Tb = some (.tbl ps)) (s : SameT Tb H H') : YardAt C H' p dx r qs n M := by
  have ne : ∀ b o, H b = some o → (∀ q, o ≠ .tbl q) → b ≠ Tb := fun b o e d z => by
    rw [z, hT] at e
    exact d ps (Option.some.inj e).symm
  exact ⟨s _ _ (ne _ _ Y.ob fun _ z => nomatch z) Y.ob, s _ _ (ne _ _ Y.rw fun _ z => nomatch z) Y.rw, Y.ln, Y.nd, fun i q e => s _ _ (ne _ _ (Y.at_ i q e) fun _ z => nomatch z) (Y.at_ i q e)⟩
theorem TiesP.sameT {Tb : Addr} {H H' : Hp} {lt : Addr} {zs : List (Addr × Nat × Nat)} {p : Nat → Nat → Prop} (T : TiesP H lt zs p) {ps : Array Value} (hT : H Tb = some (.tbl ps)) (s : SameT Tb H H') : TiesP H' lt zs p := by
  have ne : ∀ b o, H b = some o → (∀ q, o ≠ .tbl q) → b ≠ Tb := fun b o e d z => by
    rw [z, hT] at e
    exact d ps (Option.some.inj e).symm
  exact ⟨s _ _ (ne _ _ T.top fun _ z => nomatch z) T.top, fun z hz => s _ _ (ne _ _ (T.at_ z hz) fun _ z => nomatch z) (T.at_ z hz), T.nd, T.ok⟩
section
variable {P : Program} {w : World} {K : PySem.W.Frag} {mg : Str → Option Value} {base : Heap} {C NL TM Tb : Addr}
def spLawT (K : PySem.W.Frag) (Tb : Addr) : Sp := fun vs H Q _ => ∃ (a : Addr) (ns : List Int), vs = [.ref a] ∧ SqL K H a (ns.map V.int) ∧ ns.length ≤ 63 ∧ H Tb = some (.tbl #[]) ∧ ∀ H', Q (.bl true) H'
structure At13 (C Tb : Addr) (H : Hp) (p dx r : Addr) (qs : List Addr) (m : Nat) (lt ls L W gv wv : Addr) (zs : List (Addr × Nat × Nat)) (f fl g : Nat → Bool) : Prop where
  yd : YardAt C H p dx r qs m (mat (zs.map (·.2)) f)
  ts : TiesAt H lt zs m
  sh : H ls = some (.lst (rowV m f))
  l : H L = some (.lst (rowV m fl))
  w : H W = some (.lst (rowV m g))
  gv : H gv = some (.lst (rowV m fl))
  wv : H wv = some (.lst (rowV m g))
  tb : TabF H Tb
theorem At13.same {H H' : Hp} {p dx r : Addr} {qs : List Addr} {m : Nat} {lt ls L W gv wv : Addr} {zs : List (Addr × Nat × Nat)} {f fl g : Nat → Bool} (A : At13 C Tb H p dx r qs m lt ls L W gv wv zs f fl g) (s : Same H H') : At13 C Tb H' p dx r qs m lt ls L W gv wv zs f fl g :=
  ⟨A.yd.same s, A.ts.same s, s _ _ A.sh, s _ _ A.l, s _ _ A.w, s _ _ A.gv, s _ _ A.wv, TabOk.same A.tb s⟩
theorem st_law (x0 : V) : start ["script", "drawn", "many", "ties", "shy", "turns", "light", "wished", "given", "wish", "yard", "lamp", "turn", "found", "due"] [x0] = [some x0, none, none, none, none, none, none, none, none, none, none, none, none, none, none] := rfl
theorem sc_law : FnScope ["script", "drawn", "many", "ties", "shy", "turns", "light", "wished", "given", "wish", "yard", "lamp", "turn", "found", "due"] ["script"] (defScope s_law) := ⟨rfl, rfl, rfl, by decide +kernel, rfl, by decide +kernel, by decide +kernel⟩
theorem ok_law {fa : Addr} {fd : FuncData} (F : Fun K "law" "law" s_law fa fd) (T : LB mg) (hF_cell_at : Has P w K mg base (CXE P w) 1 "_law_cell_at" ["script", "k"] (spCell K))
    (hF_drawn : Has P w K mg base (CXE P w) 2 "_law_drawn" ["script"] (spDrawn K)) (hF_built : Has P w K mg base (CXE P w) 5 "_law_built" ["many", "ties", "shy"] (spBuilt C)) (hF_turns : Has P w K mg base (CXE P w) 1 "_law_turns" ["many", "ties", "shy"] spTurnsL)
    (hF_light : Has P w K mg base (CXE P w) 2 "_law_light" ["cell", "many"] spLight) (hF_wished : Has P w K mg base (CXE P w) 3 "_law_wished" ["script", "light", "turns"] (spWished K)) (hF_alike : Has P w K mg base (CXE P w) 2 "_law_alike" ["found", "due"] (spAlike K))
    (hF_differ : Has P w K mg base (CXE P w) 1 "_law_differ" ["one", "other"] (spDiffer K)) (hF_due : Has P w K mg base (CXE P w) 2 "_law_due" ["turns", "differ"] (spDue K)) (hM_set_shy3 : HasM P w K mg base (CXE P w) 2 C "set_shy" ["self", "lamp", "answer"] [] (spShy C NL))
    (hF_fewest : Has P w K mg base (CXE P w) 5 "fewest" ["yard", "light", "wished"] (spFewest K C TM Tb)) : FnOk P w K mg base CX0 6 fa fd ["script"] (spLawT K Tb) := by
  refine F.ok sc_law (fun vs H Q E h => ?_) (fun cdv A outer s H vs Q E hr h => ?_)
  · obtain ⟨a, ns, rfl, _⟩ := h
    rfl
  · obtain ⟨a, ns, rfl, hs, hl, hTb, k⟩ := h
    have hu := hr.units0
    refine ⟨_, ((L2.pss_cons (ps_set (i := 1) sc_law.nd rfl (by first | exact Or.inl rfl | exact Or.inr rfl) (pe_callH hF_drawn (hr.mono (by decide)) rfl (passN) (L2.pa_cons ((pe_op op_cat (pe_lst (L2.pa_cons ((pe_op op_mul (pe_op op_mod (pe_callH hF_cell_at (hr.mono (by decide)) rfl (passN) (L2.pa_cons ((pv 0)) (L2.pa_cons ((pe_int)) L2.pa_nil))) (pe_int)) (pe_int))) L2.pa_nil)) (pe_slice (slLK K) (pv 0) (po_some (pe_int)) po_none))) L2.pa_nil))) (L2.pss_cons (ps_set (i := 2) sc_law.nd rfl (by first | exact Or.inl rfl | exact Or.inr rfl) (pe_callB (call_min2 rfl) rfl T.b_min bootB_min (L2.pa_cons ((pe_ix (ixTK K) (pv 1) (pe_int) (fun _ _ => rfl))) (L2.pa_cons ((pe_int)) L2.pa_nil)))) (L2.pss_cons (ps_compN (i := 3) (js := [2]) sc_law.nd rfl (by first | exact Or.inl rfl | exact Or.inr rfl) rfl (by kernel_rfl) (piLK K (pe_ix (ixTK K) (pv 1) (pe_int) (fun _ _ => rfl))) (fun _ _ _ _ _ => pf_one (pt_cmpR op_lt (pe_ix (ixTK K) (pv 0) (pe_int) (fun _ _ => rfl)) (pv 1) (nomark _))) (fun _ _ _ _ _ => (pv 0))) (L2.pss_cons (ps_set (i := 4) sc_law.nd rfl (by first | exact Or.inl rfl | exact Or.inr rfl) (pe_slice (slLK K) (pe_ix (ixTK K) (pv 1) (pe_int) (fun _ _ => rfl)) po_none (po_some (pv 2)))) (L2.pss_cons (ps_set (i := 5) sc_law.nd rfl (by first | exact Or.inl rfl | exact Or.inr rfl) (pe_callH hF_turns (hr.mono (by decide)) rfl (passN) (L2.pa_cons ((pv 2)) (L2.pa_cons ((pv 3)) (L2.pa_cons ((pv 4)) L2.pa_nil))))) (L2.pss_cons (ps_set (i := 6) sc_law.nd rfl (by first | exact Or.inl rfl | exact Or.inr rfl) (pe_callH hF_light (hr.mono (by decide)) rfl (passN) (L2.pa_cons ((pe_callH hF_cell_at (hr.mono (by decide)) rfl (passN) (L2.pa_cons ((pv 0)) (L2.pa_cons ((pe_int)) L2.pa_nil)))) (L2.pa_cons ((pv 2)) L2.pa_nil)))) (L2.pss_cons (ps_set (i := 7) sc_law.nd rfl (by first | exact Or.inl rfl | exact Or.inr rfl) (pe_callH hF_wished (hr.mono (by decide)) rfl (passN) (L2.pa_cons ((pv 0)) (L2.pa_cons ((pv 6)) (L2.pa_cons ((pv 5)) L2.pa_nil))))) (L2.pss_cons (ps_set (i := 8) sc_law.nd rfl (by first | exact Or.inl rfl | exact Or.inr rfl) (pe_callTy (listK K) rfl T.b_list bootB_list (L2.pa_cons ((pv 6)) L2.pa_nil))) (L2.pss_cons (ps_set (i := 9) sc_law.nd rfl (by first | exact Or.inl rfl | exact Or.inr rfl) (pe_callTy (listK K) rfl T.b_list bootB_list (L2.pa_cons ((pv 7)) L2.pa_nil))) (L2.pss_cons (ps_set (i := 10) sc_law.nd rfl (by first | exact Or.inl rfl | exact Or.inr rfl) (pe_callH hF_built (hr.mono (by decide)) rfl (passN) (L2.pa_cons ((pv 2)) (L2.pa_cons ((pv 3)) (L2.pa_cons ((pv 4)) L2.pa_nil))))) (L2.pss_cons (ps_set (i := 11) sc_law.nd rfl (by first | exact Or.inl rfl | exact Or.inr rfl) (pe_op op_mod (pe_callH hF_cell_at (hr.mono (by decide)) rfl (passN) (L2.pa_cons ((pv 0)) (L2.pa_cons ((pe_int)) L2.pa_nil))) (pv 2))) (L2.pss_cons (ps_for PassesOwn.never rfl (pi_range1 rfl T.b_range (L2.pa_cons ((pe_int)) L2.pa_nil)) (pg_name (i := 12) sc_law.nd rfl (by first | exact Or.inl rfl | exact Or.inr rfl)) ((L2.pss_cons (ps_set (i := 13) sc_law.nd rfl (by first | exact Or.inl rfl | exact Or.inr rfl) (pe_callH hF_fewest (hr.mono (by decide)) rfl (passN) (L2.pa_cons ((pv 10)) (L2.pa_cons ((pv 8)) (L2.pa_cons ((pv 9)) L2.pa_nil))))) (L2.pss_cons (ps_set (i := 14) sc_law.nd rfl (by first | exact Or.inl rfl | exact Or.inr rfl) (pe_callH hF_due (hr.mono (by decide)) rfl (passN) (L2.pa_cons ((pe_callH hF_turns (hr.mono (by decide)) rfl (passN) (L2.pa_cons ((pv 2)) (L2.pa_cons ((pv 3)) (L2.pa_cons ((pv 4)) L2.pa_nil))))) (L2.pa_cons ((pe_callH hF_differ (hr.mono (by decide)) rfl (passN) (L2.pa_cons ((pv 6)) (L2.pa_cons ((pv 7)) L2.pa_nil)))) L2.pa_nil)))) (L2.pss_cons (ps_if (PW.pt (pw_or (pt_cmpR (neSK K hu) (pv 8) (pv 6) (nomark _)) (pw_or (pt_cmpR (neSK K hu) (pv 9) (pv 7) (nomark _)) (pw_or1 (pt_cmpR op_ne (pe_cmpR op_isN (pv 13) (pe_non) (nomark _)) (pe_cmpR op_isN (pv 14) (pe_non) (nomark _)) (nomark _)))))) ((L2.pss_one (ps_ret (pe_bl)))) pss_nil) (L2.pss_cons (ps_if (PW.pt (pw_and (pt_cmpR op_notN (pv 14) (pe_non) (nomark _)) (pw_and1 (pt_not (pt_val (pe_callH hF_alike (hr.mono (by decide)) rfl (passN) (L2.pa_cons ((pv 13)) (L2.pa_cons ((pv 14)) L2.pa_nil)))))))) ((L2.pss_one (ps_ret (pe_bl)))) pss_nil) (L2.pss_cons (ps_asg (pe_not (pe_ix (ixLK K) (pv 4) (pv 11) (fun _ _ => rfl))) (pg_sub (pv 4) (pv 11) set_list)) (L2.pss_one (ps_expr (pe_methH (pv 10) hM_set_shy3 (hr.mono (by decide)) (passN) (L2.pa_cons ((pv 11)) (L2.pa_cons ((pe_ix (ixLK K) (pv 4) (pv 11) (fun _ _ => rfl))) L2.pa_nil)))))))))))) (L2.pss_one (ps_ret (pe_bl)))))))))))))))), ?_⟩
    -- drawn
    have y0 : 0 ≤ cellF ns 0 % 36 := by omega
    have y1 : cellF ns 0 % 36 < 36 := by omega
    refine ⟨_, rfl, a, ns, 0, rfl, by decide, hs, _, _, rfl, rfl, posI rfl, _, _, rfl, rfl, .inl ⟨by omega, by omega⟩, (by show 1 ≤ sizeLine; decide), fun l1 hl1 => ?_⟩
    dsimp only at hl1 ⊢
    generalize cellF ns 0 % 36 = y at y0 y1 hl1 ⊢
    have t1 := Same.laid (o := .lst [.int (y * 4)]) hl1
    obtain ⟨cs, e1, n1⟩ := cut_ints ns (some 1) none
    refine ⟨_, rfl, 1, rfl, a, _, rfl, t1.seq hs, fun l2 hl2 => ?_⟩
    rw [e1]
    have t2 := Same.laid (o := .lst (cs.map V.int)) hl2
    refine ⟨l1, l2, _, _, rfl, rfl, t2 _ _ upd_same, upd_same, Nat.le_of_lt (small1000 (by rw [List.length_map, List.length_singleton]; omega)), fun l3 hl3 => ?_⟩
    have t3 := Same.laid (o := .lst ([.int (y * 4)] ++ cs.map V.int)) hl3
    have t13 := (t1.trans t2).trans t3
    refine ⟨l3, (y * 4) :: cs, rfl, SqL.of upd_same, fun t lt0 ls0 zs0 n f0 H1 s1 hn1 hn2 ht hT hz hS fltA fls => ?_⟩
    have s01 := t13.trans s1
    have hs1 := s01.seq hs
    have hTb1 := s01 _ _ hTb
    -- many
    try dsimp only [st_law, List.set_cons_zero, List.set_cons_succ]
    refine ⟨_, rfl, t, _, _, _, rfl, rfl, SqT.of ht, atI_of (by decide) rfl, (n : Int), 9, rfl, ?_⟩
    rw [min_nat]
    obtain ⟨m, hm⟩ : ∃ m, m = min n 9 := ⟨_, rfl⟩
    rw [← hm]
    have m1 : 1 ≤ m := by omega
    have m9 : m ≤ 9 := by omega
    have mn : m ≤ n := by omega
    have m24 : m ≤ 24 := by omega
    -- ties
    try dsimp only [st_law, List.set_cons_zero, List.set_cons_succ]
    refine ⟨_, rfl, t, _, _, _, rfl, rfl, SqT.of ht, atI_of (by decide) rfl, lt0, rfl, ⟨_, SqL.of hT.top⟩, comp_list (xs := zs0.map fun u => V.ref u.1) (fun v => match v with | .ref b => decide (sndI (tupAt H1 b) < (m : Int)) | _ => false) (fun v => v) (by rw [List.length_map]; omega) (SqL.of hT.top) (fun v Hc k' hv sm q => ?_) (fun v Hc k' hv _ sm q => ⟨_, rfl, q⟩) fun lt hlt => ?_⟩
    · obtain ⟨u, hu', rfl⟩ := List.mem_map.mp hv
      have hatu := hT.at_ u hu'
      refine ⟨_, rfl, u.1, _, _, _, rfl, rfl, SqT.of (sm _ _ hatu), atI_pair1 rfl, _, rfl, _, _, rfl, rfl, _, rfl, ?_⟩
      dsimp only at q
      rw [tupAt_of hatu] at q
      exact q
    have ef : ((zs0.map fun u => V.ref u.1).filter (fun v => match v with | .ref b => decide (sndI (tupAt H1 b) < (m : Int)) | _ => false)).map (fun v => v) = (zs0.filter fun u => decide (u.2.2 < m)).map fun u => V.ref u.1 := by
      rw [List.map_id', List.filter_map]
      congr 1
      apply List.filter_congr
      intro u hu'
      show decide (sndI (tupAt H1 u.1) < (m : Int)) = _
      rw [tupAt_of (hT.at_ u hu')]
      show decide ((u.2.2 : Int) < (m : Int)) = _
      rw [Bool.eq_iff_iff]
      simp
    rw [ef]
    obtain ⟨zs, hzs⟩ : ∃ zs, zs = zs0.filter fun u => decide (u.2.2 < m) := ⟨_, rfl⟩
    rw [← hzs]
    have sub : ∀ u, u ∈ zs → u ∈ zs0 ∧ u.2.2 < m := fun u h => by
      rw [hzs] at h
      obtain ⟨h1, h2⟩ := List.mem_filter.mp h
      exact ⟨h1, of_decide_eq_true h2⟩
    have zl : zs.length ≤ 600 := by
      rw [hzs]
      exact Nat.le_trans (List.length_filter_le _ _) hz
    have t2' := Same.laid (o := .lst (zs.map fun u => V.ref u.1)) hlt
    have T2 : TiesAt (upd H1 lt (.lst (zs.map fun u => V.ref u.1))) lt zs m := ⟨upd_same, fun u h => t2' _ _ (hT.at_ u (sub u h).1), by rw [hzs]; exact hT.nd.sublist (List.filter_sublist.map _), fun u h => ⟨(hT.ok u (sub u h).1).1, (sub u h).2⟩⟩
    have hS2 := t2' _ _ hS
    have ht2 := t2' _ _ ht
    have s02 := s01.trans t2'
    generalize (upd H1 lt (.lst (zs.map fun u => V.ref u.1))) = H2 at T2 hS2 ht2 s02
    -- shy
    try dsimp only [st_law, List.set_cons_zero, List.set_cons_succ]
    refine ⟨_, rfl, t, _, _, _, rfl, rfl, SqT.of ht2, atI_of (by decide) rfl, _, rfl, (m : Int), rfl, ls0, _, rfl, SqL.of hS2, fun ls hls => ?_⟩
    rw [cut_row mn]
    have t3' := Same.laid (o := .lst (rowV m f0)) hls
    have S3 : (upd H2 ls (.lst (rowV m f0))) ls = some (.lst (rowV m f0)) := upd_same
    have T3 := T2.same t3'
    have s03 := s02.trans t3'
    generalize (upd H2 ls (.lst (rowV m f0))) = H3 at S3 T3 s03
    -- turns
    try dsimp only [st_law, List.set_cons_zero, List.set_cons_succ]
    refine ⟨_, rfl, _, rfl, _, rfl, lt, ls, zs, m, f0, rfl, m24, T3, zl, S3, fun TT qt H4 s4 R4 fTT fqt => ?_⟩
    have s04 := s03.trans s4
    -- light
    try dsimp only [st_law, List.set_cons_zero, List.set_cons_succ]
    refine ⟨_, rfl, a, ns, 11, rfl, by decide, s04.seq hs, _, rfl, _, m, rfl, m24, fun L fl H5 fL s5 hL => ?_⟩
    have s05 := s04.trans s5
    -- wished
    try dsimp only [st_law, List.set_cons_zero, List.set_cons_succ]
    refine ⟨_, rfl, _, rfl, _, rfl, a, ns, L, TT, qt, m, _, fl, rfl, m24, s05.seq hs, SqL.of hL, R4.same s5, fun W g H6 fW s6 hW hpr => ?_⟩
    have hL6 := s6 _ _ hL
    -- given, wish
    try dsimp only [st_law, List.set_cons_zero, List.set_cons_succ]
    refine ⟨_, rfl, L, _, rfl, .inl (SqL.of hL6), fun gv hgv => ?_⟩
    have t6 := Same.laid (o := .lst (rowV m fl)) hgv
    refine ⟨_, rfl, W, _, rfl, .inl (SqL.of (t6 _ _ hW)), fun wv hwv => ?_⟩
    have t7 := Same.laid (o := .lst (rowV m g)) hwv
    have g7 := t7 _ _ (upd_same (H := H6) (a := gv) (o := .lst (rowV m fl)))
    have w7 : (upd (upd H6 gv (.lst (rowV m fl))) wv (.lst (rowV m g))) wv = some (.lst (rowV m g)) := upd_same
    have s67 := t6.trans t7
    have s37 := ((s4.trans s5).trans s6).trans s67
    have L7 := s67 _ _ hL6
    have W7 := s67 _ _ hW
    have T7 := T3.same s37
    have S7 := s37 _ _ S3
    have s07 := s03.trans s37
    have ngv : H3 gv = none := ((s4.trans s5).trans s6).free hgv
    have nwv : H3 wv = none := (((s4.trans s5).trans s6).trans t6).free hwv
    have nL : H3 L = none := s4.free fL
    have nW : H3 W = none := (s4.trans s5).free fW
    generalize (upd (upd H6 gv (.lst (rowV m fl))) wv (.lst (rowV m g))) = H7 at g7 w7 s37 L7 W7 T7 S7 s07
    -- yard
    try dsimp only [st_law, List.set_cons_zero, List.set_cons_succ]
    refine ⟨_, rfl, _, rfl, _, rfl, lt, ls, zs, m, f0, rfl, m1, m24, T7, zl, S7, fun p dx r qs H8 s8 Y8 fp frr fq => ?_⟩
    have s08 := s07.trans s8
    -- lamp
    try dsimp only [st_law, List.set_cons_zero, List.set_cons_succ]
    have np : (0 : Int) < m := by omega
    obtain ⟨l, hl'⟩ : ∃ l, l = cellF ns 14 % (m : Int) := ⟨_, rfl⟩
    have l0 : 0 ≤ l := by rw [hl']; exact Int.emod_nonneg _ (by omega)
    have lm : l < m := by rw [hl']; exact Int.emod_lt_of_pos _ np
    refine ⟨_, rfl, a, ns, 14, rfl, by decide, s08.seq hs, _, rfl, _, _, rfl, rfl, np, ?_⟩
    dsimp only
    rw [← hl']
    -- apart
    have els : ∀ c, H3 c = none → c ≠ ls := fun c e z => by
      rw [z, S3] at e
      cases e
    have f37 : ∀ c, H7 c = none → H3 c = none := fun c e => s37.free e
    have nlt : lt ≠ ls := fun e => by
      have h1 := T3.top
      rw [e, S3] at h1
      have h2 := rowV_at f0 (show 0 < m by omega)
      rw [HO.lst.inj (Option.some.inj h1), List.getElem?_map] at h2
      cases hz0 : zs[0]? with
      | none => rw [hz0] at h2; cases h2
      | some z => rw [hz0] at h2; cases h2
    have nz : ∀ z ∈ zs, z.1 ≠ ls := fun z h e => by
      have h1 := T3.at_ z h
      rw [e, S3] at h1
      cases h1
    have nrow : ∀ c, H7 c ≠ none → c ∉ qs := fun c h z => h (fq c z)
    have A8 : At13 C Tb H8 p dx r qs m lt ls L W gv wv zs f0 fl g := ⟨Y8, T7.same s8, s8 _ _ S7, s8 _ _ L7, s8 _ _ W7, s8 _ _ g7, s8 _ _ w7, .inl (s08 _ _ hTb)⟩
    have q1 : lt ∉ qs := nrow lt (by rw [T7.top]; simp)
    have q2 : ls ∉ qs := nrow ls (by rw [S7]; simp)
    have q3 : L ∉ qs := nrow L (by rw [L7]; simp)
    have q4 : W ∉ qs := nrow W (by rw [W7]; simp)
    have q5 : gv ∉ qs := nrow gv (by rw [g7]; simp)
    have q6 : wv ∉ qs := nrow wv (by rw [w7]; simp)
    have q7 : ∀ z ∈ zs, z.1 ∉ qs := fun z h => nrow z.1 (by rw [T7.at_ z h]; simp)
    -- two turns
    try dsimp only [st_law, List.set_cons_zero, List.set_cons_succ]
    refine ⟨2, rfl, by decide, by decide, for_range (lo := 0) (n := 2) (fun i σ H9 => ∃ (f : Nat → Bool) (v12 v13 v14 : Option V), σ = [some (.ref a), some (.ref t), some (.int (m : Int)), some (.ref lt), some (.ref ls), some (.ref TT), some (.ref L), some (.ref W), some (.ref gv), some (.ref wv), some (.ref p), some (.int l), v12, v13, v14] ∧ At13 C Tb H9 p dx r qs m lt ls L W gv wv zs f fl g)
      ⟨f0, none, none, none, rfl, A8⟩ ?_ ?_⟩
    · rintro i σ H9 hi ⟨f, v12, v13, v14, rfl, A9⟩
      obtain ⟨ps9, hp9⟩ := A9.tb.tbl
      -- found
      refine (fun (next : ∀ (x13 x14 : Option V) (H5 : Hp), At13 C Tb H5 p dx r qs m lt ls L W gv wv zs f fl g → (?N : Option V → Option V → Hp → Prop) x13 x14 H5) => ⟨_, rfl, _, rfl, _, rfl, p, dx, r, qs, m, _, gv, wv, fl, g, rfl, A9.yd, m1, m24, SqL.of A9.gv, SqL.of A9.wv, A9.tb, fun _ Ha sT tb2 => ⟨fun D os hD hos ne => ?a, fun e0 => ?b⟩, fun gt => absurd gt (by omega)⟩) ?c
      case a =>
        have lT : ∀ b xs, H9 b = some (.lst xs) → Ha b = some (.lst xs) := fun b xs e => sT b _ (fun z => by rw [z, hp9] at e; cases e) e
        have Aa : At13 C Tb Ha p dx r qs m lt ls L W gv wv zs f fl g := ⟨A9.yd.sameT hp9 sT, A9.ts.sameT hp9 sT, lT _ _ A9.sh, lT _ _ A9.l, lT _ _ A9.w, lT _ _ A9.gv, lT _ _ A9.wv, tb2⟩
        -- due
        try dsimp only [st_law, List.set_cons_zero, List.set_cons_succ]
        refine ⟨_, rfl, _, rfl, _, rfl, lt, ls, zs, m, f, rfl, m24, Aa.ts, zl, Aa.sh, fun TU qu Hb sb Rb _ _ => ?_⟩
        have Ab := Aa.same sb
        refine ⟨_, rfl, _, rfl, L, W, m, fl, g, rfl, m24, SqL.of Ab.l, SqL.of Ab.w, fun DF hDF => ?_⟩
        have tc := Same.laid (o := .lst (natV ((List.range m).filter fun i => fl i != g i))) hDF
        refine ⟨TU, DF, qu, m, _, fl, g, rfl, m1, m9, Rb.same tc, SqL.of upd_same, fun Hd sd => ⟨fun e0 => absurd e0 ne, fun D2 mm ll e hD2 => ?_⟩⟩
        have sad := (sb.trans tc).trans sd
        have Ad := Aa.same sad
        have hDd := sad _ _ hD
        try dsimp only [st_law, List.set_cons_zero, List.set_cons_succ]
        refine ⟨_, rfl, _, rfl, gv, L, _, _, rfl, rfl, .inl ⟨SqL.of Ad.gv, SqL.of Ad.l⟩, rowV_flat _ _, rowV_flat _ _, _, rfl, ?_⟩
        rw [if_pos rfl, eqVs_refl (rowV_flat _ _)]
        refine iteF ⟨_, rfl, _, rfl, wv, W, _, _, rfl, rfl, .inl ⟨SqL.of Ad.wv, SqL.of Ad.w⟩, rowV_flat _ _, rowV_flat _ _, _, rfl, ?_⟩
        rw [if_pos rfl, eqVs_refl (rowV_flat _ _)]
        refine iteF ⟨_, rfl, rfl, _, rfl, rfl, rfl, _, rfl, iteFe (by simp) ?_⟩
        try dsimp only [st_law, List.set_cons_zero, List.set_cons_succ]
        have eo : os = best mm ll := hos mm ll e
        have ol : os.length ≤ 9 := by
          have hm' : best mm ll ∈ subs m := by
            have : best mm ll ∈ (subs m).filter (isWay m (mat (zs.map (·.2)) f) fl g) := by
              rw [e]
              rcases best_mem (m := mm) (l := ll) with z | z
              · rw [z]
                exact List.mem_cons_self
              · exact List.mem_cons_of_mem _ z
            exact (List.mem_filter.mp this).1
          have := subs_long hm'
          rw [eo]
          omega
        refine ⟨_, rfl, rfl, _, rfl, iteTe (by simp) ⟨_, rfl, _, rfl, D, D2, os.map fun j : Nat => (j : Int), (best mm ll).map fun j : Nat => (j : Int), rfl, (by rw [← natV_ints]; exact hDd), SqL.of (by rw [← natV_ints]; exact hD2), (by rw [List.length_map]; omega), fun He se => ?_⟩⟩
        rw [eo, decide_eq_true rfl]
        refine ⟨_, rfl, iteF ?_⟩
        have Ae := Ad.same se
        generalize some (V.ref D) = x13
        generalize some (V.ref D2) = x14
        exact next x13 x14 He Ae
      case b =>
        have lT : ∀ b xs, H9 b = some (.lst xs) → Ha b = some (.lst xs) := fun b xs e => sT b _ (fun z => by rw [z, hp9] at e; cases e) e
        have Aa : At13 C Tb Ha p dx r qs m lt ls L W gv wv zs f fl g := ⟨A9.yd.sameT hp9 sT, A9.ts.sameT hp9 sT, lT _ _ A9.sh, lT _ _ A9.l, lT _ _ A9.w, lT _ _ A9.gv, lT _ _ A9.wv, tb2⟩
        try dsimp only [st_law, List.set_cons_zero, List.set_cons_succ]
        refine ⟨_, rfl, _, rfl, _, rfl, lt, ls, zs, m, f, rfl, m24, Aa.ts, zl, Aa.sh, fun TU qu Hb sb Rb _ _ => ?_⟩
        have Ab := Aa.same sb
        refine ⟨_, rfl, _, rfl, L, W, m, fl, g, rfl, m24, SqL.of Ab.l, SqL.of Ab.w, fun DF hDF => ?_⟩
        have tc := Same.laid (o := .lst (natV ((List.range m).filter fun i => fl i != g i))) hDF
        refine ⟨TU, DF, qu, m, _, fl, g, rfl, m1, m9, Rb.same tc, SqL.of upd_same, fun Hd sd => ⟨fun _ => ?_, fun D2 mm ll e hD2 => absurd (e.symm.trans e0) (List.cons_ne_nil _ _)⟩⟩
        have Ad := Aa.same ((sb.trans tc).trans sd)
        try dsimp only [st_law, List.set_cons_zero, List.set_cons_succ]
        refine ⟨_, rfl, _, rfl, gv, L, _, _, rfl, rfl, .inl ⟨SqL.of Ad.gv, SqL.of Ad.l⟩, rowV_flat _ _, rowV_flat _ _, _, rfl, ?_⟩
        rw [if_pos rfl, eqVs_refl (rowV_flat _ _)]
        refine iteF ⟨_, rfl, _, rfl, wv, W, _, _, rfl, rfl, .inl ⟨SqL.of Ad.wv, SqL.of Ad.w⟩, rowV_flat _ _, rowV_flat _ _, _, rfl, ?_⟩
        rw [if_pos rfl, eqVs_refl (rowV_flat _ _)]
        refine iteF ⟨_, rfl, rfl, _, rfl, rfl, rfl, _, rfl, iteFe (by simp) ?_⟩
        try dsimp only [st_law, List.set_cons_zero, List.set_cons_succ]
        refine ⟨_, rfl, rfl, _, rfl, iteFe (by simp) ?_⟩
        exact iteF (next _ _ Hd Ad)
      -- shy[lamp] = not shy[lamp]
      intro x13 x14 H5 A5
      try dsimp only [st_law, List.set_cons_zero, List.set_cons_succ]
      have ixl : atI (rowV m f) l = some (.bl (f l.toNat)) := atI_of l0 (rowV_at f (by omega))
      refine ⟨_, rfl, _, rfl, ls, _, _, _, rfl, rfl, SqL.of A5.sh, ixl, _, rfl, _, rfl, _, rfl, ls, _, _, l.toNat, rfl, rfl, A5.sh, (by rw [rowV_len]; exact ixN_of l0 lm), ?_⟩
      rw [rowV_set]
      obtain ⟨f2, hf2⟩ : ∃ f2 : Nat → Bool, f2 = fun k => if k = l.toNat then !f l.toNat else f k := ⟨_, rfl⟩
      rw [← hf2]
      have kp : ∀ c o, H5 c = some o → c ≠ ls → (upd H5 ls (.lst (rowV m f2))) c = some o := fun c o e h => by
        rw [upd_ne h]
        exact e
      have Y6 : YardAt C (upd H5 ls (.lst (rowV m f2))) p dx r qs m (mat (zs.map (·.2)) f) := ⟨kp _ _ A5.yd.ob (els p (f37 _ fp)), kp _ _ A5.yd.rw (els r (f37 _ frr)), A5.yd.ln, A5.yd.nd, fun i q e => kp _ _ (A5.yd.at_ i q e) (els q (f37 _ (fq q (List.mem_of_getElem? e))))⟩
      have T6 : TiesAt (upd H5 ls (.lst (rowV m f2))) lt zs m := ⟨kp _ _ A5.ts.top nlt, fun z h => kp _ _ (A5.ts.at_ z h) (nz z h), A5.ts.nd, A5.ts.ok⟩
      have S6 : (upd H5 ls (.lst (rowV m f2))) ls = some (.lst (rowV m f2)) := upd_same
      have L6 := kp _ _ A5.l (els L nL)
      have W6 := kp _ _ A5.w (els W nW)
      have g6 := kp _ _ A5.gv (els gv ngv)
      have w6 := kp _ _ A5.wv (els wv nwv)
      have tb6 : TabF (upd H5 ls (.lst (rowV m f2))) Tb := by
        rcases A5.tb with h | ⟨c', h1, h2⟩
        · exact .inl (kp _ _ h fun z => by rw [z, A5.sh] at h; cases h)
        · exact .inr ⟨c', kp _ _ h1 (fun z => by rw [z, A5.sh] at h1; cases h1), kp _ _ h2 (fun z => by rw [z, A5.sh] at h2; cases h2)⟩
      generalize (upd H5 ls (.lst (rowV m f2))) = H6' at Y6 T6 S6 L6 W6 g6 w6 tb6
      -- set_shy
      try dsimp only [st_law, List.set_cons_zero, List.set_cons_succ]
      have f2l : f2 l.toNat = !f l.toNat := by rw [hf2]; simp
      have ix2 : atI (rowV m f2) l = some (.bl (f2 l.toNat)) := atI_of l0 (rowV_at f2 (by omega))
      refine ⟨_, rfl, p, dx, _, rfl, Y6.ob, yf_no _ _ (by decide +kernel) (by decide +kernel), _, rfl, _, rfl, _, rfl, ls, _, _, _, rfl, rfl, SqL.of S6, ix2, p, dx, r, qs, m, _, _, _, rfl, Y6, fun _ Hz Yz frz => ?_, fun bad => absurd (show okL m l from ⟨l0, lm⟩) bad⟩
      rw [mat_putD] at Yz
      have Yz := Yz.congr (N := mat (zs.map (·.2)) f2) fun i j hi _ => mat_congr (n := m) (fun k _ => by
        rw [hf2]
        by_cases hk : k = l.toNat
        · simp [hk]
        · simp [hk]) i j hi
      have frz : Left qs H6' Hz := frz
      have rowq : ∀ c o, H6' c = some o → (∀ xs, o ≠ .lst xs) → c ∉ qs := fun c o e d z => by
        obtain ⟨i, hi⟩ := List.getElem?_of_mem z
        rw [Y6.at_ i c hi] at e
        exact d _ (Option.some.inj e).symm
      have tbz : TabF Hz Tb := by
        rcases tb6 with h | ⟨c', h1, h2⟩
        · exact .inl (frz _ _ h (rowq _ _ h fun _ z => nomatch z))
        · exact .inr ⟨c', frz _ _ h1 (rowq _ _ h1 fun _ z => nomatch z), frz _ _ h2 (rowq _ _ h2 fun _ z => nomatch z)⟩
      exact ⟨f2, _, _, _, rfl, ⟨Yz, ⟨frz _ _ T6.top q1, fun z h => frz _ _ (T6.at_ z h) (q7 z h), T6.nd, T6.ok⟩, frz _ _ S6 q2, frz _ _ L6 q3, frz _ _ W6 q4, frz _ _ g6 q5, frz _ _ w6 q6, tbz⟩⟩
    · rintro σ H9 ⟨f, v12, v13, v14, rfl, _⟩
      exact k _
end
end Lp

/-! ## the glue -/
namespace Lp
open PySem L2 Lamp
theorem len_1 {α : Type} {l : List α} (h : l.length = 1) : ∃ x0, l = [x0] := by
  match l, h with
  | [x0], _ => exact ⟨x0, rfl⟩
theorem len_2 {α : Type} {l : List α} (h : l.length = 2) : ∃ x0 x1, l = [x0, x1] := by
  match l, h with
  | [x0, x1], _ => exact ⟨x0, x1, rfl⟩
theorem len_3 {α : Type} {l : List α} (h : l.length = 3) : ∃ x0 x1 x2, l = [x0, x1, x2] := by
  match l, h with
  | [x0, x1, x2], _ => exact ⟨x0, x1, x2, rfl⟩
theorem len_4 {α : Type} {l : List α} (h : l.length = 4) : ∃ x0 x1 x2 x3, l = [x0, x1, x2, x3] := by
  match l, h with
  | [x0, x1, x2, x3], _ => exact ⟨x0, x1, x2, x3, rfl⟩
theorem all_mk {l : PySem.W.OpenLaw} {w : World} {K : PySem.W.Frag} {h : Heap} {mg : Str → Option Value} {fa : Addr}
    {Tb cF : Addr} {tS : Tok}
    {C : Addr}
    {NL : Addr}
    {AL : Addr}
    {NY : Addr}
    {TD : Addr}
    {UT : Addr}
    {LE : Addr}
    {TM : Addr}
    {tM : Tok}
    {f_check_lamp : Addr} {oc_check_lamp kV_check_lamp dc_check_lamp pm_check_lamp cd_check_lamp ct_check_lamp : Value} {od_check_lamp an_check_lamp : Option Addr} {sl_check_lamp : Array (Option Value)}
    {f_check_pair : Addr} {oc_check_pair kV_check_pair dc_check_pair pm_check_pair cd_check_pair ct_check_pair : Value} {od_check_pair an_check_pair : Option Addr} {sl_check_pair : Array (Option Value)}
    {f_untied_rows : Addr} {oc_untied_rows kV_untied_rows dc_untied_rows pm_untied_rows cd_untied_rows ct_untied_rows : Value} {od_untied_rows an_untied_rows : Option Addr} {sl_untied_rows : Array (Option Value)}
    {f_Y___init__ : Addr} {oc_Y___init__ kV_Y___init__ dc_Y___init__ pm_Y___init__ cd_Y___init__ ct_Y___init__ : Value} {od_Y___init__ an_Y___init__ : Option Addr} {sl_Y___init__ : Array (Option Value)}
    {f_Y_tie : Addr} {oc_Y_tie kV_Y_tie dc_Y_tie pm_Y_tie cd_Y_tie ct_Y_tie : Value} {od_Y_tie an_Y_tie : Option Addr} {sl_Y_tie : Array (Option Value)}
    {f_Y_untie : Addr} {oc_Y_untie kV_Y_untie dc_Y_untie pm_Y_untie cd_Y_untie ct_Y_untie : Value} {od_Y_untie an_Y_untie : Option Addr} {sl_Y_untie : Array (Option Value)}
    {f_Y_put_tie : Addr} {oc_Y_put_tie kV_Y_put_tie dc_Y_put_tie pm_Y_put_tie cd_Y_put_tie ct_Y_put_tie : Value} {od_Y_put_tie an_Y_put_tie : Option Addr} {sl_Y_put_tie : Array (Option Value)}
    {f_Y_is_tied : Addr} {oc_Y_is_tied kV_Y_is_tied dc_Y_is_tied pm_Y_is_tied cd_Y_is_tied ct_Y_is_tied : Value} {od_Y_is_tied an_Y_is_tied : Option Addr} {sl_Y_is_tied : Array (Option Value)}
    {f_Y_set_shy : Addr} {oc_Y_set_shy kV_Y_set_shy dc_Y_set_shy pm_Y_set_shy cd_Y_set_shy ct_Y_set_shy : Value} {od_Y_set_shy an_Y_set_shy : Option Addr} {sl_Y_set_shy : Array (Option Value)}
    {Td_Y_set_shy : Addr} {ocT_Y_set_shy : Value} {odT_Y_set_shy : Option Addr} {nt_Y_set_shy : Nat} {slT_Y_set_shy : Array (Option Value)}
    {f_Y_turns : Addr} {oc_Y_turns kV_Y_turns dc_Y_turns pm_Y_turns cd_Y_turns ct_Y_turns : Value} {od_Y_turns an_Y_turns : Option Addr} {sl_Y_turns : Array (Option Value)}
    {f_turned : Addr} {oc_turned kV_turned dc_turned pm_turned cd_turned ct_turned : Value} {od_turned an_turned : Option Addr} {sl_turned : Array (Option Value)}
    {f_lights_behind : Addr} {oc_lights_behind kV_lights_behind dc_lights_behind pm_lights_behind cd_lights_behind ct_lights_behind : Value} {od_lights_behind an_lights_behind : Option Addr} {sl_lights_behind : Array (Option Value)}
    {f_fewest : Addr} {oc_fewest kV_fewest dc_fewest pm_fewest cd_fewest ct_fewest : Value} {od_fewest an_fewest : Option Addr} {sl_fewest : Array (Option Value)}
    {f_cell_at : Addr} {oc_cell_at kV_cell_at dc_cell_at pm_cell_at cd_cell_at ct_cell_at : Value} {od_cell_at an_cell_at : Option Addr} {sl_cell_at : Array (Option Value)}
    {f_mix : Addr} {oc_mix kV_mix dc_mix pm_mix cd_mix ct_mix : Value} {od_mix an_mix : Option Addr} {sl_mix : Array (Option Value)}
    {f_many : Addr} {oc_many kV_many dc_many pm_many cd_many ct_many : Value} {od_many an_many : Option Addr} {sl_many : Array (Option Value)}
    {f_drawn : Addr} {oc_drawn kV_drawn dc_drawn pm_drawn cd_drawn ct_drawn : Value} {od_drawn an_drawn : Option Addr} {sl_drawn : Array (Option Value)}
    {f_built : Addr} {oc_built kV_built dc_built pm_built cd_built ct_built : Value} {od_built an_built : Option Addr} {sl_built : Array (Option Value)}
    {f_turns : Addr} {oc_turns kV_turns dc_turns pm_turns cd_turns ct_turns : Value} {od_turns an_turns : Option Addr} {sl_turns : Array (Option Value)}
    {f_light : Addr} {oc_light kV_light dc_light pm_light cd_light ct_light : Value} {od_light an_light : Option Addr} {sl_light : Array (Option Value)}
    {f_pressed : Addr} {oc_pressed kV_pressed dc_pressed pm_pressed cd_pressed ct_pressed : Value} {od_pressed an_pressed : Option Addr} {sl_pressed : Array (Option Value)}
    {f_wished : Addr} {oc_wished kV_wished dc_wished pm_wished cd_wished ct_wished : Value} {od_wished an_wished : Option Addr} {sl_wished : Array (Option Value)}
    {f_whole : Addr} {oc_whole kV_whole dc_whole pm_whole cd_whole ct_whole : Value} {od_whole an_whole : Option Addr} {sl_whole : Array (Option Value)}
    {f_alike : Addr} {oc_alike kV_alike dc_alike pm_alike cd_alike ct_alike : Value} {od_alike an_alike : Option Addr} {sl_alike : Array (Option Value)}
    {f_differ : Addr} {oc_differ kV_differ dc_differ pm_differ cd_differ ct_differ : Value} {od_differ an_differ : Option Addr} {sl_differ : Array (Option Value)}
    {f_worth : Addr} {oc_worth kV_worth dc_worth pm_worth cd_worth ct_worth : Value} {od_worth an_worth : Option Addr} {sl_worth : Array (Option Value)}
    {f_due : Addr} {oc_due kV_due dc_due pm_due cd_due ct_due : Value} {od_due an_due : Option Addr} {sl_due : Array (Option Value)}
    {f_law : Addr} {oc_law kV_law dc_law pm_law cd_law ct_law : Value} {od_law an_law : Option Addr} {sl_law : Array (Option Value)}
    (X : K.In h) (G : h.Ns mainGlobals mg) (hfa : mg "law" = some (.ref fa))
    (aC : PySem.W.nsIn K mainGlobals "Yard" = some (some (.ref C)))
    (g_NoLamp : PySem.W.nsIn K mainGlobals "NoLamp" = some (some (.ref NL)))
    (g_Alone : PySem.W.nsIn K mainGlobals "Alone" = some (some (.ref AL)))
    (g_NoYard : PySem.W.nsIn K mainGlobals "NoYard" = some (some (.ref NY)))
    (g_Tied : PySem.W.nsIn K mainGlobals "Tied" = some (some (.ref TD)))
    (g_Untied : PySem.W.nsIn K mainGlobals "Untied" = some (some (.ref UT)))
    (g_LampError : PySem.W.nsIn K mainGlobals "LampError" = some (some (.ref LE)))
    (g_TooMany : PySem.W.nsIn K mainGlobals "TooMany" = some (some (.ref TM)))
    (x_NoLamp : PySem.W.excIn K NL bmV "ValueError.__new__" = true)
    (x_Alone : PySem.W.excIn K AL bmV "ValueError.__new__" = true)
    (x_NoYard : PySem.W.excIn K NY bmV "ValueError.__new__" = true)
    (x_Tied : PySem.W.excIn K TD bmV "ValueError.__new__" = true)
    (x_Untied : PySem.W.excIn K UT bmV "ValueError.__new__" = true)
    (x_TooMany : PySem.W.excIn K TM bmV "ValueError.__new__" = true)
    (pg : PySem.W.plainGet K C Str.empty = true)
    (hd : PySem.W.hasDictIn K C = true)
    (po : PySem.W.plainOver K C = true)
    (sa : PySem.W.findIn K (.ref C) "__setattr__" = some (some (.builtin "object.__setattr__")))
    (mk : PySem.W.makesIn K C = true)
    (kc : PySem.W.keepIn K (.ref C) = true)
    (nM : PySem.W.findIn K (.ref C) "many" = some none)
    (nR : PySem.W.findIn K (.ref C) "rows" = some none)
    (aM : PySem.W.nsIn K mainGlobals "MOST_LAMPS" = some (some (.int 24 tM)))
    (z_len : PySem.W.nsIn K mainGlobals "len" = some none)
    (z_list : PySem.W.nsIn K mainGlobals "list" = some none)
    (z_bool : PySem.W.nsIn K mainGlobals "bool" = some none)
    (z_int : PySem.W.nsIn K mainGlobals "int" = some none)
    (z_isinstance : PySem.W.nsIn K mainGlobals "isinstance" = some none)
    (z_all : PySem.W.nsIn K mainGlobals "all" = some none)
    (z_any : PySem.W.nsIn K mainGlobals "any" = some none)
    (z_range : PySem.W.nsIn K mainGlobals "range" = some none)
    (z_enumerate : PySem.W.nsIn K mainGlobals "enumerate" = some none)
    (z_ValueError : PySem.W.nsIn K mainGlobals "ValueError" = some none)
    (z_reversed : PySem.W.nsIn K mainGlobals "reversed" = some none)
    (z_str : PySem.W.nsIn K mainGlobals "str" = some none)
    (z_tuple : PySem.W.nsIn K mainGlobals "tuple" = some none)
    (z_set : PySem.W.nsIn K mainGlobals "set" = some none)
    (z_sorted : PySem.W.nsIn K mainGlobals "sorted" = some none)
    (z_min : PySem.W.nsIn K mainGlobals "min" = some none)
    (a_check_lamp : PySem.W.nsIn K mainGlobals "check_lamp" = some (some (.ref f_check_lamp)))
    (l_check_lamp : K.lookup f_check_lamp = some ⟨oc_check_lamp, od_check_lamp, .func (PySem.W.fnOf "check_lamp" "check_lamp" (defArgs s_check_lamp) (defBody s_check_lamp) (defScope s_check_lamp) .none kV_check_lamp dc_check_lamp pm_check_lamp an_check_lamp cd_check_lamp ct_check_lamp), sl_check_lamp⟩)
    (c_check_lamp : PySem.W.codeIn K cd_check_lamp "check_lamp" = true)
    (k_check_lamp : PySem.W.keepIn K (.ref f_check_lamp) = true)
    (a_check_pair : PySem.W.nsIn K mainGlobals "check_pair" = some (some (.ref f_check_pair)))
    (l_check_pair : K.lookup f_check_pair = some ⟨oc_check_pair, od_check_pair, .func (PySem.W.fnOf "check_pair" "check_pair" (defArgs s_check_pair) (defBody s_check_pair) (defScope s_check_pair) .none kV_check_pair dc_check_pair pm_check_pair an_check_pair cd_check_pair ct_check_pair), sl_check_pair⟩)
    (c_check_pair : PySem.W.codeIn K cd_check_pair "check_pair" = true)
    (k_check_pair : PySem.W.keepIn K (.ref f_check_pair) = true)
    (a_untied_rows : PySem.W.nsIn K mainGlobals "untied_rows" = some (some (.ref f_untied_rows)))
    (l_untied_rows : K.lookup f_untied_rows = some ⟨oc_untied_rows, od_untied_rows, .func (PySem.W.fnOf "untied_rows" "untied_rows" (defArgs s_untied_rows) (defBody s_untied_rows) (defScope s_untied_rows) .none kV_untied_rows dc_untied_rows pm_untied_rows an_untied_rows cd_untied_rows ct_untied_rows), sl_untied_rows⟩)
    (c_untied_rows : PySem.W.codeIn K cd_untied_rows "untied_rows" = true)
    (k_untied_rows : PySem.W.keepIn K (.ref f_untied_rows) = true)
    (a_Y___init__ : PySem.W.findIn K (.ref C) "__init__" = some (some (.ref f_Y___init__)))
    (i_Y___init__ : PySem.W.isFn K (.ref f_Y___init__) = true)
    (l_Y___init__ : K.lookup f_Y___init__ = some ⟨oc_Y___init__, od_Y___init__, .func (PySem.W.fnOf "__init__" "Yard.__init__" (defArgs s_init) (defBody s_init) (defScope s_init) .none kV_Y___init__ dc_Y___init__ pm_Y___init__ an_Y___init__ cd_Y___init__ ct_Y___init__), sl_Y___init__⟩)
    (c_Y___init__ : PySem.W.codeIn K cd_Y___init__ "Yard.__init__" = true)
    (k_Y___init__ : PySem.W.keepIn K (.ref f_Y___init__) = true)
    (a_Y_tie : PySem.W.findIn K (.ref C) "tie" = some (some (.ref f_Y_tie)))
    (i_Y_tie : PySem.W.isFn K (.ref f_Y_tie) = true)
    (l_Y_tie : K.lookup f_Y_tie = some ⟨oc_Y_tie, od_Y_tie, .func (PySem.W.fnOf "tie" "Yard.tie" (defArgs s_tie) (defBody s_tie) (defScope s_tie) .none kV_Y_tie dc_Y_tie pm_Y_tie an_Y_tie cd_Y_tie ct_Y_tie), sl_Y_tie⟩)
    (c_Y_tie : PySem.W.codeIn K cd_Y_tie "Yard.tie" = true)
    (k_Y_tie : PySem.W.keepIn K (.ref f_Y_tie) = true)
    (a_Y_untie : PySem.W.findIn K (.ref C) "untie" = some (some (.ref f_Y_untie)))
    (i_Y_untie : PySem.W.isFn K (.ref f_Y_untie) = true)
    (l_Y_untie : K.lookup f_Y_untie = some ⟨oc_Y_untie, od_Y_untie, .func (PySem.W.fnOf "untie" "Yard.untie" (defArgs s_untie) (defBody s_untie) (defScope s_untie) .none kV_Y_untie dc_Y_untie pm_Y_untie an_Y_untie cd_Y_untie ct_Y_untie), sl_Y_untie⟩)
    (c_Y_untie : PySem.W.codeIn K cd_Y_untie "Yard.untie" = true)
    (k_Y_untie : PySem.W.keepIn K (.ref f_Y_untie) = true)
    (a_Y_put_tie : PySem.W.findIn K (.ref C) "put_tie" = some (some (.ref f_Y_put_tie)))
    (i_Y_put_tie : PySem.W.isFn K (.ref f_Y_put_tie) = true)
    (l_Y_put_tie : K.lookup f_Y_put_tie = some ⟨oc_Y_put_tie, od_Y_put_tie, .func (PySem.W.fnOf "put_tie" "Yard.put_tie" (defArgs s_put_tie) (defBody s_put_tie) (defScope s_put_tie) .none kV_Y_put_tie dc_Y_put_tie pm_Y_put_tie an_Y_put_tie cd_Y_put_tie ct_Y_put_tie), sl_Y_put_tie⟩)
    (c_Y_put_tie : PySem.W.codeIn K cd_Y_put_tie "Yard.put_tie" = true)
    (k_Y_put_tie : PySem.W.keepIn K (.ref f_Y_put_tie) = true)
    (a_Y_is_tied : PySem.W.findIn K (.ref C) "is_tied" = some (some (.ref f_Y_is_tied)))
    (i_Y_is_tied : PySem.W.isFn K (.ref f_Y_is_tied) = true)
    (l_Y_is_tied : K.lookup f_Y_is_tied = some ⟨oc_Y_is_tied, od_Y_is_tied, .func (PySem.W.fnOf "is_tied" "Yard.is_tied" (defArgs s_is_tied) (defBody s_is_tied) (defScope s_is_tied) .none kV_Y_is_tied dc_Y_is_tied pm_Y_is_tied an_Y_is_tied cd_Y_is_tied ct_Y_is_tied), sl_Y_is_tied⟩)
    (c_Y_is_tied : PySem.W.codeIn K cd_Y_is_tied "Yard.is_tied" = true)
    (k_Y_is_tied : PySem.W.keepIn K (.ref f_Y_is_tied) = true)
    (a_Y_set_shy : PySem.W.findIn K (.ref C) "set_shy" = some (some (.ref f_Y_set_shy)))
    (i_Y_set_shy : PySem.W.isFn K (.ref f_Y_set_shy) = true)
    (l_Y_set_shy : K.lookup f_Y_set_shy = some ⟨oc_Y_set_shy, od_Y_set_shy, .func (PySem.W.fnOf "set_shy" "Yard.set_shy" (defArgs s_set_shy) (defBody s_set_shy) (defScope s_set_shy) (.ref Td_Y_set_shy) kV_Y_set_shy dc_Y_set_shy pm_Y_set_shy an_Y_set_shy cd_Y_set_shy ct_Y_set_shy), sl_Y_set_shy⟩)
    (c_Y_set_shy : PySem.W.codeIn K cd_Y_set_shy "Yard.set_shy" = true)
    (k_Y_set_shy : PySem.W.keepIn K (.ref f_Y_set_shy) = true)
    (lT_Y_set_shy : K.lookup Td_Y_set_shy = some ⟨ocT_Y_set_shy, odT_Y_set_shy, .seq [Value.bool true].toArray nt_Y_set_shy, slT_Y_set_shy⟩)
    (a_Y_turns : PySem.W.findIn K (.ref C) "turns" = some (some (.ref f_Y_turns)))
    (i_Y_turns : PySem.W.isFn K (.ref f_Y_turns) = true)
    (l_Y_turns : K.lookup f_Y_turns = some ⟨oc_Y_turns, od_Y_turns, .func (PySem.W.fnOf "turns" "Yard.turns" (defArgs s_turns) (defBody s_turns) (defScope s_turns) .none kV_Y_turns dc_Y_turns pm_Y_turns an_Y_turns cd_Y_turns ct_Y_turns), sl_Y_turns⟩)
    (c_Y_turns : PySem.W.codeIn K cd_Y_turns "Yard.turns" = true)
    (k_Y_turns : PySem.W.keepIn K (.ref f_Y_turns) = true)
    (a_turned : PySem.W.nsIn K mainGlobals "turned" = some (some (.ref f_turned)))
    (l_turned : K.lookup f_turned = some ⟨oc_turned, od_turned, .func (PySem.W.fnOf "turned" "turned" (defArgs s_turned) (defBody s_turned) (defScope s_turned) .none kV_turned dc_turned pm_turned an_turned cd_turned ct_turned), sl_turned⟩)
    (c_turned : PySem.W.codeIn K cd_turned "turned" = true)
    (k_turned : PySem.W.keepIn K (.ref f_turned) = true)
    (a_lights_behind : PySem.W.nsIn K mainGlobals "lights_behind" = some (some (.ref f_lights_behind)))
    (l_lights_behind : K.lookup f_lights_behind = some ⟨oc_lights_behind, od_lights_behind, .func (PySem.W.fnOf "lights_behind" "lights_behind" (defArgs s_lights_behind) (defBody s_lights_behind) (defScope s_lights_behind) .none kV_lights_behind dc_lights_behind pm_lights_behind an_lights_behind cd_lights_behind ct_lights_behind), sl_lights_behind⟩)
    (c_lights_behind : PySem.W.codeIn K cd_lights_behind "lights_behind" = true)
    (k_lights_behind : PySem.W.keepIn K (.ref f_lights_behind) = true)
    (a_fewest : PySem.W.nsIn K mainGlobals "fewest" = some (some (.ref f_fewest)))
    (l_fewest : K.lookup f_fewest = some ⟨oc_fewest, od_fewest, .func (PySem.W.fnOf "fewest" "fewest" (defArgs s_fewest) (defBody s_fewest) (defScope s_fewest) .none kV_fewest dc_fewest pm_fewest an_fewest cd_fewest ct_fewest), sl_fewest⟩)
    (c_fewest : PySem.W.codeIn K cd_fewest "fewest" = true)
    (k_fewest : PySem.W.keepIn K (.ref f_fewest) = true)
    (a_cell_at : PySem.W.nsIn K mainGlobals "_law_cell_at" = some (some (.ref f_cell_at)))
    (l_cell_at : K.lookup f_cell_at = some ⟨oc_cell_at, od_cell_at, .func (PySem.W.fnOf "_law_cell_at" "_law_cell_at" (defArgs s_cell) (defBody s_cell) (defScope s_cell) .none kV_cell_at dc_cell_at pm_cell_at an_cell_at cd_cell_at ct_cell_at), sl_cell_at⟩)
    (c_cell_at : PySem.W.codeIn K cd_cell_at "_law_cell_at" = true)
    (k_cell_at : PySem.W.keepIn K (.ref f_cell_at) = true)
    (a_mix : PySem.W.nsIn K mainGlobals "_law_mix" = some (some (.ref f_mix)))
    (l_mix : K.lookup f_mix = some ⟨oc_mix, od_mix, .func (PySem.W.fnOf "_law_mix" "_law_mix" (defArgs s_mix) (defBody s_mix) (defScope s_mix) .none kV_mix dc_mix pm_mix an_mix cd_mix ct_mix), sl_mix⟩)
    (c_mix : PySem.W.codeIn K cd_mix "_law_mix" = true)
    (k_mix : PySem.W.keepIn K (.ref f_mix) = true)
    (a_many : PySem.W.nsIn K mainGlobals "_law_many" = some (some (.ref f_many)))
    (l_many : K.lookup f_many = some ⟨oc_many, od_many, .func (PySem.W.fnOf "_law_many" "_law_many" (defArgs s_many) (defBody s_many) (defScope s_many) .none kV_many dc_many pm_many an_many cd_many ct_many), sl_many⟩)
    (c_many : PySem.W.codeIn K cd_many "_law_many" = true)
    (k_many : PySem.W.keepIn K (.ref f_many) = true)
    (a_drawn : PySem.W.nsIn K mainGlobals "_law_drawn" = some (some (.ref f_drawn)))
    (l_drawn : K.lookup f_drawn = some ⟨oc_drawn, od_drawn, .func (PySem.W.fnOf "_law_drawn" "_law_drawn" (defArgs s_drawn) (defBody s_drawn) (defScope s_drawn) .none kV_drawn dc_drawn pm_drawn an_drawn cd_drawn ct_drawn), sl_drawn⟩)
    (c_drawn : PySem.W.codeIn K cd_drawn "_law_drawn" = true)
    (k_drawn : PySem.W.keepIn K (.ref f_drawn) = true)
    (a_built : PySem.W.nsIn K mainGlobals "_law_built" = some (some (.ref f_built)))
    (l_built : K.lookup f_built = some ⟨oc_built, od_built, .func (PySem.W.fnOf "_law_built" "_law_built" (defArgs s_built) (defBody s_built) (defScope s_built) .none kV_built dc_built pm_built an_built cd_built ct_built), sl_built⟩)
    (c_built : PySem.W.codeIn K cd_built "_law_built" = true)
    (k_built : PySem.W.keepIn K (.ref f_built) = true)
    (a_turns : PySem.W.nsIn K mainGlobals "_law_turns" = some (some (.ref f_turns)))
    (l_turns : K.lookup f_turns = some ⟨oc_turns, od_turns, .func (PySem.W.fnOf "_law_turns" "_law_turns" (defArgs s_turnsL) (defBody s_turnsL) (defScope s_turnsL) .none kV_turns dc_turns pm_turns an_turns cd_turns ct_turns), sl_turns⟩)
    (c_turns : PySem.W.codeIn K cd_turns "_law_turns" = true)
    (k_turns : PySem.W.keepIn K (.ref f_turns) = true)
    (a_light : PySem.W.nsIn K mainGlobals "_law_light" = some (some (.ref f_light)))
    (l_light : K.lookup f_light = some ⟨oc_light, od_light, .func (PySem.W.fnOf "_law_light" "_law_light" (defArgs s_light) (defBody s_light) (defScope s_light) .none kV_light dc_light pm_light an_light cd_light ct_light), sl_light⟩)
    (c_light : PySem.W.codeIn K cd_light "_law_light" = true)
    (k_light : PySem.W.keepIn K (.ref f_light) = true)
    (a_pressed : PySem.W.nsIn K mainGlobals "_law_pressed" = some (some (.ref f_pressed)))
    (l_pressed : K.lookup f_pressed = some ⟨oc_pressed, od_pressed, .func (PySem.W.fnOf "_law_pressed" "_law_pressed" (defArgs s_pressedL) (defBody s_pressedL) (defScope s_pressedL) .none kV_pressed dc_pressed pm_pressed an_pressed cd_pressed ct_pressed), sl_pressed⟩)
    (c_pressed : PySem.W.codeIn K cd_pressed "_law_pressed" = true)
    (k_pressed : PySem.W.keepIn K (.ref f_pressed) = true)
    (a_wished : PySem.W.nsIn K mainGlobals "_law_wished" = some (some (.ref f_wished)))
    (l_wished : K.lookup f_wished = some ⟨oc_wished, od_wished, .func (PySem.W.fnOf "_law_wished" "_law_wished" (defArgs s_wished) (defBody s_wished) (defScope s_wished) .none kV_wished dc_wished pm_wished an_wished cd_wished ct_wished), sl_wished⟩)
    (c_wished : PySem.W.codeIn K cd_wished "_law_wished" = true)
    (k_wished : PySem.W.keepIn K (.ref f_wished) = true)
    (a_whole : PySem.W.nsIn K mainGlobals "_law_whole" = some (some (.ref f_whole)))
    (l_whole : K.lookup f_whole = some ⟨oc_whole, od_whole, .func (PySem.W.fnOf "_law_whole" "_law_whole" (defArgs s_whole) (defBody s_whole) (defScope s_whole) .none kV_whole dc_whole pm_whole an_whole cd_whole ct_whole), sl_whole⟩)
    (c_whole : PySem.W.codeIn K cd_whole "_law_whole" = true)
    (k_whole : PySem.W.keepIn K (.ref f_whole) = true)
    (a_alike : PySem.W.nsIn K mainGlobals "_law_alike" = some (some (.ref f_alike)))
    (l_alike : K.lookup f_alike = some ⟨oc_alike, od_alike, .func (PySem.W.fnOf "_law_alike" "_law_alike" (defArgs s_alike) (defBody s_alike) (defScope s_alike) .none kV_alike dc_alike pm_alike an_alike cd_alike ct_alike), sl_alike⟩)
    (c_alike : PySem.W.codeIn K cd_alike "_law_alike" = true)
    (k_alike : PySem.W.keepIn K (.ref f_alike) = true)
    (a_differ : PySem.W.nsIn K mainGlobals "_law_differ" = some (some (.ref f_differ)))
    (l_differ : K.lookup f_differ = some ⟨oc_differ, od_differ, .func (PySem.W.fnOf "_law_differ" "_law_differ" (defArgs s_differ) (defBody s_differ) (defScope s_differ) .none kV_differ dc_differ pm_differ an_differ cd_differ ct_differ), sl_differ⟩)
    (c_differ : PySem.W.codeIn K cd_differ "_law_differ" = true)
    (k_differ : PySem.W.keepIn K (.ref f_differ) = true)
    (a_worth : PySem.W.nsIn K mainGlobals "_law_worth" = some (some (.ref f_worth)))
    (l_worth : K.lookup f_worth = some ⟨oc_worth, od_worth, .func (PySem.W.fnOf "_law_worth" "_law_worth" (defArgs s_worth) (defBody s_worth) (defScope s_worth) .none kV_worth dc_worth pm_worth an_worth cd_worth ct_worth), sl_worth⟩)
    (c_worth : PySem.W.codeIn K cd_worth "_law_worth" = true)
    (k_worth : PySem.W.keepIn K (.ref f_worth) = true)
    (a_due : PySem.W.nsIn K mainGlobals "_law_due" = some (some (.ref f_due)))
    (l_due : K.lookup f_due = some ⟨oc_due, od_due, .func (PySem.W.fnOf "_law_due" "_law_due" (defArgs s_due) (defBody s_due) (defScope s_due) .none kV_due dc_due pm_due an_due cd_due ct_due), sl_due⟩)
    (c_due : PySem.W.codeIn K cd_due "_law_due" = true)
    (k_due : PySem.W.keepIn K (.ref f_due) = true)
    (a_law : PySem.W.nsIn K mainGlobals "law" = some (some (.ref f_law)))
    (l_law : K.lookup f_law = some ⟨oc_law, od_law, .func (PySem.W.fnOf "law" "law" (defArgs s_law) (defBody s_law) (defScope s_law) .none kV_law dc_law pm_law an_law cd_law ct_law), sl_law⟩)
    (c_law : PySem.W.codeIn K cd_law "law" = true)
    (k_law : PySem.W.keepIn K (.ref f_law) = true)
    (cdF : cd_fewest = .ref cF)
    (chd : PySem.W.codeHdIn K cF Tb = true)
    (aS : PySem.W.nsIn K mainGlobals "MOST_SEARCHED" = some (some (.int 9 tS)))
    : ∃ fd : FuncData, (∀ (s : Shared) (v : Value), BindsTo s fd ⟨[v], []⟩ [("script", v)]) ∧ (∀ h : Heap, K.In h → isCodeTable h Tb) ∧ ∀ base : Heap, K.In base → base.Ns mainGlobals mg → BltMod mg base → FnOk l.prog w K mg base CX0 6 fa fd ["script"] (spLawT K Tb) := by
  have e := hfa.symm.trans (PySem.W.mg_of X G a_law)
  cases e
  have T : LB mg := ⟨PySem.W.mg_none_of X G z_len, PySem.W.mg_none_of X G z_list, PySem.W.mg_none_of X G z_bool, PySem.W.mg_none_of X G z_int, PySem.W.mg_none_of X G z_isinstance, PySem.W.mg_none_of X G z_all, PySem.W.mg_none_of X G z_any, PySem.W.mg_none_of X G z_range, PySem.W.mg_none_of X G z_enumerate, PySem.W.mg_none_of X G z_ValueError, PySem.W.mg_none_of X G z_reversed, PySem.W.mg_none_of X G z_str, PySem.W.mg_none_of X G z_tuple, PySem.W.mg_none_of X G z_set, PySem.W.mg_none_of X G z_sorted, PySem.W.mg_none_of X G z_min⟩
  have Y0 : YT K mg C NL AL NY TD UT := ⟨⟨pg, hd, po, sa⟩, nM, nR, PySem.W.mg_of X G aC, PySem.W.mg_of X G g_NoLamp, x_NoLamp, PySem.W.mg_of X G g_Alone, x_Alone, PySem.W.mg_of X G g_NoYard, x_NoYard, PySem.W.mg_of X G g_Tied, x_Tied, PySem.W.mg_of X G g_Untied, x_Untied, PySem.W.mg_none_of X G z_range, ⟨tM, PySem.W.mg_of X G aM⟩⟩
  have F_check_lamp := fun_mk (st := s_check_lamp) l_check_lamp c_check_lamp k_check_lamp
  have b_check_lamp := F_check_lamp.binds (ps := ["lamp", "many"]) fun _ _ _ _ _ _ us hl => by obtain ⟨x0, x1, rfl⟩ := len_2 hl; rfl
  have m_check_lamp := PySem.W.mg_of X G a_check_lamp
  have F_check_pair := fun_mk (st := s_check_pair) l_check_pair c_check_pair k_check_pair
  have b_check_pair := F_check_pair.binds (ps := ["one", "other", "many"]) fun _ _ _ _ _ _ us hl => by obtain ⟨x0, x1, x2, rfl⟩ := len_3 hl; rfl
  have m_check_pair := PySem.W.mg_of X G a_check_pair
  have F_untied_rows := fun_mk (st := s_untied_rows) l_untied_rows c_untied_rows k_untied_rows
  have b_untied_rows := F_untied_rows.binds (ps := ["many"]) fun _ _ _ _ _ _ us hl => by obtain ⟨x0, rfl⟩ := len_1 hl; rfl
  have m_untied_rows := PySem.W.mg_of X G a_untied_rows
  have F_Y___init__ := fun_mk (st := s_init) l_Y___init__ c_Y___init__ k_Y___init__
  have b_Y___init__ := F_Y___init__.binds (ps := ["self", "many"]) fun _ _ _ _ _ _ us hl => by obtain ⟨x0, x1, rfl⟩ := len_2 hl; rfl
  have M_Y___init__ : Meth K C "__init__" f_Y___init__ := ⟨a_Y___init__, i_Y___init__, k_Y___init__⟩
  have F_Y_tie := fun_mk (st := s_tie) l_Y_tie c_Y_tie k_Y_tie
  have b_Y_tie := F_Y_tie.binds (ps := ["self", "one", "other"]) fun _ _ _ _ _ _ us hl => by obtain ⟨x0, x1, x2, rfl⟩ := len_3 hl; rfl
  have M_Y_tie : Meth K C "tie" f_Y_tie := ⟨a_Y_tie, i_Y_tie, k_Y_tie⟩
  have F_Y_untie := fun_mk (st := s_untie) l_Y_untie c_Y_untie k_Y_untie
  have b_Y_untie := F_Y_untie.binds (ps := ["self", "one", "other"]) fun _ _ _ _ _ _ us hl => by obtain ⟨x0, x1, x2, rfl⟩ := len_3 hl; rfl
  have M_Y_untie : Meth K C "untie" f_Y_untie := ⟨a_Y_untie, i_Y_untie, k_Y_untie⟩
  have F_Y_put_tie := fun_mk (st := s_put_tie) l_Y_put_tie c_Y_put_tie k_Y_put_tie
  have b_Y_put_tie := F_Y_put_tie.binds (ps := ["self", "one", "other", "answer"]) fun _ _ _ _ _ _ us hl => by obtain ⟨x0, x1, x2, x3, rfl⟩ := len_4 hl; rfl
  have M_Y_put_tie : Meth K C "put_tie" f_Y_put_tie := ⟨a_Y_put_tie, i_Y_put_tie, k_Y_put_tie⟩
  have F_Y_is_tied := fun_mk (st := s_is_tied) l_Y_is_tied c_Y_is_tied k_Y_is_tied
  have b_Y_is_tied := F_Y_is_tied.binds (ps := ["self", "one", "other"]) fun _ _ _ _ _ _ us hl => by obtain ⟨x0, x1, x2, rfl⟩ := len_3 hl; rfl
  have M_Y_is_tied : Meth K C "is_tied" f_Y_is_tied := ⟨a_Y_is_tied, i_Y_is_tied, k_Y_is_tied⟩
  have F_Y_set_shy := funD_mk (st := s_set_shy) (ds := [.bool true]) l_Y_set_shy c_Y_set_shy k_Y_set_shy lT_Y_set_shy
  have M_Y_set_shy : Meth K C "set_shy" f_Y_set_shy := ⟨a_Y_set_shy, i_Y_set_shy, k_Y_set_shy⟩
  have F_Y_turns := fun_mk (st := s_turns) l_Y_turns c_Y_turns k_Y_turns
  have b_Y_turns := F_Y_turns.binds (ps := ["self", "lamp"]) fun _ _ _ _ _ _ us hl => by obtain ⟨x0, x1, rfl⟩ := len_2 hl; rfl
  have M_Y_turns : Meth K C "turns" f_Y_turns := ⟨a_Y_turns, i_Y_turns, k_Y_turns⟩
  have F_turned := fun_mk (st := s_turned) l_turned c_turned k_turned
  have b_turned := F_turned.binds (ps := ["light", "lamps"]) fun _ _ _ _ _ _ us hl => by obtain ⟨x0, x1, rfl⟩ := len_2 hl; rfl
  have m_turned := PySem.W.mg_of X G a_turned
  have F_lights_behind := fun_mk (st := s_lights_behind) l_lights_behind c_lights_behind k_lights_behind
  have b_lights_behind := F_lights_behind.binds (ps := ["yard", "light"]) fun _ _ _ _ _ _ us hl => by obtain ⟨x0, x1, rfl⟩ := len_2 hl; rfl
  have m_lights_behind := PySem.W.mg_of X G a_lights_behind
  have F_fewest := fun_mk (st := s_fewest) l_fewest c_fewest k_fewest
  have b_fewest := F_fewest.binds (ps := ["yard", "light", "wished"]) fun _ _ _ _ _ _ us hl => by obtain ⟨x0, x1, x2, rfl⟩ := len_3 hl; rfl
  have m_fewest := PySem.W.mg_of X G a_fewest
  have F_cell_at := fun_mk (st := s_cell) l_cell_at c_cell_at k_cell_at
  have b_cell_at := F_cell_at.binds (ps := ["script", "k"]) fun _ _ _ _ _ _ us hl => by obtain ⟨x0, x1, rfl⟩ := len_2 hl; rfl
  have m_cell_at := PySem.W.mg_of X G a_cell_at
  have F_mix := fun_mk (st := s_mix) l_mix c_mix k_mix
  have b_mix := F_mix.binds (ps := ["cell", "k"]) fun _ _ _ _ _ _ us hl => by obtain ⟨x0, x1, rfl⟩ := len_2 hl; rfl
  have m_mix := PySem.W.mg_of X G a_mix
  have F_many := fun_mk (st := s_many) l_many c_many k_many
  have b_many := F_many.binds (ps := ["cell"]) fun _ _ _ _ _ _ us hl => by obtain ⟨x0, rfl⟩ := len_1 hl; rfl
  have m_many := PySem.W.mg_of X G a_many
  have F_drawn := fun_mk (st := s_drawn) l_drawn c_drawn k_drawn
  have b_drawn := F_drawn.binds (ps := ["script"]) fun _ _ _ _ _ _ us hl => by obtain ⟨x0, rfl⟩ := len_1 hl; rfl
  have m_drawn := PySem.W.mg_of X G a_drawn
  have F_built := fun_mk (st := s_built) l_built c_built k_built
  have b_built := F_built.binds (ps := ["many", "ties", "shy"]) fun _ _ _ _ _ _ us hl => by obtain ⟨x0, x1, x2, rfl⟩ := len_3 hl; rfl
  have m_built := PySem.W.mg_of X G a_built
  have F_turns := fun_mk (st := s_turnsL) l_turns c_turns k_turns
  have b_turns := F_turns.binds (ps := ["many", "ties", "shy"]) fun _ _ _ _ _ _ us hl => by obtain ⟨x0, x1, x2, rfl⟩ := len_3 hl; rfl
  have m_turns := PySem.W.mg_of X G a_turns
  have F_light := fun_mk (st := s_light) l_light c_light k_light
  have b_light := F_light.binds (ps := ["cell", "many"]) fun _ _ _ _ _ _ us hl => by obtain ⟨x0, x1, rfl⟩ := len_2 hl; rfl
  have m_light := PySem.W.mg_of X G a_light
  have F_pressed := fun_mk (st := s_pressedL) l_pressed c_pressed k_pressed
  have b_pressed := F_pressed.binds (ps := ["light", "turns", "presses"]) fun _ _ _ _ _ _ us hl => by obtain ⟨x0, x1, x2, rfl⟩ := len_3 hl; rfl
  have m_pressed := PySem.W.mg_of X G a_pressed
  have F_wished := fun_mk (st := s_wished) l_wished c_wished k_wished
  have b_wished := F_wished.binds (ps := ["script", "light", "turns"]) fun _ _ _ _ _ _ us hl => by obtain ⟨x0, x1, x2, rfl⟩ := len_3 hl; rfl
  have m_wished := PySem.W.mg_of X G a_wished
  have F_whole := fun_mk (st := s_whole) l_whole c_whole k_whole
  have b_whole := F_whole.binds (ps := ["found"]) fun _ _ _ _ _ _ us hl => by obtain ⟨x0, rfl⟩ := len_1 hl; rfl
  have m_whole := PySem.W.mg_of X G a_whole
  have F_alike := fun_mk (st := s_alike) l_alike c_alike k_alike
  have b_alike := F_alike.binds (ps := ["found", "due"]) fun _ _ _ _ _ _ us hl => by obtain ⟨x0, x1, rfl⟩ := len_2 hl; rfl
  have m_alike := PySem.W.mg_of X G a_alike
  have F_differ := fun_mk (st := s_differ) l_differ c_differ k_differ
  have b_differ := F_differ.binds (ps := ["one", "other"]) fun _ _ _ _ _ _ us hl => by obtain ⟨x0, x1, rfl⟩ := len_2 hl; rfl
  have m_differ := PySem.W.mg_of X G a_differ
  have F_worth := fun_mk (st := s_worth) l_worth c_worth k_worth
  have b_worth := F_worth.binds (ps := ["lamps"]) fun _ _ _ _ _ _ us hl => by obtain ⟨x0, rfl⟩ := len_1 hl; rfl
  have m_worth := PySem.W.mg_of X G a_worth
  have F_due := fun_mk (st := s_due) l_due c_due k_due
  have b_due := F_due.binds (ps := ["turns", "differ"]) fun _ _ _ _ _ _ us hl => by obtain ⟨x0, x1, rfl⟩ := len_2 hl; rfl
  have m_due := PySem.W.mg_of X G a_due
  have F_law := fun_mk (st := s_law) l_law c_law k_law
  refine ⟨PySem.W.fnOf "law" "law" (defArgs s_law) (defBody s_law) (defScope s_law) .none kV_law dc_law pm_law an_law cd_law ct_law, fun s v => .of_eq rfl, fun h kh => ?_, fun base kb _ hB_ => ?_⟩
  · obtain ⟨o, vs, _, _, _, _, _, _, _, e1, e2, e3, e4, _⟩ := PySem.W.codeHd_of_K kh chd
    exact ⟨cF, o, vs, e1, e2, e3, e4⟩
  have CH_ := PySem.W.codeHd_of_K kb chd
  have G_check_lamp : FnOk l.prog w K mg base (CXE l.prog w) 1 f_check_lamp _ ["lamp", "many"] (spCheck NL) := ok_check_lamp F_check_lamp Y0
  have hF_check_lamp : Has l.prog w K mg base (CXE l.prog w) 1 "check_lamp" ["lamp", "many"] (spCheck NL) := Has.mk' (G_check_lamp) b_check_lamp m_check_lamp k_check_lamp
  have G_check_pair : FnOk l.prog w K mg base (CXE l.prog w) 2 f_check_pair _ ["one", "other", "many"] (spPair NL AL) := ok_check_pair F_check_pair Y0 G_check_lamp b_check_lamp m_check_lamp k_check_lamp
  have hF_check_pair : Has l.prog w K mg base (CXE l.prog w) 2 "check_pair" ["one", "other", "many"] (spPair NL AL) := Has.mk' (G_check_pair) b_check_pair m_check_pair k_check_pair
  have G_untied_rows : FnOk l.prog w K mg base CX0 1 f_untied_rows _ ["many"] (spRows) := ok_untied_rows F_untied_rows Y0
  have hF_untied_rows : Has l.prog w K mg base (CXE l.prog w) 1 "untied_rows" ["many"] (spRows) := Has.mk' (G_untied_rows.lift) b_untied_rows m_untied_rows k_untied_rows
  have h0F_untied_rows : Has l.prog w K mg base CX0 1 "untied_rows" ["many"] (spRows) := Has.mk' G_untied_rows b_untied_rows m_untied_rows k_untied_rows
  have G_Y___init__ : FnOk l.prog w K mg base (CXE l.prog w) 2 f_Y___init__ _ ["self", "many"] (spInit C NY) := ok_init F_Y___init__ Y0 G_untied_rows b_untied_rows m_untied_rows k_untied_rows
  have hC_Yard : HasC l.prog w K mg base (CXE l.prog w) 2 C "Yard" ["self", "many"] (spInit C NY) := ⟨⟨_, _, G_Y___init__, b_Y___init__, ⟨mk, a_Y___init__, i_Y___init__, kc⟩⟩, PySem.W.mg_of X G aC⟩
  have G_Y_is_tied : FnOk l.prog w K mg base (CXE l.prog w) 3 f_Y_is_tied _ ["self", "one", "other"] (spIsTied C NL AL) := ok_is_tied F_Y_is_tied Y0 G_check_pair b_check_pair m_check_pair k_check_pair
  have hM_is_tied : HasM l.prog w K mg base (CXE l.prog w) 3 C "is_tied" ["self", "one", "other"] [] (spIsTied C NL AL) := ⟨⟨_, _, _, G_Y_is_tied, b_Y_is_tied, .nil, M_Y_is_tied⟩, Y0.cl⟩
  have G_Y_turns : FnOk l.prog w K mg base (CXE l.prog w) 2 f_Y_turns _ ["self", "lamp"] (spTurns C NL) := ok_turns F_Y_turns Y0 G_check_lamp b_check_lamp m_check_lamp k_check_lamp
  have hM_turns : HasM l.prog w K mg base (CXE l.prog w) 2 C "turns" ["self", "lamp"] [] (spTurns C NL) := ⟨⟨_, _, _, G_Y_turns, b_Y_turns, .nil, M_Y_turns⟩, Y0.cl⟩
  have G_Y_put_tie : FnOk l.prog w K mg base CX0 1 f_Y_put_tie _ ["self", "one", "other", "answer"] (spPut C) := ok_put_tie F_Y_put_tie Y0
  have hM_put_tie : HasM l.prog w K mg base (CXE l.prog w) 1 C "put_tie" ["self", "one", "other", "answer"] [] (spPut C) := ⟨⟨_, _, _, G_Y_put_tie.lift, b_Y_put_tie, .nil, M_Y_put_tie⟩, Y0.cl⟩
  have G_Y_tie : FnOk l.prog w K mg base (CXE l.prog w) 4 f_Y_tie _ ["self", "one", "other"] (spTie C NL AL TD true) := ok_tie F_Y_tie Y0 G_Y_is_tied b_Y_is_tied M_Y_is_tied G_Y_put_tie b_Y_put_tie M_Y_put_tie
  have hM_tie : HasM l.prog w K mg base (CXE l.prog w) 4 C "tie" ["self", "one", "other"] [] (spTie C NL AL TD true) := ⟨⟨_, _, _, G_Y_tie, b_Y_tie, .nil, M_Y_tie⟩, Y0.cl⟩
  have G_Y_untie : FnOk l.prog w K mg base (CXE l.prog w) 4 f_Y_untie _ ["self", "one", "other"] (spTie C NL AL UT false) := ok_untie F_Y_untie Y0 G_Y_is_tied b_Y_is_tied M_Y_is_tied G_Y_put_tie b_Y_put_tie M_Y_put_tie
  have hM_untie : HasM l.prog w K mg base (CXE l.prog w) 4 C "untie" ["self", "one", "other"] [] (spTie C NL AL UT false) := ⟨⟨_, _, _, G_Y_untie, b_Y_untie, .nil, M_Y_untie⟩, Y0.cl⟩
  have G_Y_set_shy : FnOk l.prog w K mg base (CXE l.prog w) 2 f_Y_set_shy _ ["self", "lamp", "answer"] (spShy C NL) := ok_set_shy F_Y_set_shy Y0 G_check_lamp b_check_lamp m_check_lamp k_check_lamp
  have hM_set_shy2 : HasM l.prog w K mg base (CXE l.prog w) 2 C "set_shy" ["self", "lamp", "answer"] [.bl true] (spShy C NL) := ⟨⟨_, _, _, G_Y_set_shy, binds_shy2 F_Y_set_shy, .cons rfl .nil, M_Y_set_shy⟩, Y0.cl⟩
  have hM_set_shy3 : HasM l.prog w K mg base (CXE l.prog w) 2 C "set_shy" ["self", "lamp", "answer"] [] (spShy C NL) := ⟨⟨_, _, _, G_Y_set_shy, binds_shy3 F_Y_set_shy, .nil, M_Y_set_shy⟩, Y0.cl⟩
  have G_turned : FnOk l.prog w K mg base CX0 1 f_turned _ ["light", "lamps"] (spTurned K) := ok_turned F_turned T.b_enumerate
  have hF_turned : Has l.prog w K mg base (CXE l.prog w) 1 "turned" ["light", "lamps"] (spTurned K) := Has.mk' (G_turned.lift) b_turned m_turned k_turned
  have h0F_turned : Has l.prog w K mg base CX0 1 "turned" ["light", "lamps"] (spTurned K) := Has.mk' G_turned b_turned m_turned k_turned
  have G_lights_behind : FnOk l.prog w K mg base CX0 3 f_lights_behind _ ["yard", "light"] (spBehind K C) := ok_lights (NL := NL) F_lights_behind T Y0.cl Y0.nM hM_turns hF_turned
  have hF_lights_behind : Has l.prog w K mg base (CXE l.prog w) 3 "lights_behind" ["yard", "light"] (spBehind K C) := Has.mk' (G_lights_behind.lift) b_lights_behind m_lights_behind k_lights_behind
  have h0F_lights_behind : Has l.prog w K mg base CX0 3 "lights_behind" ["yard", "light"] (spBehind K C) := Has.mk' G_lights_behind b_lights_behind m_lights_behind k_lights_behind
  have G_fewest : FnOk l.prog w K mg base (CXE l.prog w) 5 f_fewest _ ["yard", "light", "wished"] (spFewest K C TM Tb) := ok_fewest F_fewest cdF T Y0.cl Y0.nM ⟨tS, PySem.W.mg_of X G aS⟩ (PySem.W.mg_of X G g_TooMany) x_TooMany CH_ hB_ hF_lights_behind
  have hF_fewest : Has l.prog w K mg base (CXE l.prog w) 5 "fewest" ["yard", "light", "wished"] (spFewest K C TM Tb) := Has.mk' (G_fewest) b_fewest m_fewest k_fewest
  have G_cell_at : FnOk l.prog w K mg base CX0 1 f_cell_at _ ["script", "k"] (spCell K) := ok_cell F_cell_at T
  have hF_cell_at : Has l.prog w K mg base (CXE l.prog w) 1 "_law_cell_at" ["script", "k"] (spCell K) := Has.mk' (G_cell_at.lift) b_cell_at m_cell_at k_cell_at
  have h0F_cell_at : Has l.prog w K mg base CX0 1 "_law_cell_at" ["script", "k"] (spCell K) := Has.mk' G_cell_at b_cell_at m_cell_at k_cell_at
  have G_mix : FnOk l.prog w K mg base CX0 1 f_mix _ ["cell", "k"] (spMix) := ok_mix F_mix
  have hF_mix : Has l.prog w K mg base (CXE l.prog w) 1 "_law_mix" ["cell", "k"] (spMix) := Has.mk' (G_mix.lift) b_mix m_mix k_mix
  have h0F_mix : Has l.prog w K mg base CX0 1 "_law_mix" ["cell", "k"] (spMix) := Has.mk' G_mix b_mix m_mix k_mix
  have G_many : FnOk l.prog w K mg base CX0 1 f_many _ ["cell"] (spMany) := ok_many F_many
  have hF_many : Has l.prog w K mg base (CXE l.prog w) 1 "_law_many" ["cell"] (spMany) := Has.mk' (G_many.lift) b_many m_many k_many
  have h0F_many : Has l.prog w K mg base CX0 1 "_law_many" ["cell"] (spMany) := Has.mk' G_many b_many m_many k_many
  have G_drawn : FnOk l.prog w K mg base CX0 2 f_drawn _ ["script"] (spDrawn K) := ok_drawn F_drawn T h0F_cell_at h0F_many h0F_mix
  have hF_drawn : Has l.prog w K mg base (CXE l.prog w) 2 "_law_drawn" ["script"] (spDrawn K) := Has.mk' (G_drawn.lift) b_drawn m_drawn k_drawn
  have h0F_drawn : Has l.prog w K mg base CX0 2 "_law_drawn" ["script"] (spDrawn K) := Has.mk' G_drawn b_drawn m_drawn k_drawn
  have G_built : FnOk l.prog w K mg base CX0 5 f_built _ ["many", "ties", "shy"] (spBuilt C) := ok_built (NL := NL) (AL := AL) (NY := NY) (TD := TD) (UT := UT) F_built T hC_Yard hM_tie hM_untie hM_set_shy2 hM_set_shy3
  have hF_built : Has l.prog w K mg base (CXE l.prog w) 5 "_law_built" ["many", "ties", "shy"] (spBuilt C) := Has.mk' (G_built.lift) b_built m_built k_built
  have h0F_built : Has l.prog w K mg base CX0 5 "_law_built" ["many", "ties", "shy"] (spBuilt C) := Has.mk' G_built b_built m_built k_built
  have G_turns : FnOk l.prog w K mg base CX0 1 f_turns _ ["many", "ties", "shy"] (spTurnsL) := ok_turnsL F_turns T
  have hF_turns : Has l.prog w K mg base (CXE l.prog w) 1 "_law_turns" ["many", "ties", "shy"] (spTurnsL) := Has.mk' (G_turns.lift) b_turns m_turns k_turns
  have h0F_turns : Has l.prog w K mg base CX0 1 "_law_turns" ["many", "ties", "shy"] (spTurnsL) := Has.mk' G_turns b_turns m_turns k_turns
  have G_light : FnOk l.prog w K mg base CX0 2 f_light _ ["cell", "many"] (spLight) := ok_light F_light T hF_mix
  have hF_light : Has l.prog w K mg base (CXE l.prog w) 2 "_law_light" ["cell", "many"] (spLight) := Has.mk' (G_light.lift) b_light m_light k_light
  have h0F_light : Has l.prog w K mg base CX0 2 "_law_light" ["cell", "many"] (spLight) := Has.mk' G_light b_light m_light k_light
  have G_pressed : FnOk l.prog w K mg base CX0 1 f_pressed _ ["light", "turns", "presses"] (spPressedL K) := ok_pressedL F_pressed T
  have hF_pressed : Has l.prog w K mg base (CXE l.prog w) 1 "_law_pressed" ["light", "turns", "presses"] (spPressedL K) := Has.mk' (G_pressed.lift) b_pressed m_pressed k_pressed
  have h0F_pressed : Has l.prog w K mg base CX0 1 "_law_pressed" ["light", "turns", "presses"] (spPressedL K) := Has.mk' G_pressed b_pressed m_pressed k_pressed
  have G_whole : FnOk l.prog w K mg base CX0 1 f_whole _ ["found"] (spWhole) := ok_whole F_whole T
  have hF_whole : Has l.prog w K mg base (CXE l.prog w) 1 "_law_whole" ["found"] (spWhole) := Has.mk' (G_whole.lift) b_whole m_whole k_whole
  have h0F_whole : Has l.prog w K mg base CX0 1 "_law_whole" ["found"] (spWhole) := Has.mk' G_whole b_whole m_whole k_whole
  have G_differ : FnOk l.prog w K mg base CX0 1 f_differ _ ["one", "other"] (spDiffer K) := ok_differ F_differ T
  have hF_differ : Has l.prog w K mg base (CXE l.prog w) 1 "_law_differ" ["one", "other"] (spDiffer K) := Has.mk' (G_differ.lift) b_differ m_differ k_differ
  have h0F_differ : Has l.prog w K mg base CX0 1 "_law_differ" ["one", "other"] (spDiffer K) := Has.mk' G_differ b_differ m_differ k_differ
  have G_wished : FnOk l.prog w K mg base CX0 3 f_wished _ ["script", "light", "turns"] (spWished K) := ok_wished F_wished T hF_cell_at hF_mix hF_pressed hF_light
  have hF_wished : Has l.prog w K mg base (CXE l.prog w) 3 "_law_wished" ["script", "light", "turns"] (spWished K) := Has.mk' (G_wished.lift) b_wished m_wished k_wished
  have h0F_wished : Has l.prog w K mg base CX0 3 "_law_wished" ["script", "light", "turns"] (spWished K) := Has.mk' G_wished b_wished m_wished k_wished
  have G_alike : FnOk l.prog w K mg base CX0 2 f_alike _ ["found", "due"] (spAlike K) := ok_alike F_alike T hF_whole
  have hF_alike : Has l.prog w K mg base (CXE l.prog w) 2 "_law_alike" ["found", "due"] (spAlike K) := Has.mk' (G_alike.lift) b_alike m_alike k_alike
  have h0F_alike : Has l.prog w K mg base CX0 2 "_law_alike" ["found", "due"] (spAlike K) := Has.mk' G_alike b_alike m_alike k_alike
  have G_worth : FnOk l.prog w K mg base CX0 1 f_worth _ ["lamps"] (spWorth K) := ok_worth F_worth T
  have hF_worth : Has l.prog w K mg base (CXE l.prog w) 1 "_law_worth" ["lamps"] (spWorth K) := Has.mk' (G_worth.lift) b_worth m_worth k_worth
  have h0F_worth : Has l.prog w K mg base CX0 1 "_law_worth" ["lamps"] (spWorth K) := Has.mk' G_worth b_worth m_worth k_worth
  have G_due : FnOk l.prog w K mg base CX0 2 f_due _ ["turns", "differ"] (spDue K) := ok_due F_due T hF_worth
  have hF_due : Has l.prog w K mg base (CXE l.prog w) 2 "_law_due" ["turns", "differ"] (spDue K) := Has.mk' (G_due.lift) b_due m_due k_due
  have h0F_due : Has l.prog w K mg base CX0 2 "_law_due" ["turns", "differ"] (spDue K) := Has.mk' G_due b_due m_due k_due
  exact ok_law F_law T hF_cell_at hF_drawn hF_built hF_turns hF_light hF_wished hF_alike hF_differ hF_due hM_set_shy3 hF_fewest
theorem walk {l : PySem.W.OpenLaw} {q : Program} {loose : List Str} {XP : (Str → Option Value) → Heap → Prop} {YP : World → Heap → Prop} {d : DefRec} {K : Params → PySem.W.Frag} {Tb : Addr} (hn : l.most = some 63) (hdf : d.params.defaults = [])
    (hY : ∀ (w : World) (h : Heap), YP w h → (K w.params).In h) (hYT : ∀ (w : World) (h : Heap), YP w h → h.get? Tb = some { cls := .none, data := .fields #[] }) (hTK : ∀ w : World, (K w.params).lookup Tb = none)
    (F : ∀ (w : World) (mg : Str → Option Value) (fa : Addr) (h : Heap), (K w.params).In h → h.Ns mainGlobals mg → mg d.name = some (.ref fa) →
      ∃ fd : FuncData, (∀ (s : Shared) (u : Value), BindsTo s fd ⟨[u], []⟩ [("script", u)]) ∧ (∀ h : Heap, (K w.params).In h → isCodeTable h Tb) ∧ ∀ base : Heap, (K w.params).In base → base.Ns mainGlobals mg → BltMod mg base → FnOk l.prog w (K w.params) mg base CX0 6 fa fd ["script"] (spLawT (K w.params) Tb)) :
    PySem.W.WalkO q loose XP YP l.row.toRowW d [] (fun f vs => PySem.call f vs) := by
  refine Att.attach_call hn hdf fun w s₀ s₁ mg mb fa o pm cd doc a vs ns G Y ho hd hcd hmg hobj hints hlen hg => ?_
  have KX := hY w _ Y
  obtain ⟨fd, hb, hc, hF⟩ := F w mg fa _ KX G.T.g hmg
  obtain ⟨bm, ob, b1, b2, b3, b4, b5, b6⟩ := G.T.bmain
  have b0 : bm ≠ mainGlobals := fun z => by
    obtain ⟨o, es, ep, e, hd, _⟩ := G.T.g
    rw [z, e] at b3
    cases b3
    rw [hd] at b6
    cases b6
  exact law_callT KX G.T.g G.T.b G.T.builtins G.T.nolimit hg hobj hints (Nat.le_trans hlen (by decide)) ⟨rfl, by decide, by decide⟩ (hYT w _ Y) (hTK w) (hc _ KX) ⟨bm, ob, b1, b2, b0, b3, b4, b5, b6⟩ hF hb (fun H hS hT => ⟨a, ns, rfl, hS, hlen, hT, fun _ => rfl⟩) fun _ _ _ z => z
end Lp
open PySem PySem.W PyProof.Rows
set_option maxRecDepth 100000 in
set_option maxHeartbeats 0 in
theorem PySem.Challenge.cw_lampyard_k13_whole_fewest_holds : PySem.Challenge.rw_lampyard_k13_whole_fewest.Holds := by
  w_on; o_law; k_head; (case hw => w_witness2)
  k_fill
  refine Lp.walk (l := PySem.Challenge.rw_lampyard_k13_whole_fewest) rfl rfl (fun w h Y => PySem.W.km_in_of Y) (fun w h Y => PySem.W.km_tabs_of Y _ (List.mem_singleton.mpr rfl)) (fun w => by kernel_rfl) ?F
  case F =>
    intro w mg fa h KX G hmg
    refine' Lp.all_mk KX G hmg ?aC ?g_NoLamp ?g_Alone ?g_NoYard ?g_Tied ?g_Untied ?g_LampError ?g_TooMany ?x_NoLamp ?x_Alone ?x_NoYard ?x_Tied ?x_Untied ?x_TooMany ?pg ?hd ?po ?sa ?mk ?kc ?nM ?nR ?aM ?z_len ?z_list ?z_bool ?z_int ?z_isinstance ?z_all ?z_any ?z_range ?z_enumerate ?z_ValueError ?z_reversed ?z_str ?z_tuple ?z_set ?z_sorted ?z_min ?a_check_lamp ?l_check_lamp ?c_check_lamp ?k_check_lamp ?a_check_pair ?l_check_pair ?c_check_pair ?k_check_pair ?a_untied_rows ?l_untied_rows ?c_untied_rows ?k_untied_rows ?a_Y___init__ ?i_Y___init__ ?l_Y___init__ ?c_Y___init__ ?k_Y___init__ ?a_Y_tie ?i_Y_tie ?l_Y_tie ?c_Y_tie ?k_Y_tie ?a_Y_untie ?i_Y_untie ?l_Y_untie ?c_Y_untie ?k_Y_untie ?a_Y_put_tie ?i_Y_put_tie ?l_Y_put_tie ?c_Y_put_tie ?k_Y_put_tie ?a_Y_is_tied ?i_Y_is_tied ?l_Y_is_tied ?c_Y_is_tied ?k_Y_is_tied ?a_Y_set_shy ?i_Y_set_shy ?l_Y_set_shy ?c_Y_set_shy ?k_Y_set_shy ?lT_Y_set_shy ?a_Y_turns ?i_Y_turns ?l_Y_turns ?c_Y_turns ?k_Y_turns ?a_turned ?l_turned ?c_turned ?k_turned ?a_lights_behind ?l_lights_behind ?c_lights_behind ?k_lights_behind ?a_fewest ?l_fewest ?c_fewest ?k_fewest ?a_cell_at ?l_cell_at ?c_cell_at ?k_cell_at ?a_mix ?l_mix ?c_mix ?k_mix ?a_many ?l_many ?c_many ?k_many ?a_drawn ?l_drawn ?c_drawn ?k_drawn ?a_built ?l_built ?c_built ?k_built ?a_turns ?l_turns ?c_turns ?k_turns ?a_light ?l_light ?c_light ?k_light ?a_pressed ?l_pressed ?c_pressed ?k_pressed ?a_wished ?l_wished ?c_wished ?k_wished ?a_whole ?l_whole ?c_whole ?k_whole ?a_alike ?l_alike ?c_alike ?k_alike ?a_differ ?l_differ ?c_differ ?k_differ ?a_worth ?l_worth ?c_worth ?k_worth ?a_due ?l_due ?c_due ?k_due ?a_law ?l_law ?c_law ?k_law ?cdF ?chd ?aS
    (case aC => k_is)
    (case g_NoLamp => k_is)
    (case g_Alone => k_is)
    (case g_NoYard => k_is)
    (case g_Tied => k_is)
    (case g_Untied => k_is)
    (case g_LampError => k_is)
    (case g_TooMany => k_is)
    (case x_NoLamp => k_exc)
    (case x_Alone => k_exc)
    (case x_NoYard => k_exc)
    (case x_Tied => k_exc)
    (case x_Untied => k_exc)
    (case x_TooMany => k_exc)
    (case pg => k_is)
    (case hd => k_is)
    (case po => k_is)
    (case sa => k_is)
    (case mk => k_is)
    (case kc => k_is)
    (case nM => k_is)
    (case nR => k_is)
    (case aM => k_is)
    (case z_len => k_is)
    (case z_list => k_is)
    (case z_bool => k_is)
    (case z_int => k_is)
    (case z_isinstance => k_is)
    (case z_all => k_is)
    (case z_any => k_is)
    (case z_range => k_is)
    (case z_enumerate => k_is)
    (case z_ValueError => k_is)
    (case z_reversed => k_is)
    (case z_str => k_is)
    (case z_tuple => k_is)
    (case z_set => k_is)
    (case z_sorted => k_is)
    (case z_min => k_is)
    (case a_check_lamp => k_is)
    (case l_check_lamp => k_is)
    (case c_check_lamp => k_is)
    (case k_check_lamp => k_is)
    (case a_check_pair => k_is)
    (case l_check_pair => k_is)
    (case c_check_pair => k_is)
    (case k_check_pair => k_is)
    (case a_untied_rows => k_is)
    (case l_untied_rows => k_is)
    (case c_untied_rows => k_is)
    (case k_untied_rows => k_is)
    (case a_Y___init__ => k_is)
    (case i_Y___init__ => k_is)
    (case l_Y___init__ => k_is)
    (case c_Y___init__ => k_is)
    (case k_Y___init__ => k_is)
    (case a_Y_tie => k_is)
    (case i_Y_tie => k_is)
    (case l_Y_tie => k_is)
    (case c_Y_tie => k_is)
    (case k_Y_tie => k_is)
    (case a_Y_untie => k_is)
    (case i_Y_untie => k_is)
    (case l_Y_untie => k_is)
    (case c_Y_untie => k_is)
    (case k_Y_untie => k_is)
    (case a_Y_put_tie => k_is)
    (case i_Y_put_tie => k_is)
    (case l_Y_put_tie => k_is)
    (case c_Y_put_tie => k_is)
    (case k_Y_put_tie => k_is)
    (case a_Y_is_tied => k_is)
    (case i_Y_is_tied => k_is)
    (case l_Y_is_tied => k_is)
    (case c_Y_is_tied => k_is)
    (case k_Y_is_tied => k_is)
    (case a_Y_set_shy => k_is)
    (case i_Y_set_shy => k_is)
    (case l_Y_set_shy => k_is)
    (case c_Y_set_shy => k_is)
    (case k_Y_set_shy => k_is)
    (case lT_Y_set_shy => k_is)
    (case a_Y_turns => k_is)
    (case i_Y_turns => k_is)
    (case l_Y_turns => k_is)
    (case c_Y_turns => k_is)
    (case k_Y_turns => k_is)
    (case a_turned => k_is)
    (case l_turned => k_is)
    (case c_turned => k_is)
    (case k_turned => k_is)
    (case a_lights_behind => k_is)
    (case l_lights_behind => k_is)
    (case c_lights_behind => k_is)
    (case k_lights_behind => k_is)
    (case a_fewest => k_is)
    (case l_fewest => k_is)
    (case c_fewest => k_is)
    (case k_fewest => k_is)
    (case a_cell_at => k_is)
    (case l_cell_at => k_is)
    (case c_cell_at => k_is)
    (case k_cell_at => k_is)
    (case a_mix => k_is)
    (case l_mix => k_is)
    (case c_mix => k_is)
    (case k_mix => k_is)
    (case a_many => k_is)
    (case l_many => k_is)
    (case c_many => k_is)
    (case k_many => k_is)
    (case a_drawn => k_is)
    (case l_drawn => k_is)
    (case c_drawn => k_is)
    (case k_drawn => k_is)
    (case a_built => k_is)
    (case l_built => k_is)
    (case c_built => k_is)
    (case k_built => k_is)
    (case a_turns => k_is)
    (case l_turns => k_is)
    (case c_turns => k_is)
    (case k_turns => k_is)
    (case a_light => k_is)
    (case l_light => k_is)
    (case c_light => k_is)
    (case k_light => k_is)
    (case a_pressed => k_is)
    (case l_pressed => k_is)
    (case c_pressed => k_is)
    (case k_pressed => k_is)
    (case a_wished => k_is)
    (case l_wished => k_is)
    (case c_wished => k_is)
    (case k_wished => k_is)
    (case a_whole => k_is)
    (case l_whole => k_is)
    (case c_whole => k_is)
    (case k_whole => k_is)
    (case a_alike => k_is)
    (case l_alike => k_is)
    (case c_alike => k_is)
    (case k_alike => k_is)
    (case a_differ => k_is)
    (case l_differ => k_is)
    (case c_differ => k_is)
    (case k_differ => k_is)
    (case a_worth => k_is)
    (case l_worth => k_is)
    (case c_worth => k_is)
    (case k_worth => k_is)
    (case a_due => k_is)
    (case l_due => k_is)
    (case c_due => k_is)
    (case k_due => k_is)
    (case a_law => k_is)
    (case l_law => k_is)
    (case c_law => k_is)
    (case k_law => k_is)
    (case cdF => exact rfl)
    (case chd => kernel_rfl)
    (case aS => k_is)
