import PyProof.Rows.All
import Wide.All
import OpenK.AllK
import Wide.FinOn
import Lean
import PyProof.EqAt
import PyProof.EqKinds
import PyProof.TupleCall
import PyProof.NeKinds
import PyProof.StrLawsTight
import PyProof.Rows.StrPins2
import PyProof.StrLawsIdx
import PySem.Challenge.RW_lampyard_k17_unread
set_option Elab.async false
set_option linter.all false
set_option maxRecDepth 100000
set_option maxHeartbeats 4000000
/-! THE HAND LAYER, for ints, bools, texts, own classes, LISTS and tuples (index, slices, in, append, pop ..), calls, loops. Paste it whole ahead of your own text; what your proof does not reach may be deleted. -/
namespace L2
open PySem PySem.Spec PyProof.Rows

abbrev Key := Sum Int Str
def keyIs : Key → Value → Bool
  | .inl k, v => Value.isInt k v
  | .inr x, v => Value.isStrOf x v
def keyH (w : World) : Key → Int
  | .inl k => hashInt k
  | .inr x => hashStr w x
theorem keyIs_shape : ∀ {k : Key} {v : Value}, keyIs k v = true → (∃ i t, k = Sum.inl i ∧ v = Value.int i t) ∨ (∃ x t, k = Sum.inr x ∧ v = Value.str x t)
  | .inl i, v, h => by
    obtain ⟨t, e⟩ := Value.isInt_shape (k := i) (v := v) h
    exact .inl ⟨i, t, rfl, e⟩
  | .inr x, v, h => by
    obtain ⟨t, e⟩ := Value.isStrOf_shape (x := x) (v := v) h
    exact .inr ⟨x, t, rfl, e⟩
theorem key_ll (a b : Int) : decide ((Sum.inl a : Key) = Sum.inl b) = (a == b) := by
  by_cases e : a = b
  · subst e; simp
  · have h : ¬ (Sum.inl a : Key) = Sum.inl b := fun q => e (Sum.inl.inj q)
    rw [decide_eq_false h]
    exact (beq_eq_false_iff_ne.mpr e).symm
theorem key_rr (a b : Str) : decide ((Sum.inr a : Key) = Sum.inr b) = decide (a = b) := by
  by_cases e : a = b
  · subst e; simp
  · have h : ¬ (Sum.inr a : Key) = Sum.inr b := fun q => e (Sum.inr.inj q)
    rw [decide_eq_false h, decide_eq_false e]
theorem key_lr (a : Int) (b : Str) : decide ((Sum.inl a : Key) = Sum.inr b) = false := decide_eq_false (fun q => nomatch q)
theorem key_rl (a : Str) (b : Int) : decide ((Sum.inr a : Key) = Sum.inl b) = false := decide_eq_false (fun q => nomatch q)

def mixKind (prog : Program) (w : World) : PySem.KeyKind prog w Key where
  is := keyIs
  hash := keyH w
  inj := fun v a b ha hb => by
    rcases keyIs_shape ha with ⟨i, t, rfl, rfl⟩ | ⟨x, t, rfl, rfl⟩
    · rcases keyIs_shape hb with ⟨j, u, rfl, e⟩ | ⟨y, u, rfl, e⟩
      · injection e with e1 _; rw [e1]
      · exact nomatch e
    · rcases keyIs_shape hb with ⟨j, u, rfl, e⟩ | ⟨y, u, rfl, e⟩
      · exact nomatch e
      · injection e with e1 _; rw [e1]
  byValue := fun k v h => by
    rcases keyIs_shape h with ⟨i, t, rfl, rfl⟩ | ⟨x, t, rfl, rfl⟩ <;> rfl
  pyHash := fun hv h => by
    rcases keyIs_shape hv with ⟨i, t, rfl, rfl⟩ | ⟨x, t, rfl, rfl⟩
    · exact wpAny_pyHash_int h
    · exact wpAny_pyHash_str h
  eqBool := fun hu hv h => by
    rcases keyIs_shape hu with ⟨i, t, rfl, rfl⟩ | ⟨x, t, rfl, rfl⟩
    · rcases keyIs_shape hv with ⟨j, u, rfl, rfl⟩ | ⟨y, u, rfl, rfl⟩
      · rw [key_ll] at h; exact wpAny_eqBool_int h
      · rw [key_lr] at h; exact SeqAt.EqAt.int_str i t y u _ _ _ _ h
    · rcases keyIs_shape hv with ⟨j, u, rfl, rfl⟩ | ⟨y, u, rfl, rfl⟩
      · rw [key_rl] at h; exact SeqAt.EqAt.str_int x t j u _ _ _ _ h
      · rw [key_rr] at h; exact wpAny_eqBool_str h
  «strs» := fun k x t v h => by
    rcases keyIs_shape h with ⟨i, u, rfl, e⟩ | ⟨y, u, rfl, e⟩
    · exact nomatch e
    · injection e with e1 _
      subst e1
      cases v <;> rfl

end L2

namespace L2
open PySem PySem.Spec PyProof.Rows

inductive V where
  | non | bl (b : Bool) | int (i : Int) | str (x : Str) | byt (b : Array UInt8) | flt (b : UInt64) | ref (a : Addr) | ty (n : String)
  deriving DecidableEq

def RelV : V → Value → Prop
  | .non, u => u = Value.none
  | .bl b, u => u = Value.bool b
  | .int i, u => ∃ t, u = Value.int i t
  | .str x, u => ∃ t, u = Value.str x t
  | .byt b, u => ∃ t, u = Value.bytes b t
  | .flt b, u => ∃ t, u = Value.float b t
  | .ref a, u => u = Value.ref a
  | .ty n, u => u = Value.type n

abbrev Vals : List V → List Value → Prop := Paired RelV
theorem Vals.length {xs : List V} {us : List Value} (r : Vals xs us) : xs.length = us.length := Paired.length r
theorem Vals.get : ∀ {xs : List V} {us : List Value} {i : Nat} {x : V}, Vals xs us → xs[i]? = some x → ∃ u, us[i]? = some u ∧ RelV x u
  | _, _, _, _, .nil, e => by simp at e
  | _, _, 0, _, .cons r _, e => by simp at e; subst e; exact ⟨_, rfl, r⟩
  | _, _, i + 1, x, .cons _ t, e => by
    obtain ⟨u, h1, h2⟩ := Vals.get (i := i) (x := x) t (by simpa using e)
    exact ⟨u, by simpa using h1, h2⟩
theorem Vals.set {x : V} {u : Value} (r : RelV x u) : ∀ {xs : List V} {us : List Value} (i : Nat), Vals xs us → Vals (xs.set i x) (us.set i u)
  | _, _, _, .nil => .nil
  | _, _, 0, .cons _ t => .cons r t
  | _, _, i + 1, .cons q t => .cons q (Vals.set r i t)
theorem Vals.append : ∀ {xs ys : List V} {us ws : List Value}, Vals xs us → Vals ys ws → Vals (xs ++ ys) (us ++ ws)
  | _, _, _, _, .nil, s => s
  | _, _, _, _, .cons r t, s => .cons r (Vals.append t s)
theorem Vals.take : ∀ {xs : List V} {us : List Value} (n : Nat), Vals xs us → Vals (xs.take n) (us.take n)
  | _, _, 0, _ => .nil
  | _, _, _ + 1, .nil => .nil
  | _, _, n + 1, .cons r t => .cons r (Vals.take n t)
theorem Vals.drop : ∀ {xs : List V} {us : List Value} (n : Nat), Vals xs us → Vals (xs.drop n) (us.drop n)
  | _, _, 0, r => r
  | _, _, _ + 1, .nil => .nil
  | _, _, n + 1, .cons _ t => Vals.drop n t

def RelO : Option V → Option Value → Prop
  | some v, some u => RelV v u
  | none, none => True
  | _, _ => False
def KV {κ : Type} : List (κ × V) → List (κ × Value) → Prop := Paired fun (p : κ × V) (q : κ × Value) => p.1 = q.1 ∧ RelV p.2 q.2

def kV : Key → V
  | .inl i => .int i
  | .inr x => .str x

inductive HO where
  | lst (xs : List V)
  | tup (xs : List V)
  | dK (kvs : List (Key × V)) | dT (kvs : List (List Key × V))
  | set (S : Int → Bool) (n : Nat)
  | ins (C dx : Addr) (fs : List (Str × V))
  | own (x : Addr)
  | xd (fs : List (Str × V))
  | met (f x : Addr)
  | rng (lo hi : Int)
  | frz (o : Obj) (u : HO)
  | tbl (ps : Array Value)
  | ext (φ : Heap → Prop)

abbrev Hp := Addr → Option HO
def upd (H : Hp) (a : Addr) (o : HO) : Hp := fun b => if b = a then some o else H b
theorem upd_same {H : Hp} {a : Addr} {o : HO} : upd H a o a = some o := by unfold upd; rw [if_pos rfl]
theorem upd_ne {H : Hp} {a b : Addr} {o : HO} (h : b ≠ a) : upd H a o b = H b := by unfold upd; rw [if_neg h]
theorem upd_upd {H : Hp} {a : Addr} {o u : HO} : upd (upd H a o) a u = upd H a u := by
  funext b; unfold upd; split <;> rfl
theorem ne_of {H : Hp} {a b : Addr} {o u : HO} (h : H a = some o) (h' : H b = some u) (d : o ≠ u) : a ≠ b := by
  intro e; subst e; rw [h] at h'; exact d (Option.some.inj h')
theorem ne_of_none {H : Hp} {a b : Addr} {o : HO} (h : H a = some o) (h' : H b = none) : a ≠ b := by
  intro e; subst e; rw [h] at h'; cases h'

section
variable (P : Program) (w : World)
def ObjOk (H : Hp) (h : Heap) (a : Addr) : HO → Prop
  | .lst xs => xs.length ≤ sizeLine ∧ ∃ (its : List Value) (n : Nat), Vals xs its ∧ h.get? a = some { cls := .type "list", data := .seq its.toArray n }
  | .tup xs => xs.length ≤ sizeLine ∧ ∃ its : List Value, Vals xs its ∧ IsTup h a its.toArray
  | .dK kvs => kvs.length ≤ sizeLine ∧ (a == sysModules) = false ∧ ∃ vs, KV kvs vs ∧ h.DictOf (mixKind P w) a vs
  | .dT kvs => kvs.length ≤ sizeLine ∧ (a == sysModules) = false ∧ ∃ xs : List (List Key × Addr × Value),
      Paired (fun (p : List Key × V) (q : List Key × Addr × Value) => p.1 = q.1 ∧ H q.2.1 = some (.tup (p.1.map kV)) ∧ RelV p.2 q.2.2) kvs xs ∧
      ∃ o es ep, h.get? a = some o ∧ o.ExactDict ∧ o.data = .dict es ep ∧ es.toList = xs.map (entryOfKey (tupleKind (mixKind P w))) ∧ (xs.map (·.1)).Nodup
  | .set S n => h.SetOf (intKind P w) a S n
  | .ins C dx fs => H dx = some (.own a) ∧ fs.length ≤ 1000 ∧ dx ≠ a ∧ h.get? a = some (PySem.W.instObj C dx) ∧
      ∃ mA, h.Ns1 dx mA ∧ (∀ f, RelO (fs.lookup f) (mA f)) ∧ PySem.Within mA (fs.map (·.1))
  | .own _ => ∃ o, h.get? a = some o
  | .xd fs => ∃ mA, h.Ns1 a mA ∧ ∀ f, RelO (fs.lookup f) (mA f)
  | .rng lo hi => ∃ t u v, h.get? a = some { cls := .type "range", data := .fields #[.int lo t, .int hi u, .int 1 v] }
  | .frz o u => h.get? a = some o ∧ ObjOk H h a u
  | .tbl ps => h.get? a = some { cls := .none, data := .fields ps }
  | .met f x => h.get? a = some (PySem.W.methodObj (.ref f) (.ref x))
  | .ext φ => φ h ∧ (∃ o, h.get? a = some o) ∧ ∀ h1 h2 : Heap, φ h1 → (∀ o, h1.get? a = some o → h2.get? a = some o) → φ h2
def HOk (H : Hp) (h : Heap) : Prop := ∀ a o, H a = some o → ObjOk P w H h a o
end

section
variable {P : Program} {w : World} {H H' : Hp} {h h' : Heap} {a : Addr} {o : HO}
theorem ObjOk.lt (x : ObjOk P w H h a o) : a < h.objs.size := by
  cases o with
  | lst xs => obtain ⟨_, _, _, _, e⟩ := x; exact Heap.lt_size e
  | tup xs => obtain ⟨_, _, _, p⟩ := x; exact p.lt
  | dK kvs => obtain ⟨_, _, _, _, o, _, _, e, _⟩ := x; exact Heap.lt_size e
  | dT kvs => obtain ⟨_, _, _, _, o, _, _, e, _⟩ := x; exact Heap.lt_size e
  | set S n => obtain ⟨o, _, _, _, e, _⟩ := x; exact Heap.lt_size e
  | ins C dx fs => obtain ⟨_, _, _, e, _⟩ := x; exact Heap.lt_size e
  | own y => obtain ⟨_, e⟩ := x; exact Heap.lt_size e
  | xd fs => obtain ⟨_, ⟨_, _, _, e, _⟩, _⟩ := x; exact Heap.lt_size e
  | rng lo hi => obtain ⟨_, _, _, e⟩ := x; exact Heap.lt_size e
  | frz ob u => obtain ⟨e, _⟩ := x; exact Heap.lt_size e
  | tbl ps => exact Heap.lt_size (show h.get? a = some _ from x)
  | met f y => exact Heap.lt_size (show h.get? a = some _ from x)
  | ext φ => obtain ⟨_, ⟨_, e⟩, _⟩ := x; exact Heap.lt_size e
theorem Paired.mapP {α β : Type} {F G : α → β → Prop} : ∀ {l₁ : List α} {l₂ : List β}, Paired F l₁ l₂ → (∀ a b, F a b → G a b) → Paired G l₁ l₂
  | _, _, .nil, _ => .nil
  | _, _, .cons r t, f => .cons (f _ _ r) (Paired.mapP t f)
theorem ObjOk.stay (x : ObjOk P w H h a o) (k : ∀ b u, (b = a ∨ H b = some (.own a)) → h.get? b = some u → h'.get? b = some u)
    (ho : ∀ b, H b = some (.own a) → H' b = some (.own a)) (ht : ∀ b xs, H b = some (.tup xs) → H' b = some (.tup xs)) : ObjOk P w H' h' a o := by
  induction o with
  | lst xs => obtain ⟨z, its, n, r, e⟩ := x; exact ⟨z, its, n, r, k _ _ (.inl rfl) e⟩
  | tup xs => obtain ⟨z, its, r, ob, e, c⟩ := x; exact ⟨z, its, r, ob, k _ _ (.inl rfl) e, c⟩
  | dK kvs => obtain ⟨z, y, vs, r, ob, es, ep, e, c⟩ := x; exact ⟨z, y, vs, r, ob, es, ep, k _ _ (.inl rfl) e, c⟩
  | dT kvs =>
    obtain ⟨z, y, xs, r, ob, es, ep, e, c⟩ := x
    exact ⟨z, y, xs, Paired.mapP r fun p q z => ⟨z.1, ht _ _ z.2.1, z.2.2⟩, ob, es, ep, k _ _ (.inl rfl) e, c⟩
  | set S n => obtain ⟨ob, es, ep, t, e, c⟩ := x; exact ⟨ob, es, ep, t, k _ _ (.inl rfl) e, c⟩
  | ins C dx fs =>
    obtain ⟨d, z, ne, e, mA, ⟨od, es, ep, e2, c⟩, r⟩ := x
    exact ⟨ho _ d, z, ne, k _ _ (.inl rfl) e, mA, ⟨od, es, ep, k _ _ (.inr d) e2, c⟩, r⟩
  | own y => obtain ⟨ob, e⟩ := x; exact ⟨ob, k _ _ (.inl rfl) e⟩
  | xd fs => obtain ⟨mA, ⟨od, es, ep, e, c⟩, r⟩ := x; exact ⟨mA, ⟨od, es, ep, k _ _ (.inl rfl) e, c⟩, r⟩
  | rng lo hi => obtain ⟨t, u, v, e⟩ := x; exact ⟨t, u, v, k _ _ (.inl rfl) e⟩
  | frz ob u ih => obtain ⟨e, q⟩ := x; exact ⟨k _ _ (.inl rfl) e, ih q⟩
  | tbl ps =>
    have e : h.get? a = some { cls := .none, data := .fields ps } := x
    show h'.get? a = some { cls := .none, data := .fields ps }
    exact k a _ (.inl rfl) e
  | met f y =>
    have e : h.get? a = some (PySem.W.methodObj (.ref f) (.ref y)) := x
    show h'.get? a = some (PySem.W.methodObj (.ref f) (.ref y))
    exact k a _ (.inl rfl) e
  | ext φ => obtain ⟨p, ⟨o, e⟩, st⟩ := x; exact ⟨st _ _ p fun o q => k _ _ (.inl rfl) q, ⟨o, k _ _ (.inl rfl) e⟩, st⟩
theorem HOk.lt (x : HOk P w H h) (e : H a = some o) : a < h.objs.size := (x a o e).lt
theorem HOk.fresh (x : HOk P w H h) (e : h.objs.size ≤ a) : H a = none := by
  cases q : H a with
  | none => rfl
  | some u => exact absurd (Nat.lt_of_lt_of_le (x.lt q) e) (Nat.lt_irrefl _)
theorem HOk.kept (x : HOk P w H h) (k : ∀ b u, h.get? b = some u → h'.get? b = some u) : HOk P w H h' := fun a o e =>
  (x a o e).stay (fun b u _ q => k b u q) (fun _ q => q) fun _ _ q => q
theorem HOk.laid (x : HOk P w H h) (k : ∀ b u, h.get? b = some u → h'.get? b = some u) (hp : h.objs.size ≤ a) (new : ObjOk P w (upd H a o) h' a o) : HOk P w (upd H a o) h' := fun b u e => by
  have hn := x.fresh hp
  by_cases hb : b = a
  · subst hb; rw [upd_same] at e; cases e; exact new
  · rw [upd_ne hb] at e
    exact (x b u e).stay (fun c v _ q => k c v q) (fun c q => by rw [upd_ne (ne_of_none q hn)]; exact q) fun c xs q => by rw [upd_ne (ne_of_none q hn)]; exact q
end

def Rd (H : Hp) (a : Addr) (u : HO) : Prop := H a = some u ∨ ∃ o, H a = some (.frz o u)
theorem Rd.ok {P : Program} {w : World} {H : Hp} {h : Heap} {a : Addr} {u : HO} (r : Rd H a u) (x : HOk P w H h) : ObjOk P w H h a u := by
  rcases r with r | ⟨o, r⟩
  · exact x a u r
  · obtain ⟨_, q⟩ := x a _ r
    exact q
def Mut : Option HO → Prop
  | some (.lst _) => True
  | some (.dK _) => True
  | some (.dT _) => True
  | some (.set _ _) => True
  | some (.ins _ _ _) => True
  | some (.ext _) => True
  | _ => False
section
variable {P : Program} {w : World} {H : Hp} {h h' : Heap} {x e : Addr} {o' : HO}
theorem HOk.write (ok : HOk P w H h) (mu : Mut (H x)) (he : e = x ∨ H e = some (.own x)) (k : ∀ b u, b ≠ e → h.get? b = some u → h'.get? b = some u) (heo : ∃ u, h'.get? e = some u)
    (new : ObjOk P w (upd H x o') h' x o') : HOk P w (upd H x o') h' := fun b u q => by
  have nown : ∀ c y, H c = some (.own y) → c ≠ x := fun c y r z => by subst z; rw [r] at mu; exact mu
  have ntup : ∀ c xs, H c = some (.tup xs) → c ≠ x := fun c xs r z => by subst z; rw [r] at mu; exact mu
  by_cases hb : b = x
  · subst hb; rw [upd_same] at q; cases q; exact new
  · rw [upd_ne hb] at q
    by_cases hbe : b = e
    · have q' : H b = some (.own x) := by
        rcases he with z | z
        · exact absurd (hbe.trans z) hb
        · rw [hbe]; exact z
      rw [q] at q'; cases q'
      obtain ⟨v, hv⟩ := heo
      exact ⟨v, by rw [hbe]; exact hv⟩
    · refine (ok b u q).stay (fun c v hc r => k c v ?_ r) (fun c r => by rw [upd_ne (nown c b r)]; exact r) fun c xs r => by rw [upd_ne (ntup c xs r)]; exact r
      rcases hc with rfl | hc
      · exact hbe
      · rintro rfl
        rcases he with z | z
        · exact nown c b hc z
        · rw [hc] at z; cases z; exact hb rfl
end

/-! ### kept unless tracked; of the frames at fs (the callers') the slots may change (an exception that passes writes there); of the records at ex (iterators) nothing is said -/
structure Un (fs ex : List Addr) (H H' : Hp) (h h' : Heap) : Prop where
  keep : ∀ b o, h.get? b = some o → H b = none → b ∉ fs → b ∉ ex → h'.get? b = some o
  slot : ∀ b o, h.get? b = some o → H b = none → b ∈ fs → b ∉ ex → ∃ sl, h'.get? b = some { o with slots := sl }
  free : ∀ b o, h.get? b = some o → H b = none → b ∉ ex → H' b = none
  there : ∀ b o, h.get? b = some o → b ∉ ex → ∃ o', h'.get? b = some o'
  tups : ∀ b xs, H b = some (.tup xs) → H' b = some (.tup xs)
  frzs : ∀ b o u, H b = some (.frz o u) → H' b = some (.frz o u)
  tbls : ∀ b ps, H b = some (.tbl ps) → ∃ more, H' b = some (.tbl (ps ++ more))
section
variable {fs fs' ex ex' : List Addr} {H H1 H2 : Hp} {h h1 h2 h' : Heap} {a x e : Addr} {o : HO}
theorem Un.any (u : Un fs ex H H1 h h1) {b : Addr} {ob : Obj} (q : h.get? b = some ob) (n : H b = none) (hx : b ∉ ex) : ∃ sl, h1.get? b = some { ob with slots := sl } := by
  by_cases hb : b ∈ fs
  · exact u.slot b ob q n hb hx
  · exact ⟨ob.slots, u.keep b ob q n hb hx⟩
theorem Un.kept (k : ∀ b u, h.get? b = some u → h'.get? b = some u) : Un fs ex H H h h' :=
  ⟨fun b ob q _ _ _ => k b ob q, fun b ob q _ _ _ => ⟨ob.slots, k b ob q⟩, fun _ _ _ n _ => n, fun b ob q _ => ⟨ob, k b ob q⟩, fun _ _ q => q, fun _ _ _ q => q, fun _ ps q => ⟨#[], by rw [q]; simp⟩⟩
theorem Un.refl : Un fs ex H H h h := Un.kept fun _ _ q => q
theorem Un.laid (k : ∀ b u, h.get? b = some u → h'.get? b = some u) (hp : h.objs.size ≤ a) (hn : H a = none) : Un fs ex H (upd H a o) h h' where
  keep := fun b u q _ _ _ => k b u q
  slot := fun b u q _ _ _ => ⟨u.slots, k b u q⟩
  free := fun b u q n _ => by rw [upd_ne (Nat.ne_of_lt (Nat.lt_of_lt_of_le (Heap.lt_size q) hp))]; exact n
  there := fun b u q _ => ⟨u, k b u q⟩
  tups := fun b xs q => by rw [upd_ne (ne_of_none q hn)]; exact q
  frzs := fun b u xs q => by rw [upd_ne (ne_of_none q hn)]; exact q
  tbls := fun b ps q => ⟨#[], by rw [upd_ne (ne_of_none q hn), q]; simp⟩
theorem Un.write (mu : Mut (H x)) (he : e = x ∨ H e = some (.own x)) (k : ∀ b u, b ≠ e → h.get? b = some u → h'.get? b = some u) (heo : ∃ u, h'.get? e = some u) : Un fs ex H (upd H x o) h h' := by
  have hx : ∀ b, H b = none → b ≠ x := fun b n z => by subst z; rw [n] at mu; exact mu
  have hb : ∀ b, H b = none → b ≠ e := fun b n z => by
    subst z
    rcases he with r | r
    · exact hx b n r
    · rw [n] at r; cases r
  have hm : ∀ b u, H b = some u → ¬ Mut (some u) → b ≠ x := fun b u q nm z => by subst z; rw [q] at mu; exact nm mu
  refine ⟨fun b u q n _ _ => k b u (hb b n) q, fun b u q n _ _ => ⟨u.slots, k b u (hb b n) q⟩, fun b u q n _ => by rw [upd_ne (hx b n)]; exact n, fun b u q _ => ?_,
    fun b xs q => by rw [upd_ne (hm b _ q fun z => z)]; exact q, fun b u xs q => by rw [upd_ne (hm b _ q fun z => z)]; exact q, fun b ps q => ⟨#[], by rw [upd_ne (hm b _ q fun z => z), q]; simp⟩⟩
  by_cases hbe : b = e
  · subst hbe; exact heo
  · exact ⟨u, k b u hbe q⟩
end

/-! ### the heap without what is tracked -/
def trk (h : Heap) (H : Hp) : List Addr := (List.range h.objs.size).filter fun a => (H a).isSome
def hidT (h : Heap) (H : Hp) : Heap := PySem.W.hideAll h (trk h H)
theorem hidT_size (h : Heap) (H : Hp) : (hidT h H).objs.size = h.objs.size := PySem.W.hideAll_size _ _
theorem hidT_get {h : Heap} {H : Hp} {b : Addr} {o : Obj} (e : h.get? b = some o) (n : H b = none) : (hidT h H).get? b = some o :=
  PySem.W.hideAll_get _ e fun hm => by
    have q : (H b).isSome = true := (List.mem_filter.mp hm).2
    rw [n] at q; simp at q
theorem of_hidT {h : Heap} {H : Hp} {b : Addr} {o : Obj} (e : (hidT h H).get? b = some o) : h.get? b = some o ∧ H b = none := by
  have e' : h.get? b = some o := PySem.W.of_hideAll (trk h H) e
  refine ⟨e', ?_⟩
  cases q : H b with
  | none => rfl
  | some x =>
    have hm : b ∈ trk h H := List.mem_filter.mpr ⟨List.mem_range.mpr (Heap.lt_size e'), by simp [q]⟩
    have z : (hidT h H).get? b = none := PySem.W.hideAll_none (trk h H) hm
    rw [z] at e; cases e

/-! ### OpenK's ledger, filled with every new object but one -/
end L2

namespace L2
open PySem PySem.Spec PyProof.Rows

structure Mod (K : PySem.W.Frag) (mg : Str → Option Value) (base : Heap) : Prop where
  kin : K.In base
  glob : base.Ns mainGlobals mg
  blt : ∃ mb, base.Ns builtinsNs mb ∧ ∀ x : Str, x ≠ "__name__" → mb x = bootBuiltins x
  nolimit : base.NoLimit

/-- the context: a def's body (or a comprehension's block) running. base: fixed through the whole law; s₀, H₀: the entry; outer: the frames whose slots others may change (a def's callers); stack: all frames that run;
   ex: iterators that were made ahead of the entry and are walked here (a comprehension's); fn: the names whose cells were made at the entry (a def: all; a comprehension's block: its own); calm: not within an except suite; pn: pins that every state bears; xe: what is wanted of an exception that leaves the code -/
structure Cx where
  prog : Program
  w : World
  K : PySem.W.Frag
  mg : Str → Option Value
  base : Heap
  A : Around
  N : List Str
  s₀ : Shared
  H₀ : Hp
  env : Env
  outer : List Env
  stack : List Env
  ex : List Addr
  fn : Str → Bool
  calm : Bool
  pn : List (Addr × Obj)
  xe : Value → Shared → Prop
def frs (l : List Env) : List Addr := l.filterMap (·.frame)
abbrev Cx.fs (X : Cx) : List Addr := frs X.outer

def Vis (sc : Scope) (x : Str) : Prop := sc.names.lookup x = some .local ∨ sc.names.lookup x = some .cell ∨ sc.names.lookup x = some .free
def Loc (sc : Scope) (x : Str) : Prop := sc.names.lookup x = some .local ∨ sc.names.lookup x = some .cell
def Look (env : Env) (h : Heap) (m : Str → Option Value) (x : Str) (u : Value) : Prop :=
  (env.kindOf x = some .local ∧ m x = some u) ∨ ((env.kindOf x = some .cell ∨ env.kindOf x = some .free) ∧ ∃ c, env.cells.lookup x = some c ∧ h.IsCell c (some u))

structure Cx.Ok (X : Cx) : Prop where
  mod : Mod X.K X.mg X.base
  kind : X.env.scope.kind = .function
  glob : X.env.globals = mainGlobals
  blt : X.env.builtins = builtinsNs
  above : X.s₀.heap.objs.size ≤ X.env.locals
  inj : ∀ x y c, X.env.cells.lookup x = some c → X.env.cells.lookup y = some c → x = y
  has : ∀ x, (X.env.kindOf x = some .cell ∨ X.env.kindOf x = some .free) → ∃ c, X.env.cells.lookup x = some c
  cab : ∀ x c, X.fn x = true → X.env.cells.lookup x = some c → X.s₀.heap.objs.size ≤ c
  hd : X.calm = true → X.A.handled = none
  frames : X.A.frames = some X.stack
  stk : X.stack = X.outer ∨ (X.stack = X.env :: X.outer ∧ X.env.frame = some X.env.locals)
  exf : ∀ b ∈ X.ex, b ≠ X.env.locals ∧ ∀ x c, X.env.cells.lookup x = some c → c ≠ b
  bs : ∀ b o, X.base.get? b = some o → X.s₀.heap.get? b = some o ∧ X.H₀ b = none
  bsz : X.base.objs.size ≤ X.s₀.heap.objs.size
  noex : ∀ b o, X.base.get? b = some o → b ∉ X.ex
  exfs : ∀ b ∈ X.ex, b ∉ X.fs
  funs : X.s₀.heap.FunFrames X.base X.outer
  frf : ∀ b ∈ X.fs, X.H₀ b = none

structure Inv (X : Cx) (pins : List (Addr × Obj)) (σ : List (Option V)) (H : Hp) (s : Shared) : Prop where
  ok : X.Ok
  os : s.os = X.s₀.os
  bare : AllBare s.gens
  base : Un X.fs X.ex X.H₀ H X.s₀.heap s.heap
  loc : ∃ m, s.heap.Ns X.env.locals m ∧ ∀ (i : Nat) (x : Str) (v : V), X.N[i]? = some x → σ[i]? = some (some v) → Vis X.env.scope x → ∃ u, RelV v u ∧ Look X.env s.heap m x u
  cell : ∀ x c, X.env.cells.lookup x = some c → ∃ v, s.heap.IsCell c v
  free : H X.env.locals = none
  freeC : ∀ x c, X.env.cells.lookup x = some c → H c = none
  pin : ∀ p ∈ X.pn ++ pins, s.heap.get? p.1 = some p.2 ∧ H p.1 = none ∧ p.1 ≠ X.env.locals ∧ p.1 ∉ X.fs ∧ ∀ v, p.2.data ≠ .cell v
  hok : HOk X.prog X.w H s.heap
  len : σ.length = X.N.length

section
variable {X : Cx} {pins : List (Addr × Obj)} {σ : List (Option V)} {H H' : Hp} {s : Shared} {h' : Heap}

theorem Cx.Ok.nofr (ok : X.Ok) {b : Addr} {o : Obj} (e : X.base.get? b = some o) : b ∉ X.fs := fun hb => by
  have := (ok.funs.mem hb).1
  rw [e] at this; cases this
theorem Inv.bs (I : Inv X pins σ H s) : ∀ b o, X.base.get? b = some o → s.heap.get? b = some o ∧ H b = none := fun b o e =>
  ⟨I.base.keep b o (I.ok.bs b o e).1 (I.ok.bs b o e).2 (I.ok.nofr e) (I.ok.noex b o e), I.base.free b o (I.ok.bs b o e).1 (I.ok.bs b o e).2 (I.ok.noex b o e)⟩
theorem Inv.bk (I : Inv X pins σ H s) : ∀ b o, X.base.get? b = some o → s.heap.get? b = some o := fun b o e => (I.bs b o e).1
theorem Inv.mod (I : Inv X pins σ H s) : Mod X.K X.mg X.base := I.ok.mod
theorem Inv.kIn (I : Inv X pins σ H s) : X.K.In s.heap := I.ok.mod.kin.keeps I.bk
theorem Inv.lt (I : Inv X pins σ H s) : X.env.locals < s.heap.objs.size := let ⟨_, hn, _⟩ := I.loc; hn.lt
theorem Inv.sz (I : Inv X pins σ H s) : X.s₀.heap.objs.size ≤ s.heap.objs.size := Nat.le_trans I.ok.above (Nat.le_of_lt I.lt)
theorem Inv.nofs (I : Inv X pins σ H s) {a : Addr} (h : s.heap.objs.size ≤ a) : a ∉ X.fs := fun hb => by
  obtain ⟨_, o, ho, _⟩ := I.ok.funs.mem hb
  exact absurd (Nat.lt_of_lt_of_le (Heap.lt_size ho) (Nat.le_trans I.sz h)) (Nat.lt_irrefl _)
theorem Inv.cne (I : Inv X pins σ H s) : ∀ x c, X.env.cells.lookup x = some c → c ≠ X.env.locals := fun x c e z => by
  obtain ⟨v, o, ho, hd⟩ := I.cell x c e
  obtain ⟨m, ⟨o', es, ep, ho', hd', _⟩, _⟩ := I.loc
  rw [z, ho'] at ho; cases ho; rw [hd'] at hd; cases hd
theorem Inv.funs (I : Inv X pins σ H s) : s.heap.FunFrames X.base X.outer := by
  have all : ∀ (l : List Env), (∀ b ∈ frs l, b ∈ X.fs) → X.s₀.heap.FunFrames X.base l → s.heap.FunFrames X.base l := by
    intro l
    induction l with
    | nil => intro _ _; trivial
    | cons env r ih =>
      intro hs hl
      obtain ⟨hk, ⟨L, o, hf, hn, ho, hd⟩, hr⟩ := hl
      have hL : L ∈ X.fs := hs L (by unfold frs; rw [List.filterMap_cons, hf]; exact List.mem_cons_self)
      obtain ⟨sl, e⟩ := I.base.slot L o ho (I.ok.frf L hL) hL fun z => I.ok.exfs L z hL
      exact ⟨hk, ⟨L, _, hf, hn, e, hd⟩, ih (fun b hb => hs b (by unfold frs; rw [List.filterMap_cons, hf]; exact List.mem_cons_of_mem _ hb)) hr⟩
  exact all X.outer (fun _ hb => hb) I.ok.funs

theorem Inv.stack (I : Inv X pins σ H s) : s.heap.FunFrames X.base X.stack := by
  rcases I.ok.stk with e | ⟨e, hf⟩
  · rw [e]; exact I.funs
  · rw [e]
    obtain ⟨m, hn, _⟩ := I.loc
    refine .cons (by rw [I.ok.kind]; decide) hf hn ?_ I.funs
    exact Heap.get?_none_of_le (Nat.le_trans I.ok.bsz I.ok.above)
theorem Inv.stkSub (I : Inv X pins σ H s) : ∀ b ∈ frs X.stack, b ∈ X.env.locals :: X.fs := fun b hb => by
  rcases I.ok.stk with e | ⟨e, hf⟩
  · rw [e] at hb; exact List.mem_cons_of_mem _ hb
  · rw [e] at hb
    unfold frs at hb
    rw [List.filterMap_cons, hf] at hb
    exact hb
theorem Inv.stkFree (I : Inv X pins σ H s) : ∀ b ∈ frs X.stack, H b = none := fun b hb => by
  rcases List.mem_cons.mp (I.stkSub b hb) with e | hb
  · rw [e]; exact I.free
  · obtain ⟨_, o, ho, _⟩ := I.ok.funs.mem hb
    exact I.base.free b o ho (I.ok.frf b hb) fun z => I.ok.exfs b z hb

theorem Inv.step {g' : Array GenState} {t' : Nat} {d' : Drawn} {ch : List Addr} (I : Inv X pins σ H s)
    (hch : ∀ b ∈ ch, (b ∈ X.ex ∨ X.s₀.heap.objs.size ≤ b) ∧ b ≠ X.env.locals ∧ (∀ x c, X.env.cells.lookup x = some c → c ≠ b) ∧ ∀ p ∈ X.pn ++ pins, p.1 ≠ b)
    (keep : ∀ b o, b ≠ X.env.locals → b ∉ X.fs → b ∉ ch → s.heap.get? b = some o → H b = none → h'.get? b = some o)
    (slot : ∀ b o, b ≠ X.env.locals → b ∈ X.fs → b ∉ ch → s.heap.get? b = some o → H b = none → ∃ sl, h'.get? b = some { o with slots := sl }) (free : ∀ b o, b ∉ ch → s.heap.get? b = some o → H b = none → H' b = none)
    (there : ∀ b o, b ∉ ch → s.heap.get? b = some o → ∃ o', h'.get? b = some o')
    (tups : ∀ b xs, H b = some (.tup xs) → H' b = some (.tup xs)) (frzs : ∀ b o u, H b = some (.frz o u) → H' b = some (.frz o u)) (tbls : ∀ b ps, H b = some (.tbl ps) → ∃ more, H' b = some (.tbl (ps ++ more)))
    (ns : ∀ m, s.heap.Ns X.env.locals m → h'.Ns X.env.locals m) (hok : HOk X.prog X.w H' h') (hg : AllBare g') :
    Inv X pins σ H' { s with heap := h', gens := g', drawn := d', toks := t' } := by
  have neL : ∀ b o, X.s₀.heap.get? b = some o → b ≠ X.env.locals := fun b o e => Nat.ne_of_lt (Nat.lt_of_lt_of_le (Heap.lt_size e) I.ok.above)
  have neC : ∀ b o, X.s₀.heap.get? b = some o → b ∉ X.ex → b ∉ ch := fun b o e hx hb => by
    rcases (hch b hb).1 with z | z
    · exact hx z
    · exact absurd (Nat.lt_of_lt_of_le (Heap.lt_size e) z) (Nat.lt_irrefl _)
  have cellK : ∀ x c, X.env.cells.lookup x = some c → ∀ v, s.heap.IsCell c v → h'.IsCell c v := fun x c e v ⟨o, ho, hd⟩ => by
    have nch : c ∉ ch := fun z => (hch c z).2.2.1 x c e rfl
    by_cases hc : c ∈ X.fs
    · obtain ⟨sl, q⟩ := slot c o (I.cne x c e) hc nch ho (I.freeC x c e)
      exact ⟨_, q, hd⟩
    · exact ⟨o, keep c o (I.cne x c e) hc nch ho (I.freeC x c e), hd⟩
  refine ⟨I.ok, I.os, hg, ⟨fun b o e n hb hx => ?_, fun b o e n hb hx => ?_, fun b o e n hx => ?_, fun b o e hx => ?_, fun b xs e => tups b xs (I.base.tups b xs e), fun b o xs e => frzs b o xs (I.base.frzs b o xs e), fun b ps e => ?_⟩, ?_, fun x c e => ?_, ?_, fun x c e => ?_, fun p hp => ?_, hok, I.len⟩
  · exact keep b o (neL b o e) hb (neC b o e hx) (I.base.keep b o e n hb hx) (I.base.free b o e n hx)
  · obtain ⟨sl, e1⟩ := I.base.slot b o e n hb hx
    obtain ⟨sl', e2⟩ := slot b _ (neL b o e) hb (neC b o e hx) e1 (I.base.free b o e n hx)
    exact ⟨sl', e2⟩
  · obtain ⟨o', e1⟩ := I.base.there b o e hx
    exact free b o' (neC b o e hx) e1 (I.base.free b o e n hx)
  · obtain ⟨o', e1⟩ := I.base.there b o e hx
    exact there b o' (neC b o e hx) e1
  · obtain ⟨m1, e1⟩ := I.base.tbls b ps e
    obtain ⟨m2, e2⟩ := tbls b _ e1
    exact ⟨m1 ++ m2, by rw [e2, Array.append_assoc]⟩
  · obtain ⟨m, hn, hl⟩ := I.loc
    refine ⟨m, ns m hn, fun i x v e1 e2 e3 => ?_⟩
    obtain ⟨u, r, l⟩ := hl i x v e1 e2 e3
    refine ⟨u, r, ?_⟩
    rcases l with l | ⟨k, c, e, z⟩
    · exact .inl l
    · exact .inr ⟨k, c, e, cellK x c e _ z⟩
  · obtain ⟨v, z⟩ := I.cell x c e
    exact ⟨v, cellK x c e v z⟩
  · obtain ⟨m, ⟨o, _, _, ho, _⟩, _⟩ := I.loc
    exact free _ o (fun z => (hch _ z).2.1 rfl) ho I.free
  · obtain ⟨v, o, ho, hd⟩ := I.cell x c e
    exact free c o (fun z => (hch c z).2.2.1 x c e rfl) ho (I.freeC x c e)
  · obtain ⟨e, n, ne, nf, d⟩ := I.pin p hp
    have nch : p.1 ∉ ch := fun z => (hch p.1 z).2.2.2 p hp rfl
    exact ⟨keep p.1 p.2 ne nf nch e n, free p.1 p.2 nch e n, ne, nf, d⟩
theorem Inv.un {t' : Nat} (I : Inv X pins σ H s) (u : Un X.fs [] H H' s.heap h') (hok : HOk X.prog X.w H' h') : Inv X pins σ H' { s with heap := h', toks := t' } := by
  obtain ⟨m, ⟨o, es, ep, ho, r⟩, _⟩ := id I.loc
  obtain ⟨sl, hL⟩ := u.any ho I.free (by simp)
  exact I.step (g' := s.gens) (d' := s.drawn) (ch := []) (fun _ z => nomatch z) (fun b o _ hb _ e n => u.keep b o e n hb (by simp)) (fun b o _ hb _ e n => u.slot b o e n hb (by simp)) (fun b o _ e n => u.free b o e n (by simp)) (fun b o _ e => u.there b o e (by simp)) u.tups u.frzs u.tbls (fun m' hm => by
    obtain ⟨o', es', ep', ho', r'⟩ := hm
    rw [ho] at ho'; cases ho'
    exact ⟨_, es', ep', hL, r'⟩) hok I.bare
theorem Inv.call {g' : Array GenState} {t' : Nat} {d' : Drawn} {ch : List Addr} (I : Inv X pins σ H s) (u : Un (frs X.stack) ch H H' s.heap h') (hok : HOk X.prog X.w H' h') (hg : AllBare g')
    (hch : ∀ b ∈ ch, (b ∈ X.ex ∨ X.s₀.heap.objs.size ≤ b) ∧ b ≠ X.env.locals ∧ (∀ x c, X.env.cells.lookup x = some c → c ≠ b) ∧ ∀ p ∈ X.pn ++ pins, p.1 ≠ b) :
    Inv X pins σ H' { s with heap := h', gens := g', drawn := d', toks := t' } := by
  obtain ⟨m, ⟨o, es, ep, ho, r⟩, _⟩ := id I.loc
  obtain ⟨sl, hL⟩ := u.any ho I.free fun z => (hch _ z).2.1 rfl
  exact I.step (ch := ch) hch (fun b o hL hb hc e n => u.keep b o e n (fun z => (List.mem_cons.mp (I.stkSub b z)).elim hL hb) hc) (fun b o _ _ hc e n => u.any e n hc) (fun b o hc e n => u.free b o e n hc) (fun b o hc e => u.there b o e hc) u.tups u.frzs u.tbls (fun m' hm => by
    obtain ⟨o', es', ep', ho', r'⟩ := hm
    rw [ho] at ho'; cases ho'
    exact ⟨_, es', ep', hL, r'⟩) hok hg
theorem Inv.turned {t' : Nat} {it : Addr} (I : Inv X pins σ H s) (k : ∀ b o, b ≠ it → s.heap.get? b = some o → h'.get? b = some o) (hn : H it = none) (hL : it ≠ X.env.locals)
    (h1 : it ∈ X.ex ∨ X.s₀.heap.objs.size ≤ it) (h2 : ∀ x c, X.env.cells.lookup x = some c → c ≠ it) (h3 : ∀ p ∈ X.pn ++ pins, p.1 ≠ it) : Inv X pins σ H { s with heap := h', toks := t' } := by
  have nit : ∀ b u, H b = some u → b ≠ it := fun b u e z => by rw [z, hn] at e; cases e
  refine I.step (g' := s.gens) (d' := s.drawn) (ch := [it]) (fun b hb => ?_) (fun b o _ _ hc e _ => k b o (fun z => hc (by simp [z])) e) (fun b o _ _ hc e _ => ⟨o.slots, k b o (fun z => hc (by simp [z])) e⟩) (fun _ _ _ _ n => n)
    (fun b o hc e => ⟨o, k b o (fun z => hc (by simp [z])) e⟩) (fun _ _ e => e) (fun _ _ _ e => e) (fun b ps e => ⟨#[], by rw [e]; simp⟩) (fun m hm => ?_) (fun b u e => ?_) I.bare
  · have e : b = it := by simpa using hb
    subst e
    exact ⟨h1, hL, h2, h3⟩
  · obtain ⟨o, es, ep, ho, r⟩ := hm
    exact ⟨o, es, ep, k _ o (Ne.symm hL) ho, r⟩
  · refine (I.hok b u e).stay (fun c v hc q => k c v ?_ q) (fun _ q => q) fun _ _ q => q
    rcases hc with z | z
    · rw [z]; exact nit b u e
    · exact nit c _ z
theorem Inv.tok (I : Inv X pins σ H s) (t : Nat) : Inv X pins σ H { s with toks := t } := I.un (h' := s.heap) (t' := t) Un.refl I.hok
theorem Inv.kept {t' : Nat} (I : Inv X pins σ H s) (k : ∀ b u, s.heap.get? b = some u → h'.get? b = some u) : Inv X pins σ H { s with heap := h', toks := t' } := I.un (Un.kept k) (I.hok.kept k)
theorem Inv.laid {a : Addr} {o : HO} {t' : Nat} (I : Inv X pins σ H s) (k : ∀ b u, s.heap.get? b = some u → h'.get? b = some u) (hp : s.heap.objs.size ≤ a) (new : ObjOk X.prog X.w (upd H a o) h' a o) :
    Inv X pins σ (upd H a o) { s with heap := h', toks := t' } := I.un (Un.laid k hp (I.hok.fresh hp)) (I.hok.laid k hp new)
theorem Inv.write {x e : Addr} {o : HO} {t' : Nat} (I : Inv X pins σ H s) (mu : Mut (H x)) (he : e = x ∨ H e = some (.own x)) (k : ∀ b u, b ≠ e → s.heap.get? b = some u → h'.get? b = some u) (heo : ∃ u, h'.get? e = some u)
    (new : ObjOk X.prog X.w (upd H x o) h' x o) : Inv X pins σ (upd H x o) { s with heap := h', toks := t' } := I.un (Un.write mu he k heo) (I.hok.write mu he k heo new)
theorem Inv.weak {σ' : List (Option V)} (I : Inv X pins σ H s) (hl : σ'.length = σ.length) (w : ∀ (i : Nat) v, σ'[i]? = some (some v) → σ[i]? = some (some v)) : Inv X pins σ' H s :=
  ⟨I.ok, I.os, I.bare, I.base, let ⟨m, hn, hl'⟩ := I.loc; ⟨m, hn, fun i x v e1 e2 e3 => hl' i x v e1 (w i v e2) e3⟩, I.cell, I.free, I.freeC, I.pin, I.hok, hl.trans I.len⟩
theorem Inv.pins_of {pins' : List (Addr × Obj)} (I : Inv X pins σ H s) (h : ∀ p ∈ pins', s.heap.get? p.1 = some p.2 ∧ H p.1 = none ∧ p.1 ≠ X.env.locals ∧ p.1 ∉ X.fs ∧ ∀ v, p.2.data ≠ .cell v) : Inv X pins' σ H s :=
  ⟨I.ok, I.os, I.bare, I.base, I.loc, I.cell, I.free, I.freeC, fun p hp => (List.mem_append.mp hp).elim (fun z => I.pin p (List.mem_append_left _ z)) (h p), I.hok, I.len⟩

theorem nodup_ix {N : List Str} (hN : N.Nodup) {i j : Nat} {x : Str} (a : N[i]? = some x) (b : N[j]? = some x) : i = j := by
  obtain ⟨h1, e1⟩ := List.getElem?_eq_some_iff.mp a
  obtain ⟨h2, e2⟩ := List.getElem?_eq_some_iff.mp b
  exact (List.getElem_inj hN).mp (e1.trans e2.symm)

theorem store_ok2 {M : Model} {A : Around} {E : Value → Shared → Prop} {i : Nat} {x : Str} {v : V} {u : Value} {Q : Unit → Shared → Prop} (I : Inv X pins σ H s) (hN : X.N.Nodup) (hi : X.N[i]? = some x) (hx : Loc X.env.scope x) (r : RelV v u)
    (h : ∀ s', Inv X pins (σ.set i (some v)) H s' → (∃ a, Heap.SameBut a s.heap s'.heap ∧ (a = X.env.locals ∨ X.env.cells.lookup x = some a)) → Q () s') (hf : X.fn x = true ∨ X.env.scope.names.lookup x = some .local := by first | exact .inl rfl | exact .inr rfl | assumption) : wpAny M A (storeName X.env x u) Q E s := by
  obtain ⟨m, hn, hl⟩ := id I.loc
  have hcls : (X.env.scope.kind == .class || (X.env.scope.kind == .module && X.env.locals != X.env.globals)) = false := by rw [I.ok.kind]; rfl
  have hiσ : i < σ.length := by rw [I.len]; exact (List.getElem?_eq_some_iff.mp hi).1
  have cne := I.cne
  have tracked : ∀ {a : Addr} {h' : Heap}, (∃ o, s.heap.get? a = some o ∧ H a = none) → Heap.SameBut a s.heap h' → HOk X.prog X.w H h' := fun {a h'} ha hs b ob e => by
    obtain ⟨_, _, hfree⟩ := ha
    refine (I.hok b ob e).stay (fun c w' hc q => (hs.2 c ?_).trans q) (fun _ q => q) fun _ _ q => q
    rintro rfl
    rcases hc with rfl | hc
    · rw [hfree] at e; cases e
    · rw [hfree] at hc; cases hc
  rcases hx with hk | hk
  · refine wpAny_storeName_local hk hn (fun h' hn' hs => ?_) hcls
    obtain ⟨oL, _, _, hoL, _⟩ := id hn
    refine h _ ⟨I.ok, I.os, I.bare, ⟨fun b o e n hb hx => ?_, fun b o e n hb hx => ?_, I.base.free, fun b o e hx => ?_, I.base.tups, I.base.frzs, I.base.tbls⟩, ⟨_, hn', fun j y v' e1 e2 e3 => ?_⟩, fun y c e => ?_, I.free, I.freeC, fun p hp => ?_, tracked ⟨oL, hoL, I.free⟩ hs, by simpa using I.len⟩ ⟨_, hs, .inl rfl⟩
    · exact (hs.2 b (Nat.ne_of_lt (Nat.lt_of_lt_of_le (Heap.lt_size e) I.ok.above))).trans (I.base.keep b o e n hb hx)
    · obtain ⟨sl, e1⟩ := I.base.slot b o e n hb hx
      exact ⟨sl, (hs.2 b (Nat.ne_of_lt (Nat.lt_of_lt_of_le (Heap.lt_size e) I.ok.above))).trans e1⟩
    · obtain ⟨o', e1⟩ := I.base.there b o e hx
      exact ⟨o', (hs.2 b (Nat.ne_of_lt (Nat.lt_of_lt_of_le (Heap.lt_size e) I.ok.above))).trans e1⟩
    · by_cases hj : j = i
      · subst hj
        rw [hi] at e1; cases e1
        rw [List.getElem?_set_self hiσ] at e2
        cases e2
        exact ⟨u, r, .inl ⟨hk, by simp⟩⟩
      · rw [List.getElem?_set_ne (Ne.symm hj)] at e2
        obtain ⟨u', r', q⟩ := hl j y v' e1 e2 e3
        refine ⟨u', r', ?_⟩
        rcases q with ⟨k, e⟩ | ⟨k, c, e, z⟩
        · refine .inl ⟨k, ?_⟩
          have : y ≠ x := fun e => hj (nodup_ix hN e1 (e ▸ hi))
          simp [this, e]
        · exact .inr ⟨k, c, e, z.sameBut hs (cne y c e)⟩
    · obtain ⟨w', z⟩ := I.cell y c e
      exact ⟨w', z.sameBut hs (cne y c e)⟩
    · obtain ⟨e, n, ne, nf, d⟩ := I.pin p hp
      exact ⟨(hs.2 p.1 ne).trans e, n, ne, nf, d⟩
  · have hfn : X.fn x = true := by
      rcases hf with z | z
      · exact z
      · rw [z] at hk; cases hk
    obtain ⟨c, hc⟩ := I.ok.has x (.inl hk)
    obtain ⟨w', z⟩ := I.cell x c hc
    refine wpAny_storeName_cell I.ok.kind hk hc z (fun h' hc' hs => ?_)
    obtain ⟨oc, hoc, hocd⟩ := id z
    refine h { s with heap := h' } ⟨I.ok, I.os, I.bare, ⟨fun b o e n hb hx => ?_, fun b o e n hb hx => ?_, I.base.free, fun b o e hx => ?_, I.base.tups, I.base.frzs, I.base.tbls⟩, ⟨m, hn.sameBut hs (Ne.symm (cne x c hc)), fun j y v' e1 e2 e3 => ?_⟩, fun y c' e => ?_, I.free, I.freeC, fun p hp => ?_, tracked ⟨oc, hoc, I.freeC x c hc⟩ hs, by simpa using I.len⟩ ⟨c, hs, .inr hc⟩
    · exact (hs.2 b (Nat.ne_of_lt (Nat.lt_of_lt_of_le (Heap.lt_size e) (I.ok.cab x c hfn hc)))).trans (I.base.keep b o e n hb hx)
    · obtain ⟨sl, e1⟩ := I.base.slot b o e n hb hx
      exact ⟨sl, (hs.2 b (Nat.ne_of_lt (Nat.lt_of_lt_of_le (Heap.lt_size e) (I.ok.cab x c hfn hc)))).trans e1⟩
    · obtain ⟨o', e1⟩ := I.base.there b o e hx
      exact ⟨o', (hs.2 b (Nat.ne_of_lt (Nat.lt_of_lt_of_le (Heap.lt_size e) (I.ok.cab x c hfn hc)))).trans e1⟩
    · by_cases hj : j = i
      · subst hj
        rw [hi] at e1; cases e1
        rw [List.getElem?_set_self hiσ] at e2
        cases e2
        exact ⟨u, r, .inr ⟨.inl hk, c, hc, hc'⟩⟩
      · rw [List.getElem?_set_ne (Ne.symm hj)] at e2
        obtain ⟨u', r', q⟩ := hl j y v' e1 e2 e3
        refine ⟨u', r', ?_⟩
        rcases q with q | ⟨k, c', e, z'⟩
        · exact .inl q
        · refine .inr ⟨k, c', e, z'.sameBut hs ?_⟩
          rintro rfl
          exact hj (nodup_ix hN e1 (I.ok.inj _ _ _ e hc ▸ hi))
    · by_cases hcc : c' = c
      · subst hcc; exact ⟨_, hc'⟩
      · obtain ⟨w2, z2⟩ := I.cell y c' e
        exact ⟨w2, z2.sameBut hs hcc⟩
    · obtain ⟨e, n, ne, nf, d⟩ := I.pin p hp
      refine ⟨(hs.2 p.1 ?_).trans e, n, ne, nf, d⟩
      intro q
      rw [q, hoc] at e
      have q' : oc = p.2 := Option.some.inj e
      exact d w' (by rw [← q']; exact hocd)
theorem store_ok {M : Model} {A : Around} {E : Value → Shared → Prop} {i : Nat} {x : Str} {v : V} {u : Value} {Q : Unit → Shared → Prop} (I : Inv X pins σ H s) (hN : X.N.Nodup) (hi : X.N[i]? = some x) (hx : Loc X.env.scope x) (r : RelV v u)
    (h : ∀ s', Inv X pins (σ.set i (some v)) H s' → Q () s') (hf : X.fn x = true ∨ X.env.scope.names.lookup x = some .local := by first | exact .inl rfl | exact .inr rfl | assumption) : wpAny M A (storeName X.env x u) Q E s :=
  store_ok2 I hN hi hx r (fun s' I' _ => h s' I') hf
theorem Inv.call' {s' : Shared} {ch : List Addr} (I : Inv X pins σ H s) (ho : s'.os = s.os) (u : Un (frs X.stack) ch H H' s.heap s'.heap) (hok : HOk X.prog X.w H' s'.heap) (hg : AllBare s'.gens)
    (hch : ∀ b ∈ ch, (b ∈ X.ex ∨ X.s₀.heap.objs.size ≤ b) ∧ b ≠ X.env.locals ∧ (∀ x c, X.env.cells.lookup x = some c → c ≠ b) ∧ ∀ p ∈ X.pn ++ pins, p.1 ≠ b) : Inv X pins σ H' s' := by
  obtain ⟨h', g', d', t', o'⟩ := s'
  have e : o' = s.os := ho
  subst e
  exact I.call (g' := g') (t' := t') (d' := d') u hok hg hch
end

/-! ### the judgements -/
abbrev XK := Value → Option Addr → Hp → Prop
abbrev St := List (Option V)
abbrev VK := V → Hp → Prop
abbrev TE := St → Hp → VK → Prop
abbrev TT := St → Hp → (Bool → Hp → Prop) → Prop
abbrev TA := St → Hp → (List V → Hp → Prop) → Prop
structure Ends where
  nx : St → Hp → Prop
  rt : VK
  bk : St → Hp → Prop := fun _ _ => False
  ct : St → Hp → Prop := fun _ _ => False
abbrev TS := Ends → St → Hp → Prop

def EP (X : Cx) (pins : List (Addr × Obj)) (σ : St) (Q : VK) (u : Value) (s' : Shared) : Prop := ∃ v H', Inv X pins σ H' s' ∧ RelV v u ∧ Q v H'
def TP (X : Cx) (pins : List (Addr × Obj)) (σ : St) (Q : Bool → Hp → Prop) (b : Bool) (s' : Shared) : Prop := ∃ H', Inv X pins σ H' s' ∧ Q b H'
def AP (X : Cx) (pins : List (Addr × Obj)) (σ : St) (Q : List V → Hp → Prop) (us : List Value) (s' : Shared) : Prop := ∃ vs H', Inv X pins σ H' s' ∧ Vals vs us ∧ Q vs H'
def SP (X : Cx) (pins : List (Addr × Obj)) (D : Ends) (f : Flow) (s' : Shared) : Prop :=
  match f with
  | .next => ∃ σ' H', Inv X pins σ' H' s' ∧ D.nx σ' H'
  | .brk => ∃ σ' H', Inv X pins σ' H' s' ∧ D.bk σ' H'
  | .cont => ∃ σ' H', Inv X pins σ' H' s' ∧ D.ct σ' H'
  | .ret u => ∃ v σ' H', Inv X pins σ' H' s' ∧ RelV v u ∧ D.rt v H'

def PE (X : Cx) (e : Expr) (t : TE) : Prop :=
  ∀ (pins : List (Addr × Obj)) (s : Shared) (σ : St) (H : Hp) (Q : VK), Inv X pins σ H s → t σ H Q → wpAny (model X.prog X.w) X.A (eval e X.env) (EP X pins σ Q) X.xe s
def PT (X : Cx) (e : Expr) (t : TT) : Prop :=
  ∀ (pins : List (Addr × Obj)) (s : Shared) (σ : St) (H : Hp) (Q : Bool → Hp → Prop), Inv X pins σ H s → t σ H Q → wpAny (model X.prog X.w) X.A (isTrue e X.env (eval e X.env)) (TP X pins σ Q) X.xe s
def PW (X : Cx) (e : Expr) (t : TT) : Prop :=
  ∀ (whole : Sem Value) (pins : List (Addr × Obj)) (s : Shared) (σ : St) (H : Hp) (Q : Bool → Hp → Prop), Inv X pins σ H s → t σ H Q → wpAny (model X.prog X.w) X.A (isTrue e X.env whole) (TP X pins σ Q) X.xe s
theorem PW.pt {X : Cx} {e : Expr} {t : TT} (h : PW X e t) : PT X e t := h _
def PA (X : Cx) (es : List Expr) (t : TA) : Prop :=
  ∀ (pos : Pos) (pins : List (Addr × Obj)) (s : Shared) (σ : St) (H : Hp) (Q : List V → Hp → Prop), Inv X pins σ H s → t σ H Q → wpAny (model X.prog X.w) X.A (spliced (backTo pos (starEach es X.env))) (AP X pins σ Q) X.xe s
def PS (X : Cx) (st : Stmt) (t : TS) : Prop :=
  ∀ (pins : List (Addr × Obj)) (s : Shared) (σ : St) (H : Hp) (D : Ends), Inv X pins σ H s → t D σ H → wpAny (model X.prog X.w) X.A (exec st X.env) (SP X pins D) X.xe s
def PSs (X : Cx) (st : List Stmt) (t : TS) : Prop :=
  ∀ (pins : List (Addr × Obj)) (s : Shared) (σ : St) (H : Hp) (D : Ends), Inv X pins σ H s → t D σ H → wpAny (model X.prog X.w) X.A (execs st X.env) (SP X pins D) X.xe s
theorem thn {α : Type} {t : Sem α} {Q Q' : α → Shared → Prop} {M : Model} {A : Around} {E : Value → Shared → Prop} {s : Shared} (h : wpAny M A t Q E s) (hQ : ∀ a s, Q a s → Q' a s) : wpAny M A t Q' E s := wpAny_mono h hQ fun _ _ x => x
end L2

namespace L2
open PySem PySem.Spec PyProof.Rows
section
variable {X : Cx}


/-! ### names and constants -/
def tVar (i : Nat) : TE := fun σ H Q => ∃ v, σ[i]? = some (some v) ∧ Q v H
def tC (v : V) : TE := fun _ H Q => Q v H
theorem pe_var {i : Nat} {x : Str} {pos : Pos} (hN : X.N[i]? = some x) (hv : Vis X.env.scope x) (hd : (x == ("__debug__" : Str)) = false := by decide) (hcd : (x == ("__classdict__" : Str)) = false := by decide) : PE X (.Name x pos) (tVar i) := by
  intro pins s σ H Q I h
  obtain ⟨v, e, h⟩ := h
  obtain ⟨m, hn, hl⟩ := I.loc
  obtain ⟨u, r, l⟩ := hl i x v hN e hv
  have fin : EP X pins σ Q u s := ⟨v, H, I, r, h⟩
  rcases l with ⟨hk, hm⟩ | ⟨hk, c, hc, hcell⟩
  · exact wpAny_Name (wpAny_loadName_local I.ok.kind hk hn hm fin) hd
  · rcases hk with hk | hk
    · exact wpAny_Name (wpAny_loadName_cell I.ok.kind hk hc hcell fin) hd
    · exact wpAny_Name (wpAny_loadName_free I.ok.kind hk hc hcell fin hcd) hd
theorem pe_int {i j pos} : PE X (.Constant (.int i) j pos) (tC (.int i)) := fun _ _ _ H _ I h => wpAny_Constant_int ⟨.int i, H, I.tok _, ⟨_, rfl⟩, h⟩
theorem pe_bl {b j pos} : PE X (.Constant (.bool b) j pos) (tC (.bl b)) := fun _ _ _ H _ I h => Constant_bool ⟨.bl b, H, I, rfl, h⟩
theorem pe_str {x j pos} : PE X (.Constant (.str x) j pos) (tC (.str x)) := fun _ _ _ H _ I h => Calls.Constant_str ⟨.str x, H, I.tok _, ⟨_, rfl⟩, h⟩

def Gl (X : Cx) (x : Str) : Prop := X.env.kindOf x = some .globalImplicit
theorem ld_glob {E : Value → Shared → Prop} {pins : List (Addr × Obj)} {s : Shared} {σ : St} {H : Hp} {x : Str} {u : Value} {pos : Pos} {Q : Value → Shared → Prop} (I : Inv X pins σ H s) (hg : Gl X x) (hm : X.mg x = some u) (h : Q u s)
    (hd : (x == ("__debug__" : Str)) = false := by decide) : wpAny (model X.prog X.w) X.A (eval (.Name x pos) X.env) Q E s :=
  Calls.Name_function_global I.ok.kind hg (Calls.loadGlobal_global (by rw [I.ok.glob]; exact I.mod.glob.keeps I.bk) hm h) hd
theorem ld_blt {E : Value → Shared → Prop} {pins : List (Addr × Obj)} {s : Shared} {σ : St} {H : Hp} {x : Str} {u : Value} {pos : Pos} {Q : Value → Shared → Prop} (I : Inv X pins σ H s) (hg : Gl X x) (hm : X.mg x = none) (hv : bootBuiltins x = some u) (h : Q u s)
    (hn : x ≠ "__name__" := by decide) (hd : (x == ("__debug__" : Str)) = false := by decide) : wpAny (model X.prog X.w) X.A (eval (.Name x pos) X.env) Q E s := by
  obtain ⟨mb, h1, h2⟩ := I.mod.blt
  exact Calls.Name_function_global I.ok.kind hg (Calls.loadGlobal_builtin (by rw [I.ok.glob]; exact I.mod.glob.keeps I.bk) hm (by rw [I.ok.blt]; exact h1.keeps I.bk) ((h2 x hn).trans hv) h) hd
theorem pe_glob {x : Str} {v : V} {u : Value} {pos : Pos} (hg : Gl X x) (hm : X.mg x = some u) (r : RelV v u) (hd : (x == ("__debug__" : Str)) = false := by decide) : PE X (.Name x pos) (tC v) :=
  fun _ _ _ H _ I h => ld_glob I hg hm ⟨v, H, I, r, h⟩ hd
theorem pe_bltn {x : Str} {v : V} {u : Value} {pos : Pos} (hg : Gl X x) (hm : X.mg x = none) (hv : bootBuiltins x = some u) (r : RelV v u) (hn : x ≠ "__name__" := by decide) (hd : (x == ("__debug__" : Str)) = false := by decide) : PE X (.Name x pos) (tC v) :=
  fun _ _ _ H _ I h => ld_blt I hg hm hv ⟨v, H, I, r, h⟩ hn hd

/-! ### arithmetic -/
def t2I (ta tb : TE) (k : Int → Int → Hp → Prop) : St → Hp → Prop := fun σ H => ta σ H fun x H1 => tb σ H1 fun y H2 => ∃ i j, x = .int i ∧ y = .int j ∧ k i j H2
variable {a b : Expr} {ta tb : TE} {pos : Pos}

/-! ### comparisons -/
def tCmp (p : Int → Int → Bool) (ta tb : TE) : TE := fun σ H Q => t2I ta tb (fun i j H2 => Q (.bl (p i j)) H2) σ H
abbrev tLt : TE → TE → TE := tCmp fun i j => decide (i < j)
abbrev tLe : TE → TE → TE := tCmp fun i j => decide (i ≤ j)
abbrev tGt : TE → TE → TE := tCmp fun i j => decide (j < i)
abbrev tGe : TE → TE → TE := tCmp fun i j => decide (j ≤ i)
abbrev tEqI : TE → TE → TE := tCmp fun i j => decide (i = j)
abbrev tNeI : TE → TE → TE := tCmp fun i j => !decide (i = j)
def tB (t : TE) : TT := fun σ H Q => t σ H fun x H1 => ∃ c, x = .bl c ∧ Q c H1
theorem pt_val {e : Expr} {t : TE} (h : PE X e t) (he : ∀ whole, isTrue e X.env whole = (do let v ← whole; standAt e.pos; holding [v] (truthy v)) := by intro _; rfl) : PT X e (tB t) := by
  intro pins s σ H Q I hw
  refine isTrue_plain (thn (h pins s σ H _ I hw) fun v s1 ⟨x, H1, I1, r1, q1⟩ => ?_) (he _)
  obtain ⟨d, rfl, q⟩ := q1
  cases r1
  exact wpAny_truthy_bool ⟨H1, I1, q⟩

/-! ### and, or, not -/
variable {tA tB' : TT} {rest : List Expr}
def tAnd (t u : TT) : TT := fun σ H Q => t σ H fun c H1 => if c = true then u σ H1 Q else Q false H1
def tOr (t u : TT) : TT := fun σ H Q => t σ H fun c H1 => if c = true then Q true H1 else u σ H1 Q
def tNot (t : TT) : TT := fun σ H Q => t σ H fun c H1 => Q (!c) H1
theorem pw_and1 (ha : PT X a tA) : PW X (.BoolOp .And [a] pos) tA := by
  intro wh pins s σ H Q I h
  refine isTrue_and (thn (ha pins s σ H Q I h) fun c s1 e => ?_)
  cases c with
  | true => exact isTrue_and_nil e
  | false => exact e
theorem pw_or1 (ha : PT X a tA) : PW X (.BoolOp .Or [a] pos) tA := by
  intro wh pins s σ H Q I h
  refine isTrue_or (thn (ha pins s σ H Q I h) fun c s1 e => ?_)
  cases c with
  | false => exact isTrue_or_nil e
  | true => exact e
theorem pw_and (ha : PT X a tA) (hb : PW X (.BoolOp .And (b :: rest) pos) tB') : PW X (.BoolOp .And (a :: b :: rest) pos) (tAnd tA tB') := by
  intro wh pins s σ H Q I h
  refine isTrue_and (thn (ha pins s σ H _ I h) fun c s1 ⟨H1, I1, q1⟩ => ?_)
  cases c with
  | true => exact hb wh pins s1 σ H1 Q I1 q1
  | false => exact ⟨H1, I1, q1⟩
theorem pw_or (ha : PT X a tA) (hb : PW X (.BoolOp .Or (b :: rest) pos) tB') : PW X (.BoolOp .Or (a :: b :: rest) pos) (tOr tA tB') := by
  intro wh pins s σ H Q I h
  refine isTrue_or (thn (ha pins s σ H _ I h) fun c s1 ⟨H1, I1, q1⟩ => ?_)
  cases c with
  | true => exact ⟨H1, I1, q1⟩
  | false => exact hb wh pins s1 σ H1 Q I1 q1
theorem pt_not (ha : PT X a tA) : PT X (.UnaryOp .Not a pos) (tNot tA) := by
  intro pins s σ H Q I h
  exact isTrue_not (ha pins s σ H (fun c H1 => Q (!c) H1) I h)
def tAndV (ta tb : TE) : TE := fun σ H Q => ta σ H fun x H1 => ∃ c, x = .bl c ∧ if c = true then tb σ H1 Q else Q (.bl false) H1
def tNotV (ta : TE) : TE := fun σ H Q => ta σ H fun x H1 => ∃ c, x = .bl c ∧ Q (.bl (!c)) H1
theorem pe_one {op} {t : TE} (h : PE X a t) : PE X (.BoolOp op [a] pos) t := fun pins s σ H Q I hw => BoolOp_one (h pins s σ H Q I hw)
theorem pe_and (ha : PE X a ta) (hb : PE X (.BoolOp .And (b :: rest) pos) tb) : PE X (.BoolOp .And (a :: b :: rest) pos) (tAndV ta tb) := by
  intro pins s σ H Q I h
  refine BoolOp_and (thn (ha pins s σ H _ I h) fun v s1 ⟨x, H1, I1, r1, q1⟩ => ?_)
  obtain ⟨c, rfl, q1⟩ := q1
  cases r1
  refine wpAny_truthy_bool ?_
  cases c with
  | true => exact hb pins s1 σ H1 Q I1 q1
  | false => exact ⟨.bl false, H1, I1, rfl, q1⟩
theorem pe_not (ha : PE X a ta) : PE X (.UnaryOp .Not a pos) (tNotV ta) := by
  intro pins s σ H Q I h
  refine UnaryOp_ (thn (ha pins s σ H _ I h) fun v s1 ⟨x, H1, I1, r1, q1⟩ => ?_)
  obtain ⟨c, rfl, q1⟩ := q1
  cases r1
  exact not_of (wpAny_truthy_bool ⟨.bl (!c), H1, I1, rfl, q1⟩)
def tIf (t : TT) (ta tb : TE) : TE := fun σ H Q => t σ H fun c H1 => if c = true then ta σ H1 Q else tb σ H1 Q
theorem pe_ifExp {c : Expr} (hc : PT X c tA) (ha : PE X a ta) (hb : PE X b tb) : PE X (.IfExp c a b pos) (tIf tA ta tb) := by
  intro pins s σ H Q I h
  refine wpAny_IfExp (thn (hc pins s σ H _ I h) fun d s1 ⟨H1, I1, q1⟩ => ?_)
  cases d with
  | true => exact ha pins s1 σ H1 Q I1 q1
  | false => exact hb pins s1 σ H1 Q I1 q1
end
end L2

namespace L2
open PySem PySem.Spec PyProof.Rows

/-! ### a list, a tuple that is read: tracked, frozen, or an object of the module -/
def SqL (K : PySem.W.Frag) (H : Hp) (a : Addr) (xs : List V) : Prop :=
  Rd H a (.lst xs) ∨
    ∃ (o : Obj) (its : Array Value) (n : Nat), K.lookup a = some o ∧ o.cls = .type "list" ∧ o.dict = none ∧ o.data = .seq its n ∧ its.size ≤ sizeLine ∧ Vals xs its.toList
def SqT (K : PySem.W.Frag) (H : Hp) (a : Addr) (xs : List V) : Prop :=
  Rd H a (.tup xs) ∨
    ∃ (o : Obj) (its : Array Value) (n : Nat), K.lookup a = some o ∧ o.cls = .type "tuple" ∧ o.data = .seq its n ∧ its.size ≤ sizeLine ∧ Vals xs its.toList
def absV : Value → Option V
  | .none => some .non
  | .bool b => some (.bl b)
  | .int i _ => some (.int i)
  | .str x _ => some (.str x)
  | .bytes b _ => some (.byt b)
  | .float b _ => some (.flt b)
  | .ref a => some (.ref a)
  | .type n => some (.ty n)
  | _ => none
theorem RelV.abs {x : V} {u : Value} (r : RelV x u) : absV u = some x := by
  cases x with
  | non => cases r; rfl
  | bl _ => cases r; rfl
  | int _ => obtain ⟨t, rfl⟩ := r; rfl
  | str _ => obtain ⟨t, rfl⟩ := r; rfl
  | byt _ => obtain ⟨t, rfl⟩ := r; rfl
  | flt _ => obtain ⟨t, rfl⟩ := r; rfl
  | ref _ => cases r; rfl
  | ty _ => cases r; rfl
theorem RelV.inj {x y : V} {u : Value} (r : RelV x u) (q : RelV y u) : x = y := Option.some.inj (r.abs.symm.trans q.abs)
theorem Vals.inj : ∀ {xs ys : List V} {us : List Value}, Vals xs us → Vals ys us → xs = ys
  | _, _, _, .nil, .nil => rfl
  | _, _, _, .cons r t, .cons r' t' => by rw [r.inj r', Vals.inj t t']
section
variable {X : Cx} {pins : List (Addr × Obj)} {σ : St} {H : Hp} {s : Shared} {a : Addr} {xs ys : List V}
theorem SqL.of {K : PySem.W.Frag} (h : H a = some (.lst xs)) : SqL K H a xs := .inl (.inl h)
theorem SqT.of {K : PySem.W.Frag} (h : H a = some (.tup xs)) : SqT K H a xs := .inl (.inl h)
theorem Inv.list (I : Inv X pins σ H s) (h : SqL X.K H a xs) : ∃ its : List Value, Vals xs its ∧ PlainL s.heap a its.toArray ∧ xs.length ≤ sizeLine := by
  rcases h with h | ⟨o, its, n, hk, hc, hd, hs, hz, r⟩
  · obtain ⟨z, its, n, r, e⟩ := h.ok I.hok
    exact ⟨its, r, ⟨_, n, e, rfl, rfl, rfl⟩, z⟩
  · refine ⟨its.toList, r, ⟨o, n, I.kIn a o hk, hc, hd, by simpa using hs⟩, ?_⟩
    have e := r.length
    simp only [Array.length_toList] at e
    omega
theorem Inv.tuple (I : Inv X pins σ H s) (h : SqT X.K H a xs) : ∃ its : List Value, Vals xs its ∧ IsTup s.heap a its.toArray ∧ xs.length ≤ sizeLine := by
  rcases h with h | ⟨o, its, n, hk, hc, hs, hz, r⟩
  · obtain ⟨z, its, r, p⟩ := h.ok I.hok
    exact ⟨its, r, p, z⟩
  · refine ⟨its.toList, r, ⟨o, I.kIn a o hk, hc, n, by simpa using hs⟩, ?_⟩
    have e := r.length
    simp only [Array.length_toList] at e
    omega
theorem Inv.list_inj (I : Inv X pins σ H s) (h : SqL X.K H a xs) (h' : SqL X.K H a ys) : xs = ys := by
  obtain ⟨its, r, ⟨o, n, e, _, _, d⟩, _⟩ := I.list h
  obtain ⟨its', r', ⟨o', n', e', _, _, d'⟩, _⟩ := I.list h'
  rw [e] at e'; cases e'
  rw [d] at d'
  injection d' with d1 _
  have : its = its' := by simpa using congrArg Array.toList d1
  subst this
  exact r.inj r'
theorem Inv.tuple_inj (I : Inv X pins σ H s) (h : SqT X.K H a xs) (h' : SqT X.K H a ys) : xs = ys := by
  obtain ⟨its, r, ⟨o, e, _, n, d⟩, _⟩ := I.tuple h
  obtain ⟨its', r', ⟨o', e', _, n', d'⟩, _⟩ := I.tuple h'
  rw [e] at e'; cases e'
  rw [d] at d'
  injection d' with d1 _
  have : its = its' := by simpa using congrArg Array.toList d1
  subst this
  exact r.inj r'
end

/-! ### another wish about exceptions -/
abbrev Cx.wish (X : Cx) (E : Value → Shared → Prop) : Cx := { X with xe := E }
abbrev Cx.nox (X : Cx) : Cx := X.wish fun _ _ => False
theorem Cx.Ok.wish {X : Cx} (ok : X.Ok) (E : Value → Shared → Prop) : (X.wish E).Ok :=
  ⟨ok.mod, ok.kind, ok.glob, ok.blt, ok.above, ok.inj, ok.has, ok.cab, ok.hd, ok.frames, ok.stk, ok.exf, ok.bs, ok.bsz, ok.noex, ok.exfs, ok.funs, ok.frf⟩
theorem Cx.Ok.unwish {X : Cx} {E : Value → Shared → Prop} (ok : (X.wish E).Ok) : X.Ok :=
  ⟨ok.mod, ok.kind, ok.glob, ok.blt, ok.above, ok.inj, ok.has, ok.cab, ok.hd, ok.frames, ok.stk, ok.exf, ok.bs, ok.bsz, ok.noex, ok.exfs, ok.funs, ok.frf⟩
section
variable {X : Cx} {pins : List (Addr × Obj)} {σ : St} {H : Hp} {s : Shared} {E : Value → Shared → Prop}
theorem Inv.wish (I : Inv X pins σ H s) (E : Value → Shared → Prop) : Inv (X.wish E) pins σ H s := ⟨I.ok.wish E, I.os, I.bare, I.base, I.loc, I.cell, I.free, I.freeC, I.pin, I.hok, I.len⟩
theorem Inv.unwish (I : Inv (X.wish E) pins σ H s) : Inv X pins σ H s := ⟨I.ok.unwish, I.os, I.bare, I.base, I.loc, I.cell, I.free, I.freeC, I.pin, I.hok, I.len⟩
theorem SP.unwish {D : Ends} {f : Flow} {s' : Shared} (h : SP (X.wish E) pins D f s') : SP X pins D f s' := by
  cases f with
  | next => obtain ⟨σ', H', I, q⟩ := h; exact ⟨σ', H', I.unwish, q⟩
  | brk => obtain ⟨σ', H', I, q⟩ := h; exact ⟨σ', H', I.unwish, q⟩
  | cont => obtain ⟨σ', H', I, q⟩ := h; exact ⟨σ', H', I.unwish, q⟩
  | ret u => obtain ⟨v, σ', H', I, r, q⟩ := h; exact ⟨v, σ', H', I.unwish, r, q⟩
theorem PSs.nox {st : List Stmt} {t : TS} (h : PSs X.nox st t) : PSs X st t := fun pins s σ H D I hw =>
  wpAny_mono (h pins s σ H D (I.wish _) hw) (fun _ _ q => q.unwish) fun _ _ z => False.elim z
end

/-! ### blocks and small statements -/
section
variable {X : Cx} {st : Stmt} {rest : List Stmt} {t u : TS} {e : Expr} {te : TE} {pos : Pos}
def tNext : TS := fun D σ H => D.nx σ H
def tSeq (t u : TS) : TS := fun D σ H => t { D with nx := u D } σ H
theorem pss_nil : PSs X [] tNext := fun _ _ σ H _ I h => wpAny_execs_nil ⟨σ, H, I, h⟩
theorem pss_cons (h1 : PS X st t) (h2 : PSs X rest u) : PSs X (st :: rest) (tSeq t u) := by
  intro pins s σ H D I h
  refine wpAny_execs_cons (thn (h1 pins s σ H { D with nx := u D } I h) fun f s1 q => ?_)
  cases f with
  | next =>
    obtain ⟨σ', H', I', q⟩ := q
    exact h2 pins s1 σ' H' D I' q
  | ret v => exact q
  | brk => exact q
  | cont => exact q
theorem pss_one (h1 : PS X st t) : PSs X [st] t := by
  intro pins s σ H D I h
  refine wpAny_execs_cons (thn (h1 pins s σ H D I h) fun f s1 q => ?_)
  cases f with
  | next => exact wpAny_execs_nil q
  | ret v => exact q
  | brk => exact q
  | cont => exact q
theorem Inv.quiet {pins : List (Addr × Obj)} {σ : St} {H : Hp} {s : Shared} (I : Inv X pins σ H s) : interactive X.env = false := by simp [interactive, I.ok.kind]
def tDrop (te : TE) : TS := fun D σ H => te σ H fun _ H1 => D.nx σ H1
theorem ps_expr (he : PE X e te) (hs : swapsWith e none pos.line X.env = pure false := by rfl) : PS X (.Expr e pos) (tDrop te) := by
  intro pins s σ H D I h
  exact wpAny_Expr_any (thn (he pins s σ H _ I h) fun v s1 ⟨x, H1, I1, r1, q1⟩ => ⟨σ, H1, I1, q1⟩) I.quiet hs
def tRet (te : TE) : TS := fun D σ H => te σ H D.rt
theorem ps_ret (he : PE X e te) : PS X (.Return (some e) pos) (tRet te) := by
  intro pins s σ H D I h
  exact wpAny_Return_some (thn (he pins s σ H _ I h) fun v s1 ⟨x, H1, I1, r1, q1⟩ => ⟨x, σ, H1, I1, r1, q1⟩)
def tIfS (c : TT) (t u : TS) : TS := fun D σ H => c σ H fun b H1 => if b = true then t D σ H1 else u D σ H1
theorem ps_if {c : Expr} {a b : List Stmt} {tc : TT} (hc : PT X c tc) (ha : PSs X a t) (hb : PSs X b u) : PS X (.If c a b pos) (tIfS tc t u) := by
  intro pins s σ H D I h
  refine wpAny_If (thn (hc pins s σ H _ I h) fun d s1 ⟨H1, I1, q1⟩ => ?_)
  cases d with
  | true => exact ha pins s1 σ H1 D I1 q1
  | false => exact hb pins s1 σ H1 D I1 q1
end

/-! ### targets -/
abbrev TG := V → St → Hp → (St → Hp → Prop) → Prop
abbrev TGs := List V → St → Hp → (St → Hp → Prop) → Prop
def PG (X : Cx) (target : Expr) (t : TG) : Prop :=
  ∀ (pins : List (Addr × Obj)) (s : Shared) (σ : St) (H : Hp) (v : V) (u : Value) (Q : St → Hp → Prop), Inv X pins σ H s → RelV v u → t v σ H Q →
    wpAny (model X.prog X.w) X.A (assign target X.env u) (fun _ s' => ∃ σ' H', Inv X pins σ' H' s' ∧ Q σ' H') X.xe s
def PGs (X : Cx) (ts : List Expr) (t : TGs) : Prop :=
  ∀ (pins : List (Addr × Obj)) (s : Shared) (σ : St) (H : Hp) (vs : List V) (us : List Value) (Q : St → Hp → Prop), Inv X pins σ H s → Vals vs us → t vs σ H Q →
    wpAny (model X.prog X.w) X.A (assignInOrder ((assignEach ts X.env).map (·.2)) us) (fun _ s' => ∃ σ' H', Inv X pins σ' H' s' ∧ Q σ' H') X.xe s
abbrev TSet := V → V → V → Hp → (Hp → Prop) → Prop
def PSet (X : Cx) (t : TSet) : Prop :=
  ∀ (pins : List (Addr × Obj)) (s : Shared) (σ : St) (H : Hp) (o i v : V) (ov iv u : Value) (Q : Hp → Prop), Inv X pins σ H s → RelV o ov → RelV i iv → RelV v u → t o i v H Q →
    wpAny (model X.prog X.w) X.A (setItem ov iv u) (fun _ s' => ∃ H', Inv X pins σ H' s' ∧ Q H') X.xe s
abbrev TIp := V → V → Hp → VK → Prop
section
variable {X : Cx} {pos : Pos}
def gName (i : Nat) : TG := fun v σ H Q => Q (σ.set i (some v)) H
theorem pg_name {i : Nat} {x : Str} (hN : X.N.Nodup) (hi : X.N[i]? = some x) (hx : Loc X.env.scope x) (hf : X.fn x = true ∨ X.env.scope.names.lookup x = some .local := by first | exact .inl rfl | exact .inr rfl | assumption) : PG X (.Name x pos) (gName i) := by
  intro pins s σ H v u Q I r h
  exact wpAny_assign_Name (store_ok I hN hi hx r (fun s' I' => ⟨_, H, I', h⟩) hf)
def gNil : TGs := fun vs σ H Q => vs = [] ∧ Q σ H
def gCons (t : TG) (u : TGs) : TGs := fun vs σ H Q => ∃ v r, vs = v :: r ∧ t v σ H fun σ' H' => u r σ' H' Q
theorem pgs_nil : PGs X [] gNil := by
  intro pins s σ H vs us Q I r h
  obtain ⟨e, h⟩ := h
  subst e
  cases r
  exact assignInOrder_nil ⟨σ, H, I, h⟩
theorem pgs_cons {e : Expr} {es : List Expr} {t : TG} {u : TGs} (h1 : PG X e t) (h2 : PGs X es u)
    (hs : (assignEach (e :: es) X.env).map (·.2) = assign e X.env :: (assignEach es X.env).map (·.2) := by rfl) : PGs X (e :: es) (gCons t u) := by
  intro pins s σ H vs us Q I r h
  obtain ⟨v, vr, e1, h⟩ := h
  subst e1
  cases r with
  | cons r rr =>
    rw [hs]
    refine assignInOrder_cons (thn (h1 pins s σ H _ _ _ I r h) fun _ s1 ⟨σ1, H1, I1, q1⟩ => ?_)
    exact h2 pins s1 σ1 H1 _ _ Q I1 rr q1
def gTup (K : PySem.W.Frag) (n : Nat) (t : TGs) : TG := fun v σ H Q => ∃ a xs, v = .ref a ∧ SqT K H a xs ∧ xs.length = n ∧ t xs σ H Q
theorem pg_tup {es : List Expr} {k : Nat} {t : TGs} {n : Nat} (hc : X.calm = true) (h : PGs X es t)
    (hn : (assignEach es X.env).length = n := by rfl) (hst : (assignEach es X.env).findIdx? (·.1) = none := by rfl) : PG X (.Tuple es k pos) (gTup X.K n t) := by
  intro pins s σ H v u Q I r hw
  obtain ⟨a, xs, e1, hq, hl, hw⟩ := hw
  subst e1
  cases r
  obtain ⟨its, rv, ht, hz⟩ := I.tuple hq
  refine assign_Tuple_tuple (I.ok.hd hc) ht (by simp [hn, ← hl, rv.length]) hst fun h' hx => ?_
  have I1 : Inv X pins σ H { s with heap := h' } := I.kept (t' := s.toks) fun b o e => hx b o (Nat.ne_of_lt (Heap.lt_size e)) e
  exact h pins _ σ H xs _ Q I1 (by simpa using rv) hw
def gSub (to ti : TE) (t : TSet) : TG := fun v σ H Q => to σ H fun o H1 => ti σ H1 fun i H2 => t o i v H2 fun H3 => Q σ H3
theorem pg_sub {o i : Expr} {to ti : TE} {t : TSet} (ho : PE X o to) (hi : PE X i ti) (hs : PSet X t)
    (ha : ∀ v, assign (.Subscript o i pos) X.env v = (do
      let ov ← holding [v] (eval o X.env)
      let iv ← holding [v, ov] (eval i X.env)
      standAt pos
      holding [v, ov, iv] (setItem ov iv v)
      release [v, ov, iv] []) := by intro _; rfl) : PG X (.Subscript o i pos) (gSub to ti t) := by
  intro pins s σ H v u Q I r h
  rw [ha]
  refine wpAny_bind (wpAny_holding (thn (ho pins s σ H _ I h) fun ov s1 ⟨x, H1, I1, r1, q1⟩ => ?_))
  refine wpAny_bind (wpAny_holding (thn (hi pins s1 σ H1 _ I1 q1) fun iv s2 ⟨y, H2, I2, r2, q2⟩ => ?_))
  refine wpAny_bind (wpAny_standAt (wpAny_bind (wpAny_holding (thn (hs pins s2 σ H2 x y v ov iv u _ I2 r1 r2 r q2) fun _ s3 ⟨H3, I3, q3⟩ => ?_))))
  exact wpAny_release ⟨σ, H3, I3, q3⟩
def tAsg (te : TE) (g : TG) : TS := fun D σ H => te σ H fun x H1 => g x σ H1 D.nx
theorem ps_asg {tg e : Expr} {te : TE} {g : TG} (he : PE X e te) (hg : PG X tg g) (hs : swapsWithSole [tg] e pos.line X.env = pure false := by rfl) (hw : swappedStores [tg] e X.env = pure none := by rfl)
    (h1 : (assignEach [tg] X.env).map (·.2) = [assign tg X.env] := by rfl) : PS X (.Assign [tg] e pos) (tAsg te g) := by
  intro pins s σ H D I h
  refine wpAny_Assign_stores (thn (he pins s σ H _ I h) fun v s1 ⟨x, H1, I1, r1, q1⟩ => ?_) hs hw
  rw [h1]
  exact thn (hg pins s1 σ H1 x v _ I1 r1 q1) fun _ s2 q => q
theorem ps_set {i : Nat} {x : Str} {e : Expr} {te : TE} {pos' : Pos} (hN : X.N.Nodup) (hi : X.N[i]? = some x) (hx : Loc X.env.scope x) (he : PE X e te) (hs : swapsWith e (some (.Name x pos')) pos.line X.env = pure false := by rfl) (hf : X.fn x = true ∨ X.env.scope.names.lookup x = some .local := by first | exact .inl rfl | exact .inr rfl | assumption) :
    PS X (.Assign [.Name x pos'] e pos) (tAsg te (gName i)) := by
  intro pins s σ H D I h
  refine wpAny_Assign_Name (thn (he pins s σ H _ I h) fun v s1 ⟨y, H1, I1, r1, q1⟩ => ?_) hs
  exact store_ok I1 hN hi hx r1 (fun s2 I2 => ⟨_, H1, I2, q1⟩) hf
end

/-! ### while -/
section
variable {X : Cx} {pos : Pos}
end

/-! ### what a loop or a comprehension walks -/
structure It where
  go : Nat → Hp → Prop
  yld : Nat → Hp → V → Hp → Prop
  stop : Nat → Hp → Prop
def FpOk (X : Cx) (pins : List (Addr × Obj)) (H : Hp) (b : Addr) : Prop :=
  H b = none ∧ b ≠ X.env.locals ∧ b ∉ X.fs ∧ (b ∈ X.ex ∨ X.s₀.heap.objs.size ≤ b) ∧ (∀ x c, X.env.cells.lookup x = some c → c ≠ b) ∧ ∀ p ∈ X.pn ++ pins, p.1 ≠ b
theorem Inv.fpOk {X : Cx} {pins : List (Addr × Obj)} {σ : St} {H H' : Hp} {s : Shared} {b : Addr} (I : Inv X pins σ H s) (hb : s.heap.objs.size ≤ b) (hn : H' b = none) : FpOk X pins H' b := by
  refine ⟨hn, Nat.ne_of_gt (Nat.lt_of_lt_of_le I.lt hb), I.nofs hb, .inr (Nat.le_trans I.sz hb), fun x c e z => ?_, fun p hp z => ?_⟩
  · obtain ⟨v, q⟩ := I.cell x c e
    exact absurd (Nat.lt_of_lt_of_le q.lt (by rw [z]; exact hb)) (Nat.lt_irrefl _)
  · exact absurd (Nat.lt_of_lt_of_le (Heap.lt_size (I.pin p hp).1) (by rw [z]; exact hb)) (Nat.lt_irrefl _)
structure Turn (P : Program) (w : World) (K : PySem.W.Frag) (tg : Expr) (J : It) (fp : List Addr) (it : Addr) (tn : Nat → Heap → Prop) : Prop where
  mem : it ∈ fp
  obj : ∀ i h, tn i h → ∀ b ∈ fp, ∃ o, h.get? b = some o ∧ ∀ v, o.data ≠ .cell v
  keep : ∀ i h h', tn i h → (∀ b ∈ fp, ∀ o, h.get? b = some o → h'.get? b = some o) → tn i h'
  item : ∀ (X : Cx), X.prog = P → X.w = w → X.K = K → X.calm = true → ∀ (i : Nat) (pins : List (Addr × Obj)) (s : Shared) (σ : St) (H : Hp) (E : Value → Shared → Prop), Inv X pins σ H s → (∀ b ∈ fp, FpOk X pins H b) → tn i s.heap → J.go i H →
    wpAny (model P w) X.A (pyNext (.ref it)) (fun r s1 => ∃ u, r = some u ∧
      wpAny (model P w) X.A (letOwnedTupleGo tg (.ref it) u) (fun _ s2 => ∃ x H', Inv X pins σ H' s2 ∧ RelV x u ∧ J.yld i H x H' ∧ tn (i + 1) s2.heap ∧ ∀ b ∈ fp, H' b = none) E s1) E s
  done : ∀ (X : Cx), X.prog = P → X.w = w → X.K = K → X.calm = true → ∀ (i : Nat) (pins : List (Addr × Obj)) (s : Shared) (σ : St) (H : Hp) (E : Value → Shared → Prop), Inv X pins σ H s → (∀ b ∈ fp, FpOk X pins H b) → tn i s.heap → J.stop i H →
    wpAny (model P w) X.A (pyNext (.ref it)) (fun r s1 => r = none ∧ Inv X pins σ H s1) E s
  self : ∀ (A : Around) (i : Nat) (s : Shared) (Q : Value → Shared → Prop) (E : Value → Shared → Prop), tn i s.heap → Q (.ref it) s → wpAny (model P w) A (pyIter (.ref it)) Q E s
abbrev TI := St → Hp → (It → Hp → Prop) → Prop
def PIE (X : Cx) (pins : List (Addr × Obj)) (σ : St) (tg : Expr) (R : It → Hp → Prop) (itv : Value) (s2 : Shared) : Prop :=
  ∃ (it : Addr) (fp : List Addr) (tn : Nat → Heap → Prop) (J : It) (H' : Hp), itv = .ref it ∧ Inv X pins σ H' s2 ∧ Turn X.prog X.w X.K tg J fp it tn ∧ tn 0 s2.heap ∧ (∀ b ∈ fp, FpOk X pins H' b) ∧ R J H'
def PI (X : Cx) (tg iter : Expr) (wi : TI) : Prop :=
  ∀ (pins : List (Addr × Obj)) (s : Shared) (σ : St) (H : Hp) (R : It → Hp → Prop), Inv X pins σ H s → wi σ H R →
    wpAny (model X.prog X.w) X.A (eval iter X.env) (fun v s1 => wpAny (model X.prog X.w) X.A (pyIter v) (PIE X pins σ tg R) X.xe s1) X.xe s

theorem go_of {M : Model} {A : Around} {E : Value → Shared → Prop} {s : Shared} {tg : Expr} {it : Addr} {u : Value} {o : Obj} {n : String} {vs : Array Value} {Q : Unit → Shared → Prop} (ho : s.heap.get? it = some o) (hc : o.cls = .type n) (hd : o.data = .fields vs)
    (hn : ["enumerate", "zip", "dict_itemiterator", "dict_reverseitemiterator", "odict_iterator", "itertools.zip_longest", "itertools.pairwise"].contains n = false) (hQ : Q () s) : wpAny M A (letOwnedTupleGo tg (.ref it) u) Q E s := by
  unfold letOwnedTupleGo
  cases tg <;> first
    | exact wpAny_pure hQ
    | (cases u <;> first
        | exact wpAny_pure hQ
        | (refine wpAny_bind (wpAny_load ho ?_)
           rw [hc, hd]
           show wpAny M A (if (["enumerate", "zip", "dict_itemiterator", "dict_reverseitemiterator", "odict_iterator", "itertools.zip_longest", "itertools.pairwise"].contains n && vs[0]? == some (rawInt _)) = true then _ else _) Q E s
           rw [if_neg (by intro h; rw [hn, Bool.false_and] at h; cases h)]
           exact wpAny_pure hQ))

def Itr (lo : Int) (n : Nat) : It := ⟨fun i _ => i < n, fun i H x H' => H' = H ∧ x = .int (lo + i), fun i _ => n ≤ i⟩
theorem turn_range {P : Program} {w : World} {K : PySem.W.Frag} {tg : Expr} (it : Addr) (lo : Int) (n : Nat) : Turn P w K tg (Itr lo n) [it] it (fun i h => IsRangeIter h it (lo + (i : Nat) * 1) ((n : Int) - (i : Nat)) 1) where
  mem := by simp
  obj := fun i h st b hb => by
    have e : b = it := by simpa using hb
    subst e
    exact ⟨_, st, fun v z => by
      have z' : Data.fields _ = Data.cell v := z
      cases z'⟩
  keep := fun i h h' st k => k it (by simp) _ st
  item := by
    intro X hP hw hK hc i pins s σ H E I hf st hg
    subst hP hw hK
    obtain ⟨f0, f1, f2, f3, f4, f5⟩ := hf it (by simp)
    have W := Walks.range (prog := X.prog) (w := X.w) (I.ok.hd hc) it lo 1 n
    refine W.item i s _ _ hg st fun v h' tk hv st' kk => ?_
    obtain ⟨t, rfl⟩ := hv
    have I1 : Inv X pins σ H { s with heap := h', toks := tk } := I.turned (fun b o hb e => kk b o (by simpa using hb) e) f0 f1 f3 f4 f5
    refine ⟨_, rfl, go_of (s := { s with heap := h', toks := tk }) (n := "range_iterator") st' rfl rfl (by decide) ⟨.int (lo + i), H, I1, ⟨t, ?_⟩, ⟨rfl, rfl⟩, st', fun b hb => (hf b hb).1⟩⟩
    rw [Int.mul_one]
  done := by
    intro X hP hw hK hc i pins s σ H E I hf st hg
    subst hP hw hK
    obtain ⟨f0, f1, f2, f3, f4, f5⟩ := hf it (by simp)
    exact wpAny_pyNext_range_end (I.ok.hd hc) st (by have : n ≤ i := hg; omega) fun h' eb => ⟨rfl, I.turned (t' := s.toks) (fun b o hb e => eb b o hb e) f0 f1 f3 f4 f5⟩
  self := fun _ _ _ _ _ st h => wpAny_pyIter_rangeiter st h
end L2

namespace L2
open PySem PySem.Spec PyProof.Rows
section
variable {X : Cx} {tg : Expr}
theorem range_it {pins : List (Addr × Obj)} {σ : St} {H : Hp} {s : Shared} {R : It → Hp → Prop} {E : Value → Shared → Prop} {lo hi : Int} {t u v : Tok} {tk : Nat} (I : Inv X pins σ H s) (h1 : -(2 ^ 62) ≤ lo) (h2 : lo < 2 ^ 62) (h3 : -(2 ^ 62) ≤ hi) (h4 : hi < 2 ^ 62)
    (q : R (Itr lo (hi - lo).toNat) H) : wpAny (model X.prog X.w) X.A (pyIter (.ref s.heap.objs.size)) (PIE X pins σ tg R) E { s with heap := s.heap.push { cls := .type "range", data := .fields #[.int lo t, .int hi u, .int 1 v] }, toks := tk } := by
  refine wpAny_pyIter_range (IsRange.new ..) (small_one h1 h2 h3 h4) ?_
  have I1 : Inv X pins σ H { s with heap := s.heap.push { cls := .type "range", data := .fields #[.int lo t, .int hi u, .int 1 v] }, toks := tk } := I.kept fun b o e => Heap.get?_push_of_some _ e
  refine ⟨(s.heap.push { cls := .type "range", data := .fields #[.int lo t, .int hi u, .int 1 v] }).objs.size, [(s.heap.push { cls := .type "range", data := .fields #[.int lo t, .int hi u, .int 1 v] }).objs.size], _, _, H, rfl,
    I1.kept (t' := tk) fun b o e => Heap.get?_push_of_some _ e, turn_range _ lo (hi - lo).toNat, ?_, fun b hb => ?_, q⟩
  · have e1 : lo + ((0 : Nat) : Int) * 1 = lo := by simp
    have e2 : (((hi - lo).toNat : Nat) : Int) - ((0 : Nat) : Int) = Builtin.Range.rangeSize lo hi 1 := by rw [rangeSize_one]; split <;> omega
    show IsRangeIter _ _ (lo + ((0 : Nat) : Int) * 1) ((((hi - lo).toNat : Nat) : Int) - ((0 : Nat) : Int)) 1
    rw [e1, e2]
    exact Heap.get?_push_size _ rfl
  · have e : b = (s.heap.push { cls := .type "range", data := .fields #[.int lo t, .int hi u, .int 1 v] }).objs.size := by simpa using hb
    subst e
    exact I1.fpOk (Nat.le_refl _) (I1.hok.fresh (Nat.le_refl _))
def iRng1 (ta : TA) : TI := fun σ H R => ta σ H fun vs H1 => ∃ j : Int, vs = [.int j] ∧ -(2 ^ 62) ≤ j ∧ j < 2 ^ 62 ∧ R (Itr 0 j.toNat) H1
theorem pi_range1 {a : Expr} {ta : TA} {p pos : Pos} (hg : Gl X "range") (hm : X.mg "range" = none) (ha : PA X [a] ta) (hs : starEach [a] X.env = [(false, eval a X.env)] := by rfl) : PI X tg (.Call (.Name "range" p) [a] [] pos) (iRng1 ta) := by
  intro pins s σ H R I h
  refine Call_ (ld_blt I hg hm boot_range (PyProof.Rows.callWith_type1 (thn (ha pos pins s σ H _ I h) fun us s1 ⟨vs, H1, I1, r1, q1⟩ => ?_) hs rfl))
  obtain ⟨j, e, q1, q2, q⟩ := q1
  subst e
  cases r1 with
  | cons r rr =>
    cases rr
    obtain ⟨t, rfl⟩ := r
    exact call_range_1 (range_it I1 (by omega) (by omega) q1 q2 (by simpa using q))

/-! ### for -/
def tFor (wi : TI) (g : TG) (tb : TS) : TS := fun D σ H => wi σ H fun J H1 => ∃ W : Nat → Nat → St → Hp → Prop, (∃ m, W 0 m σ H1) ∧ ∀ i m σ H, W i m σ H →
  (J.stop i H ∧ D.nx σ H) ∨ (J.go i H ∧ ∃ N : St → Hp → Prop, (∀ σ' H', N σ' H' → ∃ m', m' < m ∧ W (i + 1) m' σ' H') ∧ ∀ x H', J.yld i H x H' → g x σ H' fun σ2 H2 => tb { D with nx := N, ct := N, bk := D.nx } σ2 H2)
def pinsAt (fp : List Addr) (h : Heap) : List (Addr × Obj) := fp.filterMap fun b => (h.get? b).map fun o => (b, o)
theorem mem_pinsAt {fp : List Addr} {h : Heap} {b : Addr} {o : Obj} (hb : b ∈ fp) (e : h.get? b = some o) : (b, o) ∈ pinsAt fp h := List.mem_filterMap.mpr ⟨b, hb, by rw [e]; rfl⟩
theorem of_pinsAt {fp : List Addr} {h : Heap} {p : Addr × Obj} (hp : p ∈ pinsAt fp h) : p.1 ∈ fp ∧ h.get? p.1 = some p.2 := by
  obtain ⟨b, hb, e⟩ := List.mem_filterMap.mp hp
  cases q : h.get? b with
  | none => rw [q] at e; cases e
  | some o =>
    rw [q] at e
    have e' : (b, o) = p := Option.some.inj e
    subst e'
    exact ⟨hb, q⟩
theorem Inv.pinned {pins : List (Addr × Obj)} {σ : St} {H : Hp} {s : Shared} {fp : List Addr} (I : Inv X pins σ H s) (hf : ∀ b ∈ fp, FpOk X pins H b) (ho : ∀ b ∈ fp, ∃ o, s.heap.get? b = some o ∧ ∀ v, o.data ≠ .cell v) : Inv X (pins ++ pinsAt fp s.heap) σ H s :=
  I.pins_of fun p hp => (List.mem_append.mp hp).elim (fun z => I.pin p (List.mem_append_right _ z)) fun z => by
    obtain ⟨hb, e⟩ := of_pinsAt z
    obtain ⟨f0, f1, f2, _⟩ := hf p.1 hb
    obtain ⟨o, e', d⟩ := ho p.1 hb
    rw [e] at e'; cases e'
    exact ⟨e, f0, f1, f2, d⟩
theorem Inv.unpinned {pins pl : List (Addr × Obj)} {σ : St} {H : Hp} {s : Shared} (I : Inv X (pins ++ pl) σ H s) : Inv X pins σ H s := I.pins_of fun p hp => I.pin p (List.mem_append_right _ (List.mem_append_left _ hp))
theorem ps_for {iter : Expr} {body : List Stmt} {wi : TI} {g : TG} {tb : TS} {pos : Pos} (hp : PassesOwn (model X.prog X.w) X.A X.env X.xe) (hc : X.calm = true) (hi : PI X tg iter wi) (hg : PG X tg g) (hb : PSs X body tb)
    (hs : ∀ x, foldedSetIterable iter X.env x = pure x := by intro _; rfl) : PS X (.For tg iter body [] pos) (tFor wi g tb) := by
  intro pins s σ H D I h
  refine wpAny_For (thn (hi pins s σ H _ I h) fun v s1 h1 => thn h1 fun itv s2 h2 => ?_) hs
  obtain ⟨it, fp, tn, J, H2, e, I2, T, st2, f2, W, ⟨m0, w0⟩, turn⟩ := h2
  subst e
  -- what stays true of the iterator's objects through the loop
  have stat : ∀ {H' : Hp}, (∀ b ∈ fp, H' b = none) → ∀ b ∈ fp, FpOk X pins H' b := fun hn b hb => ⟨hn b hb, (f2 b hb).2⟩
  refine codeAny_forLoop_any (fun n s' => ∃ i σ' H', Inv X pins σ' H' s' ∧ tn i s'.heap ∧ (∀ b ∈ fp, H' b = none) ∧ W i n σ' H') ?_ m0 ⟨0, σ, H2, I2, st2, fun b hb => (f2 b hb).1, w0⟩
  rintro n s3 ⟨i, σ3, H3, I3, st3, fr3, w3⟩
  rcases turn i n σ3 H3 w3 with ⟨stop, qn⟩ | ⟨go, N, hN, step⟩
  · refine wpAny_passesOwn hp (thn (T.done X rfl rfl rfl hc i pins s3 σ3 H3 X.xe I3 (stat fr3) st3 stop) fun r s4 ⟨hr, I4⟩ => ?_)
    subst hr
    exact wpAny_execs_nil ⟨σ3, H3, I4, qn⟩
  · refine wpAny_passesOwn hp (thn (T.item X rfl rfl rfl hc i pins s3 σ3 H3 X.xe I3 (stat fr3) st3 go) fun r s4 ⟨u, hr, h4⟩ => ?_)
    subst hr
    refine wpAny_passesOwn hp (thn h4 fun _ s5 ⟨x, H5, I5, r5, y5, st5, fr5⟩ => ?_)
    have I5' := I5.pinned (stat fr5) (T.obj _ _ st5)
    refine wpAny_passesOwn hp (thn (hg _ s5 σ3 H5 x u _ I5' r5 (step x H5 y5)) fun _ s6 ⟨σ6, H6, I6, q6⟩ => ?_)
    refine wpAny_passesOwn hp (thn (hb _ s6 σ6 H6 _ I6 q6) fun f s7 q7 => ?_)
    have again : ∀ {σ7 : St} {H7 : Hp}, Inv X (pins ++ pinsAt fp s5.heap) σ7 H7 s7 → N σ7 H7 → ∃ m, m < n ∧ ∃ i σ' H', Inv X pins σ' H' s7 ∧ tn i s7.heap ∧ (∀ b ∈ fp, H' b = none) ∧ W i m σ' H' := fun {σ7 H7} I7 n7 => by
      obtain ⟨m', hm, w7⟩ := hN σ7 H7 n7
      refine ⟨m', hm, i + 1, σ7, H7, I7.unpinned, T.keep _ _ _ st5 fun b hb o e => (I7.pin (b, o) (List.mem_append_right _ (List.mem_append_right _ (mem_pinsAt hb e)))).1, fun b hb => ?_, w7⟩
      obtain ⟨o, e, d⟩ := T.obj _ _ st5 b hb
      exact (I7.pin (b, o) (List.mem_append_right _ (List.mem_append_right _ (mem_pinsAt hb e)))).2.1
    cases f with
    | next => obtain ⟨σ7, H7, I7, n7⟩ := q7; exact again I7 n7
    | cont => obtain ⟨σ7, H7, I7, n7⟩ := q7; exact again I7 n7
    | brk => obtain ⟨σ7, H7, I7, q7⟩ := q7; exact ⟨σ7, H7, I7.unpinned, q7⟩
    | ret v => obtain ⟨x7, σ7, H7, I7, r7, q7⟩ := q7; exact ⟨x7, σ7, H7, I7.unpinned, r7, q7⟩
end

/-! ### the forms one uses -/
theorem for_range {lo : Int} {n : Nat} {g : TG} {tb : TS} {D : Ends} {σ : St} {H : Hp} (Pv : Nat → St → Hp → Prop) (h0 : Pv 0 σ H)
    (hs : ∀ i σ H, i < n → Pv i σ H → g (.int (lo + i)) σ H fun σ2 H2 => tb { D with nx := Pv (i + 1), ct := Pv (i + 1), bk := D.nx } σ2 H2) (hd : ∀ σ H, Pv n σ H → D.nx σ H) :
    ∃ W : Nat → Nat → St → Hp → Prop, (∃ m, W 0 m σ H) ∧ ∀ i m σ H, W i m σ H →
      ((Itr lo n).stop i H ∧ D.nx σ H) ∨ ((Itr lo n).go i H ∧ ∃ N : St → Hp → Prop, (∀ σ' H', N σ' H' → ∃ m', m' < m ∧ W (i + 1) m' σ' H') ∧ ∀ x H', (Itr lo n).yld i H x H' → g x σ H' fun σ2 H2 => tb { D with nx := N, ct := N, bk := D.nx } σ2 H2) := by
  refine ⟨fun i m σ H => m = n - i ∧ i ≤ n ∧ Pv i σ H, ⟨n, by simp, Nat.zero_le _, h0⟩, ?_⟩
  rintro i m σ H ⟨rfl, hi, p⟩
  by_cases hlt : i < n
  · refine .inr ⟨hlt, Pv (i + 1), fun σ' H' p' => ⟨n - (i + 1), by omega, rfl, hlt, p'⟩, fun x H' y => ?_⟩
    obtain ⟨e, y⟩ := y
    subst e y
    exact hs i σ _ hlt p
  · have e : i = n := by omega
    subst e
    exact .inl ⟨Nat.le_refl _, hd σ H p⟩
end L2

namespace L2
open PySem PySem.Spec PyProof.Rows

abbrev R2 := V → V → Hp → VK → Prop
def OpR (X : Cx) (f : Value → Value → Sem Value) (r : R2) : Prop :=
  ∀ (pins : List (Addr × Obj)) (s : Shared) (σ : St) (H : Hp) (x y : V) (v u : Value) (Q : VK), Inv X pins σ H s → RelV x v → RelV y u → r x y H Q →
    wpAny (model X.prog X.w) X.A (f v u) (EP X pins σ Q) X.xe s
def CallR (X : Cx) (f : Value) (r : List V → Hp → VK → Prop) : Prop :=
  ∀ (pins : List (Addr × Obj)) (s : Shared) (σ : St) (H : Hp) (xs : List V) (us : List Value) (Q : VK), Inv X pins σ H s → Vals xs us → r xs H Q →
    wpAny (model X.prog X.w) X.A (call f us) (EP X pins σ Q) X.xe s

def tOp (r : R2) (ta tb : TE) : TE := fun σ H Q => ta σ H fun x H1 => tb σ H1 fun y H2 => r x y H2 Q
def rI (C : Int → Int → Prop) (g : Int → Int → V) : R2 := fun x y H Q => ∃ i j, x = .int i ∧ y = .int j ∧ C i j ∧ Q (g i j) H
def rI0 (g : Int → Int → V) : R2 := fun x y H Q => ∃ i j, x = .int i ∧ y = .int j ∧ Q (g i j) H

section
variable {X : Cx} {a b c : Expr} {ta tb tc : TE} {pos : Pos}

theorem binT (ha : PE X a ta) (hb : PE X b tb) {pins : List (Addr × Obj)} {s : Shared} {σ : St} {H : Hp} {R : V → V → Hp → Prop} (I : Inv X pins σ H s)
    (h : ta σ H fun x H1 => tb σ H1 fun y H2 => R x y H2) {Q : Value → Shared → Prop} {f : Value → Value → Sem Value}
    (hf : ∀ v u s2 x y H2, Inv X pins σ H2 s2 → RelV x v → RelV y u → R x y H2 → wpAny (model X.prog X.w) X.A (f v u) Q X.xe s2) :
    wpAny (model X.prog X.w) X.A (eval a X.env) (fun v s₁ => wpAny (model X.prog X.w) X.A (eval b X.env) (fun u s₂ => wpAny (model X.prog X.w) X.A (f v u) Q X.xe s₂) X.xe s₁) X.xe s := by
  refine thn (ha pins s σ H _ I h) fun v s1 ⟨x, H1, I1, r1, q1⟩ => ?_
  refine thn (hb pins s1 σ H1 _ I1 q1) fun u s2 ⟨y, H2, I2, r2, q2⟩ => ?_
  exact hf v u s2 x y H2 I2 r1 r2 q2

theorem pe_op {op : Operator} {r : R2} (ho : OpR X (binaryOp op) r) (ha : PE X a ta) (hb : PE X b tb) : PE X (.BinOp a op b pos) (tOp r ta tb) := by
  intro pins s σ H Q I h
  exact wpAny_BinOp (binT ha hb I h fun v u s2 x y H2 I2 rx ry q => ho pins s2 σ H2 x y v u Q I2 rx ry q)

/-! ### ints -/
theorem opI {f : Value → Value → Sem Value} {C : Int → Int → Prop} {g : Int → Int → Int}
    (rule : ∀ (i j : Int) (t u : Tok) (s : Shared) (Q : Value → Shared → Prop) (E : Value → Shared → Prop), C i j → Q (.int (g i j) s.toks) { s with toks := s.toks + 1 } → wpAny (model X.prog X.w) X.A (f (.int i t) (.int j u)) Q E s) :
    OpR X f (rI C fun i j => .int (g i j)) := by
  intro pins s σ H x y v u Q I rx ry h
  obtain ⟨i, j, rfl, rfl, hc, q⟩ := h
  obtain ⟨t, rfl⟩ := rx
  obtain ⟨t', rfl⟩ := ry
  exact rule i j t t' s _ _ hc ⟨.int (g i j), H, I.tok _, ⟨_, rfl⟩, q⟩
theorem opI0 {f : Value → Value → Sem Value} {g : Int → Int → Int}
    (rule : ∀ (i j : Int) (t u : Tok) (s : Shared) (Q : Value → Shared → Prop) (E : Value → Shared → Prop), Q (.int (g i j) s.toks) { s with toks := s.toks + 1 } → wpAny (model X.prog X.w) X.A (f (.int i t) (.int j u)) Q E s) :
    OpR X f (rI0 fun i j => .int (g i j)) := by
  intro pins s σ H x y v u Q I rx ry h
  obtain ⟨i, j, rfl, rfl, q⟩ := h
  obtain ⟨t, rfl⟩ := rx
  obtain ⟨t', rfl⟩ := ry
  exact rule i j t t' s _ _ ⟨.int (g i j), H, I.tok _, ⟨_, rfl⟩, q⟩
theorem opB0 {f : Value → Value → Sem Value} {g : Int → Int → Bool}
    (rule : ∀ (i j : Int) (t u : Tok) (s : Shared) (Q : Value → Shared → Prop) (E : Value → Shared → Prop), Q (.bool (g i j)) s → wpAny (model X.prog X.w) X.A (f (.int i t) (.int j u)) Q E s) :
    OpR X f (rI0 fun i j => .bl (g i j)) := by
  intro pins s σ H x y v u Q I rx ry h
  obtain ⟨i, j, rfl, rfl, q⟩ := h
  obtain ⟨t, rfl⟩ := rx
  obtain ⟨t', rfl⟩ := ry
  exact rule i j t t' s _ _ ⟨.bl (g i j), H, I, rfl, q⟩

def CDiv (i j : Int) : Prop := 0 < j ∧ j < 1073741824
def CMul (i j : Int) : Prop := (-(2 ^ 64) < i ∧ i < 2 ^ 64) ∨ (-(2 ^ 64) < j ∧ j < 2 ^ 64)
theorem CMul.ok {i j : Int} (h : CMul i j) : IntMulOk i j := by
  rcases h with ⟨h1, h2⟩ | ⟨h1, h2⟩
  · exact .of_left (intBits_le_64 h1 h2)
  · exact .of_right (intBits_le_64 h1 h2)

theorem op_add : OpR X (binaryOp .Add) (rI0 fun i j => .int (i + j)) := opI0 fun _ _ _ _ _ _ _ q => add_int q
theorem op_sub : OpR X (binaryOp .Sub) (rI0 fun i j => .int (i - j)) := opI0 fun _ _ _ _ _ _ _ q => sub_int q
theorem op_mul : OpR X (binaryOp .Mult) (rI CMul fun i j => .int (i * j)) := opI fun _ _ _ _ _ _ _ hc q => mul_int q hc.ok
theorem op_fdiv : OpR X (binaryOp .FloorDiv) (rI CDiv fun i j => .int (i / j)) := opI fun i j _ _ _ _ _ hc q => by
  have h1 : (0 : Int) < j := hc.1
  have h2 : j < 1073741824 := hc.2
  exact floordiv_int (by omega) (by rw [Int.fdiv_eq_ediv_of_nonneg i (by omega)]; exact q) (.inl (PyProof.noPylong_small (by omega)))
theorem op_mod : OpR X (binaryOp .Mod) (rI (fun _ j => 0 < j) fun i j => .int (i % j)) := opI fun i j _ _ _ _ _ hc q => by
  have h1 : (0 : Int) < j := hc
  exact mod_int' (by omega) (by rw [Int.fmod_eq_emod_of_nonneg i (by omega)]; exact q)



/-! ### bools among ints: n += (a < b) -/
end

/-! ### comparisons -/
def scal : V → V → Bool
  | .non, .non => true | .non, .int _ => true | .int _, .non => true | .non, .bl _ => true | .bl _, .non => true | .non, .str _ => true | .str _, .non => true
  | .int _, .int _ => true | .bl _, .bl _ => true | .str _, .str _ => true | .byt _, .byt _ => true
  | .int _, .str _ => true | .str _, .int _ => true | .bl _, .str _ => true | .str _, .bl _ => true
  | _, _ => false
def rEq : R2 := fun x y H Q => scal x y = true ∧ Q (.bl (decide (x = y))) H
def rNe : R2 := fun x y H Q => scal x y = true ∧ Q (.bl (!decide (x = y))) H

theorem dec_int {i j : Int} : decide (V.int i = V.int j) = (i == j) := by
  rw [Bool.eq_iff_iff]
  simp
theorem dec_bl {i j : Bool} : decide (V.bl i = V.bl j) = (i == j) := by
  rw [Bool.eq_iff_iff]
  simp
theorem dec_str {i j : Str} : decide (V.str i = V.str j) = (i == j) := by
  rw [Bool.eq_iff_iff]
  simp
theorem dec_byt {i j : Array UInt8} : decide (V.byt i = V.byt j) = (i.toList == j.toList) := by
  rw [Bool.eq_iff_iff]
  cases i
  cases j
  simp

section
variable {X : Cx} {a b c : Expr} {ta tb tc : TE} {pos : Pos}
theorem fin_bl {pins : List (Addr × Obj)} {σ : St} {H : Hp} {s : Shared} {Q : VK} {k k' : Bool} (I : Inv X pins σ H s) (q : Q (.bl k) H) (e : k = k') : EP X pins σ Q (.bool k') s := by
  subst e
  exact ⟨.bl k, H, I, rfl, q⟩
theorem op_eq : OpR X (compareOp .Eq) rEq := by
  intro pins s σ H x y v u Q I rx ry h
  obtain ⟨hs, q⟩ := h
  cases x with
  | non =>
    cases rx
    cases y with
    | non => cases ry; exact PySem.EqNone.eq_none_none (fin_bl I q (by simp))
    | bl j => cases ry; exact PySem.EqNone.eq_none_bool (fin_bl I q (by simp))
    | int j => obtain ⟨t', rfl⟩ := ry; exact PySem.EqNone.eq_none_int (fin_bl I q (by simp))
    | str j => obtain ⟨t', rfl⟩ := ry; exact PySem.EqNone.eq_none_str (fin_bl I q (by simp))
    | _ => exact absurd (show false = true from hs) Bool.false_ne_true
  | bl i =>
    cases rx
    cases y with
    | non => cases ry; exact PySem.EqNone.eq_bool_none (fin_bl I q (by simp))
    | bl j => cases ry; exact eq_bool (fin_bl I q dec_bl)
    | str j => obtain ⟨t', rfl⟩ := ry; exact PySem.EqMixed.eq_bool_str (fin_bl I q (by simp))
    | _ => exact absurd (show false = true from hs) Bool.false_ne_true
  | int i =>
    obtain ⟨t, rfl⟩ := rx
    cases y with
    | non => cases ry; exact PySem.EqNone.eq_int_none (fin_bl I q (by simp))
    | int j => obtain ⟨t', rfl⟩ := ry; exact eq_int (fin_bl I q dec_int)
    | str j => obtain ⟨t', rfl⟩ := ry; exact PySem.EqMixed.eq_int_str (fin_bl I q (by simp))
    | _ => exact absurd (show false = true from hs) Bool.false_ne_true
  | str i =>
    obtain ⟨t, rfl⟩ := rx
    cases y with
    | non => cases ry; exact PySem.EqNone.eq_str_none (fin_bl I q (by simp))
    | bl j => cases ry; exact PySem.EqMixed.eq_str_bool (fin_bl I q (by simp))
    | int j => obtain ⟨t', rfl⟩ := ry; exact PySem.EqMixed.eq_str_int (fin_bl I q (by simp))
    | str j => obtain ⟨t', rfl⟩ := ry; exact eq_str (fin_bl I q dec_str)
    | _ => exact absurd (show false = true from hs) Bool.false_ne_true
  | byt i =>
    obtain ⟨t, rfl⟩ := rx
    cases y with
    | byt j => obtain ⟨t', rfl⟩ := ry; exact PySem.W.eq_bytes (fin_bl I q dec_byt)
    | _ => exact absurd (show false = true from hs) Bool.false_ne_true
  | _ => cases y <;> exact absurd (show false = true from hs) Bool.false_ne_true
theorem op_ne : OpR X (compareOp .NotEq) rNe := by
  intro pins s σ H x y v u Q I rx ry h
  obtain ⟨hs, q⟩ := h
  cases x with
  | non =>
    cases rx
    cases y with
    | non => cases ry; exact PySem.EqNone.ne_none_none (fin_bl I q (by simp))
    | bl j => cases ry; exact PySem.EqNone.ne_none_bool (fin_bl I q (by simp))
    | int j => obtain ⟨t', rfl⟩ := ry; exact PySem.EqNone.ne_none_int (fin_bl I q (by simp))
    | str j => obtain ⟨t', rfl⟩ := ry; exact PySem.EqNone.ne_none_str (fin_bl I q (by simp))
    | _ => exact absurd (show false = true from hs) Bool.false_ne_true
  | bl i =>
    cases rx
    cases y with
    | non => cases ry; exact PySem.EqNone.ne_bool_none (fin_bl I q (by simp))
    | bl j => cases ry; exact ne_bool (fin_bl I q (congrArg not dec_bl))
    | str j => obtain ⟨t', rfl⟩ := ry; exact PySem.EqMixed.ne_bool_str (fin_bl I q (by simp))
    | _ => exact absurd (show false = true from hs) Bool.false_ne_true
  | int i =>
    obtain ⟨t, rfl⟩ := rx
    cases y with
    | non => cases ry; exact PySem.EqNone.ne_int_none (fin_bl I q (by simp))
    | int j => obtain ⟨t', rfl⟩ := ry; exact ne_int (fin_bl I q (congrArg not dec_int))
    | str j => obtain ⟨t', rfl⟩ := ry; exact PySem.EqMixed.ne_int_str (fin_bl I q (by simp))
    | _ => exact absurd (show false = true from hs) Bool.false_ne_true
  | str i =>
    obtain ⟨t, rfl⟩ := rx
    cases y with
    | non => cases ry; exact PySem.EqNone.ne_str_none (fin_bl I q (by simp))
    | bl j => cases ry; exact PySem.EqMixed.ne_str_bool (fin_bl I q (by simp))
    | int j => obtain ⟨t', rfl⟩ := ry; exact PySem.EqMixed.ne_str_int (fin_bl I q (by simp))
    | str j => obtain ⟨t', rfl⟩ := ry; exact ne_str (fin_bl I q (congrArg not dec_str))
    | _ => exact absurd (show false = true from hs) Bool.false_ne_true
  | byt i =>
    obtain ⟨t, rfl⟩ := rx
    cases y with
    | byt j => obtain ⟨t', rfl⟩ := ry; exact PySem.W.ne_bytes (fin_bl I q (congrArg not dec_byt))
    | _ => exact absurd (show false = true from hs) Bool.false_ne_true
  | _ => cases y <;> exact absurd (show false = true from hs) Bool.false_ne_true

theorem op_lt : OpR X (compareOp .Lt) (rI0 fun i j => .bl (decide (i < j))) := opB0 fun _ _ _ _ _ _ _ q => lt_int q
theorem op_gt : OpR X (compareOp .Gt) (rI0 fun i j => .bl (decide (j < i))) := opB0 fun _ _ _ _ _ _ _ q => gt_int q
theorem op_ge : OpR X (compareOp .GtE) (rI0 fun i j => .bl (decide (j ≤ i))) := opB0 fun _ _ _ _ _ _ _ q => ge_int q




theorem nomark (b : Expr) {op : CmpOp} (h : op ≠ .In := by decide) (h2 : op ≠ .NotIn := by decide) : behindInMarks op b = false := by
  have e1 : (op == CmpOp.In) = false := by cases op <;> first | rfl | exact absurd rfl h
  have e2 : (op == CmpOp.NotIn) = false := by cases op <;> first | rfl | exact absurd rfl h2
  cases b <;> simp [behindInMarks, e1, e2]
theorem pe_cmpR {op : CmpOp} {r : R2} (ho : OpR X (compareOp op) r) (ha : PE X a ta) (hb : PE X b tb) (hm : behindInMarks op b = false) : PE X (.Compare a [op] [b] pos) (tOp r ta tb) := by
  intro pins s σ H Q I h
  exact wpAny_Compare1 (binT ha hb I h fun v u s2 x y H2 I2 rx ry q => ho pins s2 σ H2 x y v u Q I2 rx ry q) hm
def tTest (t : TE) : TT := fun σ H Q => t σ H fun x H' => ∃ k, x = .bl k ∧ Q k H'
theorem pt_cmpR {op : CmpOp} {r : R2} (ho : OpR X (compareOp op) r) (ha : PE X a ta) (hb : PE X b tb) (hm : behindInMarks op b = false) : PT X (.Compare a [op] [b] pos) (tTest (tOp r ta tb)) := by
  intro pins s σ H Q I h
  refine wpAny_isTrue_Compare1 (thn (ha pins s σ H _ I h) fun v s1 ⟨x, H1, I1, r1, q1⟩ => thn (hb pins s1 σ H1 _ I1 q1) fun u s2 ⟨y, H2, I2, r2, q2⟩ =>
    thn (ho pins s2 σ H2 x y v u _ I2 r1 r2 q2) fun c s3 ⟨z, H3, I3, r3, k, e, q3⟩ => ?_) hm
  subst e
  cases r3
  exact wpAny_truthy_bool ⟨H3, I3, q3⟩

/-! ### truth -/
theorem line63 : (sizeLine : Nat) < 2 ^ 63 := by rw [sizeLine_eq]; decide

/-! ### strs and bytes -/
theorem op_add_str : OpR X (binaryOp .Add) (fun x y H Q => ∃ i j, x = .str i ∧ y = .str j ∧ i.length + j.length ≤ sizeLine ∧ Q (.str (i ++ j)) H) := by
  intro pins s σ H x y v u Q I rx ry h
  obtain ⟨i, j, rfl, rfl, hz, q⟩ := h
  obtain ⟨t, rfl⟩ := rx
  obtain ⟨t', rfl⟩ := ry
  exact add_str (fun t' tk => ⟨.str (i ++ j), H, I.tok _, ⟨_, rfl⟩, q⟩) hz


/-! ### scalar builtins, by CallR -/
theorem vals1 {x : V} {us : List Value} (r : Vals [x] us) : ∃ u, us = [u] ∧ RelV x u := by
  cases r with
  | cons r1 r2 => cases r2; exact ⟨_, rfl, r1⟩
theorem vals2 {x y : V} {us : List Value} (r : Vals [x, y] us) : ∃ u w', us = [u, w'] ∧ RelV x u ∧ RelV y w' := by
  cases r with
  | cons r1 r2 =>
    cases r2 with
    | cons r3 r4 => cases r4; exact ⟨_, _, rfl, r1, r3⟩
theorem call_str_int : CallR X (.type "str") (fun xs H Q => ∃ i, xs = [.int i] ∧ i.natAbs.log2 < 1920 ∧ Q (.str (toString i)) H) := by
  intro pins s σ H xs us Q I r h
  obtain ⟨i, rfl, hz, q⟩ := h
  obtain ⟨u, rfl, t, rfl⟩ := vals1 r
  exact PySem.P.str_of_int hz ⟨.str _, H, I.tok _, ⟨_, rfl⟩, q⟩
end
end L2

namespace L2
open PySem PySem.Spec PyProof.Rows

/-! ### an instance, its attributes a map -/
structure ObjM (h : Heap) (x dx C : Addr) (mA : Str → Option Value) : Prop where
  obj : h.get? x = some (PySem.W.instObj C dx)
  ns : h.Ns1 dx mA
  ne : dx ≠ x

theorem lookIn_ns {h : Heap} {dx : Addr} {mA : Str → Option Value} (n : h.Ns1 dx mA) : ∃ od, h.get? dx = some od ∧ ∀ name, PySem.W.lookIn name od = some (mA name) := by
  obtain ⟨o, es, ep, ho, hd, hk, _, hm⟩ := n
  refine ⟨o, ho, fun name => ?_⟩
  have e := hm name
  unfold nsFind findBy at e
  rw [← Array.find?_toList] at e
  unfold PySem.W.lookIn
  rw [hd]
  dsimp only
  split
  · rename_i y q
    rw [q] at e
    exact congrArg some e
  · rename_i q
    rw [q] at e
    have a : es.toList.any (·.refKey) = false := by
      rw [List.any_eq_false]
      intro y hy
      obtain ⟨z, t, hkey⟩ := hk y (Array.mem_toList_iff.mp hy)
      simp [DictEntry.refKey, hkey]
    have a' : ¬ es.toList.any (·.refKey) = true := by rw [a]; exact Bool.false_ne_true
    rw [if_neg a']
    exact congrArg some e

theorem ObjM.look {h : Heap} {x dx C : Addr} {mA : Str → Option Value} (I : ObjM h x dx C mA) : ∃ od, PySem.W.InstAt h x (PySem.W.instObj C dx) C (some od) ∧ ∀ name, PySem.W.lookIn name od = some (mA name) :=
  let ⟨od, ho, hl⟩ := lookIn_ns I.ns
  ⟨od, ⟨I.obj, rfl, rfl, ho⟩, hl⟩

section
variable {prog : Program} {w : World} {A : Around} {E : Value → Shared → Prop} {s : Shared} {K : PySem.W.Frag} {x dx C f : Addr} {mA : Str → Option Value} {name : Str} {v : Value}

theorem get_map {expr : Bool} {Q : Value → Shared → Prop} (X : K.In s.heap) (I : ObjM s.heap x dx C mA) (hg : PySem.W.plainGet K C name = true) (hh : PySem.W.hasDictIn K C = true)
    (ha : PySem.W.findIn K (.ref C) name = some none) (hv : mA name = some v) (hv' : PySem.W.handedIn v = true) (h : Q v { s with toks := s.toks + 1 }) :
    wpAny (model prog w) A (getAttr (.ref x) name expr) Q E s := by
  obtain ⟨od, J, hl⟩ := I.look
  exact PySem.W.get_value X J (PySem.W.plainGet_of hg).1 (PySem.W.findObj_own hh ha rfl (by rw [hl, hv])) hv' h


theorem get_meth {pl : Sem Bool} {Q : Value × List Value → Shared → Prop} (X : K.In s.heap) (I : ObjM s.heap x dx C mA) (hg : PySem.W.plainGet K C name = true)
    (hf : PySem.W.findIn K (.ref C) name = some (some (.ref f))) (ht : PySem.W.isFn K (.ref f) = true) (hv : mA name = none) (h : Q (.ref f, [.ref x]) s) :
    wpAny (model prog w) A (getMethod (.ref x) name pl) Q E s := by
  obtain ⟨od, J, hl⟩ := I.look
  exact PySem.W.method_fn X J (PySem.W.plainGet_of hg).1 (PySem.W.plainGet_of hg).2 hf (beq_iff_eq.mp ht) (by show (PySem.W.lookIn name od).map (·.isSome) = some false; rw [hl, hv]; rfl) h

theorem set_map {ns : List Str} {Q : Unit → Shared → Prop} (X : K.In s.heap) (I : ObjM s.heap x dx C mA)
    (hs : PySem.W.findIn K (.ref C) "__setattr__" = some (some (.builtin "object.__setattr__"))) (hp : PySem.W.plainOver K C = true) (ht : PySem.W.takerIn K C name = some none) (hh : PySem.W.hasDictIn K C = true)
    (hw : PySem.Within mA ns) (hsz : ns.length ≤ sizeLine)
    (h : ∀ h', ObjM h' x dx C (fun y => if y = name then some v else mA y) → Heap.SameBut dx s.heap h' → Q () { s with heap := h', toks := s.toks + 2 }) :
    wpAny (model prog w) A (setAttr (.ref x) name v) Q E s := by
  obtain ⟨od, J, hl⟩ := I.look
  refine PySem.W.set_plain X J hs (PySem.W.osa_open (s := { s with toks := s.toks + 1 }) (r := none) X J hp ht fun b => ?_)
  obtain ⟨cd, hc, hd'⟩ := PySem.W.any_some hh
  have hx : s.heap.get? x = some ⟨.ref C, some dx, .plain, #[]⟩ := I.obj
  refine wpAny_bind (wpAny_pure (wpAny_bind (wpAny_bind (wpAny_loadPart hx (wpAny_bind (PySem.W.Looks.here (s := { s with toks := s.toks + 1 }) (PySem.W.looks_clsIn X hc) ?_))))))
  rw [hd']
  refine wpAny_pure (a := some dx) (wpAny_bind (wpAny_pure (wpAny_bind ?_)))
  refine wpAny_nsSet1 (s := { s with toks := s.toks + 1 }) I.ns fun h' hn2 hs2 => ?_
  obtain ⟨oD, esD, epD, hoD, hdD, hcD⟩ := hn2.count (PySem.Within.cons name v hw)
  refine wpAny_bind (wpAny_lookBehind hoD (by rw [hdD]; exact pastItsLine_dict (Nat.le_trans hcD (by rw [List.length_cons]; omega))) ?_)
  exact wpAny_pure (h _ ⟨(hs2.2 _ (Ne.symm I.ne)).trans I.obj, hn2, I.ne⟩ hs2)

theorem make_map {R : Result → Shared → Prop} {vs : List Value} {kw : List (Str × Value)} (X : K.In s.heap) (hm : PySem.W.makesIn K C = true)
    (hi : PySem.W.findIn K (.ref C) "__init__" = some (some (.ref f))) (hf : PySem.W.typeIn K (.ref f) = some (.type "function"))
    (h : codeAny (model prog w) (A.under (.builtin "type.__call__" ⟨.ref C :: vs, kw⟩)) (.call (.ref f) ⟨.ref (s.heap.objs.size + 1) :: vs, kw⟩) (PySem.W.InitBack (s.heap.objs.size + 1) R)
      { s with heap := (s.heap.push PySem.W.emptyDict).push (PySem.W.instObj C s.heap.objs.size) }) :
    codeAny (model prog w) A (.call (.ref C) ⟨vs, kw⟩) R s := by
  obtain ⟨hh, g, d, t, os⟩ := s
  exact PySem.W.make_core (PySem.W.makes_of X hm) (PySem.W.looks_findIn X hi) (fun self => PySem.W.bind_fn X self hf) (.inl rfl) h
end

/-! ### the attributes as a list of pairs -/
def putF (f : Str) (v : V) : List (Str × V) → List (Str × V)
  | [] => [(f, v)]
  | (g, x) :: r => if g = f then (g, v) :: r else (g, x) :: putF f v r
theorem lookup_putF (f g : Str) (v : V) : ∀ fs : List (Str × V), (putF f v fs).lookup g = if g = f then some v else fs.lookup g
  | [] => by
    show List.lookup g [(f, v)] = _
    by_cases h : g = f
    · have hb : (g == f) = true := beq_iff_eq.mpr h
      simp only [List.lookup, hb, if_pos h]
    · have hb : (g == f) = false := beq_eq_false_iff_ne.mpr h
      simp only [List.lookup, hb, if_neg h]
  | (k, x) :: r => by
    have ih := lookup_putF f g v r
    rw [show putF f v ((k, x) :: r) = (if k = f then (k, v) :: r else (k, x) :: putF f v r) from rfl]
    by_cases hk : k = f
    · rw [if_pos hk]
      by_cases h : g = k
      · have hb : (g == k) = true := beq_iff_eq.mpr h
        simp only [List.lookup, hb, if_pos (h.trans hk)]
      · have hb : (g == k) = false := beq_eq_false_iff_ne.mpr h
        simp only [List.lookup, hb, if_neg (fun e : g = f => h (e.trans hk.symm))]
    · rw [if_neg hk]
      by_cases h : g = k
      · have hb : (g == k) = true := beq_iff_eq.mpr h
        simp only [List.lookup, hb, if_neg (fun e : g = f => hk (h.symm.trans e))]
      · have hb : (g == k) = false := beq_eq_false_iff_ne.mpr h
        simp only [List.lookup, hb]
        exact ih
theorem keys_putF (f : Str) (v : V) : ∀ fs : List (Str × V), f ∈ (putF f v fs).map (·.1) ∧ ∀ g, g ∈ fs.map (·.1) → g ∈ (putF f v fs).map (·.1)
  | [] => ⟨by simp [putF], fun g h => by simp at h⟩
  | (k, x) :: r => by
    obtain ⟨i1, i2⟩ := keys_putF f v r
    rw [show putF f v ((k, x) :: r) = (if k = f then (k, v) :: r else (k, x) :: putF f v r) from rfl]
    by_cases hk : k = f
    · rw [if_pos hk]
      subst hk
      exact ⟨by simp, fun g h => by simpa using h⟩
    · rw [if_neg hk]
      refine ⟨?_, fun g h => ?_⟩
      · rw [List.map_cons]
        exact List.mem_cons_of_mem _ i1
      · rw [List.map_cons] at h ⊢
        rcases List.mem_cons.mp h with e | e
        · exact List.mem_cons.mpr (.inl e)
        · exact List.mem_cons_of_mem _ (i2 g e)
theorem length_putF (f : Str) (v : V) : ∀ fs : List (Str × V), (putF f v fs).length ≤ fs.length + 1
  | [] => by simp [putF]
  | (k, x) :: r => by
    have ih := length_putF f v r
    rw [show putF f v ((k, x) :: r) = (if k = f then (k, v) :: r else (k, x) :: putF f v r) from rfl]
    by_cases hk : k = f
    · rw [if_pos hk, List.length_cons, List.length_cons]; omega
    · rw [if_neg hk, List.length_cons, List.length_cons]; omega

theorem RelO.some_of {v : V} {o : Option Value} (r : RelO (some v) o) : ∃ u, o = some u ∧ RelV v u := by
  cases o with
  | none => exact (show False from r).elim
  | some u => exact ⟨u, rfl, r⟩
theorem RelO.none_of {o : Option Value} (r : RelO none o) : o = none := by
  cases o with
  | none => rfl
  | some u => exact (show False from r).elim
theorem handed_of {v : V} {u : Value} (r : RelV v u) : PySem.W.handedIn u = true := by
  cases v with
  | non => cases (show u = Value.none from r); rfl
  | bl b => cases (show u = Value.bool b from r); rfl
  | int i => obtain ⟨t, e⟩ := (show ∃ t, u = Value.int i t from r); cases e; rfl
  | str x => obtain ⟨t, e⟩ := (show ∃ t, u = Value.str x t from r); cases e; rfl
  | byt b => obtain ⟨t, e⟩ := (show ∃ t, u = Value.bytes b t from r); cases e; rfl
  | flt b => obtain ⟨t, e⟩ := (show ∃ t, u = Value.float b t from r); cases e; rfl
  | ref a => cases (show u = Value.ref a from r); rfl
  | ty n => cases (show u = Value.type n from r); rfl

section
variable {P : Program} {w : World} {H H' : Hp} {h h' : Heap} {a C dx : Addr} {fs fs' : List (Str × V)}
theorem ins_get (hok : HOk P w H h) (e : H a = some (.ins C dx fs)) : ∃ mA, ObjM h a dx C mA ∧ (∀ f, RelO (fs.lookup f) (mA f)) ∧ PySem.Within mA (fs.map (·.1)) ∧ fs.length ≤ 1000 ∧ H dx = some (.own a) := by
  obtain ⟨d, z, ne, ob, mA, n, r, q⟩ := (show ObjOk P w H h a (.ins C dx fs) from hok a _ e)
  exact ⟨mA, ⟨ob, n, ne⟩, r, q, z, d⟩
end

/-! ### what of the text a class must have -/
structure Cls (K : PySem.W.Frag) (C : Addr) : Prop where
  pg : PySem.W.plainGet K C Str.empty = true
  hd : PySem.W.hasDictIn K C = true
  po : PySem.W.plainOver K C = true
  sa : PySem.W.findIn K (.ref C) "__setattr__" = some (some (.builtin "object.__setattr__"))
theorem Cls.get {K : PySem.W.Frag} {C : Addr} (c : Cls K C) (f : Str) : PySem.W.plainGet K C f = true := c.pg
def NoAttr (K : PySem.W.Frag) (C : Addr) (f : Str) : Prop := PySem.W.findIn K (.ref C) f = some none
theorem NoAttr.taker {K : PySem.W.Frag} {C : Addr} {f : Str} (n : NoAttr K C f) : PySem.W.takerIn K C f = some none := by
  unfold PySem.W.takerIn
  rw [show PySem.W.findIn K (.ref C) f = some none from n]
  rfl
structure Con (K : PySem.W.Frag) (C : Addr) (f : Str) (v : V) (u : Value) : Prop where
  at_ : PySem.W.findIn K (.ref C) f = some (some u)
  rel : RelV v u
  get : PySem.W.specialIn K u "__get__" = some none
  cp : PySem.W.copiedNames.contains f = false
structure Meth (K : PySem.W.Frag) (C : Addr) (m : Str) (f : Addr) : Prop where
  at_ : PySem.W.findIn K (.ref C) m = some (some (.ref f))
  fn : PySem.W.isFn K (.ref f) = true
  kp : PySem.W.keepIn K (.ref f) = true

section
variable {X : Cx} {pins : List (Addr × Obj)} {σ : St} {H : Hp} {s : Shared} {a C dx : Addr} {fs : List (Str × V)} {f : Str} {v : V} {A : Around} {E : Value → Shared → Prop}

theorem getattr_ok {b : Bool} {Q : Value → Shared → Prop} (I : Inv X pins σ H s) (e : H a = some (.ins C dx fs)) (c : Cls X.K C) (n : NoAttr X.K C f) (l : fs.lookup f = some v)
    (h : ∀ u s', Inv X pins σ H s' → RelV v u → Q u s') : wpAny (model X.prog X.w) A (getAttr (.ref a) f b) Q E s := by
  obtain ⟨mA, O, r, _, _, _⟩ := ins_get I.hok e
  obtain ⟨u, hu, ru⟩ := RelO.some_of (v := v) (o := mA f) (by rw [← l]; exact r f)
  exact get_map I.kIn O (c.get f) c.hd n hu (handed_of ru) (h u _ (I.tok _) ru)


theorem getmeth_ok {m : Str} {g : Addr} {pl : Sem Bool} {Q : Value × List Value → Shared → Prop} (I : Inv X pins σ H s) (e : H a = some (.ins C dx fs)) (c : Cls X.K C) (k : Meth X.K C m g) (l : fs.lookup m = none)
    (h : Q (.ref g, [.ref a]) s) : wpAny (model X.prog X.w) A (getMethod (.ref a) m pl) Q E s := by
  obtain ⟨mA, O, r, _, _, _⟩ := ins_get I.hok e
  have hn : mA m = none := RelO.none_of (by rw [← l]; exact r m)
  exact get_meth I.kIn O (c.get m) k.at_ k.fn hn h

theorem setattr_ok {y : V} {u : Value} {Q : Unit → Shared → Prop} (I : Inv X pins σ H s) (e : H a = some (.ins C dx fs)) (c : Cls X.K C) (n : NoAttr X.K C f) (hl : fs.length < 1000) (ry : RelV y u)
    (h : ∀ s', Inv X pins σ (upd H a (.ins C dx (putF f y fs))) s' → Q () s') : wpAny (model X.prog X.w) A (setAttr (.ref a) f u) Q E s := by
  obtain ⟨mA, O, r, wi, _, ho⟩ := ins_get I.hok e
  have hz : (fs.map (·.1)).length ≤ sizeLine := by rw [List.length_map, sizeLine_eq]; omega
  refine set_map I.kIn O c.sa c.po n.taker c.hd wi hz fun h' O' sb => h _ ?_
  have hd : ∃ o, h'.get? dx = some o := let ⟨o, _, _, e', _⟩ := O'.ns; ⟨o, e'⟩
  refine I.write (x := a) (e := dx) (by rw [e]; exact True.intro) (.inr ho) (fun b q hb z => (sb.2 b hb).trans z) hd ?_
  refine ⟨by rw [upd_ne O.ne]; exact ho, ?_, O.ne, O'.obj, _, O'.ns, fun g => ?_, fun g hg => ?_⟩
  · have := length_putF f y fs; omega
  · show RelO ((putF f y fs).lookup g) (if g = f then some u else mA g)
    rw [lookup_putF]
    by_cases q : g = f
    · rw [if_pos q, if_pos q]; exact ry
    · rw [if_neg q, if_neg q]; exact r g
  · by_cases q : g = f
    · rw [q]; exact (keys_putF f y fs).1
    · refine (keys_putF f y fs).2 g (wi g fun z => hg ?_)
      show (if g = f then some u else mA g) = none
      rw [if_neg q]; exact z

theorem Inv.made (I : Inv X pins σ H s) : Inv X pins σ (upd (upd H s.heap.objs.size (.own (s.heap.objs.size + 1))) (s.heap.objs.size + 1) (.ins C s.heap.objs.size []))
    { s with heap := (s.heap.push PySem.W.emptyDict).push (PySem.W.instObj C s.heap.objs.size) } := by
  have e1 : (s.heap.push PySem.W.emptyDict).get? s.heap.objs.size = some PySem.W.emptyDict := Heap.get?_push_size s.heap rfl
  have e2 : ((s.heap.push PySem.W.emptyDict).push (PySem.W.instObj C s.heap.objs.size)).get? (s.heap.objs.size + 1) = some (PySem.W.instObj C s.heap.objs.size) := by
    have := Heap.get?_push_size (s.heap.push PySem.W.emptyDict) (o := PySem.W.instObj C s.heap.objs.size) rfl
    rwa [Heap.size_push] at this
  have e3 : (s.heap.push PySem.W.emptyDict).Ns s.heap.objs.size (fun _ => none) := ⟨PySem.W.emptyDict, #[], _, e1, rfl, (fun e he => absurd he (by simp)), fun _ => rfl⟩
  have I1 := I.laid (a := s.heap.objs.size) (o := .own (s.heap.objs.size + 1)) (h' := s.heap.push PySem.W.emptyDict) (t' := s.toks) (fun b u q => Heap.get?_push_of_some _ q) (Nat.le_refl _) ⟨_, e1⟩
  refine I1.laid (a := s.heap.objs.size + 1) (o := .ins C s.heap.objs.size []) (t' := s.toks) (fun b u q => Heap.get?_push_of_some _ q) (Nat.le_of_eq (Heap.size_push _ _)) ?_
  have ne : s.heap.objs.size ≠ s.heap.objs.size + 1 := Nat.ne_of_lt (Nat.lt_succ_self _)
  refine ⟨by rw [upd_ne ne, upd_same], Nat.zero_le _, ne, e2, fun _ => none, (Heap.Ns1.of_empty e3).at fun o q => Heap.get?_push_of_some _ q, fun _ => True.intro, fun y hy => absurd rfl hy⟩

theorem attr_of {prog : Program} {w : World} {env : Env} {e : Expr} {f : Str} {pos : Pos} {s : Shared} {Q : Value → Shared → Prop} (hb : attributeBase e f env (eval e env) = eval e env)
    (h : wpAny (model prog w) A (eval e env) (fun o s₁ => wpAny (model prog w) A (getAttr o f true) Q E s₁) E s) : wpAny (model prog w) A (eval (.Attribute e f pos) env) Q E s :=
  Attribute_any_ h (by rw [arm_eval_Attribute, hb])
end

/-! ### readings and rules -/
def tFld (K : PySem.W.Frag) (ta : TE) (f : Str) : TE := fun σ H Q => ta σ H fun x H1 => ∃ a C dx fs v, x = .ref a ∧ H1 a = some (.ins C dx fs) ∧ Cls K C ∧ NoAttr K C f ∧ fs.lookup f = some v ∧ Q v H1
def sFld (K : PySem.W.Frag) (ta tv : TE) (f : Str) : TS := fun D σ H => tv σ H fun y H1 => ta σ H1 fun x H2 => ∃ a C dx fs, x = .ref a ∧ H2 a = some (.ins C dx fs) ∧ Cls K C ∧ NoAttr K C f ∧ fs.length < 1000 ∧
  D.nx σ (upd H2 a (.ins C dx (putF f y fs)))

section
variable {X : Cx} {o e value : Expr} {f : Str} {pos pos' tpos : Pos} {ta tv : TE}
theorem pe_fld (he : PE X e ta) (hb : attributeBase e f X.env (eval e X.env) = eval e X.env) : PE X (.Attribute e f pos) (tFld X.K ta f) := by
  intro pins s σ H Q I h
  refine attr_of hb (thn (he pins s σ H _ I h) fun u s1 ⟨x, H1, I1, rx, a, C, dx, fs, v, ex, ea, c, n, l, q⟩ => ?_)
  subst ex
  obtain rfl : u = Value.ref a := rx
  exact getattr_ok I1 ea c n l fun u' s2 I2 ru => ⟨v, H1, I2, ru, q⟩
theorem ps_fld (ha : PE X o ta) (hv : PE X value tv) (hs : swapsWith value (some (.Attribute o f pos')) pos.line X.env = pure false) : PS X (.Assign [.Attribute o f pos'] value pos) (sFld X.K ta tv f) := by
  intro pins s σ H D I h
  refine plainObj_wpAny_Assign_Attribute (thn (hv pins s σ H _ I h) fun u s1 ⟨y, H1, I1, ry, q⟩ => thn (ha pins s1 σ H1 _ I1 q) fun ov s2 ⟨x, H2, I2, rx, a, C, dx, fs, ex, ea, c, n, l, q2⟩ => ?_) hs
  subst ex
  obtain rfl : ov = Value.ref a := rx
  exact setattr_ok I2 ea c n l ry fun s3 I3 => ⟨σ, _, I3, q2⟩

end

/-! ### isinstance -/
section
variable {X : Cx} {pins : List (Addr × Obj)} {σ : St} {H : Hp} {s : Shared} {A : Around} {E : Value → Shared → Prop} {Q : Value → Shared → Prop} {c : Value} {b : Bool}
inductive TyOf (K : PySem.W.Frag) (H : Hp) : V → Value → Prop where
  | non : TyOf K H .non (.type "NoneType")
  | bl (x : Bool) : TyOf K H (.bl x) (.type "bool")
  | int (i : Int) : TyOf K H (.int i) (.type "int")
  | str (x : Str) : TyOf K H (.str x) (.type "str")
  | flt (x : UInt64) : TyOf K H (.flt x) (.type "float")
  | lst {a : Addr} {xs : List V} (e : H a = some (.lst xs)) : TyOf K H (.ref a) (.type "list")
  | frz {a : Addr} {o : Obj} {xs : List V} (e : H a = some (.frz o (.lst xs))) : TyOf K H (.ref a) (.type "list")
  | tup {a : Addr} {xs : List V} (e : H a = some (.tup xs)) : TyOf K H (.ref a) (.type "tuple")
  | dK {a : Addr} {kvs : List (Key × V)} (e : H a = some (.dK kvs)) : TyOf K H (.ref a) (.type "dict")
  | dT {a : Addr} {kvs : List (List Key × V)} (e : H a = some (.dT kvs)) : TyOf K H (.ref a) (.type "dict")
  | ins {a C dx : Addr} {fs : List (Str × V)} (e : H a = some (.ins C dx fs)) (cl : Cls K C) (ha : PySem.W.findIn K (.ref C) "__class__" = some (some (.builtin "object.__class__")))
      (hn : PySem.W.specialIn K (.builtin "object.__class__") "__get__" = some (some (.builtin "getset_descriptor.__get__"))) (htk : PySem.W.takesIn K (.builtin "object.__class__") = some true)
      (hm : PySem.W.mroIn K C (.type "object") = some true) : TyOf K H (.ref a) (.ref C)
end
end L2

namespace L2
open PySem PySem.Spec PyProof.Rows

/-! ### room -/
structure Room (k : Nat) (A : Around) : Prop where
  hd : A.handled = none
  dp : A.depth + 3 * k + 5 < recursionLimit
  un : A.units + 16 * k + 200 < cLine
theorem Room.mono {j k : Nat} {A : Around} (r : Room k A) (h : j ≤ k) : Room j A := ⟨r.hd, by have := r.dp; omega, by have := r.un; omega⟩
theorem Room.deeper {k : Nat} {A : Around} (r : Room (k + 1) A) (env : Env) : Room k (A.deeper env) :=
  ⟨r.hd, by have := r.dp; show A.depth + 1 + 3 * k + 5 < _; omega, by have := r.un; show A.units + 3 + 16 * k + 200 < _; omega⟩
theorem Room.in1 {k : Nat} {A : Around} (r : Room (k + 1) A) : Room k A.in1 :=
  ⟨r.hd, by have := r.dp; show A.depth + 3 * k + 5 < _; omega, by have := r.un; show A.units + 1 + 16 * k + 200 < _; omega⟩
theorem make_depth {A : Around} {C : Addr} {us : List Value} {kw : List (Str × Value)} : (A.under (.builtin "type.__call__" ⟨.ref C :: us, kw⟩)).depth = A.depth + 1 := by
  first | rfl | simp [Around.under, Code.weight, Code.isCreation, Code.isGuard, Code.isCaller, Code.frames, Code.isFrame, guardIds]
theorem make_units {A : Around} {C : Addr} {us : List Value} {kw : List (Str × Value)} : (A.under (.builtin "type.__call__" ⟨.ref C :: us, kw⟩)).units = A.units + 1 := by
  first | rfl | simp [Around.under, Code.cUnits, Code.frames, Code.isFrame]
theorem Room.make {k : Nat} {A : Around} (r : Room (k + 1) A) (C : Addr) (us : List Value) (kw : List (Str × Value)) : Room k (A.under (.builtin "type.__call__" ⟨.ref C :: us, kw⟩)) :=
  ⟨r.hd, by have := r.dp; rw [make_depth]; omega, by have := r.un; rw [make_units]; omega⟩
theorem Room.depth {k : Nat} {A : Around} (r : Room k A) : A.depth < recursionLimit := by have := r.dp; omega
theorem Room.units0 {k : Nat} {A : Around} (r : Room k A) : A.units < cLine := by have := r.un; omega

/-! ### argument lists and displays -/
def tNil : TA := fun _ H Q => Q [] H
def tCons (ta : TE) (tr : TA) : TA := fun σ H Q => ta σ H fun x H1 => tr σ H1 fun xs H2 => Q (x :: xs) H2
section
variable {X : Cx} {e : Expr} {es : List Expr} {te : TE} {t : TA} {pos : Pos}
theorem pa_nil : PA X [] tNil := fun _ _ _ _ H Q I h => Calls.spliced_nil ⟨[], H, I, .nil, h⟩
theorem pa_cons (ha : PE X e te) (hr : PA X es t) (hs : starEach (e :: es) X.env = (false, eval e X.env) :: starEach es X.env := by rfl) : PA X (e :: es) (tCons te t) := by
  intro pos pins s σ H Q I h
  rw [hs]
  show wpAny _ _ (spliced ((false, eval e X.env) :: backTo pos (starEach es X.env))) _ _ s
  refine Calls.spliced_cons (thn (ha pins s σ H _ I h) fun u s1 ⟨x, H1, I1, r1, q1⟩ => ?_)
  exact thn (hr pos pins s1 σ H1 _ I1 q1) fun us s2 ⟨xs, H2, I2, r2, q2⟩ => ⟨x :: xs, H2, I2, .cons r1 r2, q2⟩

def tTup (t : TA) : TE := fun σ H Q => t σ H fun xs H1 => xs.length ≤ sizeLine ∧ ∀ p, H1 p = none → Q (.ref p) (upd H1 p (.tup xs))
def tLst (t : TA) : TE := fun σ H Q => t σ H fun xs H1 => xs.length ≤ sizeLine ∧ ∀ p, H1 p = none → Q (.ref p) (upd H1 p (.lst xs))
theorem pe_tup {x1} (h : PA X es t) : PE X (.Tuple es x1 pos) (tTup t) := by
  intro pins s σ H Q I hq
  refine wpAny_Tuple_spliced (thn (h pos pins s σ H _ I hq) fun us s1 ⟨xs, H1, I1, r, z, q⟩ => ⟨by rw [← r.length]; exact z, ?_⟩)
  have hf : H1 s1.heap.objs.size = none := I1.hok.fresh (Nat.le_refl _)
  refine ⟨.ref s1.heap.objs.size, upd H1 s1.heap.objs.size (.tup xs), I1.laid (t' := s1.toks) (fun b u e => Heap.get?_push_of_some _ e) (Nat.le_refl _) ?_, rfl, q _ hf⟩
  exact ⟨z, us, r, ⟨_, Heap.get?_push_size _ rfl, rfl, _, rfl⟩⟩
theorem pe_lst (h : PA X es t) : PE X (.List es pos) (tLst t) := by
  intro pins s σ H Q I hq
  refine wpAny_List_spliced (thn (h pos pins s σ H _ I hq) fun us s1 ⟨xs, H1, I1, r, z, q⟩ => ⟨by rw [← r.length]; exact z, ?_⟩)
  have hf : H1 s1.heap.objs.size = none := I1.hok.fresh (Nat.le_refl _)
  refine ⟨.ref s1.heap.objs.size, upd H1 s1.heap.objs.size (.lst xs), I1.laid (t' := s1.toks) (fun b u e => Heap.get?_push_of_some _ e) (Nat.le_refl _) ?_, rfl, q _ hf⟩
  exact ⟨z, us, 0, r, Heap.get?_push_size _ rfl⟩
end

/-! ### what a def promises -/
abbrev Sp := List V → Hp → VK → XK → Prop
abbrev CXT := List Env → Hp → Shared → XK → Value → Shared → Prop

structure Env0 (P : Program) (w : World) (K : PySem.W.Frag) (mg : Str → Option Value) (base : Heap) (A : Around) (outer : List Env) (s : Shared) (H : Hp) : Prop where
  frames : A.frames = some outer
  mod : Mod K mg base
  bs : ∀ b o, base.get? b = some o → s.heap.get? b = some o ∧ H b = none
  bsz : base.objs.size ≤ s.heap.objs.size
  funs : s.heap.FunFrames base outer
  frf : ∀ b ∈ frs outer, H b = none
  hok : HOk P w H s.heap
  bare : AllBare s.gens
def CE (outer : List Env) (P : Program) (w : World) (H : Hp) (s : Shared) (Q : VK) (u : Value) (s' : Shared) : Prop :=
  ∃ v H', s'.os = s.os ∧ AllBare s'.gens ∧ Un (frs outer) [] H H' s.heap s'.heap ∧ HOk P w H' s'.heap ∧ RelV v u ∧ Q v H'
def CR (CX : CXT) (outer : List Env) (P : Program) (w : World) (H : Hp) (s : Shared) (Q : VK) (E : XK) (r : Result) (s' : Shared) : Prop :=
  match r with
  | .ok (.ret u) => CE outer P w H s Q u s'
  | .ok _ => False
  | .error e => CX outer H s E e s'
structure FnOk (P : Program) (w : World) (K : PySem.W.Frag) (mg : Str → Option Value) (base : Heap) (CX : CXT) (k : Nat) (f : Addr) (fd : FuncData) (ps : List Str) (sp : Sp) : Prop where
  len : ∀ vs H Q E, sp vs H Q E → vs.length = ps.length
  run : ∀ (A : Around) (outer : List Env) (s : Shared) (H : Hp) (args : Args) (us : List Value) (vs : List V) (Q : VK) (E : XK), Room k A → Env0 P w K mg base A outer s H → BindsTo s fd args (ps.zip us) → Vals vs us → sp vs H Q E →
    codeAny (model P w) A (.call (.ref f) args) (CR CX outer P w H s Q E) s

theorem Env0.make {P : Program} {w : World} {K : PySem.W.Frag} {mg : Str → Option Value} {base : Heap} {A : Around} {outer : List Env} {s : Shared} {H : Hp} (e : Env0 P w K mg base A outer s H) (C : Addr) (us : List Value) (kw : List (Str × Value)) :
    Env0 P w K mg base (A.under (.builtin "type.__call__" ⟨.ref C :: us, kw⟩)) outer s H := ⟨by first | exact e.frames | (simpa [Around.under, Code.envs, Code.isFrame, pushEnvs] using e.frames), e.mod, e.bs, e.bsz, e.funs, e.frf, e.hok, e.bare⟩

section
variable {X : Cx} {pins : List (Addr × Obj)} {σ : St} {H : Hp} {s s' : Shared}
theorem Inv.env0 (I : Inv X pins σ H s) : Env0 X.prog X.w X.K X.mg X.base X.A X.stack s H :=
  ⟨I.ok.frames, I.ok.mod, I.bs, Nat.le_trans I.ok.bsz I.sz, I.stack, I.stkFree, I.hok, I.bare⟩
theorem Inv.after {Q : VK} {u : Value} (I : Inv X pins σ H s) (h : CE X.stack X.prog X.w H s Q u s') : EP X pins σ Q u s' := by
  obtain ⟨v, H', os, bare, un, hok, r, q⟩ := h
  obtain ⟨hh, g, d, t, os'⟩ := s'
  obtain rfl : os' = s.os := os
  exact ⟨v, H', I.call (h' := hh) (g' := g) (d' := d) (t' := t) (ch := []) un hok bare (fun b z => absurd z (by simp)), r, q⟩
end

/-! ### calls -/
def tCall (sp : Sp) (dvs : List V) (E : XK) (t : TA) : TE := fun σ H Q => t σ H fun vs H1 => sp (vs ++ dvs) H1 Q E
def tMeth (C : Addr) (m : Str) (sp : Sp) (dvs : List V) (E : XK) (ta : TE) (t : TA) : TE := fun σ H Q => ta σ H fun x H1 => ∃ a dx fs, x = .ref a ∧ H1 a = some (.ins C dx fs) ∧ fs.lookup m = none ∧
  t σ H1 fun vs H2 => sp (x :: (vs ++ dvs)) H2 Q E

def Binds (K : PySem.W.Frag) (fd : FuncData) (ps : List Str) (ds : List Value) : Prop :=
  ∀ (s : Shared) (us : List Value), K.In s.heap → (us ++ ds).length = ps.length → BindsTo s fd ⟨us, []⟩ (ps.zip (us ++ ds))
theorem Binds.all {K : PySem.W.Frag} {fd : FuncData} {ps : List Str} (h : ∀ us : List Value, us.length = ps.length → bindArgs fd ⟨us, []⟩ = pure (ps.zip us)) : Binds K fd ps [] := fun s us _ hl => by
  rw [List.append_nil] at hl ⊢
  exact .of_eq (h us hl)

def Passes (CX : CXT) (X : Cx) (E : XK) : Prop := ∀ (pins : List (Addr × Obj)) (σ : St) (H : Hp) (s : Shared) (e : Value) (s' : Shared), Inv X pins σ H s → CX X.stack H s E e s' → X.xe e s'

section
variable {X : Cx} {CX : CXT} {k : Nat} {f C : Addr} {fd : FuncData} {ps : List Str} {sp : Sp} {dvs : List V} {ds : List Value} {E : XK} {x m : Str} {p pos apos : Pos} {e o : Expr} {es : List Expr} {ta : TE} {t : TA}

theorem run_fn {pins : List (Addr × Obj)} {σ : St} {H : Hp} {s : Shared} {Q : VK} {us : List Value} {vs : List V} (F : FnOk X.prog X.w X.K X.mg X.base CX k f fd ps sp) (hr : Room k X.A) (hb : Binds X.K fd ps ds) (hd : Vals dvs ds) (hx : Passes CX X E)
    (I : Inv X pins σ H s) (r : Vals vs us) (h : sp (vs ++ dvs) H Q E) : wpAny (model X.prog X.w) X.A (call (.ref f) us) (EP X pins σ Q) X.xe s := by
  have r2 : Vals (vs ++ dvs) (us ++ ds) := r.append hd
  have hl : (us ++ ds).length = ps.length := by rw [← r2.length]; exact F.len _ _ _ _ h
  refine wpAny_call (codeAny_mono (F.run X.A X.stack s H ⟨us, []⟩ (us ++ ds) (vs ++ dvs) Q E hr I.env0 (hb s us I.kIn hl) r2 h) fun r s' hq => ?_)
  cases r with
  | error e => exact hx pins σ H s e s' I hq
  | ok fl =>
    cases fl with
    | ret u => exact I.after hq
    | next => exact False.elim hq
    | brk => exact False.elim hq
    | cont => exact False.elim hq

theorem pe_call (F : FnOk X.prog X.w X.K X.mg X.base CX k f fd ps sp) (hr : Room k X.A) (hg : Gl X x) (hm : X.mg x = some (.ref f)) (hk : PySem.W.keepIn X.K (.ref f) = true) (hb : Binds X.K fd ps ds) (hd : Vals dvs ds) (hx : Passes CX X E)
    (ha : PA X (e :: es) t) (hdb : (x == ("__debug__" : Str)) = false := by decide) (he : starEach (e :: es) X.env = (false, eval e X.env) :: starEach es X.env := by rfl) (hpl : (backTo pos (starEach es X.env)).any (·.1) = false := by rfl) :
    PE X (.Call (.Name x p) (e :: es) [] pos) (tCall sp dvs E t) := by
  intro pins s σ H Q I h
  refine wpAny_Call_Name_kw (ld_glob I hg hm ?_ hdb)
  refine PySem.W.callWith_K (h₀ := X.base) I.ok.mod.kin hk (thn (ha pos pins s σ H _ I h) fun us s1 ⟨vs, H1, I1, r, q⟩ => ⟨I1.kIn, ?_⟩) he hpl
  exact run_fn F hr hb hd hx I1 r q

theorem pe_meth {pl : Sem Bool} (he : PE X o ta) (c : Cls X.K C) (hm : Meth X.K C m f) (F : FnOk X.prog X.w X.K X.mg X.base CX k f fd ps sp) (hr : Room k X.A) (hb : Binds X.K fd ps ds) (hd : Vals dvs ds) (hx : Passes CX X E) (ha : PA X (e :: es) t)
    (hst : starEach (e :: es) X.env = (false, eval e X.env) :: starEach es X.env := by rfl) (hpl : (backTo pos (starEach es X.env)).any (·.1) = false := by rfl)
    (ht : eval (.Call (.Attribute o m apos) (e :: es) [] pos) X.env = (do
      let ov ← eval o X.env
      standAt apos.atName
      let (f, first) ← holding [ov] (getMethod ov m pl)
      callWith pos f first (backTo pos (starEach (e :: es) X.env)) (backToKw pos (keywordEach [] X.env))) := by rfl) :
    PE X (.Call (.Attribute o m apos) (e :: es) [] pos) (tMeth C m sp dvs E ta t) := by
  intro pins s σ H Q I h
  refine PySem.W.methodCall_KW (pl := pl) (thn (he pins s σ H _ I h) fun u s1 ⟨x, H1, I1, rx, a, dx, fs, ex, ea, l, q⟩ => ?_) ht
  subst ex
  obtain rfl : u = Value.ref a := rx
  refine getmeth_ok I1 ea c hm l ?_
  refine PySem.W.callWith_K (first := [.ref a]) (h₀ := X.base) I.ok.mod.kin hm.kp (thn (ha pos pins s1 σ H1 _ I1 q) fun us s2 ⟨vs, H2, I2, r, q2⟩ => ⟨I2.kIn, ?_⟩) hst hpl
  exact run_fn (us := .ref a :: us) (vs := .ref a :: vs) F hr hb hd hx I2 (.cons rfl r) q2

structure Mk (K : PySem.W.Frag) (C f : Addr) : Prop where
  makes : PySem.W.makesIn K C = true
  init : PySem.W.findIn K (.ref C) "__init__" = some (some (.ref f))
  fn : PySem.W.isFn K (.ref f) = true
  kp : PySem.W.keepIn K (.ref C) = true

end

/-! ### keywords -/
section
variable {X : Cx} {CX : CXT} {k : Nat} {f C : Addr} {fd : FuncData} {ps ks : List Str} {sp : Sp} {E : XK} {x m : Str} {p pos apos kpos : Pos} {e o : Expr} {es : List Expr} {kws : List Keyword} {te ta : TE} {t tk : TA} {nm : Option Str}

structure KBinds (K : PySem.W.Frag) (fd : FuncData) (ps ks : List Str) (g : List Value → List Value → List Value) (gV : List V → List V → List V) : Prop where
  to : ∀ (s : Shared) (us ws : List Value), K.In s.heap → (g us ws).length = ps.length → BindsTo s fd ⟨us, ks.zip ws⟩ (ps.zip (g us ws))
  rel : ∀ {vs : List V} {us : List Value} {zs : List V} {ws : List Value}, Vals vs us → Vals zs ws → Vals (gV vs zs) (g us ws)
variable {g : List Value → List Value → List Value} {gV : List V → List V → List V}
end

/-! ### a def's body keeps its promise -/
structure FnScope (N P : List Str) (sc : Scope) : Prop where
  kind : sc.kind = .function
  co : sc.isCoroutine = false
  gen : sc.isGenerator = false
  nd : N.Nodup
  pre : N.take P.length = P
  par : ∀ x ∈ P, sc.names.lookup x = some .local ∨ sc.names.lookup x = some .cell
  nofree : ∀ y ∈ sc.names, y.2 ≠ .free

theorem bindL_out {kindOf : Str → Option NameKind} {x : Str} : ∀ {binds : List (Str × Value)} {m : Str → Option Value}, (∀ v, (x, v) ∉ binds) → bindL kindOf binds m x = m x
  | [], _, _ => rfl
  | (n, v) :: r, m, h => by
    unfold bindL
    rw [bindL_out fun w hw => h w (List.mem_cons_of_mem _ hw)]
    split
    · have : x ≠ n := by rintro rfl; exact h v List.mem_cons_self
      simp [this]
    · rfl
theorem bindC_out {kindOf : Str → Option NameKind} {x : Str} : ∀ {binds : List (Str × Value)} {m : Str → Option Value}, (∀ v, (x, v) ∉ binds) → bindC kindOf binds m x = m x
  | [], _, _ => rfl
  | (n, v) :: r, m, h => by
    unfold bindC
    rw [bindC_out fun w hw => h w (List.mem_cons_of_mem _ hw)]
    split
    · rfl
    · have : x ≠ n := by rintro rfl; exact h v List.mem_cons_self
      simp [this]
theorem bindL_get {kindOf : Str → Option NameKind} {x : Str} {v : Value} : ∀ {P : List Str} {vs : List Value} {i : Nat} {m : Str → Option Value}, P.Nodup → P[i]? = some x → vs[i]? = some v → kindOf x = some .local →
    bindL kindOf (P.zip vs) m x = some v
  | [], _, _, _, _, h, _, _ => by simp at h
  | _ :: _, [], _, _, _, _, h, _ => by simp at h
  | p :: P, w :: vs, 0, m, nd, h1, h2, hk => by
    simp at h1 h2; subst h1; subst h2
    show bindL kindOf ((p, w) :: P.zip vs) m p = _
    unfold bindL
    rw [bindL_out fun v hv => (List.nodup_cons.mp nd).1 (List.of_mem_zip hv).1, if_pos hk]
    simp
  | p :: P, w :: vs, i + 1, m, nd, h1, h2, hk => by
    show bindL kindOf ((p, w) :: P.zip vs) m x = _
    unfold bindL
    exact bindL_get (i := i) (List.nodup_cons.mp nd).2 (by simpa using h1) (by simpa using h2) hk
theorem bindC_get {kindOf : Str → Option NameKind} {x : Str} {v : Value} : ∀ {P : List Str} {vs : List Value} {i : Nat} {m : Str → Option Value}, P.Nodup → P[i]? = some x → vs[i]? = some v → kindOf x ≠ some .local →
    bindC kindOf (P.zip vs) m x = some v
  | [], _, _, _, _, h, _, _ => by simp at h
  | _ :: _, [], _, _, _, _, h, _ => by simp at h
  | p :: P, w :: vs, 0, m, nd, h1, h2, hk => by
    simp at h1 h2; subst h1; subst h2
    show bindC kindOf ((p, w) :: P.zip vs) m p = _
    unfold bindC
    rw [bindC_out fun v hv => (List.nodup_cons.mp nd).1 (List.of_mem_zip hv).1, if_neg hk]
    simp
  | p :: P, w :: vs, i + 1, m, nd, h1, h2, hk => by
    show bindC kindOf ((p, w) :: P.zip vs) m x = _
    unfold bindC
    exact bindC_get (i := i) (List.nodup_cons.mp nd).2 (by simpa using h1) (by simpa using h2) hk

def start (N : List Str) (vs : List V) : St := vs.map some ++ List.replicate (N.length - vs.length) none

def cxOf (CX : CXT) (P : Program) (w : World) (K : PySem.W.Frag) (mg : Str → Option Value) (base : Heap) (N : List Str) (qual : Str) (scope : Scope) (f : Addr) (cd : Value) (A : Around) (outer : List Env) (s : Shared) (H : Hp) (E : XK) : Cx where
  prog := P
  w := w
  K := K
  mg := mg
  base := base
  A := A.deeper (envOfC qual scope s.heap.objs.size f cd)
  N := N
  s₀ := s
  H₀ := H
  env := envOfC qual scope s.heap.objs.size f cd
  outer := outer
  stack := envOfC qual scope s.heap.objs.size f cd :: outer
  ex := []
  calm := true
  fn := fun _ => true
  pn := []
  xe := fun e s' => wpAny (model P w) (A.deeper (envOfC qual scope s.heap.objs.size f cd)) (leaving (envOfC qual scope s.heap.objs.size f cd) e) (fun _ s'' => CX outer H s E e s'') (fun e' s'' => CX outer H s E e' s'') s'

theorem cell_has {sc : Scope} {n : Nat} {x : Str} (h : sc.names.lookup x = some .cell) : ∃ c, (cellsFrom n sc.names []).lookup x = some c := by
  have q := PySem.W.cellsFrom_some sc.names n [] (.inl h)
  exact Option.isSome_iff_exists.mp q

theorem inv_start {CX : CXT} {P : Program} {w : World} {K : PySem.W.Frag} {mg : Str → Option Value} {base : Heap} {N ps : List Str} {qual : Str} {scope : Scope} {f : Addr} {cd : Value} {A : Around} {outer : List Env} {s s1 : Shared} {H : Hp} {E : XK} {us : List Value} {vs : List V}
    (S : FnScope N ps scope) (hd : A.handled = none) (e0 : Env0 P w K mg base A outer s H) (hl : vs.length = ps.length) (r : Vals vs us)
    (x : InCallC s s.heap.objs.size (bindL (envOfC qual scope s.heap.objs.size f cd).kindOf (ps.zip us) fun _ => none) (cellsFrom (s.heap.objs.size + 1) scope.names []) (bindC (envOfC qual scope s.heap.objs.size f cd).kindOf (ps.zip us) fun _ => none) s1) :
    Inv (cxOf CX P w K mg base N qual scope f cd A outer s H E) [] (start N vs) H s1 := by
  have hpl : ps.length ≤ N.length := by have := congrArg List.length S.pre; rw [List.length_take] at this; omega
  obtain ⟨h1, tk, rfl, hk⟩ := x.done
  have noA : ∀ b : Addr, b ∉ (cxOf CX P w K mg base N qual scope f cd A outer s H E).ex := fun b z => absurd (show b ∈ ([] : List Addr) from z) (by simp)
  refine ⟨⟨e0.mod, S.kind, rfl, rfl, Nat.le_refl _, fun y z c h1 h2 => ?_, fun y hy => ?_, fun y c _ h => ?_, fun _ => hd, Around.frames_deeper e0.frames, .inr ⟨rfl, rfl⟩, fun b z => absurd z (noA b), e0.bs, e0.bsz, fun b _ _ => noA b, fun b z => absurd z (noA b), e0.funs, e0.frf⟩,
    rfl, e0.bare, Un.kept hk, ⟨_, x.toInCall.ns, fun i y v h1 h2 h3 => ?_⟩, fun y c h => ⟨_, x.cell y c h⟩, e0.hok.fresh (Nat.le_refl _), fun y c h => ?_, fun p hp => absurd (show p ∈ ([] : List (Addr × Obj)) from hp) (by simp), e0.hok.kept hk, ?_⟩
  · exact name_of_addr x.apart (PySem.mem_of_lookup h1) (PySem.mem_of_lookup h2)
  · have hy : scope.names.lookup y = some .cell ∨ scope.names.lookup y = some .free := hy
    rcases hy with hy | hy
    · exact cell_has hy
    · exact absurd rfl (S.nofree _ (PySem.mem_of_lookup hy))
  · exact Nat.le_of_lt (x.above y c (PySem.mem_of_lookup h))
  · have hi : i < vs.length := by
      unfold start at h2
      by_cases hi : i < vs.length
      · exact hi
      · rw [List.getElem?_append_right (by simpa using hi)] at h2
        rw [List.getElem?_replicate] at h2
        split at h2 <;> cases h2
    have ha : vs[i]? = some v := by
      unfold start at h2
      rw [List.getElem?_append_left (by simpa using hi), List.getElem?_map] at h2
      cases e : vs[i]? with
      | none => rw [e] at h2; cases h2
      | some a => rw [e] at h2; cases h2; rfl
    obtain ⟨u, hu, rv⟩ := r.get ha
    have hp : ps[i]? = some y := by
      rw [← S.pre, List.getElem?_take_of_lt (by omega)]; exact h1
    have ndP : ps.Nodup := by rw [← S.pre]; exact S.nd.sublist (List.take_sublist _ _)
    refine ⟨u, rv, ?_⟩
    rcases S.par y (List.mem_of_getElem? hp) with k | k
    · exact .inl ⟨k, bindL_get ndP hp hu k⟩
    · obtain ⟨c, e⟩ := cell_has (n := s.heap.objs.size + 1) k
      refine .inr ⟨.inl k, c, e, ?_⟩
      have q := x.cell y c e
      rw [bindC_get ndP hp hu (by show scope.names.lookup y ≠ _; rw [k]; decide)] at q
      exact q
  · exact e0.hok.fresh (Nat.le_of_lt (x.above y c (PySem.mem_of_lookup h)))
  · unfold start
    show _ = N.length
    rw [List.length_append, List.length_map, List.length_replicate]
    omega

theorem fn_of {CX : CXT} {P : Program} {w : World} {K : PySem.W.Frag} {mg : Str → Option Value} {base : Heap} {k : Nat} {f : Addr} {name qual : Str} {params : Arguments} {body : List Stmt} {scope : Scope} {dV kV doc pm cdv ct oc : Value} {an od : Option Addr}
    {osl : Array (Option Value)} {N ps : List Str} {sp : Sp} (lk : K.lookup f = some ⟨oc, od, .func (PySem.W.fnOf name qual params body scope dV kV doc pm an cdv ct), osl⟩) (hcd : PySem.W.codeIn K cdv qual = true) (S : FnScope N ps scope)
    (len : ∀ vs H Q E, sp vs H Q E → vs.length = ps.length)
    (hbody : ∀ (A : Around) (outer : List Env) (s : Shared) (H : Hp) (vs : List V) (Q : VK) (E : XK), Room k (A.deeper (envOfC qual scope s.heap.objs.size f cdv)) → sp vs H Q E →
      ∃ t, PSs (cxOf CX P w K mg base N qual scope f cdv A outer s H E) body t ∧ t { nx := fun _ H' => Q .non H', rt := Q } (start N vs) H) :
    FnOk P w K mg base CX (k + 1) f (PySem.W.fnOf name qual params body scope dV kV doc pm an cdv ct) ps sp := by
  refine ⟨len, fun A outer s H args us vs Q E hr e0 hb r hsp => ?_⟩
  have hl := len _ _ _ _ hsp
  have KX : K.In s.heap := e0.mod.kin.keeps fun b o e => (e0.bs b o e).1
  have lim : s.heap.NoLimit := e0.mod.nolimit.keeps fun b o e => (e0.bs b o e).1
  have hkind : ∀ y ∈ ps.zip us, scope.names.lookup y.1 = some .local ∨ (scope.names.lookup y.1 = some .cell ∧ ((cellsFrom (s.heap.objs.size + 1) scope.names []).lookup y.1).isSome = true) := fun ⟨n, v⟩ hy => by
    rcases S.par n (List.of_mem_zip hy).1 with q | q
    · exact .inl q
    · exact .inr ⟨q, PySem.W.cellsFrom_some _ _ _ (.inl q)⟩
  refine codeAny_call_function hr.depth (KX _ _ lk) rfl S.co S.gen rfl (PySem.W.codeRec_of KX hcd) (hb _ _ _ _ ?_)
  refine wpAny_newFunctionEnv_cells S.kind hkind fun env he s1 x => ?_
  subst he
  refine ⟨lim.keeps x.toInCall.keep, codeAny_func ?_⟩
  obtain ⟨t, ht, hq⟩ := hbody A outer s H vs Q E (hr.deeper _) hsp
  have I : Inv (cxOf CX P w K mg base N qual scope f cdv A outer s H E) [] (start N vs) H s1 := inv_start S hr.hd e0 hl r x
  refine wpAny_mono (ht [] s1 (start N vs) H _ I hq) (fun fl s' hs => ?_) fun e s' hs => hs
  have fin : ∀ {σ' : St} {H' : Hp} {v : V} {u : Value}, Inv (cxOf CX P w K mg base N qual scope f cdv A outer s H E) [] σ' H' s' → RelV v u → Q v H' → CE outer P w H s Q u s' :=
    fun {σ' H' v u} J rv q => ⟨v, H', J.os, J.bare, J.base, J.hok, rv, q⟩
  cases fl with
  | ret u =>
    obtain ⟨v, σ', H', J, rv, q⟩ := hs
    exact fin J rv q
  | next =>
    obtain ⟨σ', H', J, q⟩ := hs
    exact fin (v := V.non) (u := Value.none) J rfl q
  | brk =>
    obtain ⟨_, _, _, q⟩ := hs
    exact False.elim q
  | cont =>
    obtain ⟨_, _, _, q⟩ := hs
    exact False.elim q
end L2

namespace L2
open PySem PySem.Spec PyProof.Rows
section
variable {X : Cx} {x : Str} {p pos : Pos} {e : Expr} {es : List Expr} {t : TA} {id T : String} {r : List V → Hp → VK → Prop}

def tCB (r : List V → Hp → VK → Prop) (t : TA) : TE := fun σ H Q => t σ H fun vs H1 => r vs H1 Q
theorem pe_callB (hc : CallR X (.builtin id) r) (hg : Gl X x) (hm : X.mg x = none) (hv : bootBuiltins x = some (.builtin id)) (ha : PA X (e :: es) t) (hn : x ≠ "__name__" := by decide) (hdb : (x == ("__debug__" : Str)) = false := by decide)
    (he : starEach (e :: es) X.env = (false, eval e X.env) :: starEach es X.env := by rfl) (hpl : (backTo pos (starEach es X.env)).any (·.1) = false := by rfl) : PE X (.Call (.Name x p) (e :: es) [] pos) (tCB r t) := by
  intro pins s σ H Q I h
  refine wpAny_Call_Name_kw (ld_blt I hg hm hv ?_ hn hdb)
  exact PyProof.Rows.callWith_builtin1 (thn (ha pos pins s σ H _ I h) fun us s1 ⟨vs, H1, I1, r1, q1⟩ => hc pins s1 σ H1 vs us Q I1 r1 q1) he hpl
theorem pe_callTy (hc : CallR X (.type T) r) (hg : Gl X x) (hm : X.mg x = none) (hv : bootBuiltins x = some (.type T)) (ha : PA X (e :: es) t) (hn : x ≠ "__name__" := by decide) (hdb : (x == ("__debug__" : Str)) = false := by decide)
    (he : starEach (e :: es) X.env = (false, eval e X.env) :: starEach es X.env := by rfl) (hpl : (backTo pos (starEach es X.env)).any (·.1) = false := by rfl) : PE X (.Call (.Name x p) (e :: es) [] pos) (tCB r t) := by
  intro pins s σ H Q I h
  refine wpAny_Call_Name_kw (ld_blt I hg hm hv ?_ hn hdb)
  exact PyProof.Rows.callWith_type1 (thn (ha pos pins s σ H _ I h) fun us s1 ⟨vs, H1, I1, r1, q1⟩ => hc pins s1 σ H1 vs us Q I1 r1 q1) he hpl
end
end L2

namespace HT
open PySem PyProof.Rows



section
open PySem.SeqAt
open PySem.AutoSeq1 (wpAny_loadPart')
open PySem.MeetsSeq PySem.MeetsSeq2 PySem.MeetsSeq3

end

section
variable {prog : Program} {w : World} {A : Around} {E : Value → Shared → Prop} {s : Shared}



/-! ### t[a:b], not the whole -/
def sIx (n d : Nat) : Option Int → Nat
  | none => d
  | some v => if v < 0 then (v + (n : Int)).toNat else min v.toNat n

end
end HT

namespace L2
open PySem PySem.Spec PyProof.Rows

/-! ### the parts of a slice -/
abbrev TO := St → Hp → (Option Int → Hp → Prop) → Prop
def PO (X : Cx) (e : Option Expr) (t : TO) : Prop :=
  ∀ (pins : List (Addr × Obj)) (s : Shared) (σ : St) (H : Hp) (Q : Option Int → Hp → Prop), Inv X pins σ H s → t σ H Q →
    wpAny (model X.prog X.w) X.A (evalPart e X.env) (fun u s' => ∃ o H', Inv X pins σ H' s' ∧ IsPart u o ∧ Q o H') X.xe s
def tNoPart : TO := fun _ H Q => Q none H
def tPart (t : TE) : TO := fun σ H Q => t σ H fun x H1 => ∃ i, x = .int i ∧ Q (some i) H1


section
variable {X : Cx} {e : Expr} {te : TE} {lo hi : Option Expr} {tl th : TO} {pos p2 : Pos}

theorem po_none : PO X none tNoPart := by
  intro pins s σ H Q I h
  rw [evalPart_none]
  exact wpAny_pure ⟨none, H, I, .none, h⟩
theorem po_some (h : PE X e te) : PO X (some e) (tPart te) := by
  intro pins s σ H Q I hw
  rw [evalPart_some]
  refine thn (h pins s σ H _ I hw) fun u s1 ⟨x, H1, I1, r1, q1⟩ => ?_
  obtain ⟨i, rfl, q⟩ := q1
  obtain ⟨t, rfl⟩ := r1
  exact ⟨some i, H1, I1, .int i t, q⟩

def SlR (X : Cx) (r : V → Option Int → Option Int → Hp → VK → Prop) : Prop :=
  ∀ (pins : List (Addr × Obj)) (s : Shared) (σ : St) (H : Hp) (x : V) (v vl vu : Value) (lo hi : Option Int) (sl : Addr) (Q : VK), Inv X pins σ H s → RelV x v → s.heap.IsSliceOf sl vl vu .none → IsPart vl lo → IsPart vu hi → r x lo hi H Q →
    ∃ T id, typeLookup (.type T) "__getitem__" = pure (some (.builtin id)) ∧ s.TypeIs v T ∧ wpAny (model X.prog X.w) X.A (getItem v (.ref sl)) (EP X pins σ Q) X.xe s
def tSl (r : V → Option Int → Option Int → Hp → VK → Prop) (te : TE) (tl th : TO) : TE := fun σ H Q => te σ H fun x H1 => tl σ H1 fun l H2 => th σ H2 fun u H3 => r x l u H3 Q
theorem pe_slice {r : V → Option Int → Option Int → Hp → VK → Prop} (hr : SlR X r) (he : PE X e te) (hl : PO X lo tl) (hu : PO X hi th) : PE X (.Subscript e (.Slice lo hi none p2) pos) (tSl r te tl th) := by
  intro pins s σ H Q I h
  refine Subscript_ (thn (he pins s σ H _ I h) fun v s1 ⟨x, H1, I1, r1, q1⟩ => ?_)
  refine wpAny_Slice (thn (hl pins s1 σ H1 _ I1 q1) fun vl s2 ⟨l, H2, I2, pl, q2⟩ => thn (hu pins s2 σ H2 _ I2 q2) fun vu s3 ⟨u, H3, I3, pu, q3⟩ => ?_)
  rw [evalPart_none]
  refine wpAny_pure ?_
  have I4 : Inv X pins σ H3 { s3 with heap := s3.heap.push { cls := .type "slice", data := .fields #[vl, vu, .none] } } := I3.kept (t' := s3.toks) fun b ob q => Heap.get?_push_of_some _ q
  obtain ⟨T, id, hT, ht, hg⟩ := hr pins { s3 with heap := s3.heap.push { cls := .type "slice", data := .fields #[vl, vu, .none] } } σ H3 x v vl vu l u s3.heap.objs.size Q I4 r1 (Heap.IsSliceOf.new ..) pl pu q3
  show wpAny (model X.prog X.w) X.A (subscriptTail e (.Slice lo hi none p2) v (.ref s3.heap.objs.size)) (EP X pins σ Q) X.xe { s3 with heap := s3.heap.push { cls := .type "slice", data := .fields #[vl, vu, .none] } }
  exact tail_any (ops := [.ref s3.heap.objs.size, v]) ht hT hg (by with_unfolding_all rfl)

def cutV (xs : List V) (lo hi : Option Int) : List V := (xs.drop (HT.sIx xs.length 0 lo)).take (HT.sIx xs.length xs.length hi - HT.sIx xs.length 0 lo)
theorem cutV_length (xs : List V) (lo hi : Option Int) : (cutV xs lo hi).length ≤ xs.length := by
  unfold cutV
  rw [List.length_take, List.length_drop]
  omega

/-! ### t < u, t + u -/
end
end L2

namespace L2
open PySem PySem.Spec PyProof.Rows

/-! ### places -/
def ixN (n : Nat) (i : Int) : Option Nat := if 0 ≤ i then (if i < n then some i.toNat else none) else if -(n : Int) ≤ i then some (i + n).toNat else none
def atI {α : Type} (xs : List α) (i : Int) : Option α := (ixN xs.length i).bind fun j => xs[j]?
theorem ixN_seq {n : Nat} {i : Int} {j : Nat} (h : ixN n i = some j) : seqIndex? i n = some j ∧ j < n ∧ -(n : Int) ≤ i ∧ i < n := by
  unfold ixN at h
  by_cases h0 : 0 ≤ i
  · rw [if_pos h0] at h
    by_cases h1 : i < n
    · rw [if_pos h1] at h
      have e : i.toNat = j := Option.some.inj h
      exact ⟨by rw [seqIndex_of h0 h1, e], by omega, by omega, h1⟩
    · rw [if_neg h1] at h; cases h
  · rw [if_neg h0] at h
    by_cases h1 : -(n : Int) ≤ i
    · rw [if_pos h1] at h
      have e : (i + n).toNat = j := Option.some.inj h
      exact ⟨by rw [seqIndex_neg (by omega) h1, e], by omega, h1, by omega⟩
    · rw [if_neg h1] at h; cases h
theorem atI_get {α : Type} {xs : List α} {i : Int} {v : α} (h : atI xs i = some v) : ∃ j, seqIndex? i xs.length = some j ∧ xs[j]? = some v ∧ j < xs.length ∧ -(xs.length : Int) ≤ i ∧ i < xs.length := by
  unfold atI at h
  cases e : ixN xs.length i with
  | none => rw [e] at h; cases h
  | some j =>
    rw [e] at h
    obtain ⟨h1, h2, h3, h4⟩ := ixN_seq e
    exact ⟨j, h1, h, h2, h3, h4⟩
theorem atI_nat {α : Type} {xs : List α} {j : Nat} {v : α} (h : xs[j]? = some v) : atI xs (j : Int) = some v := by
  have hj : j < xs.length := (List.getElem?_eq_some_iff.mp h).1
  have e : ixN xs.length (j : Int) = some j := by
    unfold ixN
    rw [if_pos (by omega), if_pos (by omega)]; simp
  unfold atI; rw [e]; exact h

/-! ### what may be subscripted -/
def PlainIx (b : Expr) : Prop := ∀ o i, subscripted b false o i = operate [o, i] (getItem o i)
def IxR (X : Cx) (r : R2) : Prop :=
  ∀ (value slice : Expr) (pins : List (Addr × Obj)) (s : Shared) (σ : St) (H : Hp) (x y : V) (v u : Value) (Q : VK), Inv X pins σ H s → RelV x v → RelV y u → r x y H Q →
    subscripted slice false v u = operate [v, u] (getItem v u) → wpAny (model X.prog X.w) X.A (subscriptTail value slice v u) (EP X pins σ Q) X.xe s
def MtR (X : Cx) (id : String) (r : V → List V → Hp → VK → Prop) : Prop :=
  ∀ (pins : List (Addr × Obj)) (s : Shared) (σ : St) (H : Hp) (x : V) (xs : List V) (v : Value) (us : List Value) (Q : VK), Inv X pins σ H s → RelV x v → Vals xs us → r x xs H Q →
    wpAny (model X.prog X.w) X.A (call (.builtin id) (v :: us)) (EP X pins σ Q) X.xe s
section
variable {X : Cx} {a b : Expr} {ta tb : TE} {pos : Pos}
theorem pe_ix {r : R2} (hr : IxR X r) (ha : PE X a ta) (hb : PE X b tb) (hs : PlainIx b) : PE X (.Subscript a b pos) (tOp r ta tb) := by
  intro pins s σ H Q I h
  exact Subscript_ (binT ha hb I h fun v u s2 x y H2 I2 rx ry q => hr a b pins s2 σ H2 x y v u Q I2 rx ry q (hs _ _))

def rIxL (K : PySem.W.Frag) : R2 := fun x y H Q => ∃ p xs i v, x = .ref p ∧ y = .int i ∧ SqL K H p xs ∧ atI xs i = some v ∧ Q v H
theorem ix_list : IxR X (rIxL X.K) := by
  intro value slice pins s σ H x y v u Q I rx ry h hs
  obtain ⟨p, xs, i, z, rfl, rfl, hq, he, q⟩ := h
  cases rx
  obtain ⟨t, rfl⟩ := ry
  obtain ⟨its, r, pl, hz⟩ := I.list hq
  obtain ⟨j, h1, h2, h3, h4, h5⟩ := atI_get he
  obtain ⟨w, ew, rw'⟩ := r.get h2
  have hl := r.length
  have hn := line63
  have fin : EP X pins σ Q w s := ⟨z, H, I, rw', q⟩
  by_cases h0 : 0 ≤ i
  · have hj : i.toNat = j := by
      rw [seqIndex_of h0 h5] at h1
      exact Option.some.inj h1
    exact item_listR pl.isList h0 (by omega) (by rw [hj]; simpa using ew) fin hs
  · have hj : (i + (its.toArray.size : Int)).toNat = j := by
      rw [seqIndex_neg (by omega) h4] at h1
      rw [List.size_toArray, ← hl]
      exact Option.some.inj h1
    exact subscriptTail_builtinR (x := w) pl.isList.typeIs slot_list_getitem.lookup
      (wpAny_getItem_list_neg (Q := fun r s' => r = w ∧ EP X pins σ Q r s') pl.isList (by omega) (by rw [List.size_toArray] <;> omega) (by omega) (by rw [hj]; simpa using ew) ⟨rfl, fin⟩) hs

/-! ### xs[i] = v, any sign -/
theorem mapSeq_set (its : List Value) (n j : Nat) (u : Value) : Obj.mapSeq (·.setIfInBounds j u) { cls := .type "list", data := .seq its.toArray n } = { cls := .type "list", data := .seq (its.set j u).toArray n } := by
  simp [Obj.mapSeq]
theorem Inv.lst {pins : List (Addr × Obj)} {σ : St} {H : Hp} {s : Shared} {p : Addr} {xs : List V} (I : Inv X pins σ H s) (h : H p = some (.lst xs)) :
    ∃ (its : List Value) (n : Nat), Vals xs its ∧ s.heap.get? p = some { cls := .type "list", data := .seq its.toArray n } ∧ xs.length ≤ sizeLine := by
  obtain ⟨z, its, n, r, e⟩ := I.hok p _ h
  exact ⟨its, n, r, e, z⟩
theorem Inv.lstUpd {pins : List (Addr × Obj)} {σ : St} {H : Hp} {s : Shared} {p : Addr} {xs ys : List V} {its its' : List Value} {n n' : Nat} {f : Obj → Obj} (I : Inv X pins σ H s) (h : H p = some (.lst xs))
    (ho : s.heap.get? p = some { cls := .type "list", data := .seq its.toArray n }) (hf : f { cls := .type "list", data := .seq its.toArray n } = { cls := .type "list", data := .seq its'.toArray n' }) (r : Vals ys its') (hz : ys.length ≤ sizeLine) (t : Nat) :
    Inv X pins σ (upd H p (.lst ys)) { s with heap := s.heap.update p f, toks := t } := by
  have e : (s.heap.update p f).get? p = some { cls := .type "list", data := .seq its'.toArray n' } := by
    rw [Heap.get?_update_self f ho (by rw [hf] <;> rfl), hf]
  refine I.write (x := p) (e := p) (by rw [h]; trivial) (.inl rfl) (fun b u hb q => (Heap.get?_update_other _ _ (Ne.symm hb)).trans q) ⟨_, e⟩ ?_
  exact ⟨hz, its', n', r, e⟩
def rSetL : V → V → V → Hp → (Hp → Prop) → Prop := fun o i v H Q => ∃ p xs k j, o = .ref p ∧ i = .int k ∧ H p = some (.lst xs) ∧ ixN xs.length k = some j ∧ Q (upd H p (.lst (xs.set j v)))
theorem set_list : PSet X rSetL := by
  intro pins s σ H o i v ov iv u Q I ro ri rv h
  obtain ⟨p, xs, k, j, rfl, rfl, hp, hj, q⟩ := h
  cases ro
  obtain ⟨t, rfl⟩ := ri
  obtain ⟨its, n, r, ho, hz⟩ := I.lst hp
  obtain ⟨h1, h2, h3, h4⟩ := ixN_seq hj
  have hl := r.length
  have hn := line63
  have I' : Inv X pins σ (upd H p (.lst (xs.set j v))) { s with heap := s.heap.update p (Obj.mapSeq (·.setIfInBounds j u)) } :=
    I.lstUpd hp ho (mapSeq_set its n j u) (r.set rv j) (by rw [List.length_set]; exact hz) s.toks
  by_cases h0 : 0 ≤ k
  · have hk : k.toNat = j := by
      rw [seqIndex_of h0 h4] at h1
      exact Option.some.inj h1
    exact PySem.W.ki_setAt ho h0 (by omega) (by rw [List.size_toArray, ← hl]; exact h4) (by rw [hk]; exact ⟨_, I', q⟩)
  · have hk : (k + (its.toArray.size : Int)).toNat = j := by
      rw [seqIndex_neg (by omega) h3] at h1
      rw [List.size_toArray, ← hl]
      exact Option.some.inj h1
    exact PySem.W.ki_setBack ho (by omega) (by rw [List.size_toArray, ← hl]; exact h3) (by omega) (by rw [hk]; exact ⟨_, I', q⟩)

/-! ### slices -/
theorem slice_bounds (lo hi : Option Int) (n : Nat) : (sliceBounds lo hi none n).1 = ((HT.sIx n 0 lo : Nat) : Int) ∧ (sliceBounds lo hi none n).2.1 = ((HT.sIx n n hi : Nat) : Int) ∧ (sliceBounds lo hi none n).2.2 = 1 := by
  refine ⟨?_, ?_, rfl⟩
  · cases lo with
    | none => simp [sliceBounds, HT.sIx]
    | some i =>
      simp only [sliceBounds, HT.sIx, Option.getD_none, show (1 : Int) > 0 by decide, if_true]
      by_cases h : i < 0
      · simp only [h, if_true] <;> omega
      · simp only [h, if_false] <;> omega
  · cases hi with
    | none => simp [sliceBounds, HT.sIx]
    | some i =>
      simp only [sliceBounds, HT.sIx, Option.getD_none, show (1 : Int) > 0 by decide, if_true]
      by_cases h : i < 0
      · simp only [h, if_true] <;> omega
      · simp only [h, if_false] <;> omega
theorem slicePick_cut (its : List Value) (lo hi : Option Int) : slicePick its.toArray lo hi none = ((its.drop (HT.sIx its.length 0 lo)).take (HT.sIx its.length its.length hi - HT.sIx its.length 0 lo)).toArray := by
  obtain ⟨h1, h2, h3⟩ := slice_bounds lo hi its.toArray.size
  unfold slicePick
  rw [h1, h2, h3]
  simp only [sliceRange_one, pick_run, List.size_toArray] <;> rfl
def rSlL (K : PySem.W.Frag) : V → Option Int → Option Int → Hp → VK → Prop := fun x lo hi H Q => ∃ a xs, x = .ref a ∧ SqL K H a xs ∧ ∀ p, H p = none → Q (.ref p) (upd H p (.lst (cutV xs lo hi)))
theorem sl_list : SlR X (rSlL X.K) := by
  intro pins s σ H x v vl vu lo hi sl Q I rx hs pl pu h
  obtain ⟨a, xs, rfl, hx, q⟩ := h
  cases rx
  obtain ⟨its, r, ht, hz⟩ := I.list hx
  have hlen := r.length
  refine ⟨"list", _, slot_list_getitem.lookup, ht.isList.typeIs, ?_⟩
  refine wpAny_getItem_list_slice ht.isList hs pl pu .none (by simp) ?_ (by rw [List.size_toArray] <;> omega)
  rw [slicePick_cut, ← hlen]
  refine ⟨.ref s.heap.objs.size, _, I.laid (t' := s.toks) (o := .lst (cutV xs lo hi)) (fun b ob q => Heap.get?_push_of_some _ q) (Nat.le_refl _) ?_, rfl, q _ (I.hok.fresh (Nat.le_refl _))⟩
  exact ⟨Nat.le_trans (cutV_length xs lo hi) hz, _, 0, (r.drop (HT.sIx xs.length 0 lo)).take (HT.sIx xs.length xs.length hi - HT.sIx xs.length 0 lo), Heap.get?_push_size _ rfl⟩

/-! ### in, not in: flat items -/
def flatV : V → Bool
  | .non => true
  | .bl _ => true
  | .int _ => true
  | .str _ => true
  | _ => false
def eqV : V → V → Bool
  | .non, .non => true
  | .bl a, .bl b => a == b
  | .bl a, .int b => (if a then 1 else 0) == b
  | .int a, .bl b => a == (if b then 1 else 0)
  | .int a, .int b => a == b
  | .str a, .str b => a == b
  | _, _ => false
theorem eqAt_V {A : Around} {s : Shared} {y x : V} {u v : Value} (ry : RelV y u) (rx : RelV x v) (fy : flatV y = true) (fx : flatV x = true) : SeqAt.EqAt A s u v (eqV y x) := by
  cases y with
  | non =>
    cases ry
    cases x with
    | non => cases rx; exact SeqAt.EqAt.same _
    | bl b => cases rx; exact SeqAt.EqAt.none_bool b
    | int b => obtain ⟨t, rfl⟩ := rx; exact SeqAt.EqAt.none_int b t
    | str b => obtain ⟨t, rfl⟩ := rx; exact SeqAt.EqAt.none_str b t
    | _ => exact absurd (show false = true from fx) Bool.false_ne_true
  | bl a =>
    cases ry
    cases x with
    | non => cases rx; exact SeqAt.EqAt.bool_none a
    | bl b => cases rx; exact SeqAt.EqAt.bool_bool a b
    | int b => obtain ⟨t, rfl⟩ := rx; exact SeqAt.EqAt.bool_int a b t
    | str b => obtain ⟨t, rfl⟩ := rx; exact SeqAt.EqAt.bool_str a b t
    | _ => exact absurd (show false = true from fx) Bool.false_ne_true
  | int a =>
    obtain ⟨t', rfl⟩ := ry
    cases x with
    | non => cases rx; exact SeqAt.EqAt.int_none a t'
    | bl b => cases rx; exact SeqAt.EqAt.int_bool a t' b
    | int b => obtain ⟨t, rfl⟩ := rx; exact SeqAt.EqAt.int_int a t' b t
    | str b => obtain ⟨t, rfl⟩ := rx; exact SeqAt.EqAt.int_str a t' b t
    | _ => exact absurd (show false = true from fx) Bool.false_ne_true
  | str a =>
    obtain ⟨t', rfl⟩ := ry
    cases x with
    | non => cases rx; exact SeqAt.EqAt.str_none a t'
    | bl b => cases rx; exact SeqAt.EqAt.str_bool a t' b
    | int b => obtain ⟨t, rfl⟩ := rx; exact SeqAt.EqAt.str_int a t' b t
    | str b => obtain ⟨t, rfl⟩ := rx; exact SeqAt.EqAt.str_str a t' b t
    | _ => exact absurd (show false = true from fx) Bool.false_ne_true
  | _ => exact absurd (show false = true from fy) Bool.false_ne_true
def eqU (x : V) (u : Value) : Bool := match u with
  | .none => eqV .non x
  | .bool b => eqV (.bl b) x
  | .int i _ => eqV (.int i) x
  | .str z _ => eqV (.str z) x
  | _ => false
theorem eqU_of {x y : V} {u : Value} (r : RelV y u) (f : flatV y = true) : eqU x u = eqV y x := by
  cases y with
  | non => cases r; rfl
  | bl b => cases r; rfl
  | int i => obtain ⟨t, rfl⟩ := r; rfl
  | str z => obtain ⟨t, rfl⟩ := r; rfl
  | _ => exact absurd (show false = true from f) Bool.false_ne_true
theorem any_eqU {x : V} : ∀ {xs : List V} {us : List Value}, Vals xs us → xs.all flatV = true → us.any (eqU x) = xs.any fun y => eqV y x
  | _, _, .nil, _ => rfl
  | y :: xs, u :: us, .cons r t, f => by
    rw [List.all_cons, Bool.and_eq_true] at f
    rw [List.any_cons, List.any_cons, eqU_of r f.1, any_eqU t f.2]
theorem mem_eqAt {A : Around} {s : Shared} {x : V} {v : Value} (rx : RelV x v) (fx : flatV x = true) : ∀ {xs : List V} {us : List Value}, Vals xs us → xs.all flatV = true → ∀ u ∈ us, SeqAt.EqAt A s u v (eqU x u)
  | _, _, .nil, _ => fun u hu => by cases hu
  | y :: xs, u :: us, .cons r t, f => fun u' hu => by
    rw [List.all_cons, Bool.and_eq_true] at f
    rcases List.mem_cons.mp hu with rfl | hu
    · rw [eqU_of r f.1]; exact eqAt_V r rx f.1 fx
    · exact mem_eqAt rx fx t f.2 u' hu
def inV (x : V) (xs : List V) : Bool := xs.any fun y => eqV y x
def rIn (K : PySem.W.Frag) (neg : Bool) : R2 := fun x y H Q => ∃ p xs, y = .ref p ∧ (SqL K H p xs ∨ SqT K H p xs) ∧ flatV x = true ∧ xs.all flatV = true ∧ Q (.bl (if neg then !inV x xs else inV x xs)) H
theorem op_in_seq : OpR X (compareOp .In) (rIn X.K false) := by
  intro pins s σ H x y v u Q I rx ry h
  obtain ⟨p, xs, rfl, hq, fx, fs, q⟩ := h
  cases ry
  rcases hq with hq | hq
  · obtain ⟨its, r, pl, hz⟩ := I.list hq
    refine SeqAt.in_listAt (eqU x) pl.isList (fun w hw => mem_eqAt rx fx r fs w (by simpa using hw)) ⟨.bl _, H, I, rfl, ?_⟩
    rw [show its.toArray.any (eqU x) = its.any (eqU x) by simp, any_eqU r fs]
    exact q
  · obtain ⟨its, r, pl, hz⟩ := I.tuple hq
    refine SeqAt.in_tupleAt (eqU x) pl (fun w hw => mem_eqAt rx fx r fs w (by simpa using hw)) ⟨.bl _, H, I, rfl, ?_⟩
    rw [show its.toArray.any (eqU x) = its.any (eqU x) by simp, any_eqU r fs]
    exact q

/-! ### len, list(x), tuple(x) of any list or tuple that is read -/
theorem call_len_seq : CallR X (.builtin "len") (fun xs H Q => ∃ p ys, xs = [.ref p] ∧ (SqL X.K H p ys ∨ SqT X.K H p ys) ∧ Q (.int ys.length) H) := by
  intro pins s σ H xs us Q I r h
  obtain ⟨p, ys, rfl, hq, q⟩ := h
  obtain ⟨u, rfl, rx⟩ := vals1 r
  cases rx
  have hn := line63
  rcases hq with hq | hq
  · obtain ⟨its, r', pl, hz⟩ := I.list hq
    have hlen := r'.length
    exact Calls.call_len_list pl.isList (by simp only [List.size_toArray] <;> omega) ⟨.int ys.length, H, I.tok _, ⟨s.toks + 1, by rw [List.size_toArray, hlen]⟩, q⟩
  · obtain ⟨its, r', pl, hz⟩ := I.tuple hq
    have hlen := r'.length
    exact len_tuple pl (by simp only [List.size_toArray] <;> omega) ⟨.int ys.length, H, I.tok _, ⟨s.toks + 1, by rw [List.size_toArray, hlen]⟩, q⟩

/-! ### the call of a builtin's method: o.m(..) -/
def tyV (K : PySem.W.Frag) (T : String) (x : V) (H : Hp) : Prop := match x with
  | .str _ => T = "str"
  | .int _ => T = "int"
  | .ref p => (T = "list" ∧ ∃ xs, SqL K H p xs) ∨ (T = "tuple" ∧ ∃ o, K.lookup p = some o ∧ o.cls = .type "tuple" ∧ o.dict = none) ∨
      (T = "dict" ∧ ((∃ kvs, H p = some (.dK kvs)) ∨ ∃ kvs, H p = some (.dT kvs))) ∨ (T = "set" ∧ ∃ S n, H p = some (.set S n))
  | _ => False
theorem tyV_is {pins : List (Addr × Obj)} {σ : St} {H : Hp} {s : Shared} {T : String} {x : V} {v : Value} (I : Inv X pins σ H s) (r : RelV x v) (ty : tyV X.K T x H) :
    s.TypeIs v T ∧ ∀ a, v = .ref a → ∃ ob, s.heap.get? a = some ob ∧ ob.dict = none := by
  cases x with
  | str z =>
    obtain ⟨t, rfl⟩ := r
    cases (show T = "str" from ty)
    exact ⟨typeIs_str s z t, fun _ e => nomatch e⟩
  | int i =>
    obtain ⟨t, rfl⟩ := r
    cases (show T = "int" from ty)
    exact ⟨typeIs_int s i t, fun _ e => nomatch e⟩
  | ref p =>
    cases r
    rcases ty with ⟨rfl, xs, hq⟩ | ⟨rfl, o, hk, hc, hd⟩ | ⟨rfl, hk⟩ | ⟨rfl, S, n, hk⟩
    · obtain ⟨its, _, pl, _⟩ := I.list hq
      refine ⟨pl.isList.typeIs, fun a e => ?_⟩
      cases e
      obtain ⟨o, n, e, c, hd, _⟩ := pl
      exact ⟨o, e, hd⟩
    · refine ⟨⟨o, I.kIn p o hk, hc⟩, fun a e => ?_⟩
      cases e
      exact ⟨o, I.kIn _ o hk, hd⟩
    · have z : ∃ o, s.heap.get? p = some o ∧ o.ExactDict := by
        rcases hk with ⟨kvs, hk⟩ | ⟨kvs, hk⟩
        · obtain ⟨_, _, _, _, o, _, _, e, ex, _⟩ := I.hok p _ hk
          exact ⟨o, e, ex⟩
        · obtain ⟨_, _, _, _, o, _, _, e, ex, _⟩ := I.hok p _ hk
          exact ⟨o, e, ex⟩
      obtain ⟨o, e, ex⟩ := z
      refine ⟨⟨o, e, ex.1⟩, fun a e2 => ?_⟩
      cases e2
      exact ⟨o, e, ex.2.1⟩
    · obtain ⟨o, _, _, _, e, ex, _⟩ := I.hok p _ hk
      refine ⟨⟨o, e, ex.1⟩, fun a e2 => ?_⟩
      cases e2
      exact ⟨o, e, ex.2.1⟩
  | _ => exact False.elim ty
def tBM0 (K : PySem.W.Frag) (T : String) (r : V → List V → Hp → VK → Prop) (to : TE) : TE := fun σ H Q => to σ H fun x H1 => tyV K T x H1 ∧ r x [] H1 Q
def tBM (K : PySem.W.Frag) (T : String) (r : V → List V → Hp → VK → Prop) (to : TE) (t : TA) : TE := fun σ H Q => to σ H fun x H1 => tyV K T x H1 ∧ t σ H1 fun xs H2 => r x xs H2 Q
variable {o e : Expr} {es : List Expr} {to : TE} {t : TA} {name : Str} {apos cpos : Pos} {T id : String} {r : V → List V → Hp → VK → Prop}
theorem pe_bm0 (pa : PlainAttrs T) (slot : Slot T name id) (hty : typeOf (.builtin id) = pure (.type "method_descriptor")) (hm : MtR X id r) (ho : PE X o to)
    (hbase : attributeBase o name X.env (eval o X.env) = eval o X.env := by rfl) (hline : (apos.endLine == cpos.line) = true := by rfl) : PE X (.Call (.Attribute o name apos) [] [] cpos) (tBM0 X.K T r to) := by
  intro pins s σ H Q I h
  refine wpAny_Call_method0_late hbase hline (thn (ho pins s σ H _ I h) fun v s1 ⟨x, H1, I1, r1, ty, q1⟩ => ?_)
  obtain ⟨h1, h2⟩ := tyV_is I1 r1 ty
  exact ⟨T, id, pa, slot, hty, h1, h2, Calls.callWith_builtin rfl (PySem.evalArgs_none (hm pins s1 σ H1 x [] v [] Q I1 r1 .nil q1))⟩
theorem pe_bm (pa : PlainAttrs T) (slot : Slot T name id) (hty : typeOf (.builtin id) = pure (.type "method_descriptor")) (hm : MtR X id r) (ho : PE X o to) (ha : PA X (e :: es) t)
    (hbase : attributeBase o name X.env (eval o X.env) = eval o X.env := by rfl)
    (hfew : ((backTo cpos (starEach (e :: es) X.env)).all (fun x => !x.1) && (backToKw cpos (keywordEach [] X.env)).all (fun x => x.1.isSome)
      && decide ((e :: es).length + ([] : List Keyword).length + (if ([] : List Keyword).isEmpty then 0 else 1) < 30)) = true := by rfl)
    (hline : (apos.endLine == cpos.line) = true := by rfl) (hs : starEach (e :: es) X.env = (false, eval e X.env) :: starEach es X.env := by rfl) (hplain : (backTo cpos (starEach es X.env)).any (·.1) = false := by rfl) :
    PE X (.Call (.Attribute o name apos) (e :: es) [] cpos) (tBM X.K T r to t) := by
  intro pins s σ H Q I h
  refine wpAny_Call_method_late hbase hfew hline rfl (thn (ho pins s σ H _ I h) fun v s1 ⟨x, H1, I1, r1, ty, q1⟩ => ?_)
  obtain ⟨h1, h2⟩ := tyV_is I1 r1 ty
  refine ⟨T, id, pa, slot, hty, h1, h2, ?_⟩
  have hA := ha cpos pins s1 σ H1 _ I1 q1
  rw [hs] at hA ⊢
  refine Calls.callWith_builtin (by show (false || (backTo cpos (starEach es X.env)).any (·.1)) = false; rw [hplain] <;> rfl) (Calls.evalArgs_plain ?_)
  exact thn hA fun us s2 ⟨vs, H2, I2, r2, q2⟩ => hm pins s2 σ H2 x vs v us Q I2 r1 r2 q2
/- xs.append(e), list.index on a module's tuple .. are MtR facts of 06m -/
end
end L2

namespace L2
open PySem PySem.Spec PyProof.Rows

def MtM (X : Cx) (id : String) (r : V → List V → Hp → VK → Prop) : Prop :=
  ∀ (pins : List (Addr × Obj)) (s : Shared) (σ : St) (H : Hp) (x : V) (xs : List V) (v : Value) (us : List Value) (Q : VK), Inv X pins σ H s → RelV x v → Vals xs us → r x xs H Q →
    wpAny (model X.prog X.w) X.A (call (.builtin id) (v :: us)) (EP X pins σ Q) X.xe s

/-! ### lists of values -/
theorem Vals.one : ∀ {x : V} {us : List Value}, Vals [x] us → ∃ u, us = [u] ∧ RelV x u
  | _, _, .cons r .nil => ⟨_, rfl, r⟩

section
variable {X : Cx} {pins : List (Addr × Obj)} {σ : St} {H : Hp} {s : Shared} {l b : Addr} {xs ys zs : List V}

/-! ### the two steps: a tracked list is rewritten, a new list is laid -/
theorem Inv.lset {its its' : List Value} {n : Nat} {f : Array Value → Array Value} {t' : Nat} (I : Inv X pins σ H s) (hH : H l = some (.lst xs))
    (e : s.heap.get? l = some { cls := .type "list", data := .seq its.toArray n }) (hf : f its.toArray = its'.toArray) (hv : Vals ys its') (hz : ys.length ≤ sizeLine) :
    Inv X pins σ (upd H l (.lst ys)) { s with heap := s.heap.update l (Obj.mapSeq f), toks := t' } := by
  have q := PySem.IsL.update e f
  rw [hf] at q
  refine I.write (x := l) (e := l) (by rw [hH]; exact trivial) (.inl rfl) (fun b' u hb hu => (Heap.get?_update_other s.heap (Obj.mapSeq f) (Ne.symm hb)).trans hu) ⟨_, q⟩ ?_
  exact ⟨hz, its', _, hv, q⟩
theorem Inv.lnew {its : List Value} {t' : Nat} (I : Inv X pins σ H s) (hv : Vals ys its) (hz : ys.length ≤ sizeLine) :
    Inv X pins σ (upd H s.heap.objs.size (.lst ys)) { s with heap := s.heap.push { cls := .type "list", data := .seq its.toArray }, toks := t' } :=
  I.laid (fun _ _ q => Heap.get?_push_of_some _ q) (Nat.le_refl _) ⟨hz, its, 0, hv, Heap.get?_push_size _ rfl⟩
theorem Inv.fresh (I : Inv X pins σ H s) : H s.heap.objs.size = none := I.hok.fresh (Nat.le_refl _)
theorem Inv.lstM (I : Inv X pins σ H s) (hH : H l = some (.lst xs)) : xs.length ≤ sizeLine ∧ ∃ (its : List Value) (n : Nat), Vals xs its ∧ xs.length = its.length ∧ s.heap.get? l = some { cls := .type "list", data := .seq its.toArray n } := by
  obtain ⟨z, its, n, r, e⟩ := I.hok l _ hH
  exact ⟨z, its, n, r, r.length, e⟩

end

section
variable {X : Cx}

/-! ### methods -/
def rAppend : V → List V → Hp → VK → Prop := fun x vs H Q => ∃ l xs y, x = .ref l ∧ vs = [y] ∧ H l = some (.lst xs) ∧ xs.length < sizeLine ∧ Q .non (upd H l (.lst (xs ++ [y])))
theorem mt_append : MtM X "list.append" rAppend := by
  intro pins s σ H x vs v us Q I rx rv h
  obtain ⟨l, xs, y, rfl, rfl, hH, hz, q⟩ := h
  cases rx
  obtain ⟨u, rfl, ru⟩ := rv.one
  obtain ⟨z, its, n, r, hl, e⟩ := I.lstM hH
  refine call_meets F.slot_list_append ⟨_, e, rfl⟩ F.entry_list_append (F.args_list_append_2 _ _) (PySem.list_append l its.toArray n u (by rw [List.size_toArray]; omega)) ⟨e, ?_⟩
  refine ⟨.non, _, I.lset (its' := its ++ [u]) hH e (by simp) (r.append (.cons ru .nil)) ?_, rfl, q⟩
  rw [List.length_append, List.length_singleton]
  omega






/-! ### list + list, list += list, list * int -/
def rCat : R2 := fun x y H Q => ∃ l b xs zs, x = .ref l ∧ y = .ref b ∧ H l = some (.lst xs) ∧ H b = some (.lst zs) ∧ xs.length + zs.length ≤ sizeLine ∧ ∀ p, H p = none → Q (.ref p) (upd H p (.lst (xs ++ zs)))
theorem op_cat : OpR X (binaryOp .Add) rCat := by
  intro pins s σ H x y v u Q I rx ry h
  obtain ⟨l, b, xs, zs, rfl, rfl, hH, hB, hz, q⟩ := h
  cases rx
  cases ry
  obtain ⟨z, its, n, r, hl, e⟩ := I.lstM hH
  obtain ⟨z2, its2, n2, r2, hl2, e2⟩ := I.lstM hB
  refine PySem.P.add_list e e2 ?_ (by rw [List.size_toArray, List.size_toArray]; omega)
  have ea : its.toArray ++ its2.toArray = (its ++ its2).toArray := by simp
  rw [ea]
  exact ⟨.ref _, _, I.lnew (t' := s.toks) (r.append r2) (by rw [List.length_append]; omega), rfl, q _ I.fresh⟩

/-! ### del xs[i] -/
end

/-! ### xs[a:b] = ys -/
section
variable {prog : Program} {w : World} {A : Around} {E : Value → Shared → Prop} {s : Shared}
end

section
variable {X : Cx}
end
end L2

namespace Att
open PySem PySem.W PySem.Calls PyProof.Rows

/-! ### the script -/
theorem ints_of_wellAll {P : Params} {h : Heap} : ∀ (ns : List Int) (vs : List Value), WellAll P h vs (ns.map WData.int) → IntsAre vs ns := by
  intro ns
  induction ns with
  | nil =>
    intro vs w
    rw [List.map_nil] at w
    cases w
    exact .nil
  | cons n ns ih =>
    intro vs w
    rw [List.map_cons] at w
    cases w with
    | cons a b =>
      cases a
      exact .cons _ _ (ih _ b)

theorem script_of {l : OpenLaw} {n : Nat} (hn : l.most = some n) {P : Params} {h : Heap} {args : List WData} {vals : List Value}
    (hpre : l.row.toRowW.claim.pre args = true) (hwl : WellAll P h vals args) :
    ∃ a vs ns, vals = [Value.ref a] ∧ args = [WData.list (ns.map WData.int)] ∧ h.get? a = some { cls := .type "list", data := .seq vs.toArray } ∧ IntsAre vs ns ∧ ns.length ≤ n := by
  have hsh : WShape.hasAll [] args [.list .int] = true := (pre_splitW hpre).1
  have hc : l.pre.holds [] { args := args } = true := (pre_splitW hpre).2
  obtain ⟨d, r, rfl, h1, h2⟩ := hasAllW_cons hsh
  obtain rfl := hasAllW_nil h2
  obtain ⟨xs, rfl, h3⟩ := hasW_list h1
  obtain ⟨ns, rfl⟩ := items_int h3
  have hlen : ns.length ≤ n := by
    unfold OpenLaw.pre at hc
    have h4 : (WTm.not (.lt (.lit (.int (n : Int))) (.len (.arg 0)))).holds [] { args := [.list (ns.map .int)] } = true := by
      have h4 := (holds_andW hc).1
      rw [hn] at h4
      exact h4
    have h5 := condW_of h4 (w_not (w_lt w_lit (w_len_list (w_arg rfl))))
    rw [List.length_map] at h5
    refine Nat.le_of_not_lt fun q => ?_
    have q' : (n : Int) < ((ns.length : Nat) : Int) := by omega
    first
      | (rw [decide_eq_true q'] at h5; exact absurd h5 (by decide))
      | (simp at h5; omega)
  cases hwl with
  | cons w1 w2 =>
    cases w2
    cases w1 with
    | list ho hall => exact ⟨_, _, ns, rfl, rfl, ho, ints_of_wellAll ns _ hall, hlen⟩

theorem post_true (l : OpenLaw) (args : List WData) : l.row.toRowW.claim.post args (.bool true) args = true :=
  postW_of (r := l.row.toRowW) (X := (true == true))
    (show WShape.has [] (.bool true) .bool = true by first | rfl | decide | simp [WShape.has, WShape.arms, WShape.armsAll])
    (show (WTm.eq .res (.lit (.bool true))).value [] { args := args, res := some (.bool true), after := args } = some (.bool (true == true)) from w_eq_bool (w_res rfl) w_lit) rfl

/-! ### the attachment: holds_open's last premise (the goal 'hc' behind k_head) from a wpAny of the law's body -/

theorem attach_call {l : OpenLaw} {n : Nat} {q : Program} {loose : List Str} {XP : (Str → Option Value) → Heap → Prop} {YP : World → Heap → Prop} {d : DefRec}
    (hn : l.most = some n) (hdf : d.params.defaults = [])
    (call : ∀ (w : World) (s₀ s₁ : Shared) (mg mb : Str → Option Value) (fa : Addr) (o : Obj) (pm cd doc : Value) (a : Addr) (vs : List Value) (ns : List Int),
      Ground q loose [] XP w s₀ mg mb s₁.heap → YP w s₁.heap →
      s₁.heap.get? fa = some o → o.data = .func (docDef d.name d.params d.body d.scope pm cd doc) → s₁.heap.CodeRec cd d.name → mg d.name = some (.ref fa) →
      s₁.heap.get? a = some { cls := .type "list", data := .seq vs.toArray } → IntsAre vs ns → ns.length ≤ n → s₁.gens = #[] →
      codeAny (model l.prog w) callerA (.call (.ref fa) ⟨[.ref a], []⟩) (fun r s' => r = .ok (.ret (.bool true)) ∧ OldK s₁.heap s'.heap ∧ s'.os = s₁.os ∧ AllBare s'.gens) s₁) :
    WalkO q loose XP YP l.row.toRowW d [] (fun f vs => PySem.call f vs) := by
  intro w s₀ s₁ mg mb G Y fa o pm cd doc dV kV ho hd hcd hD hmg hg args vals as hpre hlay hrd hwl hlo
  obtain rfl : dV = .none := Dflts.none hD hdf
  obtain rfl : kV = .none := Dflts.noKw hD
  obtain ⟨a, vs, ns, rfl, rfl, hobj, hints, hlen⟩ := script_of hn hpre hwl
  refine enter_call (codeAny_mono (call w s₀ s₁ mg mb fa o pm cd doc a vs ns G Y ho (fd_plain hd) hcd hmg hobj hints hlen hg) fun r s' hq => ?_)
  obtain ⟨rfl, h2, h3, h4⟩ := hq
  exact ⟨.inl ⟨.bool true, .bool true, [], rfl, fun _ => rfl, .bool true, post_true l _, fun _ => ⟨List.Pairwise.nil, fun _ hm => (nomatch hm)⟩⟩, h2, h3, h4⟩


/-! ### rules over ANY heap (no ledger) from facts about the written part K: the library's own take a ledger (News) for what they write -/
section
variable {prog : Program} {w : World} {A : Around} {E : Value → Shared → Prop} {s : Shared} {K : Frag}





/-! the whole heap as the ledger: makes every rule that writes through a ledger a rule over any heap -/

end
end Att

namespace L2
open PySem PySem.Spec PyProof.Rows

theorem vals_ints : ∀ {vs : List Value} {ns : List Int}, IntsAre vs ns → Vals (ns.map V.int) vs
  | _, _, .nil => .nil
  | _, _, .cons n t h => .cons ⟨t, rfl⟩ (vals_ints h)

def Only (H : Hp) : Prop := ∀ b, H b = none ∨ ∃ o xs, H b = some (.frz o (.lst xs))

theorem law_call {P : Program} {w : World} {K : PySem.W.Frag} {mg mb : Str → Option Value} {CX : CXT} {k : Nat} {fa a : Addr} {fd : FuncData} {x : Str} {sp : Sp} {s₁ : Shared} {vs : List Value} {ns : List Int}
    (KX : K.In s₁.heap) (hns : s₁.heap.Ns mainGlobals mg) (hb : s₁.heap.Ns builtinsNs mb) (hbb : ∀ x : Str, x ≠ "__name__" → mb x = bootBuiltins x) (hlim : s₁.heap.NoLimit) (hg : s₁.gens = #[])
    (ha : s₁.heap.get? a = some { cls := .type "list", data := .seq vs.toArray }) (hi : IntsAre vs ns) (hl : ns.length ≤ sizeLine) (hr : Room k callerA)
    (F : ∀ base : Heap, K.In base → base.Ns mainGlobals mg → FnOk P w K mg base CX k fa fd [x] sp) (hbind : ∀ (s : Shared) (u : Value), BindsTo s fd ⟨[u], []⟩ [(x, u)])
    (hsp : ∀ H : Hp, Only H → SqL K H a (ns.map V.int) → sp [.ref a] H (fun v _ => v = .bl true) fun _ _ _ => False)
    (hCX : ∀ H e s', CX [] H s₁ (fun _ _ _ => False) e s' → False) :
    codeAny (model P w) callerA (.call (.ref fa) ⟨[.ref a], []⟩) (fun r s' => r = .ok (.ret (.bool true)) ∧ OldK s₁.heap s'.heap ∧ s'.os = s₁.os ∧ AllBare s'.gens) s₁ := by
  have rv := vals_ints hi
  have lenV := hi.length
  -- from an abstract heap in which nothing but the script may be tracked
  have core : ∀ H : Hp, Only H → SqL K H a (ns.map V.int) → HOk P w H s₁.heap → (∀ b, H b ≠ none → b = a) → (H a ≠ none → K.lookup a = none) →
      codeAny (model P w) callerA (.call (.ref fa) ⟨[.ref a], []⟩) (fun r s' => r = .ok (.ret (.bool true)) ∧ OldK s₁.heap s'.heap ∧ s'.os = s₁.os ∧ AllBare s'.gens) s₁ := by
    intro H hO hS hok hA hK
    have base_of : ∀ {b : Addr} {o : Obj}, s₁.heap.get? b = some o → H b = none → (hidT s₁.heap H).get? b = some o := fun e n => hidT_get e n
    have noA : ∀ {b : Addr} {o : Obj} {es : Array DictEntry} {ep : Nat}, s₁.heap.get? b = some o → o.data = .dict es ep → H b = none := fun {b o es ep} e d => by
      cases q : H b with
      | none => rfl
      | some u =>
        have e' : b = a := hA b (by rw [q]; simp)
        subst e'
        rw [ha] at e; cases e
        have d' : Data.seq vs.toArray _ = Data.dict es ep := d
        cases d'
    have nsK : ∀ {b : Addr} {m : Str → Option Value}, s₁.heap.Ns b m → (hidT s₁.heap H).Ns b m := fun {b m} ⟨o, es, ep, e, d, r⟩ => ⟨o, es, ep, base_of e (noA e d), d, r⟩
    have hKb : K.In (hidT s₁.heap H) := fun b o e => base_of (KX b o e) (by
      cases q : H b with
      | none => rfl
      | some u =>
        have e' : b = a := hA b (by rw [q]; simp)
        subst e'
        rw [hK (by rw [q]; simp)] at e; cases e)
    have hM : Mod K mg (hidT s₁.heap H) := ⟨hKb, nsK hns, ⟨mb, nsK hb, hbb⟩, let ⟨mc, h1, h2⟩ := hlim; ⟨mc, nsK h1, h2⟩⟩
    have e0 : Env0 P w K mg (hidT s₁.heap H) callerA [] s₁ H := ⟨rfl, hM, fun b o e => of_hidT e, Nat.le_of_eq (hidT_size _ _), trivial, fun b hb => absurd (show b ∈ ([] : List Addr) from hb) (by simp), hok, .of_eq hg⟩
    refine codeAny_mono ((F _ hKb (nsK hns)).run callerA [] s₁ H ⟨[.ref a], []⟩ [.ref a] [.ref a] _ _ hr e0 (hbind s₁ (.ref a)) (.cons rfl .nil) (hsp H hO hS)) fun r s' h => ?_
    cases r with
    | error e => exact (hCX H e s' h).elim
    | ok fl =>
      cases fl with
      | next => exact False.elim h
      | brk => exact False.elim h
      | cont => exact False.elim h
      | ret u =>
        obtain ⟨v, H', os, bare, un, hok', r', q⟩ := h
        have q' : v = .bl true := q
        subst q'
        obtain rfl : u = Value.bool true := r'
        refine ⟨rfl, OldK.of_keep fun b o e => ?_, os, bare⟩
        cases q : H b with
        | none => exact un.keep b o e q (by intro z; exact absurd (show b ∈ ([] : List Addr) from z) (by simp)) (by simp)
        | some u =>
          rcases hO b with z | ⟨ob, xs, z⟩
          · rw [q] at z; cases z
          · have z2 := un.frzs b ob _ z
            obtain ⟨e1, _⟩ := hok b _ z
            obtain ⟨e2, _⟩ := hok' b _ z2
            rw [e] at e1; cases e1
            exact e2
  cases hk : K.lookup a with
  | some o =>
    -- the script is one of the module's own objects
    have e := KX a o hk
    rw [ha] at e
    cases e
    refine core (fun _ => none) (fun _ => .inl rfl) (.inr ⟨_, vs.toArray, _, hk, rfl, rfl, rfl, by rw [List.size_toArray, lenV]; exact hl, by simpa using rv⟩) (fun b u z => by have z' : (none : Option HO) = some u := z; cases z') (fun b z => absurd rfl z) fun z => absurd rfl z
  | none =>
    refine core (fun b => if b = a then some (.frz { cls := .type "list", data := .seq vs.toArray } (.lst (ns.map V.int))) else none) (fun b => ?_) (.inl (.inr ⟨{ cls := .type "list", data := .seq vs.toArray }, if_pos rfl⟩)) (fun b u z => ?_) (fun b z => ?_) fun _ => hk
    · by_cases hb : b = a
      · exact .inr ⟨_, _, if_pos hb⟩
      · exact .inl (if_neg hb)
    · by_cases hb : b = a
      · have z' := (if_pos hb).symm.trans z
        cases z'
        subst hb
        exact ⟨ha, by rw [List.length_map]; exact hl, vs, _, rv, ha⟩
      · have z' := (if_neg hb).symm.trans z
        cases z'
    · by_cases hb : b = a
      · exact hb
      · exact absurd (if_neg hb) z
end L2

namespace L2
open PySem PySem.Spec PyProof.Rows

abbrev KOf {K : PySem.W.Frag} {h : Heap} (_ : K.In h) : PySem.W.Frag := K

theorem walk_of {l : PySem.W.OpenLaw} {n k : Nat} {q : Program} {loose : List Str} {XP : (Str → Option Value) → Heap → Prop} {YP : World → Heap → Prop} {d : DefRec} {K : Params → PySem.W.Frag} {CX : World → CXT} {sp : World → Sp} {x : Str}
    (hn : l.most = some n) (hn2 : n ≤ sizeLine) (hdf : d.params.defaults = []) (hr : Room k callerA)
    (hY : ∀ (w : World) (h : Heap), YP w h → (K w.params).In h)
    (F : ∀ (w : World) (mg : Str → Option Value) (fa : Addr) (h : Heap), (K w.params).In h → h.Ns mainGlobals mg → mg d.name = some (.ref fa) →
      ∃ fd : FuncData, (∀ (s : Shared) (u : Value), BindsTo s fd ⟨[u], []⟩ [(x, u)]) ∧
        ∀ base : Heap, (K w.params).In base → base.Ns mainGlobals mg → FnOk l.prog w (K w.params) mg base (CX w) k fa fd [x] (sp w))
    (hsp : ∀ (w : World) (H : Hp) (a : Addr) (ns : List Int), ns.length ≤ n → Only H → SqL (K w.params) H a (ns.map V.int) → sp w [.ref a] H (fun v _ => v = .bl true) fun _ _ _ => False)
    (hCX : ∀ (w : World) (H : Hp) (s : Shared) (e : Value) (s' : Shared), CX w [] H s (fun _ _ _ => False) e s' → False) :
    PySem.W.WalkO q loose XP YP l.row.toRowW d [] (fun f vs => PySem.call f vs) := by
  refine Att.attach_call hn hdf fun w s₀ s₁ mg mb fa o pm cd doc a vs ns G Y ho hd hcd hmg hobj hints hlen hg => ?_
  have KX := hY w _ Y
  obtain ⟨fd, hb, hF⟩ := F w mg fa _ KX G.T.g hmg
  exact law_call KX G.T.g G.T.b G.T.builtins G.T.nolimit hg hobj hints (Nat.le_trans hlen hn2) hr hF hb (fun H hO hS => hsp w H a ns hlen hO hS) fun H e s' => hCX w H s₁ e s'
end L2

/- THE LAST THEOREM (shape; LID, My.* are yours):
   My.Adr: a structure of the addresses that your layer names (classes, functions); My.Txt K t: a structure (Prop) of the equations over K;
   My.txt_mk : {K} {implicit addresses ..} (e1 : nsIn K mainGlobals "law" = some (some (.ref f))) (e2 : K.lookup f = some ⟨oc, od, .func (fnOf "law" "law" params body scope dV kV doc pm an cdv ct), sl⟩) (e3 : codeIn K cdv "law" = true) .. : ∃ t, My.Txt K t

set_option maxRecDepth 100000 in
set_option maxHeartbeats 0 in
theorem PySem.Challenge.cw_LID_holds : PySem.Challenge.rw_LID.Holds := by
  w_on; o_law; k_head; (case hw => w_witness2)
  k_fill
  refine L2.walk_of (l := PySem.Challenge.rw_LID) (n := 63) (k := 40) (x := "script") (CX := fun w => ..) (sp := fun _ => My.sp_law) rfl (by decide) rfl ⟨rfl, by decide, by decide⟩ (fun w h Y => PySem.W.kIn_of Y) ?F ?S ?C
  case F =>
    intro w mg fa h KX G hmg
    have T : ∃ t, My.Txt (L2.KOf KX) t := by
      dsimp only [L2.KOf]                          -- K must stand as «<heap const> w.params» for k_is
      refine' My.txt_mk ?e1 ?e2 ?e3 ..
      (case e1 => PySem.W.k_is)                    -- in the order: a name -> its address -> its object -> its parts
      (case e2 => PySem.W.k_is)
      ..
    obtain ⟨t, T⟩ := T
    have e0 := hmg.symm.trans (PySem.W.mg_of KX G T.law)
    cases e0                                       -- fa is the law's own address
    exact ⟨_, fun s u => .of_eq rfl, fun base kb nb => My.law_fn T kb nb⟩     -- if «.of_eq rfl» comes too early: refine' ⟨_, ?b, fun base kb nb => My.law_fn T kb nb⟩; exact fun s u => .of_eq rfl
  case S => exact fun w H a ns hl hO hS => ..
  case C => exact ..
(the tactic k_is has no namespace: write k_is) -/

/-! SHORT WORDS over the layer: a def of the text, its body, what a loop and a test want. -/
namespace L2
open PySem PySem.Spec PyProof.Rows

/-! ### the text by places -/
def inClass (s : Stmt) (j : Nat) : Stmt := match s with
  | .ClassDef _ _ _ body _ _ _ _ _ _ _ => body.getD j (.Pass ⟨0, 0, 0, 0⟩)
  | _ => .Pass ⟨0, 0, 0, 0⟩
def defArgs (s : Stmt) : Arguments := match s with
  | .FunctionDef _ a _ _ _ _ _ _ _ _ => a
  | _ => { posonlyargs := [], args := [], vararg := none, kwonlyargs := [], kw_defaults := [], kwarg := none, defaults := [] }
def defBody (s : Stmt) : List Stmt := match s with
  | .FunctionDef _ _ b _ _ _ _ _ _ _ => b
  | _ => []
def defScope (s : Stmt) : Scope := match s with
  | .FunctionDef _ _ _ _ _ _ sc _ _ _ => sc
  | _ => { kind := .function, names := [], isGenerator := false, isCoroutine := false }

/-! ### no exception leaves a def -/
abbrev CX0 : CXT := fun _ _ _ _ _ _ => False
abbrev E0 : XK := fun _ _ _ => False
theorem pass0 {X : Cx} : Passes CX0 X E0 := fun _ _ _ _ _ _ _ h => h.elim

/-! ### a def (or method) of the text as it stands behind the top -/
structure Fun (K : PySem.W.Frag) (x qual : Str) (st : Stmt) (f : Addr) (fd : FuncData) : Prop where
  ex : ∃ (oc : Value) (od : Option Addr) (kV doc pm : Value) (an : Option Addr) (cdv ct : Value) (osl : Array (Option Value)),
    fd = PySem.W.fnOf x qual (defArgs st) (defBody st) (defScope st) .none kV doc pm an cdv ct ∧ K.lookup f = some ⟨oc, od, .func fd, osl⟩ ∧ PySem.W.codeIn K cdv qual = true
  kp : PySem.W.keepIn K (.ref f) = true
section
variable {P : Program} {w : World} {K : PySem.W.Frag} {mg : Str → Option Value} {base : Heap}
theorem Fun.ok {x qual : Str} {st : Stmt} {f : Addr} {fd : FuncData} {N ps : List Str} {k : Nat} {sp : Sp} (F : Fun K x qual st f fd) (S : FnScope N ps (defScope st)) (len : ∀ vs H Q E, sp vs H Q E → vs.length = ps.length)
    (hbody : ∀ (cdv : Value) (A : Around) (outer : List Env) (s : Shared) (H : Hp) (vs : List V) (Q : VK) (E : XK), Room k (A.deeper (envOfC qual (defScope st) s.heap.objs.size f cdv)) → sp vs H Q E →
      ∃ t, PSs (cxOf CX0 P w K mg base N qual (defScope st) f cdv A outer s H E).nox (defBody st) t ∧ t { nx := fun _ H' => Q .non H', rt := Q } (start N vs) H) : FnOk P w K mg base CX0 (k + 1) f fd ps sp := by
  obtain ⟨oc, od, kV, doc, pm, an, cdv, ct, osl, rfl, lk, hcd⟩ := F.ex
  refine fn_of lk hcd S len fun A outer s H vs Q E hr hsp => ?_
  obtain ⟨t, h, q⟩ := hbody cdv A outer s H vs Q E hr hsp
  exact ⟨t, h.nox, q⟩
theorem Fun.binds {x qual : Str} {st : Stmt} {f : Addr} {fd : FuncData} {ps : List Str} (F : Fun K x qual st f fd)
    (h : ∀ (kV doc pm : Value) (an : Option Addr) (cdv ct : Value) (us : List Value), us.length = ps.length → bindArgs (PySem.W.fnOf x qual (defArgs st) (defBody st) (defScope st) .none kV doc pm an cdv ct) ⟨us, []⟩ = pure (ps.zip us)) : Binds K fd ps [] := by
  obtain ⟨oc, od, kV, doc, pm, an, cdv, ct, osl, rfl, lk, hcd⟩ := F.ex
  exact .all (h kV doc pm an cdv ct)
theorem fun_mk {x qual : Str} {st : Stmt} {f : Addr} {oc : Value} {od an : Option Addr} {osl : Array (Option Value)} {kV doc pm cdv ct : Value} (l : K.lookup f = some ⟨oc, od, .func (PySem.W.fnOf x qual (defArgs st) (defBody st) (defScope st) .none kV doc pm an cdv ct), osl⟩)
    (c : PySem.W.codeIn K cdv qual = true) (k : PySem.W.keepIn K (.ref f) = true) : Fun K x qual st f (PySem.W.fnOf x qual (defArgs st) (defBody st) (defScope st) .none kV doc pm an cdv ct) := ⟨⟨oc, od, kV, doc, pm, an, cdv, ct, osl, rfl, l, c⟩, k⟩
end
theorem small1000 {n : Nat} (h : n ≤ 1000) : n < sizeLine := Nat.lt_of_le_of_lt h (by decide)

/-! ### expressions in short: the name that stands in the i-th slot -/
section
variable {X : Cx}
theorem pv (i : Nat) {x : Str} {pos : Pos} (hN : X.N[i]? = some x := by rfl) (hv : Vis X.env.scope x := by first | exact Or.inl rfl | exact Or.inr (Or.inl rfl) | exact Or.inr (Or.inr rfl)) (hd : (x == ("__debug__" : Str)) = false := by decide)
    (hcd : (x == ("__classdict__" : Str)) = false := by decide) : PE X (.Name x pos) (tVar i) := pe_var hN hv hd hcd
end

/-! ### tests -/
theorem iteF {A B : Prop} (h : B) : if false = true then A else B := by
  rw [if_neg Bool.false_ne_true]
  exact h
theorem iteT {A B : Prop} (h : A) : if true = true then A else B := by
  rw [if_pos rfl]
  exact h
theorem ite2 {c A B : Prop} [Decidable c] (h1 : c → A) (h2 : ¬ c → B) : if c then A else B := by
  by_cases h : c
  · rw [if_pos h]
    exact h1 h
  · rw [if_neg h]
    exact h2 h

/-! ### heaps -/
def Same (H H' : Hp) : Prop := ∀ b o, H b = some o → H' b = some o
theorem Same.refl (H : Hp) : Same H H := fun _ _ h => h
theorem Same.trans {H H1 H2 : Hp} (a : Same H H1) (b : Same H1 H2) : Same H H2 := fun c o h => b c o (a c o h)
theorem Same.free {H H' : Hp} (e : Same H H') {l : Addr} (h : H' l = Option.none) : H l = Option.none := by
  cases q : H l with
  | none => rfl
  | some o =>
    rw [e l o q] at h
    cases h
theorem Same.seq {K : PySem.W.Frag} {H H' : Hp} {a : Addr} {xs : List V} (e : Same H H') (h : SqL K H a xs) : SqL K H' a xs := by
  rcases h with (h | ⟨o, h⟩) | h
  · exact .inl (.inl (e _ _ h))
  · exact .inl (.inr ⟨o, e _ _ h⟩)
  · exact .inr h

end L2

/-! LAMP O: what keeps an exception's context none -/
namespace L2
open PySem PySem.Spec PyProof.Rows
def F2o (o : Obj) : Prop := ∃ vs, o.data = .fields vs ∧ vs[2]? = some Value.none
def C2 (e : Addr) (h : Heap) : Prop := ∃ o, h.get? e = some o ∧ F2o o
theorem C2.upd {e a : Addr} {h : Heap} {f : Obj → Obj} (c : C2 e h) (hf : ∀ o, F2o o → F2o (f o)) : C2 e (h.update a f) := by
  obtain ⟨o, ho, p⟩ := c
  by_cases z : a = e
  · subst z
    obtain ⟨vs, hd, hv⟩ := hf o p
    exact ⟨f o, Heap.get?_update_self _ ho (Obj.isFreed_of_fields hd), vs, hd, hv⟩
  · exact ⟨o, (Heap.get?_update_other _ _ z).trans ho, p⟩
theorem C2.push {e : Addr} {h : Heap} {o' : Obj} (c : C2 e h) : C2 e (h.push o') := by
  obtain ⟨o, ho, p⟩ := c
  exact ⟨o, Heap.get?_push_of_some _ ho, p⟩
def Keep2 {α : Type} : Sem α → Prop
  | .pure _ => True
  | .raise _ => True
  | .unsupported _ => True
  | .finish _ => True
  | .rule _ k => Keep2 (k ())
  | .at _ k => Keep2 (k ())
  | .load _ _ k => ∀ o, Keep2 (k o)
  | .update _ _ f k => (∀ o, F2o o → F2o (f o)) ∧ Keep2 (k ())
  | .alloc _ k => ∀ a, Keep2 (k a)
  | .loadIfAlive _ k => ∀ o, Keep2 (k o)
  | .point _ k => Keep2 (k ())
  | .fresh k => ∀ t, Keep2 (k t)
  | .ask k => ∀ t, Keep2 (k t)
  | .handled _ k => ∀ t, Keep2 (k t)
  | .stack k => ∀ t, Keep2 (k t)
  | .thread k => ∀ t, Keep2 (k t)
  | _ => False
theorem keep2_wp {α : Type} {M : Model} {Γ : PySem.Ctx} {e : Addr} {Q : α → Pos → Shared → Prop} {E : Value → Pos → Shared → Prop} (m : Sem α) : ∀ (p : Pos) (s : Shared), Keep2 m → C2 e s.heap → Sem.wp M Γ m Q E p s →
    Sem.wp M Γ m (fun a p' s' => C2 e s'.heap ∧ Q a p' s') (fun x p' s' => E x p' s') p s := by
  induction m with
  | pure a => intro p s _ c h; rw [Sem.wp] at h ⊢; exact ⟨c, h⟩
  | raise x => intro p s _ c h; rw [Sem.wp] at h ⊢; exact h
  | unsupported _ => intro p s _ c h; rw [Sem.wp] at h; exact h.elim
  | finish _ => intro p s _ c h; rw [Sem.wp] at h; exact h.elim
  | rule _ k ih => intro p s z c h; rw [Sem.wp] at h ⊢; exact ih () p s z c h
  | «at» p' k ih => intro p s z c h; rw [Sem.wp] at h ⊢; exact ih () p' s z c h
  | load a _ k ih => intro p s z c h; rw [Sem.wp] at h ⊢; obtain ⟨o, ho, h⟩ := h; exact ⟨o, ho, ih o p s (z o) c h⟩
  | update a _ f k ih => intro p s z c h; rw [Sem.wp] at h ⊢; exact ⟨h.1, ih () p _ z.2 (c.upd z.1) h.2⟩
  | alloc o k ih => intro p s z c h; rw [Sem.wp] at h ⊢; exact ih _ p _ (z _) c.push h
  | loadIfAlive a k ih => intro p s z c h; rw [Sem.wp] at h ⊢; exact ih _ p s (z _) c h
  | point _ k ih => intro p s z c h; rw [Sem.wp] at h ⊢; exact ih () p s z c h
  | fresh k ih => intro p s z c h; rw [Sem.wp] at h ⊢; exact ih _ p _ (z _) c h
  | ask k ih => intro p s z c h; rw [Sem.wp] at h ⊢; exact ih _ p s (z _) c h
  | handled _ k ih => intro p s z c h; rw [Sem.wp] at h ⊢; exact ih _ p s (z _) c h
  | stack k ih => intro p s z c h; rw [Sem.wp] at h ⊢; exact ih _ p s (z _) c h
  | thread k ih => intro p s z c h; rw [Sem.wp] at h ⊢; exact ih _ p s (z _) c h
  | _ => intro p s z; exact False.elim z
theorem wpAny_keep2 {α : Type} {M : Model} {A : Around} {E : Value → Shared → Prop} {s : Shared} {e : Addr} {m : Sem α} {Q : α → Shared → Prop} (k : Keep2 m) (c : C2 e s.heap) (h : wpAny M A m (fun a s' => C2 e s'.heap → Q a s') E s) : wpAny M A m Q E s := by
  have h2 : wpAny M A m (fun a s' => C2 e s'.heap ∧ (C2 e s'.heap → Q a s')) E s := fun Γ p g => keep2_wp m p s k c (h Γ p g)
  exact wpAny_mono h2 (fun a s' q => q.2 q.1) fun _ _ q => q
theorem keep2_bind {α β : Type} {m : Sem α} {f : α → Sem β} : Keep2 m → (∀ a, Keep2 (f a)) → Keep2 (m >>= f) := by
  show Keep2 m → (∀ a, Keep2 (f a)) → Keep2 (m.bind f)
  intro z g
  induction m with
  | pure a => exact g a
  | raise x => trivial
  | unsupported _ => trivial
  | finish _ => trivial
  | rule _ k ih => exact ih () z
  | «at» p' k ih => exact ih () z
  | load a _ k ih => exact fun o => ih o (z o)
  | update a _ f k ih => exact ⟨z.1, ih () z.2⟩
  | alloc o k ih => exact fun a => ih a (z a)
  | loadIfAlive a k ih => exact fun a => ih a (z a)
  | point _ k ih => exact ih () z
  | fresh k ih => exact fun a => ih a (z a)
  | ask k ih => exact fun a => ih a (z a)
  | handled _ k ih => exact fun a => ih a (z a)
  | stack k ih => exact fun a => ih a (z a)
  | thread k ih => exact fun a => ih a (z a)
  | _ => exact False.elim z
theorem F2o.set {o : Obj} {i : Nat} {v : Value} (hi : i ≠ 2) (p : F2o o) : F2o (Obj.mapFields (·.setIfInBounds i v) o) := by
  obtain ⟨vs, hd, hv⟩ := p
  exact ⟨_, Obj.data_mapFields hd _, by rw [Array.getElem?_setIfInBounds_ne hi]; exact hv⟩
theorem keep2_unsup {α : Type} {x : String} : Keep2 (PySem.unsupported x : Sem α) := trivial
theorem keep2_load {a : Addr} : Keep2 (PySem.load a) := fun _ => trivial
theorem keep2_field {v : Value} {i : Nat} : Keep2 (field v i) := by
  unfold field fieldsOf
  cases v with
  | ref a =>
    refine keep2_bind (keep2_bind keep2_load fun o => ?_) fun vs => ?_
    · cases o.data <;> first | exact keep2_unsup | trivial
    · cases vs[i]? <;> first | exact keep2_unsup | trivial
  | _ => exact keep2_unsup
theorem keep2_setField {v x : Value} {i : Nat} (hi : i ≠ 2) : Keep2 (setField v i x) := by
  unfold setField
  cases v with
  | ref a =>
    show Keep2 (updateField a i x)
    unfold updateField
    refine keep2_bind keep2_load fun o => ?_
    cases o.data with
    | fields vs =>
      show Keep2 (if i < vs.size then _ else _)
      split
      · exact ⟨fun o p => p.set hi, trivial⟩
      · exact keep2_unsup
    | _ => exact keep2_unsup
  | _ => exact keep2_unsup
theorem keep2_ready : ∀ l : List Env, Keep2 (readyFrames l)
  | [] => trivial
  | env :: outer => by
    unfold readyFrames
    cases env.frame with
    | none => exact keep2_unsup
    | some f =>
      refine keep2_bind keep2_load fun o => ?_
      split
      · trivial
      · refine keep2_bind ?_ fun b => keep2_bind ?_ fun v => keep2_bind ?_ fun _ => keep2_ready outer
        · unfold behindIsImport
          split
          · trivial
          · split
            · trivial
            · exact keep2_bind keep2_field fun _ => trivial
        · cases outer with
          | nil =>
            show Keep2 (if (env.scope.isGenerator || env.scope.isCoroutine) = true then pure Value.none else (do return if ← underTheClaimsCaller then Value.notImplemented else Value.none))
            split
            · trivial
            · exact keep2_bind (keep2_bind (fun _ => trivial) fun _ => trivial) fun _ => trivial
          | cons c r => trivial
        · exact ⟨fun o p => p, trivial⟩
theorem keep2_frameOf {env : Env} : Keep2 (PySem.frameOf env) := by
  unfold PySem.frameOf frameEnvs
  refine keep2_bind (keep2_bind (fun _ => trivial) fun _ => trivial) fun l => ?_
  refine keep2_bind ?_ fun o => ?_
  · cases (l.dropWhile (·.frame != env.frame)) with
    | nil => trivial
    | cons e r => exact keep2_bind (keep2_ready _) fun _ => trivial
  · cases o <;> first | exact keep2_unsup | trivial
theorem keep2_newFields {ty : String} {vs : List Value} : Keep2 (newFields ty vs) := by
  unfold newFields newObj
  show Keep2 (if vs.toArray.size > sizeLine + 2 then _ else _)
  split
  · trivial
  · exact fun _ => trivial
theorem keep2_note {env : Env} {e : Value} : Keep2 (noteFrame e env) := by
  unfold noteFrame
  cases env.frame with
  | none => exact keep2_unsup
  | some f =>
    refine keep2_bind keep2_field fun head => ?_
    have tail : Keep2 (do setField e 1 (← EntryCells.newEntry head (← PySem.frameOf env) .none (rawInt f) .none (← entryPlaceOf f (head != .none)))) := by
      refine keep2_bind keep2_frameOf fun a => keep2_bind ?_ fun pl => keep2_bind ?_ fun b => keep2_setField (by decide)
      · unfold entryPlaceOf
        refine keep2_bind (fun _ => trivial) fun acts => ?_
        split <;> trivial
      · exact keep2_newFields
    split
    · refine keep2_bind keep2_field fun x => ?_
      split
      · trivial
      · exact keep2_bind (keep2_setField (by decide)) fun _ => tail
    · exact tail
theorem keep2_flight {e : Value} {o : Option Addr} : Keep2 (setFlight e o) := by
  unfold setFlight
  refine keep2_bind keep2_field fun tb => ?_
  split
  · exact keep2_setField (by decide)
  · trivial
theorem keep2_leaving {env : Env} {e : Value} : Keep2 (leaving env e) := keep2_bind keep2_note fun _ => keep2_flight
end L2

/-! LAMP A: exceptions that leave a def, raise, try; comprehensions -/
namespace L2
open PySem PySem.Spec PyProof.Rows

/-! ### a tracked object is there -/
theorem ObjOk.there {P : Program} {w : World} {H : Hp} {h : Heap} {a : Addr} {o : HO} (x : ObjOk P w H h a o) : ∃ u, h.get? a = some u := by
  cases o with
  | lst xs => obtain ⟨_, _, _, _, e⟩ := x; exact ⟨_, e⟩
  | tup xs => obtain ⟨_, _, _, ⟨ob, e, _⟩⟩ := x; exact ⟨_, e⟩
  | dK kvs => obtain ⟨_, _, _, _, o, _, _, e, _⟩ := x; exact ⟨_, e⟩
  | dT kvs => obtain ⟨_, _, _, _, o, _, _, e, _⟩ := x; exact ⟨_, e⟩
  | set S n => obtain ⟨o, _, _, _, e, _⟩ := x; exact ⟨_, e⟩
  | ins C dx fs => obtain ⟨_, _, _, e, _⟩ := x; exact ⟨_, e⟩
  | own y => exact x
  | xd fs => obtain ⟨_, ⟨o, _, _, e, _⟩, _⟩ := x; exact ⟨_, e⟩
  | rng lo hi => obtain ⟨_, _, _, e⟩ := x; exact ⟨_, e⟩
  | frz ob u => obtain ⟨e, _⟩ := x; exact ⟨_, e⟩
  | tbl ps => exact ⟨_, (show h.get? a = some _ from x)⟩
  | met f y => exact ⟨_, (show h.get? a = some _ from x)⟩
  | ext φ => obtain ⟨_, e, _⟩ := x; exact e

/-! ### an exception in flight, seen from the callers' frames -/
structure FlyG (fp : Heap → List Env → Addr → Value → Value → Heap → Prop) (P : Program) (w : World) (outer : List Env) (H H' : Hp) (s : Shared) (ea : Addr) (cls : Value) (s' : Shared) : Prop where
  fl : ∃ (B : Heap) (a0 : Value), fp B outer ea cls a0 s'.heap ∧ HOk P w H' B ∧
    ∀ b o, s.heap.get? b = some o → b ∉ frs outer → ∃ o', B.get? b = some o' ∧ (H b = none → o' = o)
  os : s'.os = s.os
  bare : AllBare s'.gens
  slot : ∀ b o, s.heap.get? b = some o → b ∈ frs outer → ∃ sl, s'.heap.get? b = some { o with slots := sl }
  free : ∀ b o, s.heap.get? b = some o → H b = none → H' b = none
  tups : ∀ b xs, H b = some (.tup xs) → H' b = some (.tup xs)
  frzs : ∀ b o u, H b = some (.frz o u) → H' b = some (.frz o u)
  tbls : ∀ b ps, H b = some (.tbl ps) → ∃ more, H' b = some (.tbl (ps ++ more))
  cx : C2 ea s'.heap

abbrev Fly := FlyG Heap.FlyingW
def FlyHeld (L : Addr) (B : Heap) (l : List Env) (e : Addr) (cls a0 : Value) (h : Heap) : Prop := Heap.FlyingW B l e cls a0 h ∨ Heap.HeldW B l e cls a0 L h
abbrev FlyX (L : Addr) := FlyG (FlyHeld L)
theorem FlyG.held {P : Program} {w : World} {outer : List Env} {H H' : Hp} {s s' : Shared} {ea L : Addr} {cls : Value} (f : Fly P w outer H H' s ea cls s') : FlyX L P w outer H H' s ea cls s' := by
  obtain ⟨⟨B, a0, hf, r⟩, q1, q2, q3, q4, q5, q6, q7, q8⟩ := f
  exact ⟨⟨B, a0, .inl hf, r⟩, q1, q2, q3, q4, q5, q6, q7, q8⟩
theorem FlyHeld.ff {L : Addr} {B h : Heap} {l : List Env} {e : Addr} {cls a0 : Value} (f : FlyHeld L B l e cls a0 h) : h.FunFrames B l := f.elim (·.2.2.1) (·.2.2.1)
theorem FlyHeld.no {L : Addr} {B h : Heap} {l : List Env} {e : Addr} {cls a0 : Value} (f : FlyHeld L B l e cls a0 h) : B.get? e = none := f.elim (·.2.1) (·.2.1)
theorem FlyHeld.there {L : Addr} {B h : Heap} {l : List Env} {e : Addr} {cls a0 : Value} (f : FlyHeld L B l e cls a0 h) : ∃ oe vs, h.get? e = some oe ∧ oe.cls = cls ∧ oe.data = .fields vs := by
  rcases f with f | f
  · obtain ⟨oe, vs, T, oT, ts, he, ⟨hc, _⟩, hd, _⟩ := f.2.2.2
    exact ⟨oe, vs, he, hc, hd⟩
  · obtain ⟨oe, vs, T, oT, ts, he, ⟨hc, _⟩, hd, _⟩ := f.2.2.2
    exact ⟨oe, vs, he, hc, hd⟩
theorem UpS.refl (h : Heap) : h.UpToSlots h := fun _ o e _ => ⟨o.slots, e⟩
theorem leave_any {M : Model} {A : Around} {E : Value → Shared → Prop} {s : Shared} {B : Heap} {env : Env} {outer : List Env} {L e : Addr} {cls a0 : Value} {Q : Unit → Shared → Prop} (hA : A.frames = some (env :: outer)) (hf : env.frame = some L)
    (h : FlyHeld L B (env :: outer) e cls a0 s.heap) (hQ : ∀ h', Heap.FlyingW B outer e cls a0 h' → s.heap.UpToSlots h' → Q () { s with heap := h' }) : wpAny M A (leaving env (.ref e)) Q E s := by
  rcases h with h | h
  · exact wpAny_leaves_onW hA hf h hQ
  · unfold leaving
    refine wpAny_bind (wpAny_noteFrame_againW hf h.2.2.2 ?_)
    refine wpAny_landsW h fun h' hfl up => ?_
    obtain ⟨k1, k2, ⟨_, _, k3⟩, k4⟩ := hfl
    exact hQ h' ⟨k1, k2, k3, k4⟩ up
theorem look_any {M : Model} {A : Around} {E : Value → Shared → Prop} {s : Shared} {B : Heap} {env : Env} {outer : List Env} {L e : Addr} {cls a0 : Value} {Q : Unit → Shared → Prop} (hA : A.frames = some (env :: outer)) (hf : env.frame = some L)
    (h : FlyHeld L B (env :: outer) e cls a0 s.heap) (hQ : ∀ h', Heap.HeldW B (env :: outer) e cls a0 L h' → s.heap.UpToSlots h' → Q () { s with heap := h' }) : wpAny M A (noteFrame (.ref e) env) Q E s := by
  rcases h with h | h
  · exact wpAny_looks_onW hA hf h hQ
  · exact wpAny_noteFrame_againW hf h.2.2.2 (hQ s.heap h (UpS.refl _))
theorem hold_on {M : Model} {A : Around} {E : Value → Shared → Prop} {s : Shared} {B : Heap} {l : List Env} {L e : Addr} {cls a0 : Value} {Q : Unit → Shared → Prop} (h : Heap.HeldW B l e cls a0 L s.heap)
    (hQ : ∀ h', Heap.HeldW B l e cls a0 L h' → s.heap.UpToSlots h' → Q () { s with heap := h' }) : wpAny M A (do
      let z ← field (.ref e) 1
      if (z == Value.none) = true then do
        let _ ← unsupported (α := Unit) "frame.own-activation:exception-without-traceback"
        setFlight (.ref e) (some L)
      else setFlight (.ref e) (some L)) Q E s := by
  obtain ⟨k1, k2, k3, oe, vs, T, oT, ts, he, hc, hd, v1, bT, Te, hT, dT, t3⟩ := h
  refine wpAny_bind (wpAny_field he hd v1 ?_)
  rw [if_neg (by simp)]
  unfold setFlight
  refine wpAny_bind (wpAny_field he hd v1 ?_)
  rw [if_pos (by simp)]
  have lt3 : 3 < ts.size := (Array.getElem?_eq_some_iff.mp t3).1
  have keep : ∀ b, b ≠ T → (s.heap.update T (Obj.mapFields (·.setIfInBounds 3 ((some L).elim Value.none fun f => rawInt f)))).get? b = s.heap.get? b := fun b hb => Heap.get?_update_other _ _ (Ne.symm hb)
  have notT : ∀ b o, s.heap.get? b = some o → (∀ vs, o.data ≠ .fields vs) → b ≠ T := fun b o q n z => by
    subst z
    rw [hT] at q
    cases q
    exact n ts dT
  refine wpAny_setField hT dT lt3 (hQ _ ⟨fun b o q => ?_, k2, k3.of_keeps fun b o q n => ⟨o, (keep b (notT b o q n)).trans q, rfl⟩, ?_⟩ fun b o q n => ⟨o.slots, (keep b (notT b o q n)).trans q⟩)
  · refine (keep b ?_).trans (k1 b o q)
    rintro rfl
    rw [bT] at q
    cases q
  · exact ⟨oe, vs, T, _, _, (keep e (Ne.symm Te)).trans he, hc, hd, v1, bT, Te, Heap.get?_update_self _ hT (Obj.isFreed_of_fields (Obj.data_mapFields dT _)), Obj.data_mapFields dT _, by simp [lt3]⟩
theorem mem_frs {l : List Env} {b : Addr} (h : b ∈ frs l) : b ∈ l.filterMap (·.frame) := h

theorem FlyG.un {fp : Heap → List Env → Addr → Value → Value → Heap → Prop} {P : Program} {w : World} {outer : List Env} {H H' : Hp} {s s' : Shared} {ea : Addr} {cls : Value} {B h2 : Heap} (f : FlyG fp P w outer H H' s ea cls s') (hff : s'.heap.FunFrames B outer)
    (hB : ∀ b o, s.heap.get? b = some o → b ∉ frs outer → ∃ o', B.get? b = some o' ∧ (H b = none → o' = o)) (st : B.StaysIn h2) (up : s'.heap.UpToSlots h2) : Un (frs outer) [] H H' s.heap h2 := by
  have sl : ∀ b o, s.heap.get? b = some o → b ∈ frs outer → ∃ sl, h2.get? b = some { o with slots := sl } := fun b o e hb => by
    obtain ⟨s1, e1⟩ := f.slot b o e hb
    obtain ⟨_, o2, ho2, hnf⟩ := hff.mem (mem_frs hb)
    rw [e1] at ho2
    cases ho2
    obtain ⟨s2, e2⟩ := up b _ e1 hnf
    exact ⟨s2, e2⟩
  refine ⟨fun b o e n hb _ => ?_, fun b o e _ hb _ => sl b o e hb, fun b o e n _ => f.free b o e n, fun b o e _ => ?_, f.tups, f.frzs, f.tbls⟩
  · obtain ⟨o', e', q⟩ := hB b o e hb
    rw [q n] at e'
    exact st b _ e'
  · by_cases hb : b ∈ frs outer
    · obtain ⟨s2, e2⟩ := sl b o e hb
      exact ⟨_, e2⟩
    · obtain ⟨o', e', _⟩ := hB b o e hb
      exact ⟨o', st b _ e'⟩

def CXE (P : Program) (w : World) : CXT := fun outer H s E e s' => ∃ ea cls H', e = Value.ref ea ∧ Fly P w outer H H' s ea cls s' ∧ E cls none H'

/-! ### a callee's exception leaves this frame too -/
section
variable {P : Program} {w : World} {K : PySem.W.Frag} {mg : Str → Option Value} {base : Heap} {N : List Str} {qual : Str} {scope : Scope} {f : Addr} {cd : Value} {A : Around} {outer : List Env} {s : Shared} {H : Hp} {E : XK}
  {pins : List (Addr × Obj)} {σ : St} {H1 : Hp} {s1 : Shared}

theorem inB_of (I : Inv (cxOf (CXE P w) P w K mg base N qual scope f cd A outer s H E) pins σ H1 s1) {B : Heap}
    (hB : ∀ b o, s1.heap.get? b = some o → b ∉ frs (cxOf (CXE P w) P w K mg base N qual scope f cd A outer s H E).stack → ∃ o', B.get? b = some o' ∧ (H1 b = none → o' = o)) :
    ∀ b o, s.heap.get? b = some o → b ∉ frs outer → ∃ o', B.get? b = some o' ∧ (H b = none → o' = o) := fun b o e hb => by
  have un : Un (frs outer) [] H H1 s.heap s1.heap := I.base
  obtain ⟨o1, e1⟩ := un.there b o e (by simp)
  have hbs : b ∉ frs (cxOf (CXE P w) P w K mg base N qual scope f cd A outer s H E).stack := fun z => by
    rcases List.mem_cons.mp (I.stkSub b z) with z | z
    · have z' : b = s.heap.objs.size := z
      exact absurd (Heap.lt_size e) (by rw [z']; exact Nat.lt_irrefl _)
    · exact hb z
  obtain ⟨o', e', q⟩ := hB b o1 e1 hbs
  refine ⟨o', e', fun n => ?_⟩
  have e2 := un.keep b o e n hb (by simp)
  rw [e1] at e2
  rw [q (un.free b o e n (by simp))]
  exact Option.some.inj e2

theorem passX {ea : Addr} {cls : Value} {H' : Hp} {s' : Shared} (I : Inv (cxOf (CXE P w) P w K mg base N qual scope f cd A outer s H E) pins σ H1 s1)
    (fy : FlyX s.heap.objs.size P w (cxOf (CXE P w) P w K mg base N qual scope f cd A outer s H E).stack H1 H' s1 ea cls s') (hE : E cls none H') : (cxOf (CXE P w) P w K mg base N qual scope f cd A outer s H E).xe (.ref ea) s' := by
  obtain ⟨B, a0, hfl, hok, hB⟩ := fy.fl
  have un : Un (frs outer) [] H H1 s.heap s1.heap := I.base
  show wpAny (model P w) (A.deeper (envOfC qual scope s.heap.objs.size f cd)) (leaving (envOfC qual scope s.heap.objs.size f cd) (.ref ea)) (fun _ s'' => CXE P w outer H s E (.ref ea) s'') (fun e' s'' => CXE P w outer H s E e' s'') s'
  refine wpAny_keep2 keep2_leaving fy.cx (leave_any (outer := outer) (L := s.heap.objs.size) I.ok.frames rfl hfl fun h' hfl' up c' => ⟨ea, cls, H', rfl, ⟨⟨B, a0, hfl', hok, inB_of I hB⟩, ?_, fy.bare, fun b o e hb => ?_, fun b o e n => ?_, fun b xs q => ?_, fun b o u q => ?_, fun b ps q => ?_, c'⟩, hE⟩)
  · show s'.os = s.os
    rw [fy.os]
    exact I.os
  · obtain ⟨s2, e2⟩ := un.slot b o e (I.ok.frf b hb) hb (by simp)
    have hb' : b ∈ frs (cxOf (CXE P w) P w K mg base N qual scope f cd A outer s H E).stack := List.mem_cons_of_mem _ hb
    obtain ⟨s3, e3⟩ := fy.slot b _ e2 hb'
    obtain ⟨_, o3, ho3, hnf⟩ := hfl.ff.mem (mem_frs hb')
    rw [e3] at ho3
    cases ho3
    obtain ⟨s4, e4⟩ := up b _ e3 hnf
    exact ⟨s4, e4⟩
  · obtain ⟨o1, e1⟩ := un.there b o e (by simp)
    exact fy.free b o1 e1 (un.free b o e n (by simp))
  · exact fy.tups b xs (un.tups b xs q)
  · exact fy.frzs b o u (un.frzs b o u q)
  · obtain ⟨m1, q1⟩ := un.tbls b ps q
    obtain ⟨m2, q2⟩ := fy.tbls b _ q1
    exact ⟨m1 ++ m2, by rw [q2, Array.append_assoc]⟩
theorem passE : Passes (CXE P w) (cxOf (CXE P w) P w K mg base N qual scope f cd A outer s H E) E := by
  rintro pins σ H1 s1 e s' I ⟨ea, cls, H', rfl, fy, hE⟩
  exact passX I fy.held hE

theorem raiseE (I : Inv (cxOf (CXE P w) P w K mg base N qual scope f cd A outer s H E) pins σ H1 s1) {h1 : Heap} {e : Addr} {cls : Value} {args : List Value} (hx : Heap.MadeExcOf s1.heap h1 e cls args) (hE : E cls none H1) :
    (cxOf (CXE P w) P w K mg base N qual scope f cd A outer s H E).xe (.ref e) { s1 with heap := h1 } := by
  have un : Un (frs outer) [] H H1 s.heap s1.heap := I.base
  show wpAny (model P w) (A.deeper (envOfC qual scope s.heap.objs.size f cd)) (leaving (envOfC qual scope s.heap.objs.size f cd) (.ref e)) (fun _ s'' => CXE P w outer H s E (.ref e) s'') (fun e' s'' => CXE P w outer H s E e' s'') { s1 with heap := h1 }
  have hst := I.stack
  have nfr : ∀ b o, H1 b = some o → b ∉ frs (cxOf (CXE P w) P w K mg base N qual scope f cd A outer s H E).stack := fun b o q z => by
    have := I.stkFree b z
    rw [this] at q
    cases q
  have hok : HOk P w H1 (PySem.W.hideAll s1.heap (frs (cxOf (CXE P w) P w K mg base N qual scope f cd A outer s H E).stack)) := fun a o q =>
    (I.hok a o q).stay (fun b u hb z => PySem.W.hideAll_get _ z (by
      rcases hb with rfl | hb
      · exact nfr _ _ q
      · exact nfr _ _ hb)) (fun _ z => z) fun _ _ z => z
  have c1 : C2 e h1 := by
    obtain ⟨t, he, _⟩ := hx.there
    exact ⟨_, he, _, rfl, rfl⟩
  refine wpAny_keep2 (s := { s1 with heap := h1 }) keep2_leaving c1 (wpAny_leaves_madeW (s := { s1 with heap := h1 }) (base := PySem.W.hideAll s1.heap (frs (cxOf (CXE P w) P w K mg base N qual scope f cd A outer s H E).stack)) (h := s1.heap) (outer := outer) (L := s.heap.objs.size) I.ok.frames rfl (fun b o q => PySem.W.of_hideAll _ q)
    (PySem.W.funFrames_hide hst fun env he a ha => List.mem_filterMap.mpr ⟨env, he, ha⟩) hx fun h' t hfl htup hnt up c' => ⟨e, cls, H1, rfl, ⟨⟨_, _, hfl, hok, inB_of I fun b o q hb => ⟨o, PySem.W.hideAll_get _ q hb, fun _ => rfl⟩⟩, I.os, I.bare, fun b o q hb => ?_, fun b o q n => ?_, un.tups, un.frzs, un.tbls, c'⟩, hE⟩)
  · obtain ⟨s2, e2⟩ := un.slot b o q (I.ok.frf b hb) hb (by simp)
    have e3 := hx.keeps b _ e2
    have hb' : b ∈ frs (cxOf (CXE P w) P w K mg base N qual scope f cd A outer s H E).stack := List.mem_cons_of_mem _ hb
    obtain ⟨_, o3, ho3, hnf⟩ := hst.mem (mem_frs hb')
    rw [e2] at ho3
    cases ho3
    obtain ⟨s4, e4⟩ := up b _ e3 hnf
    exact ⟨s4, e4⟩
  · exact un.free b o q n (by simp)
end

/-! ### a def whose body may raise -/
theorem Fun.okE {P : Program} {w : World} {K : PySem.W.Frag} {mg : Str → Option Value} {base : Heap} {x qual : Str} {st : Stmt} {f : Addr} {fd : FuncData} {N ps : List Str} {k : Nat} {sp : Sp} (F : Fun K x qual st f fd) (S : FnScope N ps (defScope st))
    (len : ∀ vs H Q E, sp vs H Q E → vs.length = ps.length)
    (hbody : ∀ (cdv : Value) (A : Around) (outer : List Env) (s : Shared) (H : Hp) (vs : List V) (Q : VK) (E : XK), Room k (A.deeper (envOfC qual (defScope st) s.heap.objs.size f cdv)) → sp vs H Q E →
      ∃ t, PSs (cxOf (CXE P w) P w K mg base N qual (defScope st) f cdv A outer s H E) (defBody st) t ∧ t { nx := fun _ H' => Q .non H', rt := Q } (start N vs) H) : FnOk P w K mg base (CXE P w) (k + 1) f fd ps sp := by
  obtain ⟨oc, od, kV, doc, pm, an, cdv, ct, osl, rfl, lk, hcd⟩ := F.ex
  exact fn_of lk hcd S len fun A outer s H vs Q E hr hsp => hbody cdv A outer s H vs Q E hr hsp
end L2

/-! LAMP B: raise, try, calls whose wish of exceptions hangs on the frame -/
namespace L2
open PySem PySem.Spec PyProof.Rows

/-! ### an own exception class of the text, under ValueError -/
abbrev bmV : List Value := [.type "ValueError", .type "Exception", .type "BaseException", .type "object"]
theorem own_obj {K : PySem.W.Frag} {h : Heap} {C : Addr} {bmB : List Value} {newId : String} (X : K.In h) (q : PySem.W.excIn K C bmB newId = true) :
    ∃ bm N nm qn bs hdct sn sub ab col dd k0 k1 k2 k3 k5 mN, h.get? C = some (excClassObj nm qn C N bs bm hdct sn sub ab col dd k0 k1 k2 k3 k5 newId) ∧ h.Ns N mN ∧ mN "__init__" = none ∧ OwnTail h bmB bm := by
  unfold PySem.W.excIn at q
  split at q
  · rename_i dd cd sl ho
    split at q
    · rename_i C2 bm k0 k1 k2 k3 n k5 hm hs
      obtain ⟨nm, bs, mro, ns, qn, hd, sn, sub, ab, col, del⟩ := cd
      simp only [Bool.and_eq_true, beq_iff_eq, Bool.not_eq_true'] at q
      obtain ⟨⟨⟨⟨⟨q1, q2⟩, q3⟩, q4⟩, q5⟩, q6⟩ := q
      subst q1 q2
      dsimp only at hm q3
      subst hm q3
      have e : sl = #[k0, k1, k2, k3, some (.builtin n), k5] := by
        cases sl with
        | mk l => exact congrArg Array.mk hs
      subst e
      exact ⟨bm, ns, nm, qn, bs, hd, sn, sub, ab, col, dd, k0, k1, k2, k3, k5, _, X _ _ ho, .of_isNs (PySem.W.isNs_of_in X q5), PySem.W.nsMap_none_of_in X q5 q6, PySem.W.tail_of_in X q4⟩
    · cases q
  · cases q

section
variable {X : Cx} {C : Addr} {x m : Str} {np cpos mpos pos : Pos} {j : Nat}
theorem ps_raise {R : St → Hp → Prop} (hc : X.calm = true) (hg : Gl X x) (hm : X.mg x = some (.ref C)) (hex : PySem.W.excIn X.K C bmV "ValueError.__new__" = true)
    (hx : ∀ (pins : List (Addr × Obj)) (σ : St) (H : Hp) (s : Shared) (h1 : Heap) (e : Addr) (args : List Value), Inv X pins σ H s → Heap.MadeExcOf s.heap h1 e (.ref C) args → R σ H → X.xe (.ref e) { s with heap := h1 })
    (hd : (x == ("__debug__" : Str)) = false := by decide) : PS X (.Raise (some (.Call (.Name x np) [.Constant (.str m) j mpos] [] cpos)) none pos) (fun _ σ H => R σ H) := by
  intro pins s σ H D I h
  obtain ⟨bm, N, nm, qn, bs, hdct, sn, sub, ab, col, dd, k0, k1, k2, k3, k5, mN, hC, hN, hni, T⟩ := own_obj I.mod.kin hex
  refine wpAny_Raise_call_subT (C := C) (nm := nm) (q := qn) (N := N) (bs := bs) (bm := bm) (hdct := hdct) (sn := sn) (sub := sub) (ab := ab) (col := col) (dd := dd) (k0 := k0) (k1 := k1) (k2 := k2) (k3 := k3) (k5 := k5)
    PySem.F.excBase_ValueError (mN := mN) (T.hasType PySem.F.excBase_ValueError.hasBase) (I.ok.hd hc) rfl hni (ld_glob I hg hm ⟨rfl, ?_⟩ hd)
  refine Calls.evalArgs_plain ?_
  have ha : PA X [.Constant (.str m) j mpos] (tCons (tC (.str m)) tNil) := pa_cons pe_str pa_nil
  refine thn (ha cpos pins s σ H (fun vs H1 => vs = [.str m] ∧ H1 = H) I ⟨rfl, rfl⟩) fun us s2 ⟨vs, H2, I2, r, e1, e2⟩ => ?_
  subst e1 e2
  have hl : us.length = 1 := r.length.symm
  exact ⟨rfl, by show us.length ≤ sizeLine; rw [hl]; decide, I2.bk _ _ hC, hN.keeps I2.bk, T.keeps I2.bk, fun h1 e hmade => hx pins σ H2 s2 h1 e _ I2 hmade h⟩
end

/-! ### the frame's wish: an exception wanted by the names' values -/
def PassesS (CX : CXT) (X : Cx) (E : St → XK) : Prop := ∀ (pins : List (Addr × Obj)) (σ : St) (H : Hp) (s : Shared) (e : Value) (s' : Shared), Inv X pins σ H s → CX X.stack H s (E σ) e s' → X.xe e s'
theorem Passes.s {CX : CXT} {X : Cx} {E : XK} (h : Passes CX X E) : PassesS CX X (fun _ => E) := fun pins σ H s e s' I q => h pins σ H s e s' I q
def tCallS (sp : Sp) (dvs : List V) (E : St → XK) (t : TA) : TE := fun σ H Q => t σ H fun vs H1 => sp (vs ++ dvs) H1 Q (E σ)
def tMethS (C : Addr) (m : Str) (sp : Sp) (dvs : List V) (E : St → XK) (ta : TE) (t : TA) : TE := fun σ H Q => ta σ H fun x H1 => ∃ a dx fs, x = .ref a ∧ H1 a = some (.ins C dx fs) ∧ fs.lookup m = none ∧
  t σ H1 fun vs H2 => sp (x :: (vs ++ dvs)) H2 Q (E σ)
def tMakeS (C : Addr) (sp : Sp) (dvs : List V) (E : St → XK) (t : TA) : TE := fun σ H Q => t σ H fun vs H1 => ∀ x dx, H1 x = none → H1 dx = none → dx ≠ x →
  sp (.ref x :: (vs ++ dvs)) (upd (upd H1 dx (.own x)) x (.ins C dx [])) (fun v H2 => v = .non ∧ Q (.ref x) H2) (E σ)
section
variable {X : Cx} {CX : CXT} {k : Nat} {f C : Addr} {fd : FuncData} {ps : List Str} {sp : Sp} {dvs : List V} {ds : List Value} {E : St → XK} {x m : Str} {p pos apos : Pos} {e o : Expr} {es : List Expr} {ta : TE} {t : TA}
theorem run_fnS {pins : List (Addr × Obj)} {σ : St} {H : Hp} {s : Shared} {Q : VK} {us : List Value} {vs : List V} (F : FnOk X.prog X.w X.K X.mg X.base CX k f fd ps sp) (hr : Room k X.A) (hb : Binds X.K fd ps ds) (hd : Vals dvs ds) (hx : PassesS CX X E)
    (I : Inv X pins σ H s) (r : Vals vs us) (h : sp (vs ++ dvs) H Q (E σ)) : wpAny (model X.prog X.w) X.A (call (.ref f) us) (EP X pins σ Q) X.xe s := by
  have r2 : Vals (vs ++ dvs) (us ++ ds) := r.append hd
  have hl : (us ++ ds).length = ps.length := by rw [← r2.length]; exact F.len _ _ _ _ h
  refine wpAny_call (codeAny_mono (F.run X.A X.stack s H ⟨us, []⟩ (us ++ ds) (vs ++ dvs) Q (E σ) hr I.env0 (hb s us I.kIn hl) r2 h) fun r s' hq => ?_)
  cases r with
  | error e => exact hx pins σ H s e s' I hq
  | ok fl => cases fl <;> first | exact I.after hq | exact False.elim hq
theorem run_makeS {pins : List (Addr × Obj)} {σ : St} {H : Hp} {s : Shared} {Q : VK} {us : List Value} {vs : List V} (M : Mk X.K C f) (F : FnOk X.prog X.w X.K X.mg X.base CX k f fd ps sp) (hr : Room (k + 1) X.A) (hb : Binds X.K fd ps ds) (hd : Vals dvs ds)
    (hx : PassesS CX X E) (I : Inv X pins σ H s) (r : Vals vs us)
    (h : ∀ x dx, H x = none → H dx = none → dx ≠ x → sp (.ref x :: (vs ++ dvs)) (upd (upd H dx (.own x)) x (.ins C dx [])) (fun v H2 => v = .non ∧ Q (.ref x) H2) (E σ)) :
    wpAny (model X.prog X.w) X.A (call (.ref C) us) (EP X pins σ Q) X.xe s := by
  have hq := h (s.heap.objs.size + 1) s.heap.objs.size (I.hok.fresh (Nat.le_succ _)) (I.hok.fresh (Nat.le_refl _)) (Nat.ne_of_lt (Nat.lt_succ_self _))
  have I2 := Inv.made (C := C) I
  have r2 : Vals (V.ref (s.heap.objs.size + 1) :: (vs ++ dvs)) (Value.ref (s.heap.objs.size + 1) :: (us ++ ds)) := .cons rfl (r.append hd)
  have hl : (Value.ref (s.heap.objs.size + 1) :: us ++ ds).length = ps.length := by
    have e := r2.length
    rw [F.len _ _ _ _ hq] at e
    exact e.symm
  refine wpAny_call (make_map (f := f) I.kIn M.makes M.init (beq_iff_eq.mp M.fn) (codeAny_mono (F.run _ X.stack _ _ ⟨Value.ref (s.heap.objs.size + 1) :: us, []⟩ (Value.ref (s.heap.objs.size + 1) :: (us ++ ds)) _ _ (E σ) (hr.make C us [])
    (I2.env0.make C us []) (hb _ (Value.ref (s.heap.objs.size + 1) :: us) I2.kIn hl) r2 hq) fun r s' hq' => ?_))
  cases r with
  | error e => exact hx pins σ _ _ e s' I2 hq'
  | ok fl =>
    cases fl with
    | ret u =>
      obtain ⟨v, H', I3, rv, ev, q3⟩ := I2.after hq'
      subst ev
      exact ⟨rv, ⟨V.ref (s.heap.objs.size + 1), H', I3, rfl, q3⟩⟩
    | next => exact False.elim hq'
    | brk => exact False.elim hq'
    | cont => exact False.elim hq'
theorem pe_callS (F : FnOk X.prog X.w X.K X.mg X.base CX k f fd ps sp) (hr : Room k X.A) (hg : Gl X x) (hm : X.mg x = some (.ref f)) (hk : PySem.W.keepIn X.K (.ref f) = true) (hb : Binds X.K fd ps ds) (hd : Vals dvs ds) (hx : PassesS CX X E)
    (ha : PA X (e :: es) t) (hdb : (x == ("__debug__" : Str)) = false := by decide) (he : starEach (e :: es) X.env = (false, eval e X.env) :: starEach es X.env := by rfl) (hpl : (backTo pos (starEach es X.env)).any (·.1) = false := by rfl) :
    PE X (.Call (.Name x p) (e :: es) [] pos) (tCallS sp dvs E t) := by
  intro pins s σ H Q I h
  refine wpAny_Call_Name_kw (ld_glob I hg hm ?_ hdb)
  refine PySem.W.callWith_K (h₀ := X.base) I.ok.mod.kin hk (thn (ha pos pins s σ H _ I h) fun us s1 ⟨vs, H1, I1, r, q⟩ => ⟨I1.kIn, ?_⟩) he hpl
  exact run_fnS F hr hb hd hx I1 r q
theorem pe_methS {pl : Sem Bool} (he : PE X o ta) (c : Cls X.K C) (hm : Meth X.K C m f) (F : FnOk X.prog X.w X.K X.mg X.base CX k f fd ps sp) (hr : Room k X.A) (hb : Binds X.K fd ps ds) (hd : Vals dvs ds) (hx : PassesS CX X E) (ha : PA X (e :: es) t)
    (hst : starEach (e :: es) X.env = (false, eval e X.env) :: starEach es X.env := by rfl) (hpl : (backTo pos (starEach es X.env)).any (·.1) = false := by rfl)
    (ht : eval (.Call (.Attribute o m apos) (e :: es) [] pos) X.env = (do
      let ov ← eval o X.env
      standAt apos.atName
      let (f, first) ← holding [ov] (getMethod ov m pl)
      callWith pos f first (backTo pos (starEach (e :: es) X.env)) (backToKw pos (keywordEach [] X.env))) := by rfl) :
    PE X (.Call (.Attribute o m apos) (e :: es) [] pos) (tMethS C m sp dvs E ta t) := by
  intro pins s σ H Q I h
  refine PySem.W.methodCall_KW (pl := pl) (thn (he pins s σ H _ I h) fun u s1 ⟨x, H1, I1, rx, a, dx, fs, ex, ea, l, q⟩ => ?_) ht
  subst ex
  obtain rfl : u = Value.ref a := rx
  refine getmeth_ok I1 ea c hm l ?_
  refine PySem.W.callWith_K (first := [.ref a]) (h₀ := X.base) I.ok.mod.kin hm.kp (thn (ha pos pins s1 σ H1 _ I1 q) fun us s2 ⟨vs, H2, I2, r, q2⟩ => ⟨I2.kIn, ?_⟩) hst hpl
  exact run_fnS (us := .ref a :: us) (vs := .ref a :: vs) F hr hb hd hx I2 (.cons rfl r) q2
theorem pe_makeS (M : Mk X.K C f) (F : FnOk X.prog X.w X.K X.mg X.base CX k f fd ps sp) (hr : Room (k + 1) X.A) (hg : Gl X x) (hm : X.mg x = some (.ref C)) (hb : Binds X.K fd ps ds) (hd : Vals dvs ds) (hx : PassesS CX X E)
    (ha : PA X (e :: es) t) (hdb : (x == ("__debug__" : Str)) = false := by decide) (he : starEach (e :: es) X.env = (false, eval e X.env) :: starEach es X.env := by rfl) (hpl : (backTo pos (starEach es X.env)).any (·.1) = false := by rfl) :
    PE X (.Call (.Name x p) (e :: es) [] pos) (tMakeS C sp dvs E t) := by
  intro pins s σ H Q I h
  refine wpAny_Call_Name_kw (ld_glob I hg hm ?_ hdb)
  refine PySem.W.callWith_K (h₀ := X.base) I.ok.mod.kin M.kp (thn (ha pos pins s σ H _ I h) fun us s1 ⟨vs, H1, I1, r, q⟩ => ⟨I1.kIn, ?_⟩) he hpl
  exact run_makeS M F hr hb hd hx I1 r q
end
theorem passN {P : Program} {w : World} {X : Cx} : PassesS (CXE P w) X (fun _ => E0) := fun _ _ _ _ _ _ _ ⟨_, _, _, _, _, h⟩ => h.elim

/-! ### try: the body's context, the suite's context -/
def Cx.tryC (X : Cx) (pins : List (Addr × Obj)) (Hand : St → XK) : Cx := { X with pn := X.pn ++ pins, xe := fun e s' => ∃ σ H s H' ea cls, e = Value.ref ea ∧ Inv X pins σ H s ∧ FlyX X.env.locals X.prog X.w X.stack H H' s ea cls s' ∧ Hand σ cls none H' }
def Cx.hand (X : Cx) (ea : Addr) : Cx := { X with A := X.A.mark (some (.ref ea)), calm := false, xe := fun _ _ => False }
section
variable {X : Cx} {pins pins2 : List (Addr × Obj)} {Hand : St → XK} {σ : St} {H : Hp} {s : Shared} {ea : Addr}
theorem Inv.untry (I : Inv (X.tryC pins Hand) pins2 σ H s) : Inv X pins σ H s :=
  ⟨⟨I.ok.mod, I.ok.kind, I.ok.glob, I.ok.blt, I.ok.above, I.ok.inj, I.ok.has, I.ok.cab, I.ok.hd, I.ok.frames, I.ok.stk, I.ok.exf, I.ok.bs, I.ok.bsz, I.ok.noex, I.ok.exfs, I.ok.funs, I.ok.frf⟩,
    I.os, I.bare, I.base, I.loc, I.cell, I.free, I.freeC, fun p hp => I.pin p (List.mem_append_left _ hp), I.hok, I.len⟩
theorem Inv.intry (I : Inv X pins σ H s) : Inv (X.tryC pins Hand) [] σ H s :=
  ⟨⟨I.ok.mod, I.ok.kind, I.ok.glob, I.ok.blt, I.ok.above, I.ok.inj, I.ok.has, I.ok.cab, I.ok.hd, I.ok.frames, I.ok.stk, I.ok.exf, I.ok.bs, I.ok.bsz, I.ok.noex, I.ok.exfs, I.ok.funs, I.ok.frf⟩,
    I.os, I.bare, I.base, I.loc, I.cell, I.free, I.freeC, fun p hp => I.pin p ((List.mem_append.mp (show p ∈ (X.pn ++ pins) ++ [] from hp)).elim id fun z => absurd z (by simp)), I.hok, I.len⟩
theorem Inv.tohand (I : Inv X pins σ H s) : Inv (X.hand ea) pins σ H s :=
  ⟨⟨I.ok.mod, I.ok.kind, I.ok.glob, I.ok.blt, I.ok.above, I.ok.inj, I.ok.has, I.ok.cab, fun z => absurd (show false = true from z) Bool.false_ne_true, I.ok.frames, I.ok.stk, I.ok.exf, I.ok.bs, I.ok.bsz, I.ok.noex, I.ok.exfs, I.ok.funs, I.ok.frf⟩,
    I.os, I.bare, I.base, I.loc, I.cell, I.free, I.freeC, I.pin, I.hok, I.len⟩
theorem Inv.unhand (hd : X.calm = true → X.A.handled = none) (I : Inv (X.hand ea) pins σ H s) : Inv X pins σ H s :=
  ⟨⟨I.ok.mod, I.ok.kind, I.ok.glob, I.ok.blt, I.ok.above, I.ok.inj, I.ok.has, I.ok.cab, hd, I.ok.frames, I.ok.stk, I.ok.exf, I.ok.bs, I.ok.bsz, I.ok.noex, I.ok.exfs, I.ok.funs, I.ok.frf⟩,
    I.os, I.bare, I.base, I.loc, I.cell, I.free, I.freeC, I.pin, I.hok, I.len⟩
theorem passT : PassesS (CXE X.prog X.w) (X.tryC pins Hand) Hand := fun _ σ H s _ s' I ⟨ea, cls, H', e, fy, h⟩ => ⟨σ, H, s, H', ea, cls, e, I.untry, fy.held, h⟩
theorem SP.untry {D : Ends} {f : Flow} {s' : Shared} (h : SP (X.tryC pins Hand) pins2 D f s') : SP X pins D f s' := by
  cases f with
  | next => obtain ⟨σ', H', I, q⟩ := h; exact ⟨σ', H', I.untry, q⟩
  | brk => obtain ⟨σ', H', I, q⟩ := h; exact ⟨σ', H', I.untry, q⟩
  | cont => obtain ⟨σ', H', I, q⟩ := h; exact ⟨σ', H', I.untry, q⟩
  | ret u => obtain ⟨v, σ', H', I, r, q⟩ := h; exact ⟨v, σ', H', I.untry, r, q⟩
def excO (ea : Addr) (cls : Value) : HO := .ext fun h => ∃ o vs, h.get? ea = some o ∧ o.cls = cls ∧ o.data = .fields vs ∧ vs[2]? = some Value.none
theorem goes_ok {M : Model} {A : Around} {E : Value → Shared → Prop} {i : Nat} {n : Str} {pos : Pos} {Q : Unit → Shared → Prop} (I : Inv X pins σ H s) (hN : X.N.Nodup) (hi : X.N[i]? = some n) (hl : X.env.scope.names.lookup n = some .local)
    (h : ∀ s', Inv X pins (σ.set i none) H s' → Q () s') : wpAny M A (do bindName X.env n .none; unbindBehindTheSuite X.env n pos) Q E s := by
  obtain ⟨m, hn, hlo⟩ := id I.loc
  have hcls : (X.env.scope.kind == .class || (X.env.scope.kind == .module && X.env.locals != X.env.globals)) = false := by rw [I.ok.kind]; rfl
  refine wpAny_nameGoes_keeps hl hn hcls fun h' v hn' hs => h _ ?_
  have nL : ∀ b o, X.s₀.heap.get? b = some o → b ≠ X.env.locals := fun b o e => Nat.ne_of_lt (Nat.lt_of_lt_of_le (Heap.lt_size e) I.ok.above)
  have tr : HOk X.prog X.w H h' := fun b ob e => (I.hok b ob e).stay (fun c w' hc q => (hs.2 c (by
      rintro rfl
      rcases hc with hc | hc
      · rw [← hc, I.free] at e; cases e
      · rw [I.free] at hc; cases hc)).trans q) (fun _ q => q) fun _ _ q => q
  refine ⟨I.ok, I.os, I.bare, ⟨fun b o e n hb hx => (hs.2 b (nL b o e)).trans (I.base.keep b o e n hb hx), fun b o e n hb hx => ?_, I.base.free, fun b o e hx => ?_, I.base.tups, I.base.frzs, I.base.tbls⟩, ⟨_, hn', fun j y v' e1 e2 e3 => ?_⟩, fun y c e => ?_, I.free, I.freeC, fun p hp => ?_, tr, by simpa using I.len⟩
  · obtain ⟨sl, e1⟩ := I.base.slot b o e n hb hx
    exact ⟨sl, (hs.2 b (nL b o e)).trans e1⟩
  · obtain ⟨o', e1⟩ := I.base.there b o e hx
    exact ⟨o', (hs.2 b (nL b o e)).trans e1⟩
  · have hj : j ≠ i := by
      rintro rfl
      rw [List.getElem?_set] at e2
      split at e2
      · split at e2 <;> cases e2
      · exact absurd rfl (by assumption)
    rw [List.getElem?_set_ne (Ne.symm hj)] at e2
    obtain ⟨u', r', q⟩ := hlo j y v' e1 e2 e3
    refine ⟨u', r', ?_⟩
    rcases q with ⟨k, e⟩ | ⟨k, c, e, z⟩
    · have : y ≠ n := fun e => hj (nodup_ix hN e1 (e ▸ hi))
      exact .inl ⟨k, by simp [this, e]⟩
    · exact .inr ⟨k, c, e, z.sameBut hs (I.cne y c e)⟩
  · obtain ⟨w', z⟩ := I.cell y c e
    exact ⟨w', z.sameBut hs (I.cne y c e)⟩
  · obtain ⟨e, n, ne, nf, d⟩ := I.pin p hp
    exact ⟨(hs.2 p.1 ne).trans e, n, ne, nf, d⟩
theorem Inv.track {o : HO} (I : Inv X pins σ H s) (hn : H ea = none) (hm : ∀ b u, X.s₀.heap.get? b = some u → b ≠ ea) (hL : ea ≠ X.env.locals) (hc : ∀ x c, X.env.cells.lookup x = some c → c ≠ ea) (hp : ∀ p ∈ X.pn ++ pins, p.1 ≠ ea)
    (new : ObjOk X.prog X.w (upd H ea o) s.heap ea o) : Inv X pins σ (upd H ea o) s := by
  have ne : ∀ b u, H b = some u → b ≠ ea := fun b u e z => by rw [z, hn] at e; cases e
  refine ⟨I.ok, I.os, I.bare, ⟨I.base.keep, I.base.slot, fun b u e n hx => ?_, I.base.there, fun b xs e => ?_, fun b u v e => ?_, fun b ps e => ?_⟩, I.loc, I.cell, ?_, fun x c e => ?_, fun p h => ?_, fun b u e => ?_, I.len⟩
  · rw [upd_ne (hm b u e)]; exact I.base.free b u e n hx
  · have q := I.base.tups b xs e
    rw [upd_ne (ne b _ q)]; exact q
  · have q := I.base.frzs b u v e
    rw [upd_ne (ne b _ q)]; exact q
  · obtain ⟨more, q⟩ := I.base.tbls b ps e
    exact ⟨more, by rw [upd_ne (ne b _ q)]; exact q⟩
  · rw [upd_ne (Ne.symm hL)]; exact I.free
  · rw [upd_ne (hc x c e)]; exact I.freeC x c e
  · obtain ⟨a, b, c⟩ := I.pin p h
    exact ⟨a, by rw [upd_ne (hp p h)]; exact b, c⟩
  · by_cases z : b = ea
    · subst z
      rw [upd_same] at e
      cases e
      exact new
    · rw [upd_ne z] at e
      exact (I.hok b u e).stay (fun _ _ _ q => q) (fun c q => by rw [upd_ne (ne c _ q)]; exact q) fun c xs q => by rw [upd_ne (ne c _ q)]; exact q
end

/-! ### an exception that a loop lets by -/
theorem passOwnT {X : Cx} {pins : List (Addr × Obj)} {Hand : St → XK} (hst : X.stack = X.env :: X.outer) (hfr : X.env.frame = some X.env.locals) : PassesOwn (model X.prog X.w) X.A X.env (X.tryC pins Hand).xe := by
  rintro e s' ⟨σ, H, s, H', ea, cls, rfl, I, fy, h⟩
  obtain ⟨B, a0, hfl, hok, hB⟩ := fy.fl
  have hfl' : FlyHeld X.env.locals B (X.env :: X.outer) ea cls a0 s'.heap := by rw [← hst]; exact hfl
  refine wpAny_keep2 keep2_note fy.cx (look_any (L := X.env.locals) (by rw [I.ok.frames, hst]) hfr hfl' fun h4 held4 up4 c4 => ?_)
  unfold cameBackBy
  rw [hfr]
  refine wpAny_keep2 (s := { s' with heap := h4 }) (keep2_bind keep2_field fun z => by
    split
    · trivial
    · exact keep2_flight) c4 (hold_on (s := { s' with heap := h4 }) held4 fun h5 held5 up5 c5 => ⟨σ, H, s, H', ea, cls, rfl, I, ⟨⟨B, a0, .inr (by rw [hst]; exact held5), hok, hB⟩, fy.os, fy.bare, fun b o q hb => ?_, fy.free, fy.tups, fy.frzs, fy.tbls, c5⟩, h⟩)
  obtain ⟨s1, e1⟩ := fy.slot b o q hb
  obtain ⟨_, o2, ho2, hnf⟩ := hfl.ff.mem (mem_frs hb)
  rw [e1] at ho2
  cases ho2
  obtain ⟨s2, e2⟩ := (up4.trans up5) b _ e1 hnf
  exact ⟨s2, e2⟩
def PassesX (X : Cx) (Hand : St → XK) : Prop := ∀ (pins : List (Addr × Obj)) (σ : St) (H H' : Hp) (s s' : Shared) (ea : Addr) (cls : Value), Inv X pins σ H s → FlyX X.env.locals X.prog X.w X.stack H H' s ea cls s' → Hand σ cls none H' → X.xe (.ref ea) s'
theorem passEX {P : Program} {w : World} {K : PySem.W.Frag} {mg : Str → Option Value} {base : Heap} {N : List Str} {qual : Str} {scope : Scope} {f : Addr} {cd : Value} {A : Around} {outer : List Env} {s : Shared} {H : Hp} {E : XK} :
    PassesX (cxOf (CXE P w) P w K mg base N qual scope f cd A outer s H E) (fun _ => E) := fun _ _ _ _ _ _ _ _ I fy h => passX I fy h
theorem ps_thru {X : Cx} {st : Stmt} {t : TS} (Hand : St → XK) (hx : PassesX X Hand) (h : ∀ pins, PS (X.tryC pins Hand) st t) : PS X st t := by
  intro pins s σ H D I hw
  refine wpAny_mono (h pins [] s σ H D I.intry hw) (fun f s1 q => SP.untry (pins := pins) q) fun e s1 q => ?_
  obtain ⟨σ', H0, s0, H', ea, cls, rfl, I0, fy, hH⟩ := q
  exact hx pins σ' H0 H' s0 s1 ea cls I0 fy hH

def tTry (K : PySem.W.Frag) (cT : Value) (i : Nat) (Hand : St → XK) (tb : TS) (ts : Addr → TS) : TS := fun D σ H => tb D σ H ∧ ∀ σ' cls H', Hand σ' cls none H' → PySem.W.exmOne K cls cT = some true ∧
  ∀ ea, H' ea = none → ts ea { nx := fun σ2 H2 => D.nx (σ2.set i none) H2, rt := D.rt, bk := fun σ2 H2 => D.bk (σ2.set i none) H2, ct := fun σ2 H2 => D.ct (σ2.set i none) H2 } (σ'.set i (some (.ref ea))) (upd H' ea (excO ea cls))
theorem ps_try {X : Cx} {body suite : List Stmt} {b₀ : Stmt} {x n : Str} {np hpos pos : Pos} {i : Nat} {tb : TS} {ts : Addr → TS} {cT : Value} (Hand : St → XK) (hN : X.N.Nodup) (hi : X.N[i]? = some n) (hlo : X.env.scope.names.lookup n = some .local)
    (hst : X.stack = X.env :: X.outer) (hfr : X.env.frame = some X.env.locals) (hex : X.ex = []) (hg : Gl X x) (hm : X.mg x = some cT) (hb : ∀ pins, PSs (X.tryC pins Hand) body tb) (hs : ∀ ea, PSs (X.hand ea) (b₀ :: suite) (ts ea))
    (hd : (x == ("__debug__" : Str)) = false := by decide) : PS X (.Try body [.ExceptHandler (some (.Name x np)) (some n) (b₀ :: suite) hpos] [] [] pos) (tTry X.K cT i Hand tb ts) := by
  intro pins s σ H D I h
  obtain ⟨hbody, hh⟩ := h
  refine wpAny_Try_except (wpAny_mono (hb pins [] s σ H D I.intry hbody) (fun f s1 q => ?_) fun e s1 q => ?_)
  · have q' := SP.untry (pins := pins) q
    cases f with
    | next => exact wpAny_execs_nil q'
    | ret v => exact q'
    | brk => exact q'
    | cont => exact q'
  · obtain ⟨σ', H0, s0, H', ea, cls, rfl, I0, fy, hH⟩ := q
    obtain ⟨B, a0, hfl, hok, hB⟩ := fy.fl
    obtain ⟨hmat, hsu⟩ := hh σ' cls H' hH
    have hfl' : FlyHeld X.env.locals B (X.env :: X.outer) ea cls a0 s1.heap := by rw [← hst]; exact hfl
    refine wpAny_keep2 keep2_note fy.cx (look_any (env := X.env) (outer := X.outer) (L := X.env.locals) (by rw [I.ok.frames, hst]) hfr hfl' fun h4 held4 up4 c4 => ?_)
    refine wpAny_keep2 (s := { s1 with heap := h4 }) keep2_flight c4 (wpAny_landsW (s := { s1 with heap := h4 }) held4 fun h5 hfl5 up5 c5 => ?_)
    have en : B.get? ea = none := hfl.no
    have hfn : ea ∉ frs X.stack := fun z => by
      obtain ⟨_, o2, ho2, hnf⟩ := hfl.ff.mem (mem_frs z)
      obtain ⟨oe, vs, he, _, hd2⟩ := hfl.there
      rw [he] at ho2
      cases ho2
      exact hnf vs hd2
    have new : ∀ b o, s0.heap.get? b = some o → b ≠ ea := fun b o e z => by
      rw [z] at e
      obtain ⟨o', e', _⟩ := hB ea o e hfn
      rw [en] at e'
      cases e'
    have un5 : Un (frs X.stack) [] H0 H' s0.heap h5 := fy.un hfl.ff hB hfl5.1 (up4.trans up5)
    have I5 : Inv X pins σ' H' { s1 with heap := h5 } := I0.call' (s' := { s1 with heap := h5 }) fy.os un5 (hok.kept hfl5.1) fy.bare (fun b z => absurd z (by simp))
    have hne : H' ea = none := by
      cases q : H' ea with
      | none => rfl
      | some o =>
        obtain ⟨u, e⟩ := (hok ea o q).there
        rw [en] at e
        cases e
    refine wpAny_handleBy_cons (codeAny_handlers_test ?_) (by intro q; cases q)
    refine ld_glob (X := X.hand ea) I5.tohand hg hm ?_ hd
    obtain ⟨oe, vs, he5, hc5, hd5, _⟩ := hfl5.first
    have LT : PySem.W.Looks (model X.prog X.w) h5 (typeOf (.ref ea)) cls := by
      rw [← hc5]
      exact (PySem.W.Looks.ld he5).andThen .now
    refine (PySem.W.exm_one (M := model X.prog X.w) I5.kIn LT hmat).here ?_
    rw [if_pos rfl]
    refine codeAny_handlers_suite_as ?_
    refine wpAny_keep2 (s := { s1 with heap := h5 }) keep2_flight c5 (lands_againW (s := { s1 with heap := h5 }) hfl5 fun h6 hfl6 up6 c6 => ?_)
    have un6 : Un (frs X.stack) [] H0 H' s0.heap h6 := fy.un hfl.ff hB hfl6.1 ((up4.trans up5).trans up6)
    have I6 : Inv X pins σ' H' { s1 with heap := h6 } := I0.call' (s' := { s1 with heap := h6 }) fy.os un6 (hok.kept hfl6.1) fy.bare (fun b z => absurd z (by simp))
    obtain ⟨oe6, vs6, he6, hc6, hd6, _⟩ := hfl6.first
    have hv6 : vs6[2]? = some Value.none := by
      obtain ⟨o, ho, vs, hd, hv⟩ := (show C2 ea h6 from c6)
      rw [he6] at ho
      cases ho
      rw [hd6] at hd
      cases hd
      exact hv
    have I7 : Inv X pins σ' (upd H' ea (excO ea cls)) { s1 with heap := h6 } := I6.track hne (fun b u e z => by
        obtain ⟨o', e'⟩ := I0.base.there b u e (by rw [hex]; simp)
        exact new b o' e' z) (fun z => by
        obtain ⟨m, ⟨o, _, _, ho, _⟩, _⟩ := I0.loc
        exact new _ o ho z.symm) (fun y c e => by
        obtain ⟨v, o, ho, _⟩ := I0.cell y c e
        exact new c o ho) (fun p hp => new p.1 p.2 (I0.pin p hp).1) ⟨⟨oe6, vs6, he6, hc6, hd6, hv6⟩, ⟨oe6, he6⟩, fun h1 h2 ⟨o, ws, q1, q2, q3⟩ k => ⟨o, ws, k o q1, q2, q3⟩⟩
    · refine store_ok (X := X.hand ea) (M := model X.prog X.w) I7.tohand hN hi (.inl hlo) (show RelV (.ref ea) (.ref ea) from rfl) (fun s7 I8 => ?_) (.inr hlo)
      refine wpAny_mono (hs ea pins s7 _ _ _ I8 (hsu ea hne)) (fun f s8 q => ?_) fun _ _ z => False.elim z
      cases f with
      | next =>
        obtain ⟨σ2, H2, J, q⟩ := q
        exact goes_ok (J.unhand I.ok.hd) hN hi hlo fun s9 J2 => ⟨_, _, J2, q⟩
      | brk =>
        obtain ⟨σ2, H2, J, q⟩ := q
        exact goes_ok (J.unhand I.ok.hd) hN hi hlo fun s9 J2 => ⟨_, _, J2, q⟩
      | cont =>
        obtain ⟨σ2, H2, J, q⟩ := q
        exact goes_ok (J.unhand I.ok.hd) hN hi hlo fun s9 J2 => ⟨_, _, J2, q⟩
      | ret v =>
        obtain ⟨x2, σ2, H2, J, r, q⟩ := q
        exact goes_ok (J.unhand I.ok.hd) hN hi hlo fun s9 J2 => ⟨_, _, _, J2, r, q⟩
end L2

/-! LAMP C: list comprehensions -/
namespace L2
open PySem PySem.Spec PyProof.Rows

/-! ### the block's environment -/
theorem cellsFrom_app : ∀ (names : List (Str × NameKind)) (n : Nat) (acc : List (Str × Addr)), cellsFrom n names acc = cellsFrom n names [] ++ acc
  | [], _, acc => rfl
  | (x, k) :: r, n, acc => by
    unfold cellsFrom
    split
    · rw [cellsFrom_app r (n + 1) ((x, n) :: acc), cellsFrom_app r (n + 1) [(x, n)], List.append_assoc]
      rfl
    · exact cellsFrom_app r n acc
theorem mem_cellsFrom : ∀ {names : List (Str × NameKind)} {n : Nat} {x : Str} {c : Addr}, (x, c) ∈ cellsFrom n names [] → (x, NameKind.cell) ∈ names
  | [], n, x, c, h => by cases h
  | (y, k) :: r, n, x, c, h => by
    unfold cellsFrom at h
    split at h
    · rename_i hk
      rw [cellsFrom_app] at h
      rcases List.mem_append.mp h with h | h
      · exact List.mem_cons_of_mem _ (mem_cellsFrom h)
      · have e : (x, c) = (y, n) := by simpa using h
        have hk' : k = .cell := by simpa using hk
        injection e with e1 e2
        subst e1 hk'
        exact List.mem_cons_self
    · exact List.mem_cons_of_mem _ (mem_cellsFrom h)
theorem lookup_app {α : Type} {l1 l2 : List (Str × α)} {x : Str} : (l1 ++ l2).lookup x = (l1.lookup x).or (l2.lookup x) := by
  induction l1 with
  | nil => rfl
  | cons p r ih =>
    obtain ⟨y, c⟩ := p
    rw [List.cons_append, List.lookup_cons, List.lookup_cons]
    cases x == y
    · exact ih
    · rfl

theorem compEnv_ok {M : Model} {A : Around} {E : Value → Shared → Prop} {s : Shared} {scope : Scope} {globals : Addr} {cl : List (Str × Addr)} {qual : Str} {env : Env} {Q : Env → Shared → Prop}
    (hQ : ∀ h', (∀ b o, s.heap.get? b = some o → h'.get? b = some o) → h'.Ns s.heap.objs.size (fun _ => none) → CellsOk h' (s.heap.objs.size + 1) (cellsFrom (s.heap.objs.size + 1) scope.names []) →
      Q { scope, locals := s.heap.objs.size, globals, cells := cellsFrom (s.heap.objs.size + 1) scope.names cl, qual, func := none, code := env.code, frame := env.frame, builtins := env.builtins } { s with heap := h' }) :
    wpAny M A (newFunctionEnv scope globals cl [] qual none .none (some env)) Q E s := by
  simp only [newFunctionEnv, Option.isSome_some, if_true]
  refine wpAny_bind (wpAny_alloc ?_)
  refine wpAny_bind (wpAny_layCells _ (fun name kind cells => by cases hkc : kind == NameKind.cell <;> simp [hkc]) _ _ _ _ ?_)
  have ok := cellsFrom_ok scope.names (s.heap.push { cls := .type "dict", data := .dict #[] }) (s.heap.objs.size + 1) [] ⟨fun _ _ hm => (nomatch hm), List.Pairwise.nil⟩ (by rw [Heap.size_push]; exact Nat.le_refl _)
  rw [Heap.size_push] at ok
  have q := hQ (pushCells (s.heap.push { cls := .type "dict", data := .dict #[] }) scope.names) (fun b o e => pushCells_keeps _ _ b o (Heap.get?_push_of_some _ e)) ((Heap.Ns.new s.heap (.type "dict")).keeps (pushCells_keeps _ _)) ok
  rw [show ({ s with heap := s.heap.push { cls := .type "dict", data := .dict #[] } } : Shared).heap.objs.size = s.heap.objs.size + 1 from Heap.size_push ..]
  exact wpAny_bind (wpAny_pure (wpAny_pure q))

def closL (cells : List (Str × Addr)) : List (Str × NameKind) → List (Str × Addr) → List (Str × Addr)
  | [], cs => cs
  | (n, k) :: r, cs => closL cells r (if k = .free then (n, (cells.lookup n).getD 0) :: cs else cs)
theorem closureFor_of {scope : Scope} {env : Env} (h : ∀ y ∈ scope.names, y.2 = .free → (env.cells.lookup y.1).isSome = true) : closureFor scope env = pure (closL env.cells scope.names []) := by
  have go : ∀ (names : List (Str × NameKind)) (cs : List (Str × Addr)), (∀ y ∈ names, y.2 = .free → (env.cells.lookup y.1).isSome = true) →
      (forIn names cs fun x r => (match x with | (name, kind) => if (kind == NameKind.free) = true then do let a ← cellOf env name; pure (ForInStep.yield ((name, a) :: r)) else pure (ForInStep.yield r) : Sem (ForInStep (List (Str × Addr))))) = pure (closL env.cells names cs) := by
    intro names
    induction names with
    | nil => intro cs _; rfl
    | cons y r ih =>
      obtain ⟨n, k⟩ := y
      intro cs hy
      rw [List.forIn_cons]
      by_cases hk : k = .free
      · subst hk
        obtain ⟨c, hc⟩ := Option.isSome_iff_exists.mp (hy (n, .free) List.mem_cons_self rfl)
        have e : cellOf env n = pure c := by unfold cellOf; rw [hc]
        simp only [beq_self_eq_true, if_true, e, pure_bind]
        rw [ih _ fun y hm => hy y (List.mem_cons_of_mem _ hm)]
        simp [closL, hc]
      · have hb : (k == NameKind.free) = false := by simpa using hk
        simp only [hb, Bool.false_eq_true, if_false, pure_bind]
        rw [ih _ fun y hm => hy y (List.mem_cons_of_mem _ hm)]
        simp [closL, hk]
  exact Eq.trans (congrArg (fun z => z >>= pure) (go scope.names [] h)) rfl
theorem closL_look {cells : List (Str × Addr)} {x : Str} {c : Addr} : ∀ {names : List (Str × NameKind)} {cs : List (Str × Addr)}, (closL cells names cs).lookup x = some c → (x, NameKind.free) ∈ names ∧ (cells.lookup x).getD 0 = c ∨ cs.lookup x = some c
  | [], cs, h => .inr h
  | (n, k) :: r, cs, h => by
    unfold closL at h
    rcases closL_look h with ⟨h1, h2⟩ | h2
    · exact .inl ⟨List.mem_cons_of_mem _ h1, h2⟩
    · by_cases hk : k = .free
      · rw [if_pos hk, List.lookup_cons] at h2
        cases hx : x == n with
        | true =>
          rw [hx] at h2
          have e : x = n := by simpa using hx
          subst e hk
          exact .inl ⟨List.mem_cons_self, Option.some.inj h2⟩
        | false => rw [hx] at h2; exact .inr h2
      · rw [if_neg hk] at h2; exact .inr h2
theorem closL_has {cells : List (Str × Addr)} {x : Str} : ∀ {names : List (Str × NameKind)} {cs : List (Str × Addr)}, ((x, NameKind.free) ∈ names ∨ (cs.lookup x).isSome = true) → ((closL cells names cs).lookup x).isSome = true
  | [], cs, h => by
    rcases h with h | h
    · cases h
    · exact h
  | (n, k) :: r, cs, h => by
    unfold closL
    refine closL_has ?_
    rcases h with h | h
    · rcases List.mem_cons.mp h with e | h
      · injection e with e1 e2
        subst e1 e2
        right
        rw [if_pos rfl, List.lookup_cons]
        simp
      · exact .inl h
    · right
      split
      · rw [List.lookup_cons]
        cases x == n
        · exact h
        · rfl
      · exact h

/-! ### the block's context -/
def compCx (X : Cx) (Nc : List Str) (scope : Scope) (cells : List (Str × Addr)) (C : Addr) (s : Shared) (H : Hp) (fp : List Addr) : Cx where
  prog := X.prog
  w := X.w
  K := X.K
  mg := X.mg
  base := X.base
  A := X.A
  N := Nc
  s₀ := s
  H₀ := H
  env := compEnvC scope cells C X.env
  outer := X.stack
  stack := X.stack
  ex := fp
  fn := fun x => scope.names.lookup x == some .cell
  calm := X.calm
  pn := []
  xe := fun _ _ => False
def cσ (n : Nat) (js : List Nat) (σ : St) : St := List.replicate n none ++ js.map fun j => (σ[j]?).join
def cN (vs : List Str) (js : List Nat) (N : List Str) : List Str := vs ++ js.map fun j => N.getD j ""

structure CompScope (X : Cx) (scope : Scope) (vs : List Str) (js : List Nat) : Prop where
  kind : scope.kind = .function
  nd : (scope.names.map (·.1)).Nodup
  fr : ∀ y ∈ scope.names, y.2 = .free → X.env.scope.names.lookup y.1 = some .cell ∨ X.env.scope.names.lookup y.1 = some .free
  sl : ∀ j ∈ js, ∃ x, X.N[j]? = some x ∧ (x, NameKind.free) ∈ scope.names
  cnd : (cN vs js X.N).Nodup

theorem lookup_of_nd {α : Type} : ∀ {l : List (Str × α)} {x : Str} {v : α}, (l.map (·.1)).Nodup → (x, v) ∈ l → l.lookup x = some v
  | (y, u) :: r, x, v, nd, h => by
    rw [List.map_cons, List.nodup_cons] at nd
    rw [List.lookup_cons]
    rcases List.mem_cons.mp h with e | h2
    · injection e with e1 e2
      subst e1 e2
      simp
    · have hne : (x == y) = false := by
        rw [beq_eq_false_iff_ne]
        intro z
        subst z
        exact nd.1 (List.mem_map.mpr ⟨(x, v), h2, rfl⟩)
      rw [hne]
      exact lookup_of_nd nd.2 h2
theorem relabel_look {scope : Scope} {env : Env} {x : Str} {k : NameKind} (hf : env.scope.kind = .function) : (relabel scope env).names.lookup x = some k →
    (scope.names.lookup x = some k) ∨ (k = .cell ∧ scope.names.lookup x = some .free ∧ env.kindOf x = some .cell) := by
  unfold relabel
  dsimp only
  generalize scope.names = l
  induction l with
  | nil => intro h; cases h
  | cons p r ih =>
    obtain ⟨n, k0⟩ := p
    rw [List.map_cons]
    intro h
    rw [List.lookup_cons]
    by_cases hc : (k0 == .free && env.scope.kind == .function && env.kindOf n == some .cell) = true
    · rw [if_pos hc, List.lookup_cons] at h
      cases hx : x == n with
      | false => rw [hx] at h; exact ih h
      | true =>
        rw [hx] at h
        have e : x = n := by simpa using hx
        subst e
        simp only [Bool.and_eq_true, beq_iff_eq] at hc
        exact .inr ⟨(Option.some.inj h).symm, congrArg some hc.1.1, hc.2⟩
    · rw [if_neg hc, List.lookup_cons] at h
      cases hx : x == n with
      | false => rw [hx] at h; exact ih h
      | true => rw [hx] at h; exact .inl h
theorem relabel_free {scope : Scope} {env : Env} {x : Str} : scope.names.lookup x = some .free → (relabel scope env).names.lookup x = some .cell ∨ (relabel scope env).names.lookup x = some .free := by
  unfold relabel
  dsimp only
  generalize scope.names = l
  induction l with
  | nil => intro h; cases h
  | cons p r ih =>
    obtain ⟨n, k0⟩ := p
    rw [List.map_cons]
    intro h
    rw [List.lookup_cons] at h
    by_cases hc : (k0 == .free && env.scope.kind == .function && env.kindOf n == some .cell) = true
    · rw [if_pos hc, List.lookup_cons]
      cases hx : x == n with
      | false => rw [hx] at h; exact ih h
      | true => exact .inl rfl
    · rw [if_neg hc, List.lookup_cons]
      cases hx : x == n with
      | false => rw [hx] at h; exact ih h
      | true => rw [hx] at h; exact .inr h

section
variable {X : Cx} {pins : List (Addr × Obj)} {σ : St} {H : Hp} {s : Shared} {scope : Scope} {vs : List Str} {js : List Nat} {fp : List Addr}
theorem CompScope.clos (S : CompScope X scope vs js) (I : Inv X pins σ H s) : closureFor scope X.env = pure (closL X.env.cells scope.names []) :=
  closureFor_of fun y hy hf => by
    obtain ⟨c, e⟩ := I.ok.has y.1 (S.fr y hy hf)
    rw [e]; rfl
theorem Inv.block (I : Inv X pins σ H s) (S : CompScope X scope vs js) (hfp : ∀ b ∈ fp, FpOk X pins H b) (hfo : ∀ b ∈ fp, ∃ o, s.heap.get? b = some o) {h' : Heap} (hk : ∀ b o, s.heap.get? b = some o → h'.get? b = some o)
    (hn : h'.Ns s.heap.objs.size (fun _ => none)) (hc : CellsOk h' (s.heap.objs.size + 1) (cellsFrom (s.heap.objs.size + 1) scope.names [])) :
    Inv (compCx X (cN vs js X.N) scope (cellsFrom (s.heap.objs.size + 1) scope.names (closL X.env.cells scope.names [])) s.heap.objs.size s H fp) [] (cσ vs.length js σ) H { s with heap := h' } := by
  -- a cell of the block: its own, or one of the frame's
  have split : ∀ x c, (cellsFrom (s.heap.objs.size + 1) scope.names (closL X.env.cells scope.names [])).lookup x = some c →
      ((x, c) ∈ cellsFrom (s.heap.objs.size + 1) scope.names [] ∧ scope.names.lookup x = some .cell) ∨ (X.env.cells.lookup x = some c ∧ (x, NameKind.free) ∈ scope.names) := fun x c e => by
    rw [cellsFrom_app, lookup_app] at e
    cases q : (cellsFrom (s.heap.objs.size + 1) scope.names []).lookup x with
    | some c' =>
      rw [q] at e
      have e' : c' = c := Option.some.inj e
      subst e'
      have m := PySem.mem_of_lookup q
      exact .inl ⟨m, lookup_of_nd S.nd (mem_cellsFrom m)⟩
    | none =>
      rw [q] at e
      rcases closL_look (show (closL X.env.cells scope.names []).lookup x = some c from e) with ⟨h1, h2⟩ | h2
      · obtain ⟨c', e'⟩ := I.ok.has x (S.fr (x, .free) h1 rfl)
        rw [e'] at h2
        have h2' : c' = c := h2
        subst h2'
        exact .inr ⟨e', h1⟩
      · cases h2
  have join : ∀ x c, X.env.cells.lookup x = some c → (x, NameKind.free) ∈ scope.names → (cellsFrom (s.heap.objs.size + 1) scope.names (closL X.env.cells scope.names [])).lookup x = some c := fun x c e m => by
    rw [cellsFrom_app, lookup_app]
    have hl := lookup_of_nd S.nd m
    cases q : (cellsFrom (s.heap.objs.size + 1) scope.names []).lookup x with
    | some c' =>
      have m' := mem_cellsFrom (PySem.mem_of_lookup q)
      rw [lookup_of_nd S.nd m'] at hl
      cases hl
    | none =>
      show (closL X.env.cells scope.names []).lookup x = some c
      obtain ⟨d, hd⟩ := Option.isSome_iff_exists.mp (closL_has (cells := X.env.cells) (cs := []) (.inl m))
      rw [hd]
      rcases closL_look hd with ⟨_, h2⟩ | h2
      · rw [e] at h2
        exact congrArg some h2.symm
      · cases h2
  have old : ∀ x c, X.env.cells.lookup x = some c → c < s.heap.objs.size := fun x c e => by
    obtain ⟨v, z⟩ := I.cell x c e
    exact z.lt
  refine ⟨⟨I.ok.mod, S.kind, I.ok.glob, I.ok.blt, Nat.le_refl _, fun x y c e1 e2 => ?_, fun x hx => ?_, fun x c hf e => ?_, I.ok.hd, I.ok.frames, .inl rfl, fun b hb => ⟨?_, fun x c e => ?_⟩, I.bs, Nat.le_trans I.ok.bsz I.sz, fun b o e hb => ?_, fun b hb hbs => ?_, I.stack, I.stkFree⟩,
    rfl, I.bare, Un.kept hk, ⟨_, hn, fun i x v e1 e2 e3 => ?_⟩, fun x c e => ?_, I.hok.fresh (Nat.le_refl _), fun x c e => ?_, fun p hp => absurd (show p ∈ ([] : List (Addr × Obj)) from hp) (by simp), I.hok.kept hk, ?_⟩
  · rcases split x c e1 with ⟨m1, _⟩ | ⟨z1, _⟩ <;> rcases split y c e2 with ⟨m2, _⟩ | ⟨z2, _⟩
    · exact name_of_addr hc.apart m1 m2
    · exact absurd (Nat.lt_of_lt_of_le (old y c z2) (Nat.le_of_succ_le (hc.empty x c m1).2)) (Nat.lt_irrefl _)
    · exact absurd (Nat.lt_of_lt_of_le (old x c z1) (Nat.le_of_succ_le (hc.empty y c m2).2)) (Nat.lt_irrefl _)
    · exact I.ok.inj x y c z1 z2
  · have hx : (relabel scope X.env).names.lookup x = some .cell ∨ (relabel scope X.env).names.lookup x = some .free := hx
    have fin : (x, NameKind.free) ∈ scope.names → ∃ c, (cellsFrom (s.heap.objs.size + 1) scope.names (closL X.env.cells scope.names [])).lookup x = some c := fun m => by
      obtain ⟨c, e⟩ := I.ok.has x (S.fr (x, .free) m rfl)
      exact ⟨c, join x c e m⟩
    have own : scope.names.lookup x = some .cell → ∃ c, (cellsFrom (s.heap.objs.size + 1) scope.names (closL X.env.cells scope.names [])).lookup x = some c := fun e =>
      Option.isSome_iff_exists.mp (PySem.W.cellsFrom_some scope.names _ _ (.inl e))
    rcases hx with hx | hx
    · rcases relabel_look I.ok.kind hx with e | ⟨_, e, _⟩
      · exact own e
      · exact fin (PySem.mem_of_lookup e)
    · rcases relabel_look I.ok.kind hx with e | ⟨e, _, _⟩
      · exact fin (PySem.mem_of_lookup e)
      · cases e
  · rcases split x c e with ⟨m, _⟩ | ⟨_, m⟩
    · have := (hc.empty x c m).2
      show s.heap.objs.size ≤ c
      omega
    · have hf' : (scope.names.lookup x == some NameKind.cell) = true := hf
      rw [lookup_of_nd S.nd m] at hf'
      exact absurd hf' (by decide)
  · obtain ⟨o, e⟩ := hfo b hb
    exact Nat.ne_of_lt (Heap.lt_size e)
  · rcases split x c e with ⟨m, _⟩ | ⟨z, _⟩
    · obtain ⟨o, e'⟩ := hfo b hb
      exact Nat.ne_of_gt (Nat.lt_of_lt_of_le (Heap.lt_size e') (Nat.le_of_succ_le (hc.empty x c m).2))
    · exact (hfp b hb).2.2.2.2.1 x c z
  · rcases (hfp b hb).2.2.2.1 with z | z
    · exact I.ok.noex b o e z
    · exact absurd (Nat.lt_of_lt_of_le (Nat.lt_of_lt_of_le (Heap.lt_size e) I.ok.bsz) z) (Nat.lt_irrefl _)
  · rcases List.mem_cons.mp (I.stkSub b hbs) with z | z
    · exact (hfp b hb).2.1 z
    · exact (hfp b hb).2.2.1 z
  · -- a name that the block sees
    have e1 : (vs ++ js.map fun j => X.N.getD j "")[i]? = some x := e1
    have e2 : (List.replicate vs.length none ++ js.map fun j => (σ[j]?).join)[i]? = some (some v) := e2
    by_cases hi : i < vs.length
    · rw [List.getElem?_append_left (by simpa using hi), List.getElem?_replicate, if_pos hi] at e2
      cases e2
    · have hi' : vs.length ≤ i := by omega
      rw [List.getElem?_append_right (by simpa using hi'), List.length_replicate, List.getElem?_map] at e2
      rw [List.getElem?_append_right hi', List.getElem?_map] at e1
      cases q : js[i - vs.length]? with
      | none => rw [q] at e1; cases e1
      | some j =>
        rw [q] at e1 e2
        have e1 : X.N.getD j "" = x := Option.some.inj e1
        have e2 : (σ[j]?).join = some v := Option.some.inj e2
        obtain ⟨x', hx', m⟩ := S.sl j (List.mem_of_getElem? q)
        have ex : x' = x := by
          rw [← e1, List.getD_eq_getElem?_getD, hx']
          rfl
        subst ex
        have hσ : σ[j]? = some (some v) := by
          cases w : σ[j]? with
          | none => rw [w] at e2; cases e2
          | some o =>
            rw [w] at e2
            have e2' : o = some v := e2
            rw [e2']
        obtain ⟨mm, _, hl⟩ := I.loc
        have hfr := S.fr (x', .free) m rfl
        obtain ⟨u, r, l⟩ := hl j x' v hx' hσ (.inr hfr)
        refine ⟨u, r, ?_⟩
        rcases l with ⟨k, _⟩ | ⟨k, c, e, z⟩
        · have k' : X.env.scope.names.lookup x' = some .local := k
          rcases hfr with w | w
          · rw [k'] at w; cases w
          · rw [k'] at w; cases w
        · exact .inr ⟨relabel_free (lookup_of_nd S.nd m), c, join x' c e m, z.keeps hk⟩
  · rcases split x c e with ⟨m, _⟩ | ⟨z, _⟩
    · exact ⟨_, (hc.empty x c m).1⟩
    · obtain ⟨v, q⟩ := I.cell x c z
      exact ⟨v, q.keeps hk⟩
  · rcases split x c e with ⟨m, _⟩ | ⟨z, _⟩
    · exact I.hok.fresh (by have := (hc.empty x c m).2; omega)
    · exact I.freeC x c z
  · show (List.replicate vs.length none ++ js.map fun j => (σ[j]?).join).length = (vs ++ js.map fun j => X.N.getD j "").length
    simp
end

/-! ### the tests of a clause -/
def PF (X : Cx) (ifs : List Expr) (t : TT) : Prop :=
  ∀ (pins : List (Addr × Obj)) (s : Shared) (σ : St) (H : Hp) (Q : Bool → Hp → Prop), Inv X pins σ H s → t σ H Q →
    wpAny (model X.prog X.w) X.A (forIn ifs true fun c r => if r = true then do let ok ← isTrue c X.env (eval c X.env); pure (ForInStep.yield ok) else pure (ForInStep.yield r)) (TP X pins σ Q) X.xe s
def tAll : TT := fun _ H Q => Q true H
theorem pf_nil {X : Cx} : PF X [] tAll := fun pins s σ H Q I h => by
  rw [List.forIn_nil]
  exact wpAny_pure ⟨H, I, h⟩
theorem pf_one {X : Cx} {c : Expr} {t : TT} (h : PT X c t) : PF X [c] t := fun pins s σ H Q I hq => by
  rw [List.forIn_cons]
  simp only [if_true]
  refine wpAny_bind (wpAny_bind (thn (h pins s σ H Q I hq) fun b s1 e => wpAny_pure ?_))
  dsimp only
  rw [List.forIn_nil]
  exact wpAny_pure e

/-! ### the loop -/
theorem compLoop_go {prog : Program} {w : World} {A : Around} {R : Result → Shared → Prop} {s : Shared} {elt target iter : Expr} {ifs : List Expr} {scope : Scope} {pos : Pos} {it acc : Value} {env : Env} (I : Nat → Shared → Prop)
    (turn : ∀ n s, I n s → wpAny (model prog w) A (pyNext it) (fun r s₁ => match r with
      | none => R (.ok .next) s₁
      | some v => wpAny (model prog w) A (letOwnedTupleGo target it v) (fun _ s₂ => wpAny (model prog w) A (assign target env v) (fun _ s₃ =>
          wpAny (model prog w) A (forIn ifs true fun c r => if r = true then do let ok ← isTrue c env (eval c env); pure (ForInStep.yield ok) else pure (ForInStep.yield r)) (fun ok s₄ =>
            if ok = true then wpAny (model prog w) A (eval elt env) (fun x s₅ => wpAny (model prog w) A (call (.builtin "list.append") [acc, x]) (fun _ s₆ => ∃ m, m < n ∧ I m s₆) (fun _ _ => False) s₅) (fun _ _ => False) s₄
            else ∃ m, m < n ∧ I m s₄) (fun _ _ => False) s₃) (fun _ _ => False) s₂) (fun _ _ => False) s₁) (fun _ _ => False) s)
    (n : Nat) (h : I n s) : codeAny (model prog w) A (.compLoop (.ListComp elt [⟨target, iter, ifs, 0⟩] scope pos) 0 it acc env) R s := by
  refine codeAny_loop rfl I (fun n s hI => ?_) n h
  show wpAny _ A ((compTurn (.ListComp elt [⟨target, iter, ifs, 0⟩] scope pos) 0 it acc env).onRaise (fun x => do noteFrame x env; theTreesLotGoes x)) _ _ s
  refine wpAny_noted ?_
  rw [compTurn_list]
  refine wpAny_bind (wpAny_standAt (wpAny_bind (wpAny_mono (turn n s hI) (fun r s1 h1 => ?_) fun _ _ z => z.elim)))
  cases r with
  | none => exact wpAny_pure h1
  | some v =>
    refine wpAny_bind (wpAny_mono h1 (fun _ s2 h2 => ?_) fun _ _ z => z.elim)
    refine wpAny_bind (wpAny_mono h2 (fun _ s3 h3 => wpAny_bind (wpAny_mono h3 (fun ok s4 h4 => ?_) fun _ _ z => z.elim)) fun _ _ z => z.elim)
    cases ok with
    | false => exact wpAny_pure ⟨rfl, h4⟩
    | true =>
      refine wpAny_bind (wpAny_bind (wpAny_mono h4 (fun x s5 h5 => wpAny_bind (wpAny_mono h5 (fun _ s6 h6 => wpAny_pure (wpAny_pure ⟨rfl, h6⟩)) fun _ _ z => z.elim)) fun _ _ z => z.elim))

/-! ### a comprehension's reading -/
def tCompAt (n : Nat) (js : List Nat) (g : TG) (ti : TT) (te : TE) (σ : St) (Q : VK) (J : It) (H1 : Hp) : Prop := ∀ D, H1 D = none → ∃ W : Nat → Nat → List V → Hp → Prop, (∃ m, W 0 m [] (upd H1 D (.lst []))) ∧ ∀ i m ys H, W i m ys H →
  H D = some (.lst ys) ∧ ((J.stop i H ∧ Q (.ref D) H) ∨ (J.go i H ∧ ∀ x H', J.yld i H x H' → g x (cσ n js σ) H' fun σ2 H2 =>
    ((∀ (k : Nat) v, (cσ n js σ)[k]? = some (some v) → σ2[k]? = some (some v)) ∧ σ2.length = (cσ n js σ).length) ∧ ti σ2 H2 fun b H3 =>
      if b = true then te σ2 H3 fun v H4 => H4 D = some (.lst ys) ∧ ys.length < sizeLine ∧ ∃ m', m' < m ∧ W (i + 1) m' (ys ++ [v]) (upd H4 D (.lst (ys ++ [v])))
      else ∃ m', m' < m ∧ W (i + 1) m' ys H3))

structure BlkOk (X : Cx) (pins : List (Addr × Obj)) (H : Hp) (C : Addr) (h : Heap) : Prop where
  ns : ∃ m, h.Ns C m
  fr : H C = none
  nL : C ≠ X.env.locals
  ab : X.s₀.heap.objs.size ≤ C
  cl : ∀ x c, X.env.cells.lookup x = some c → c ≠ C
  pn : ∀ p ∈ X.pn ++ pins, p.1 ≠ C

section
variable {X : Cx} {elt target iter : Expr} {ifs : List Expr} {scope : Scope} {pos : Pos} {vs : List Str} {js : List Nat} {wi : TI} {g : TG} {ti : TT} {te : TE}
theorem comp_core (hc : X.calm = true) (S : CompScope X scope vs js) (hi : PI X target iter wi)
    (hg : ∀ cells C s H fp, PG (compCx X (cN vs js X.N) scope cells C s H fp) target g) (ht : ∀ cells C s H fp, PF (compCx X (cN vs js X.N) scope cells C s H fp) ifs ti) (he : ∀ cells C s H fp, PE (compCx X (cN vs js X.N) scope cells C s H fp) elt te)
    {pins : List (Addr × Obj)} {s : Shared} {σ : St} {H : Hp} {Q : VK} {R : It → Hp → Prop} {RR : Value → Addr → Result → Shared → Prop} (I : Inv X pins σ H s) (h : wi σ H R) (hR : ∀ J H1, R J H1 → tCompAt vs.length js g ti te σ Q J H1)
    (hRR : ∀ D C H' s', Inv X pins σ H' s' → BlkOk X pins H' C s'.heap → Q (.ref D) H' → RR (.ref D) C (.ok .next) s') :
    wpAny (model X.prog X.w) X.A (eval iter X.env) (fun x s₁ => wpAny (model X.prog X.w) X.A (pyIter x) (fun it s₂ => wpAny (model X.prog X.w) X.A (newList []) (fun acc s₃ =>
      wpAny (model X.prog X.w) X.A (newFunctionEnv scope X.env.globals (closL X.env.cells scope.names []) [] X.env.qual none .none (some X.env)) (fun cenv s₄ =>
        codeAny (model X.prog X.w) X.A (.compStart (.ListComp elt [⟨target, iter, ifs, 0⟩] scope pos) 0 it acc { cenv with scope := relabel scope X.env }) (RR acc cenv.locals) s₄) X.xe s₃) X.xe s₂) X.xe s₁) X.xe s := by
  refine thn (hi pins s σ H _ I h) fun v s1 h1 => thn h1 fun itv s2 h2 => ?_
  obtain ⟨it, fp, tn, J, H2, e, I2, T, st2, f2, hD0⟩ := h2
  have hD := hR J H2 hD0
  subst e
  refine wpAny_newObj_type ?_ (Nat.zero_le _)
  have I3 := I2.lnew (ys := []) (its := []) (t' := s2.toks) .nil (Nat.zero_le _)
  have nD : H2 s2.heap.objs.size = none := I2.hok.fresh (Nat.le_refl _)
  obtain ⟨W, ⟨m0, w0⟩, turn⟩ := hD s2.heap.objs.size nD
  have fo : ∀ b ∈ fp, ∃ o, s2.heap.get? b = some o := fun b hb => let ⟨o, e, _⟩ := T.obj 0 _ st2 b hb; ⟨o, e⟩
  have f3 : ∀ b ∈ fp, FpOk X pins (upd H2 s2.heap.objs.size (.lst [])) b := fun b hb => by
    obtain ⟨o, e⟩ := fo b hb
    exact ⟨by rw [upd_ne (Nat.ne_of_lt (Heap.lt_size e))]; exact (f2 b hb).1, (f2 b hb).2⟩
  refine compEnv_ok fun h4 hk4 hn4 hc4 => ?_
  have B := I3.block S f3 (fun b hb => let ⟨o, e⟩ := fo b hb; ⟨o, Heap.get?_push_of_some _ e⟩) hk4 hn4 hc4
  have tn0 : tn 0 h4 := T.keep 0 s2.heap h4 st2 fun b hb o e => hk4 b o (Heap.get?_push_of_some _ e)
  generalize hX : compCx X (cN vs js X.N) scope (cellsFrom ((s2.heap.push { cls := .type "list", data := .seq ([] : List Value).toArray }).objs.size + 1) scope.names (closL X.env.cells scope.names [])) (s2.heap.push { cls := .type "list", data := .seq ([] : List Value).toArray }).objs.size
    { s2 with heap := s2.heap.push { cls := .type "list", data := .seq ([] : List Value).toArray }, toks := s2.toks } (upd H2 s2.heap.objs.size (.lst [])) fp = Xc at B
  have stat : ∀ {Hc : Hp} {σc : St} {sc : Shared} {pc : List (Addr × Obj)}, Inv Xc pc σc Hc sc → (∀ b ∈ fp, Hc b = none) → ∀ b ∈ fp, FpOk Xc [] Hc b := fun {Hc σc sc pc} J hn b hb => by
    have hb' : b ∈ Xc.ex := by rw [← hX]; exact hb
    refine ⟨hn b hb, (J.ok.exf b hb').1, J.ok.exfs b hb', .inl hb', (J.ok.exf b hb').2, fun p hp => ?_⟩
    rw [← hX] at hp
    exact absurd (show p ∈ ([] : List (Addr × Obj)) from hp) (by simp)
  have loop : codeAny (model X.prog X.w) X.A (.compLoop (.ListComp elt [⟨target, iter, ifs, 0⟩] scope pos) 0 (.ref it) (.ref s2.heap.objs.size) Xc.env) (RR (.ref s2.heap.objs.size) Xc.env.locals)
      { s2 with heap := h4, toks := s2.toks } := by
    refine compLoop_go (fun n s' => ∃ i Hc ys, Inv Xc [] (cσ vs.length js σ) Hc s' ∧ tn i s'.heap ∧ (∀ b ∈ fp, Hc b = none) ∧ W i n ys Hc) ?_ m0 ⟨0, _, [], B, tn0, fun b hb => (f3 b hb).1, w0⟩
    rintro n s5 ⟨i, Hc, ys, I5, st5, fr5, w5⟩
    have eP : Xc.prog = X.prog := by rw [← hX]; rfl
    have eW : Xc.w = X.w := by rw [← hX]; rfl
    have eK : Xc.K = X.K := by rw [← hX]; rfl
    have eA : Xc.A = X.A := by rw [← hX]; rfl
    have eC : Xc.calm = true := by rw [← hX]; exact hc
    have eE : Xc.xe = fun _ _ => False := by rw [← hX]; rfl
    obtain ⟨hD5, way⟩ := turn i n ys Hc w5
    rcases way with ⟨stop, q⟩ | ⟨go, step⟩
    · rw [← eA]
      refine thn (T.done Xc eP eW eK eC i [] s5 _ Hc (fun _ _ => False) I5 (stat I5 fr5) st5 stop) fun r s6 ⟨hr, I6⟩ => ?_
      subst hr
      show RR _ _ _ s6
      have un : Un (frs X.stack) fp (upd H2 s2.heap.objs.size (.lst [])) Hc (s2.heap.push { cls := .type "list", data := .seq ([] : List Value).toArray }) s6.heap := by
        have := I6.base
        rw [← hX] at this
        exact this
      have os6 : s6.os = s2.os := by
        have := I6.os
        rw [← hX] at this
        exact this
      have hok6 : HOk X.prog X.w Hc s6.heap := by
        have := I6.hok
        rw [eP, eW] at this
        exact this
      have I7 : Inv X pins σ Hc s6 := I3.call' (s' := s6) os6 un hok6 I6.bare fun b hb => ⟨(f3 b hb).2.2.2.1, (f3 b hb).2.1, (f3 b hb).2.2.2.2.1, (f3 b hb).2.2.2.2.2⟩
      have eL : Xc.env.locals = (s2.heap.push { cls := .type "list", data := .seq ([] : List Value).toArray }).objs.size := by rw [← hX]; rfl
      obtain ⟨m, hm, _⟩ := I6.loc
      refine hRR _ _ _ _ I7 ⟨⟨m, hm⟩, I6.free, ?_, ?_, fun x c e => ?_, fun p hp => ?_⟩ q
      · rw [eL]
        exact Nat.ne_of_gt I3.lt
      · rw [eL]
        exact I3.sz
      · obtain ⟨v, z⟩ := I3.cell x c e
        rw [eL]
        exact Nat.ne_of_lt z.lt
      · rw [eL]
        exact Nat.ne_of_lt (Heap.lt_size (I3.pin p hp).1)
    · rw [← eA]
      refine thn (T.item Xc eP eW eK eC i [] s5 _ Hc (fun _ _ => False) I5 (stat I5 fr5) st5 go) fun r s6 ⟨u, hr, h6⟩ => ?_
      subst hr
      refine thn h6 fun _ s7 ⟨x, H7, I7, rx, y7, st7, fr7⟩ => ?_
      have I7' := I7.pinned (stat I7 fr7) (T.obj _ _ st7)
      have PGx : PG Xc target g := by rw [← hX]; exact hg _ _ _ _ _
      have PFx : PF Xc ifs ti := by rw [← hX]; exact ht _ _ _ _ _
      have PEx : PE Xc elt te := by rw [← hX]; exact he _ _ _ _ _
      have back : ∀ {σ8 : St} {H8 : Hp} {s8 : Shared}, Inv Xc ([] ++ pinsAt fp s7.heap) σ8 H8 s8 → ((∀ (k : Nat) v, (cσ vs.length js σ)[k]? = some (some v) → σ8[k]? = some (some v)) ∧ σ8.length = (cσ vs.length js σ).length) →
          Inv Xc [] (cσ vs.length js σ) H8 s8 ∧ tn (i + 1) s8.heap ∧ ∀ b ∈ fp, H8 b = none := fun {σ8 H8 s8} J wk => by
        have at_ : ∀ b o, b ∈ fp → s7.heap.get? b = some o → s8.heap.get? b = some o ∧ H8 b = none := fun b o hb e => by
          have := J.pin (b, o) (List.mem_append_right _ (List.mem_append_right _ (mem_pinsAt hb e)))
          exact ⟨this.1, this.2.1⟩
        refine ⟨J.unpinned.weak wk.2.symm wk.1, T.keep _ _ _ st7 fun b hb o e => (at_ b o hb e).1, fun b hb => ?_⟩
        obtain ⟨o, e, _⟩ := T.obj _ _ st7 b hb
        exact (at_ b o hb e).2
      have PGr := PGx _ s7 (cσ vs.length js σ) H7 x u _ I7' rx (step x H7 y7)
      rw [eE, eP, eW] at PGr
      refine thn PGr fun _ s8 ⟨σ8, H8, I8, wk, q8⟩ => ?_
      have PFr := PFx _ s8 σ8 H8 _ I8 q8
      rw [eE, eP, eW] at PFr
      refine thn PFr fun b s9 ⟨H9, I9, q9⟩ => ?_
      cases b with
      | false =>
        rw [if_neg Bool.false_ne_true] at q9 ⊢
        obtain ⟨m', hm', w'⟩ := q9
        obtain ⟨J1, J2, J3⟩ := back I9 wk
        exact ⟨m', hm', i + 1, H9, ys, J1, J2, J3, w'⟩
      | true =>
        rw [if_pos rfl] at q9 ⊢
        have PEr := PEx _ s9 σ8 H9 _ I9 q9
        rw [eE, eP, eW] at PEr
        refine thn PEr fun z s10 ⟨v, H10, I10, rv, hD10, hz, m', hm', w'⟩ => ?_
        have AP := mt_append (X := Xc) _ s10 σ8 H10 (.ref s2.heap.objs.size) [v] (.ref s2.heap.objs.size) [z] (fun r H11 => r = .non ∧ H11 = upd H10 s2.heap.objs.size (.lst (ys ++ [v]))) I10 rfl (.cons rv .nil) ⟨_, ys, v, rfl, rfl, hD10, hz, rfl, rfl⟩
        rw [eE, eP, eW] at AP
        refine thn AP fun _ s11 ⟨_, H11, I11, _, _, e11⟩ => ?_
        subst e11
        obtain ⟨J1, J2, J3⟩ := back I11 wk
        exact ⟨m', hm', i + 1, _, ys ++ [v], J1, J2, J3, w'⟩
  rw [← hX] at loop
  exact codeAny_compStart_list loop (T.self X.A 0 _ _ _ tn0 loop)

def compOk (N : List Str) (fs scope : Scope) (vs : List Str) (js : List Nat) : Bool :=
  scope.kind == .function && decide ((scope.names.map (·.1)).Nodup) && scope.names.all (fun y => y.2 != .free || fs.names.lookup y.1 == some .cell || fs.names.lookup y.1 == some .free) &&
    js.all (fun j => match N[j]? with | some x => scope.names.contains (x, .free) | none => false) && decide ((cN vs js N).Nodup)
theorem CompScope.of (h : compOk X.N X.env.scope scope vs js = true) : CompScope X scope vs js := by
  unfold compOk at h
  simp only [Bool.and_eq_true, beq_iff_eq, decide_eq_true_eq, List.all_eq_true] at h
  obtain ⟨⟨⟨⟨h1, h2⟩, h3⟩, h4⟩, h5⟩ := h
  refine ⟨h1, h2, fun y hy hf => ?_, fun j hj => ?_, h5⟩
  · have z := h3 y hy
    simp only [Bool.or_eq_true, beq_iff_eq, bne_iff_ne] at z
    rcases z with (z | z) | z
    · exact absurd hf z
    · exact .inl z
    · exact .inr z
  · have z := h4 j hj
    split at z
    · rename_i x e
      exact ⟨x, e, by simpa using z⟩
    · cases z
/-! ### one name as the target; a pair of names -/
abbrev fr1 (js : List Nat) (σ : St) : List (Option V) := js.map fun j => (σ[j]?).join
def tC1 (js : List Nat) (ti : TT) (te : TE) (σ : St) (Q : VK) (J : It) (H1 : Hp) : Prop := ∀ D, H1 D = none → ∃ W : Nat → Nat → List V → Hp → Prop, (∃ m, W 0 m [] (upd H1 D (.lst []))) ∧ ∀ i m ys H, W i m ys H →
  H D = some (.lst ys) ∧ ((J.stop i H ∧ Q (.ref D) H) ∨ (J.go i H ∧ ∀ x H', J.yld i H x H' → ti (some x :: fr1 js σ) H' fun b H3 =>
      if b = true then te (some x :: fr1 js σ) H3 fun v H4 => H4 D = some (.lst ys) ∧ ys.length < sizeLine ∧ ∃ m', m' < m ∧ W (i + 1) m' (ys ++ [v]) (upd H4 D (.lst (ys ++ [v])))
      else ∃ m', m' < m ∧ W (i + 1) m' ys H3))
theorem tC1_at {σ : St} {Q : VK} {J : It} {H1 : Hp} (h : tC1 js ti te σ Q J H1) : tCompAt 1 js (gName 0) ti te σ Q J H1 := by
  intro D hD
  obtain ⟨W, w0, turn⟩ := h D hD
  refine ⟨W, w0, fun i m ys H w => ?_⟩
  obtain ⟨h1, h2⟩ := turn i m ys H w
  refine ⟨h1, ?_⟩
  rcases h2 with h2 | ⟨g1, g2⟩
  · exact .inl h2
  · refine .inr ⟨g1, fun x H' y => ⟨⟨fun k v e => ?_, ?_⟩, g2 x H' y⟩⟩
    · cases k with
      | zero => cases e
      | succ k => exact e
    · simp [cσ]
variable {x y : Str} {px py tp : Pos} {kk : Nat}
def OwnName (X : Cx) (scope : Scope) (x : Str) : Prop := Loc (relabel scope X.env) x ∧ ((scope.names.lookup x == some .cell) = true ∨ (relabel scope X.env).names.lookup x = some .local)
theorem pe_compN (hc : X.calm = true) (S : compOk X.N X.env.scope scope [x] js = true) (hi : PI X (.Name x px) iter wi) (ht : ∀ cells C s H fp, PF (compCx X (cN [x] js X.N) scope cells C s H fp) ifs ti) (he : ∀ cells C s H fp, PE (compCx X (cN [x] js X.N) scope cells C s H fp) elt te)
    (hx : OwnName X scope x := by first | exact ⟨Or.inl rfl, Or.inr rfl⟩ | exact ⟨Or.inr rfl, Or.inl rfl⟩)
    (hs : ∀ x, foldedSetIterable iter X.env x = pure x := by intro _; rfl) : PE X (.ListComp elt [⟨.Name x px, iter, ifs, 0⟩] scope pos) (fun σ H Q => wi σ H (tC1 js ti te σ Q)) := by
  intro pins s σ H Q I h
  have S' := CompScope.of S
  rw [eval_ListComp]
  refine wpAny_comprehension_free (use := none) rfl hs (S'.clos I) S'.kind (fun y hy hl => by obtain ⟨a, b⟩ := y; cases hl; exact lookup_of_nd S'.nd hy) ?_
  refine comp_core hc S' hi (fun _ _ _ _ _ => pg_name (i := 0) S'.cnd rfl hx.1 hx.2) ht he I h (fun J H1 q => tC1_at q) fun D C H' s' I' b q => ?_
  obtain ⟨m, hm⟩ := b.ns
  exact ⟨m, hm, fun h' hs' => ⟨.ref D, H', I'.turned (t' := s'.toks) (fun b' o hb e => (hs'.2 b' hb).trans e) b.fr b.nL (.inr b.ab) b.cl b.pn, rfl, q⟩⟩
theorem ps_compN {i : Nat} {z : Str} {pz spos : Pos} (hN : X.N.Nodup) (hiz : X.N[i]? = some z) (hz : Loc X.env.scope z) (hc : X.calm = true) (S : compOk X.N X.env.scope scope [x] js = true) (hi : PI X (.Name x px) iter wi)
    (ht : ∀ cells C s H fp, PF (compCx X (cN [x] js X.N) scope cells C s H fp) ifs ti) (he : ∀ cells C s H fp, PE (compCx X (cN [x] js X.N) scope cells C s H fp) elt te)
    (hf : X.fn z = true ∨ X.env.scope.names.lookup z = some .local := by first | exact .inl rfl | exact .inr rfl)
    (hx : OwnName X scope x := by first | exact ⟨Or.inl rfl, Or.inr rfl⟩ | exact ⟨Or.inr rfl, Or.inl rfl⟩)
    (hsw : swapsWith (.ListComp elt [⟨.Name x px, iter, ifs, 0⟩] scope pos) (some (.Name z pz)) spos.line X.env = pure true := by rfl)
    (hs : ∀ x, foldedSetIterable iter X.env x = pure x := by intro _; rfl) : PS X (.Assign [.Name z pz] (.ListComp elt [⟨.Name x px, iter, ifs, 0⟩] scope pos) spos) (fun D σ H => wi σ H (tC1 js ti te σ fun v H1 => D.nx (σ.set i (some v)) H1)) := by
  intro pins s σ H D I h
  have S' := CompScope.of S
  rw [exec_Assign_Name_used _ _ _ _ hsw]
  refine wpAny_bind (wpAny_standAt (wpAny_bind ?_))
  show wpAny _ X.A (do let _ ← comprehension (.ListComp elt [⟨.Name x px, iter, ifs, 0⟩] scope pos) scope X.env _ (newList []) false (eval iter X.env) (some (assign (.Name z pz) X.env))) _ _ s
  refine wpAny_bind (wpAny_mono (wpAny_comprehension_free (use := some (assign (.Name z pz) X.env)) (Q := fun _ s' => SP X pins D .next s') rfl hs (S'.clos I) S'.kind (fun y hy hl => by obtain ⟨a, b⟩ := y; cases hl; exact lookup_of_nd S'.nd hy) ?_)
    (fun _ s' hq => wpAny_pure (wpAny_pure hq)) fun _ _ z => z)
  refine comp_core hc S' hi (fun _ _ _ _ _ => pg_name (i := 0) S'.cnd rfl hx.1 hx.2) ht he I h (fun J H1 q => tC1_at q) fun D' C H' s' I' b q => ?_
  show wpAny _ X.A (assign (.Name z pz) X.env (.ref D')) _ _ _
  refine wpAny_assign_Name (store_ok2 I' hN hiz hz (show RelV (.ref D') (.ref D') from rfl) (fun s2 I2 ⟨a, sb, ha⟩ => ?_) hf)
  obtain ⟨m, hm⟩ := b.ns
  have hCa : C ≠ a := by
    rcases ha with rfl | ha
    · exact b.nL
    · exact Ne.symm (b.cl _ _ ha)
  exact ⟨m, hm.sameBut sb hCa, fun h' hs' => ⟨_, H', I2.turned (t' := s2.toks) (fun b' o hb e => (hs'.2 b' hb).trans e) b.fr b.nL (.inr b.ab) b.cl b.pn, q⟩⟩
end
theorem comp_range {n : Nat} {js : List Nat} {ti : TT} {te : TE} {σ : St} {Q : VK} {H1 : Hp} (p : Nat → Bool) (f : Nat → V) (hn : n ≤ 1000)
    (hti : ∀ (i : Nat) Hc (k : Bool → Hp → Prop), i < n → Same H1 Hc → k (p i) Hc → ti (some (.int (0 + i)) :: fr1 js σ) Hc k) (hte : ∀ (i : Nat) Hc (k : VK), i < n → p i = true → Same H1 Hc → k (f i) Hc → te (some (.int (0 + i)) :: fr1 js σ) Hc k)
    (hq : ∀ D, H1 D = none → Q (.ref D) (upd H1 D (.lst (((List.range n).filter p).map f)))) : tC1 js ti te σ Q (Itr 0 n) H1 := by
  intro D hD
  have sm : ∀ ys, Same H1 (upd H1 D (.lst ys)) := fun ys b o e => by rw [upd_ne (ne_of_none e hD)]; exact e
  refine ⟨fun i m ys H => m = n - i ∧ i ≤ n ∧ ys = ((List.range i).filter p).map f ∧ H = upd H1 D (.lst ys), ⟨n, by simp, Nat.zero_le _, rfl, rfl⟩, ?_⟩
  rintro i m ys H ⟨rfl, hi, rfl, rfl⟩
  refine ⟨upd_same, ?_⟩
  by_cases hlt : i < n
  · refine .inr ⟨hlt, fun x H' y => ?_⟩
    obtain ⟨e1, e2⟩ := y
    subst e1 e2
    refine hti i _ _ hlt (sm _) ?_
    cases hp : p i with
    | true =>
      refine iteT (hte i _ _ hlt hp (sm _) ⟨upd_same, ?_, n - (i + 1), by omega, rfl, hlt, ?_, ?_⟩)
      · have h1 := List.length_filter_le p (List.range i)
        rw [List.length_range] at h1
        rw [List.length_map]
        exact small1000 (by omega)
      · rw [List.range_succ, List.filter_append, List.map_append]
        simp [hp]
      · rw [upd_upd]
    | false =>
      refine iteF ⟨n - (i + 1), by omega, rfl, hlt, ?_, rfl⟩
      rw [List.range_succ, List.filter_append, List.map_append]
      simp [hp]
  · have e : i = n := by omega
    subst e
    exact .inl ⟨Nat.le_refl _, hq D hD⟩
/-! ### rules whose reading names K, within a block -/
section
variable {X : Cx} {Nc : List Str} {scope : Scope} {cells : List (Str × Addr)} {C : Addr} {s : Shared} {H : Hp} {fp : List Addr} {e : Expr} {f : Str} {pos : Pos} {ta : TE}
end
/-! ### the same within a try, or a loop that lets exceptions by -/
section
variable {X : Cx} {pins : List (Addr × Obj)} {Hand : St → XK} {e : Expr} {f : Str} {pos : Pos} {ta tl : TE} {tg l : Expr}
end
end L2

/-! LAMP D: is, == of lists and tuples, in, all, any, isinstance, the calls in an except suite -/
namespace L2
open PySem PySem.Spec PyProof.Rows
section
variable {X : Cx}
end

/-! ### == of two lists, of two tuples, flat items -/
def eqVs : List V → List V → Bool
  | [], [] => true
  | a :: as, b :: bs => eqV a b && eqVs as bs
  | _, _ => false
def eAt (xs ys : List V) (j : Nat) : Bool := match xs[j]?, ys[j]? with
  | some a, some b => eqV a b
  | _, _ => false
theorem eqVs_range : ∀ (xs ys : List V), ((List.range (min xs.length ys.length)).all (eAt xs ys) && xs.length == ys.length) = eqVs xs ys
  | [], [] => rfl
  | [], _ :: _ => by simp [eqVs]
  | _ :: _, [] => by simp [eqVs]
  | a :: as, b :: bs => by
    have ih := eqVs_range as bs
    have e : min (a :: as).length (b :: bs).length = min as.length bs.length + 1 := by simp only [List.length_cons]; omega
    rw [e, List.range_succ_eq_map, List.all_cons, List.all_map]
    have e2 : (eAt (a :: as) (b :: bs) ∘ Nat.succ) = eAt as bs := by funext j; rfl
    have e3 : ((a :: as).length == (b :: bs).length) = (as.length == bs.length) := by
      rw [Bool.eq_iff_iff]
      simp
    rw [e2, e3, Bool.and_assoc, ih]
    rfl
theorem eqV_refl : ∀ {x : V}, flatV x = true → eqV x x = true
  | .non, _ => rfl
  | .bl b, _ => by simp [eqV]
  | .int i, _ => by simp [eqV]
  | .str z, _ => by simp [eqV]
theorem eqVs_refl : ∀ {xs : List V}, xs.all flatV = true → eqVs xs xs = true
  | [], _ => rfl
  | a :: as, h => by
    rw [List.all_cons, Bool.and_eq_true] at h
    simp [eqVs, eqV_refl h.1, eqVs_refl h.2]
theorem eAt_at {A : Around} {s : Shared} {xs ys : List V} {us ws : List Value} (rx : Vals xs us) (ry : Vals ys ws) (fx : xs.all flatV = true) (fy : ys.all flatV = true) (j : Nat) (h1 : j < us.toArray.size) (h2 : j < ws.toArray.size) :
    SeqAt.EqAt A s us.toArray[j] ws.toArray[j] (eAt xs ys j) := by
  have l1 := rx.length
  have l2 := ry.length
  have q1 : j < xs.length := by simp at h1; omega
  have q2 : j < ys.length := by simp at h2; omega
  obtain ⟨u, e1, r1⟩ := rx.get (i := j) (x := xs[j]) (by simp [q1])
  obtain ⟨w, e2, r2⟩ := ry.get (i := j) (x := ys[j]) (by simp [q2])
  have f1 : flatV xs[j] = true := List.all_eq_true.mp fx _ (List.getElem_mem q1)
  have f2 : flatV ys[j] = true := List.all_eq_true.mp fy _ (List.getElem_mem q2)
  have g1 : us.toArray[j] = u := by
    have := List.getElem?_eq_some_iff.mp e1
    obtain ⟨_, z⟩ := this
    simpa using z
  have g2 : ws.toArray[j] = w := by
    have := List.getElem?_eq_some_iff.mp e2
    obtain ⟨_, z⟩ := this
    simpa using z
  have ee : eAt xs ys j = eqV xs[j] ys[j] := by simp [eAt, q1, q2]
  rw [g1, g2, ee]
  exact eqAt_V r1 r2 f1 f2
section
variable {X : Cx} {pins : List (Addr × Obj)} {σ : St} {H : Hp} {s : Shared} {A : Around}
theorem rcAt_tup {p q : Addr} {xs ys : List V} (I : Inv X pins σ H s) (hp : SqT X.K H p xs) (hq : SqT X.K H q ys) (fx : xs.all flatV = true) (fy : ys.all flatV = true) (hu : A.units < cLine) : SeqAt.RcAt A s (.ref p) (.ref q) (eqVs xs ys) := by
  obtain ⟨us, r1, p1, _⟩ := I.tuple hp
  obtain ⟨ws, r2, p2, _⟩ := I.tuple hq
  have l1 := r1.length
  have l2 := r2.length
  have z := SeqAt.RcAt.tuples (A := A) (e := eAt xs ys) p1 p2 hu fun j h1 h2 => eAt_at r1 r2 fx fy j h1 h2
  have e2 : ((List.range (min us.toArray.size ws.toArray.size)).all (eAt xs ys) && us.toArray.size == ws.toArray.size) = eqVs xs ys := by
    rw [← eqVs_range xs ys]
    simp only [List.size_toArray, l1, l2]
  rw [e2] at z
  exact z
theorem eqAt_tup {p q : Addr} {xs ys : List V} (I : Inv X pins σ H s) (hp : SqT X.K H p xs) (hq : SqT X.K H q ys) (fx : xs.all flatV = true) (fy : ys.all flatV = true) (hu : A.units < cLine) : SeqAt.EqAt A s (.ref p) (.ref q) (eqVs xs ys) := by
  by_cases h : p = q
  · subst h
    have e := I.tuple_inj hp hq
    subst e
    rw [eqVs_refl fx]
    exact SeqAt.EqAt.same _
  · exact SeqAt.EqAt.of_refs h (rcAt_tup I hp hq fx fy hu)
end
section
variable {X : Cx}
theorem walk_bls {pins : List (Addr × Obj)} {σ : St} {H : Hp} {s : Shared} {p : Addr} {bs : List Bool} (I : Inv X pins σ H s) (hq : SqL X.K H p (bs.map V.bl)) :
    ∃ its : List Value, its = bs.map Value.bool ∧ PlainL s.heap p its.toArray := by
  obtain ⟨its, r, pl, hz⟩ := I.list hq
  refine ⟨its, ?_, pl⟩
  clear pl hq hz
  induction bs generalizing its with
  | nil => cases r; rfl
  | cons b bs ih =>
    cases r with
    | cons r t =>
      cases r
      rw [ih _ t]
      rfl
theorem range_bls (bs : List Bool) : ∀ (g : Bool → Bool), (List.range bs.length).all (fun i => g (bs.getD i false)) = bs.all g ∧ (List.range bs.length).any (fun i => g (bs.getD i false)) = bs.any g := by
  induction bs with
  | nil => intro g; exact ⟨rfl, rfl⟩
  | cons b bs ih =>
    intro g
    have e : ((fun i => g ((b :: bs).getD i false)) ∘ Nat.succ) = fun i => g (bs.getD i false) := by funext j; rfl
    constructor
    · rw [List.length_cons, List.range_succ_eq_map, List.all_cons, List.all_map, e, (ih g).1]
      rfl
    · rw [List.length_cons, List.range_succ_eq_map, List.any_cons, List.any_map, e, (ih g).2]
      rfl

/-! ### isinstance -/
end
end L2

/-! LAMP E: enumerate; a def with a default -/
namespace L2
open PySem PySem.Spec PyProof.Rows

/-! ### enumerate -/
def Ite (K : PySem.W.Frag) (a : Addr) : It :=
  ⟨fun i H => ∃ xs x, SqL K H a xs ∧ xs[i]? = some x, fun i H x H' => ∃ t v, x = .ref t ∧ H t = none ∧ H' = upd H t (.tup [.int i, v]) ∧ ∀ xs, SqL K H a xs → xs[i]? = some v, fun i H => ∃ xs, SqL K H a xs ∧ xs.length ≤ i⟩
theorem go_enum {M : Model} {A : Around} {E : Value → Shared → Prop} {s : Shared} {es : List Expr} {k : Nat} {pos : Pos} {e it a : Addr} {i : Int} {x : Value} {Q : Unit → Shared → Prop} (he : IsEnumOut s.heap e it i x a)
    (h : ∀ h', IsEnum h' e it i x → Heap.SameBut e s.heap h' → Q () { s with heap := h' }) : wpAny M A (letOwnedTupleGo (.Tuple es k pos) (.ref e) (.ref a)) Q E s := by
  unfold letOwnedTupleGo
  refine wpAny_bind (wpAny_load he ?_)
  dsimp only
  rw [if_pos (by simp)]
  refine wpAny_bind (wpAny_rule ?_)
  unfold updateField
  refine wpAny_bind (wpAny_load he ?_)
  dsimp only
  rw [if_pos (by simp)]
  refine wpAny_update he (h _ ?_ (Heap.SameBut.update ..))
  have := Heap.get?_update_self (Obj.mapFields (·.setIfInBounds 0 Value.none)) he rfl
  exact this
theorem turn_enum {P : Program} {w : World} {K : PySem.W.Frag} {es : List Expr} {k : Nat} {pos : Pos} (a e it : Addr) (hne : e ≠ it) :
    Turn P w K (.Tuple es k pos) (Ite K a) [e, it] e (fun i h => (∃ old, IsEnum h e it i old) ∧ h.IsListIter it a i) where
  mem := by simp
  obj := fun i h st b hb => by
    obtain ⟨⟨old, he⟩, o, e1, c1, d1⟩ := st
    rcases List.mem_cons.mp hb with z | z
    · rw [z]
      exact ⟨_, he, fun v q => by
        have q' : Data.fields _ = Data.cell v := q
        cases q'⟩
    · have z' : b = it := by simpa using z
      rw [z']
      exact ⟨o, e1, fun v q => by rw [d1] at q; cases q⟩
  keep := fun i h h' st kp => by
    obtain ⟨⟨old, he⟩, hi⟩ := st
    exact ⟨⟨old, kp e (by simp) _ he⟩, hi.at fun o q => kp it (by simp) o q⟩
  item := by
    intro X hP hw hK hc i pins s σ H E I hf st hg
    subst hP hw hK
    obtain ⟨xs, x, hq, hx⟩ := hg
    obtain ⟨⟨old, he⟩, hit⟩ := st
    obtain ⟨its, rv, p, hz⟩ := I.list hq
    obtain ⟨u, hu, ru⟩ := rv.get hx
    have nt : H s.heap.objs.size = none := I.hok.fresh (Nat.le_refl _)
    refine wpAny_pyNext_enum_item he hit p.isList (x := u) (by simpa using hu) hne fun h1 ho hit1 htup hsz hk => ⟨_, rfl, go_enum (s := { s with heap := h1, toks := s.toks + 1 }) ho fun h2 he2 sb => ?_⟩
    have old_ : ∀ b o, b ∉ [e, it] → s.heap.get? b = some o → h2.get? b = some o := fun b o hb q => by
      have n1 : b ≠ e := fun z => hb (by simp [z])
      have n2 : b ≠ it := fun z => hb (by simp [z])
      exact (sb.2 b n1).trans (hk b o n1 n2 q)
    have elt : e < s.heap.objs.size := Heap.lt_size he
    have htup2 : h2.get? s.heap.objs.size = some { cls := .type "tuple", data := .seq #[.int i s.toks, u] } := (sb.2 _ (Nat.ne_of_gt elt)).trans htup
    have trk : ∀ b o, H b = some o → b ∉ [e, it] := fun b o q hb => by
      have := (hf b hb).1
      rw [this] at q
      cases q
    have J : Inv X pins σ (upd H s.heap.objs.size (.tup [.int i, x])) { s with heap := h2, gens := s.gens, drawn := s.drawn, toks := s.toks + 1 } := by
      refine I.step (s := s) (h' := h2) (g' := s.gens) (d' := s.drawn) (t' := s.toks + 1) (ch := [e, it]) (fun b hb => ?_) (fun b o _ _ hc q _ => old_ b o hc q) (fun b o _ _ hc q _ => ⟨o.slots, old_ b o hc q⟩) (fun b o hc q n => ?_)
        (fun b o hc q => ⟨o, old_ b o hc q⟩) (fun b ys q => ?_) (fun b o v q => ?_) (fun b ps q => ⟨#[], ?_⟩) (fun m hm => ?_) (fun b v q => ?_) I.bare
      · obtain ⟨f0, f1, f2, f3, f4, f5⟩ := hf b hb
        exact ⟨f3, f1, f4, f5⟩
      · rw [upd_ne (Nat.ne_of_lt (Heap.lt_size q))]
        exact n
      · rw [upd_ne (ne_of_none q nt)]
        exact q
      · rw [upd_ne (ne_of_none q nt)]
        exact q
      · rw [upd_ne (ne_of_none q nt), q]
        simp
      · obtain ⟨o, es', ep, ho', r⟩ := hm
        exact ⟨o, es', ep, old_ _ o (fun z => (hf _ z).2.1 rfl) ho', r⟩
      · by_cases hb : b = s.heap.objs.size
        · subst hb
          rw [upd_same] at q
          cases q
          exact ⟨by show 2 ≤ sizeLine; decide, [.int i s.toks, u], .cons ⟨_, rfl⟩ (.cons ru .nil), ⟨_, htup2, rfl, _, rfl⟩⟩
        · rw [upd_ne hb] at q
          refine (I.hok b v q).stay (fun c z hc' q' => old_ c z ?_ q') (fun c q' => by rw [upd_ne (ne_of_none q' nt)]; exact q') fun c ys q' => by rw [upd_ne (ne_of_none q' nt)]; exact q'
          rcases hc' with hc' | hc'
          · rw [hc']
            exact trk b v q
          · exact trk c _ hc'
    refine ⟨.ref s.heap.objs.size, upd H s.heap.objs.size (.tup [.int i, x]), J, rfl, ⟨_, x, rfl, nt, rfl, fun ys hy => by rw [I.list_inj hy hq]; exact hx⟩, ⟨⟨u, he2⟩, ?_⟩, fun b hb => ?_⟩
    · obtain ⟨o, q, r⟩ := hit1
      exact ⟨o, (sb.2 it (Ne.symm hne)).trans q, r⟩
    · obtain ⟨f0, f1, f2, f3, f4, f5⟩ := hf b hb
      have hlt : b < s.heap.objs.size := by
        rcases List.mem_cons.mp hb with z | z
        · rw [z]; exact elt
        · have z' : b = it := by simpa using z
          rw [z']
          obtain ⟨o, q, _⟩ := hit
          exact Heap.lt_size q
      rw [upd_ne (Nat.ne_of_lt hlt)]
      exact f0
  done := by
    intro X hP hw hK hc i pins s σ H E I hf st hg
    subst hP hw hK
    obtain ⟨xs, hq, hx⟩ := hg
    obtain ⟨⟨old, he⟩, hit⟩ := st
    obtain ⟨its, rv, p, hz⟩ := I.list hq
    obtain ⟨f0, f1, f2, f3, f4, f5⟩ := hf it (by simp)
    have hl := rv.length
    exact wpAny_pyNext_enum_end (I.ok.hd hc) he hit p.isList (by simp; omega) fun h' eb => ⟨rfl, I.turned (t' := s.toks) (fun b o hb q => eb b o hb q) f0 f1 f3 f4 f5⟩
  self := fun _ _ _ _ _ st h => by
    obtain ⟨⟨old, he⟩, _⟩ := st
    exact wpAny_pyIter_enum he h
def iEnum (K : PySem.W.Frag) (ta : TA) : TI := fun σ H R => ta σ H fun vs H1 => ∃ a, vs = [.ref a] ∧ (∃ xs, SqL K H1 a xs) ∧ R (Ite K a) H1
theorem pi_enum {X : Cx} {es : List Expr} {k : Nat} {tp p pos : Pos} {l : Expr} {ta : TA} (hg : Gl X "enumerate") (hm : X.mg "enumerate" = none) (ha : PA X [l] ta) (hs : starEach [l] X.env = [(false, eval l X.env)] := by rfl) :
    PI X (.Tuple es k tp) (.Call (.Name "enumerate" p) [l] [] pos) (iEnum X.K ta) := by
  intro pins s σ H R I h
  refine Call_ (ld_blt I hg hm boot_enumerate (PyProof.Rows.callWith_type1 (thn (ha pos pins s σ H _ I h) fun us s1 ⟨vs, H1, I1, r1, q1⟩ => ?_) hs rfl))
  obtain ⟨a, e, ⟨xs, hq⟩, q⟩ := q1
  subst e
  obtain ⟨u, rfl, rx⟩ := vals1 r1
  cases rx
  obtain ⟨its, rv, pl, hz⟩ := I1.list hq
  refine call_enumerate_list pl.isList fun h' he hit hsz hk => wpAny_pyIter_enum (s := { s1 with heap := h' }) he ?_
  have I2 : Inv X pins σ H1 { s1 with heap := h' } := I1.kept (t' := s1.toks) hk
  refine ⟨_, [s1.heap.objs.size + 1, s1.heap.objs.size], _, _, H1, rfl, I2, turn_enum a _ _ (Nat.succ_ne_self _), ⟨⟨_, he⟩, hit⟩, fun b hb => ?_, q⟩
  have hb' : s1.heap.objs.size ≤ b := by
    rcases List.mem_cons.mp hb with z | z
    · rw [z]; exact Nat.le_succ _
    · have z' : b = s1.heap.objs.size := by simpa using z
      rw [z']; exact Nat.le_refl _
  exact I1.fpOk hb' (I1.hok.fresh hb')

/-! ### a def with defaults -/
structure FunD (K : PySem.W.Frag) (x qual : Str) (st : Stmt) (f : Addr) (fd : FuncData) (ds : List Value) : Prop where
  ex : ∃ (oc : Value) (od : Option Addr) (T : Addr) (kV doc pm : Value) (an : Option Addr) (cdv ct : Value) (osl : Array (Option Value)) (ot : Obj) (nt : Nat),
    fd = PySem.W.fnOf x qual (defArgs st) (defBody st) (defScope st) (.ref T) kV doc pm an cdv ct ∧ K.lookup f = some ⟨oc, od, .func fd, osl⟩ ∧ PySem.W.codeIn K cdv qual = true ∧ K.lookup T = some ot ∧ ot.data = .seq ds.toArray nt
  kp : PySem.W.keepIn K (.ref f) = true
theorem FunD.okE {P : Program} {w : World} {K : PySem.W.Frag} {mg : Str → Option Value} {base : Heap} {x qual : Str} {st : Stmt} {f : Addr} {fd : FuncData} {ds : List Value} {N ps : List Str} {k : Nat} {sp : Sp} (F : FunD K x qual st f fd ds) (S : FnScope N ps (defScope st))
    (len : ∀ vs H Q E, sp vs H Q E → vs.length = ps.length)
    (hbody : ∀ (cdv : Value) (A : Around) (outer : List Env) (s : Shared) (H : Hp) (vs : List V) (Q : VK) (E : XK), Room k (A.deeper (envOfC qual (defScope st) s.heap.objs.size f cdv)) → sp vs H Q E →
      ∃ t, PSs (cxOf (CXE P w) P w K mg base N qual (defScope st) f cdv A outer s H E) (defBody st) t ∧ t { nx := fun _ H' => Q .non H', rt := Q } (start N vs) H) : FnOk P w K mg base (CXE P w) (k + 1) f fd ps sp := by
  obtain ⟨oc, od, T, kV, doc, pm, an, cdv, ct, osl, ot, nt, rfl, lk, hcd, _⟩ := F.ex
  exact fn_of lk hcd S len fun A outer s H vs Q E hr hsp => hbody cdv A outer s H vs Q E hr hsp
theorem funD_mk {K : PySem.W.Frag} {x qual : Str} {st : Stmt} {f T : Addr} {oc ocT : Value} {od an odT : Option Addr} {osl slT : Array (Option Value)} {kV doc pm cdv ct : Value} {ds : List Value} {nt : Nat}
    (l : K.lookup f = some ⟨oc, od, .func (PySem.W.fnOf x qual (defArgs st) (defBody st) (defScope st) (.ref T) kV doc pm an cdv ct), osl⟩)
    (c : PySem.W.codeIn K cdv qual = true) (k : PySem.W.keepIn K (.ref f) = true) (lT : K.lookup T = some ⟨ocT, odT, .seq ds.toArray nt, slT⟩) : FunD K x qual st f (PySem.W.fnOf x qual (defArgs st) (defBody st) (defScope st) (.ref T) kV doc pm an cdv ct) ds :=
  ⟨⟨oc, od, T, kV, doc, pm, an, cdv, ct, osl, _, nt, rfl, l, c, lT, rfl⟩, k⟩
end L2

/-! LAMP F: != of lists and tuples; a tuple in a list of tuples; comprehensions of new lists; sets of rows -/
namespace L2
open PySem PySem.Spec PyProof.Rows
section
variable {X : Cx} {pins : List (Addr × Obj)} {σ : St} {H : Hp} {s : Shared} {A : Around}
end
section
variable {X : Cx}
def tupAt (H : Hp) (a : Addr) : List V := match H a with
  | some (.tup ys) => ys
  | _ => []
theorem tupAt_of {H : Hp} {a : Addr} {ys : List V} (h : H a = some (.tup ys)) : tupAt H a = ys := by unfold tupAt; rw [h]
def rInT (K : PySem.W.Frag) (neg : Bool) : R2 := fun x y H Q => ∃ (p : Addr) (xs : List V) (q : Addr) (tas : List Addr), x = .ref p ∧ SqT K H p xs ∧ xs.all flatV = true ∧ y = .ref q ∧ SqL K H q (tas.map V.ref) ∧ (∀ a ∈ tas, H a = some (.tup (tupAt H a)) ∧ (tupAt H a).all flatV = true) ∧
  Q (.bl (if neg then !(tas.any fun a => eqVs (tupAt H a) xs) else tas.any fun a => eqVs (tupAt H a) xs)) H
def evT (H : Hp) (xs : List V) (v : Value) : Bool := match v with
  | .ref a => eqVs (tupAt H a) xs
  | _ => false
theorem vals_refs : ∀ {tas : List Addr} {us : List Value}, Vals (tas.map V.ref) us → us = tas.map Value.ref
  | [], _, .nil => rfl
  | a :: tas, u :: us, .cons r t => by
    cases r
    rw [vals_refs t]
    rfl
theorem inT_core {pins : List (Addr × Obj)} {σ : St} {H : Hp} {s : Shared} {p q : Addr} {xs : List V} {tas : List Addr} (hu : X.A.in1.units < cLine) (I : Inv X pins σ H s) (hp : SqT X.K H p xs) (fx : xs.all flatV = true) (hq : SqL X.K H q (tas.map V.ref))
    (ht : ∀ a ∈ tas, H a = some (.tup (tupAt H a)) ∧ (tupAt H a).all flatV = true) : s.heap.IsList q (tas.map Value.ref).toArray ∧ ∀ y, y ∈ (tas.map Value.ref).toArray → SeqAt.EqAt X.A.in1 s y (.ref p) (evT H xs y) := by
  obtain ⟨us, r1, p1, _⟩ := I.list hq
  have e := vals_refs r1
  subst e
  refine ⟨p1.isList, fun y hy => ?_⟩
  have hy' : y ∈ tas.map Value.ref := by simpa using hy
  obtain ⟨a, ha, rfl⟩ := List.mem_map.mp hy'
  obtain ⟨h1, h2⟩ := ht a ha
  exact eqAt_tup I (SqT.of h1) hp h2 fx hu
theorem op_in_tups (hu : X.A.in1.units < cLine) : OpR X (compareOp .In) (rInT X.K false) := by
  intro pins s σ H x y v u Q I rx ry h
  obtain ⟨p, xs, q, tas, rfl, hp, fx, rfl, hq, ht, k⟩ := h
  cases rx
  cases ry
  obtain ⟨h1, h2⟩ := inT_core hu I hp fx hq ht
  refine SeqAt.in_listAt (evT H xs) h1 h2 ⟨.bl _, H, I, rfl, ?_⟩
  have e : (tas.map Value.ref).toArray.any (evT H xs) = tas.any fun a => eqVs (tupAt H a) xs := by
    simp [evT, Function.comp_def]
  rw [e]
  exact k
end
theorem Same.laid {H : Hp} {a : Addr} {o : HO} (h : H a = none) : Same H (upd H a o) := fun b u e => by rw [upd_ne (ne_of_none e h)]; exact e
/-! ### rows: a list of distinct new lists -/
structure RowsAt (H : Hp) (D : Addr) (qs : List Addr) (n : Nat) (g : Nat → List V) : Prop where
  top : H D = some (.lst (qs.map V.ref))
  ln : qs.length = n
  nd : qs.Nodup
  ap : D ∉ qs
  at_ : ∀ (i : Nat) q, qs[i]? = some q → H q = some (.lst (g i))
end L2

/-! LAMP G: defs, methods and classes of the text in short -/
namespace L2
open PySem PySem.Spec PyProof.Rows
structure Has (P : Program) (w : World) (K : PySem.W.Frag) (mg : Str → Option Value) (base : Heap) (CX : CXT) (k : Nat) (x : Str) (ps : List Str) (sp : Sp) : Prop where
  ex : ∃ f fd, FnOk P w K mg base CX k f fd ps sp ∧ Binds K fd ps [] ∧ mg x = some (.ref f) ∧ PySem.W.keepIn K (.ref f) = true
structure HasM (P : Program) (w : World) (K : PySem.W.Frag) (mg : Str → Option Value) (base : Heap) (CX : CXT) (k : Nat) (C : Addr) (m : Str) (ps : List Str) (dvs : List V) (sp : Sp) : Prop where
  ex : ∃ f fd ds, FnOk P w K mg base CX k f fd ps sp ∧ Binds K fd ps ds ∧ Vals dvs ds ∧ Meth K C m f
  cl : Cls K C
structure HasC (P : Program) (w : World) (K : PySem.W.Frag) (mg : Str → Option Value) (base : Heap) (CX : CXT) (k : Nat) (C : Addr) (x : Str) (ps : List Str) (sp : Sp) : Prop where
  ex : ∃ f fd, FnOk P w K mg base CX k f fd ps sp ∧ Binds K fd ps [] ∧ Mk K C f
  m : mg x = some (.ref C)
theorem pass0S {X : Cx} {E : St → XK} : PassesS CX0 X E := fun _ _ _ _ _ _ _ h => h.elim
section
variable {X : Cx} {CX : CXT} {k : Nat} {C : Addr} {ps : List Str} {sp : Sp} {dvs : List V} {E : St → XK} {x m : Str} {p pos apos : Pos} {e o : Expr} {es : List Expr} {ta : TE} {t : TA}
theorem pe_callH (h : Has X.prog X.w X.K X.mg X.base CX k x ps sp) (hr : Room k X.A) (hg : Gl X x) (hx : PassesS CX X E) (ha : PA X (e :: es) t)
    (hdb : (x == ("__debug__" : Str)) = false := by decide) (he : starEach (e :: es) X.env = (false, eval e X.env) :: starEach es X.env := by rfl) (hpl : (backTo pos (starEach es X.env)).any (·.1) = false := by rfl) :
    PE X (.Call (.Name x p) (e :: es) [] pos) (tCallS sp [] E t) := by
  obtain ⟨f, fd, F, b, hm, hk⟩ := h.ex
  exact pe_callS F hr hg hm hk b .nil hx ha hdb he hpl
theorem pe_methH {pl : Sem Bool} (he : PE X o ta) (h : HasM X.prog X.w X.K X.mg X.base CX k C m ps dvs sp) (hr : Room k X.A) (hx : PassesS CX X E) (ha : PA X (e :: es) t)
    (hst : starEach (e :: es) X.env = (false, eval e X.env) :: starEach es X.env := by rfl) (hpl : (backTo pos (starEach es X.env)).any (·.1) = false := by rfl)
    (ht : eval (.Call (.Attribute o m apos) (e :: es) [] pos) X.env = (do
      let ov ← eval o X.env
      standAt apos.atName
      let (f, first) ← holding [ov] (getMethod ov m pl)
      callWith pos f first (backTo pos (starEach (e :: es) X.env)) (backToKw pos (keywordEach [] X.env))) := by rfl) :
    PE X (.Call (.Attribute o m apos) (e :: es) [] pos) (tMethS C m sp dvs E ta t) := by
  obtain ⟨f, fd, ds, F, b, hd, hm⟩ := h.ex
  exact pe_methS he h.cl hm F hr b hd hx ha hst hpl ht
theorem pe_makeH (h : HasC X.prog X.w X.K X.mg X.base CX k C x ps sp) (hr : Room (k + 1) X.A) (hg : Gl X x) (hx : PassesS CX X E)
    (ha : PA X (e :: es) t) (hdb : (x == ("__debug__" : Str)) = false := by decide) (he : starEach (e :: es) X.env = (false, eval e X.env) :: starEach es X.env := by rfl) (hpl : (backTo pos (starEach es X.env)).any (·.1) = false := by rfl) :
    PE X (.Call (.Name x p) (e :: es) [] pos) (tMakeS C sp [] E t) := by
  obtain ⟨f, fd, F, b, M⟩ := h.ex
  exact pe_makeS M F hr hg h.m b .nil hx ha hdb he hpl
end
theorem posI {j : Int} (h : decide (0 < j) = true) : 0 < j := of_decide_eq_true h
theorem divI {i j : Int} (h : (decide (0 < j) && decide (j < 1073741824)) = true) : CDiv i j := by
  rw [Bool.and_eq_true, decide_eq_true_eq, decide_eq_true_eq] at h
  exact h
theorem mulL {i j : Int} (h : (decide (-(2 ^ 64) < i) && decide (i < 2 ^ 64)) = true) : CMul i j := by
  rw [Bool.and_eq_true, decide_eq_true_eq, decide_eq_true_eq] at h
  exact .inl h
section
variable {X : Cx} {N1 N2 : List Str} {sc1 sc2 : Scope} {c1 c2 : List (Str × Addr)} {C1 C2 : Addr} {s1 s2 : Shared} {H1 H2 : Hp} {f1 f2 : List Addr}
end
end L2

/-! LAMP H: promises lifted to those that may raise; isinstance of a caught exception; short names -/
namespace L2
open PySem PySem.Spec PyProof.Rows
theorem bootB_len : bootBuiltins "len" = some (.builtin "len") := PySem.boot_len
theorem bootB_isinstance : bootBuiltins "isinstance" = some (.builtin "isinstance") := by decide +kernel
theorem bootB_any : bootBuiltins "any" = some (.builtin "any") := by decide +kernel
theorem bootB_str : bootBuiltins "str" = some (.type "str") := by decide +kernel
theorem bootB_ValueError : bootBuiltins "ValueError" = some (.type "ValueError") := by decide +kernel
structure LB (mg : Str → Option Value) : Prop where
  b_len : mg "len" = none
  b_list : mg "list" = none
  b_bool : mg "bool" = none
  b_int : mg "int" = none
  b_isinstance : mg "isinstance" = none
  b_all : mg "all" = none
  b_any : mg "any" = none
  b_range : mg "range" = none
  b_enumerate : mg "enumerate" = none
  b_ValueError : mg "ValueError" = none
  b_reversed : mg "reversed" = none
  b_str : mg "str" = none
  b_tuple : mg "tuple" = none
  b_set : mg "set" = none
  b_sorted : mg "sorted" = none
  b_min : mg "min" = none
section
variable {P : Program} {w : World} {K : PySem.W.Frag} {mg : Str → Option Value} {base : Heap} {k : Nat} {f : Addr} {fd : FuncData} {ps : List Str} {sp : Sp} {x : Str}
theorem FnOk.lift {CX : CXT} (F : FnOk P w K mg base CX0 k f fd ps sp) : FnOk P w K mg base CX k f fd ps sp :=
  ⟨F.len, fun A outer s H args us vs Q E hr he hb hv hs => codeAny_mono (F.run A outer s H args us vs Q E hr he hb hv hs) fun r s' q => by
    cases r with
    | error e => exact False.elim q
    | ok fl => cases fl <;> exact q⟩
theorem Has.mk' {CX : CXT} (F : FnOk P w K mg base CX k f fd ps sp) (b : Binds K fd ps []) (m : mg x = some (.ref f)) (kp : PySem.W.keepIn K (.ref f) = true) : Has P w K mg base CX k x ps sp := ⟨f, fd, F, b, m, kp⟩
end
/-! ### isinstance(e, C), e caught -/
structure ExcT (K : PySem.W.Frag) (C : Addr) : Prop where
  ga : PySem.W.findIn K (.ref C) "__getattribute__" = some (some (.builtin "BaseException.__getattribute__"))
  gh : PySem.W.findIn K (.ref C) "__getattr__" = some none
  mb : PySem.W.mroIn K C (.type "BaseException") = some true
  cs : (PySem.W.clsIn K C).isSome = true
  ha : PySem.W.findIn K (.ref C) "__class__" = some (some (.builtin "object.__class__"))
  hn : PySem.W.specialIn K (.builtin "object.__class__") "__get__" = some (some (.builtin "getset_descriptor.__get__"))
  tk : PySem.W.takesIn K (.builtin "object.__class__") = some true
  hm : PySem.W.mroIn K C (.type "object") = some true
section
variable {prog : Program} {w : World} {A : Around} {E : Value → Shared → Prop} {s : Shared} {K : PySem.W.Frag} {x C : Addr}
def ExcAt (x C : Addr) (h : Heap) : Prop := ∃ o vs, h.get? x = some o ∧ o.cls = .ref C ∧ o.data = .fields vs
theorem ExcAt.type {h : Heap} (p : ExcAt x C h) {M : Model} : PySem.W.Looks M h (typeOf (.ref x)) (.ref C) := by
  obtain ⟨o, vs, h1, h2, _⟩ := p
  exact h2 ▸ (PySem.W.Looks.ld h1).andThen .now
open PySem.W Builtin Builtin.ObjectAttr Builtin.Getset_descriptor in
theorem exc_find (T : ExcT K C) {M : Model} {h : Heap} (X : K.In h) :
    Looks M h (find (.ref x) (.ref C) "__class__") (.bind (.builtin "getset_descriptor.__get__") (.builtin "object.__class__")) := by
  have a1 := looks_findIn (M := M) X T.ha
  have a2 : Looks M h (getOf (some (.builtin "object.__class__"))) _ := looks_specialIn X T.hn
  have a3 := looks_takesIn (M := M) X T.tk
  have a4 : Looks M h (dataDescriptor? (some (.builtin "object.__class__")) (some (.builtin "getset_descriptor.__get__"))) _ := a3.andThen .now
  exact a1.andThen (a2.andThen (a4.andThen (Looks.tag .now)))
open PySem.W Builtin Builtin.ObjectAttr Builtin.Getset_descriptor in
theorem exc_get {tp : Value} {R : Result → Shared → Prop} (T : ExcT K C) (X : K.In s.heap) (p : ExcAt x C s.heap) (h : R (.ok (.ret (.ref C))) s) :
    codeAny (model prog w) A (.call (.builtin "getset_descriptor.__get__") ⟨[.builtin "object.__class__", .ref x, tp], []⟩) R s := by
  obtain ⟨hh, g, dr, t, os⟩ := s
  have b0 := p.type (M := model prog w)
  have b1 := looks_mroIn (M := model prog w) X T.hm
  refine codeAny_call_builtin KF.slot_gs.plain KF.entry_gs ?_
  refine KF.slot_gs.check _ _ _ _ _ _ _ _ KF.type_class (KF.args_gs _ _ _) ?_
  unfold Builtin.«getset_descriptor.__get__»
  unfold descrGet
  rw [dga_obj]
  refine wpAny_bind (wpAny_pure ?_)
  unfold descrGetter descrCheckInstance
  unfold descrNameAndClass isInstance
  simp only [KF.owner_class]
  repeat lk
  refine ⟨Code.quiet_builtin _ (by decide +kernel), ?_⟩
  refine codeAny_builtin KF.entry_class ?_
  unfold Builtin.«object.__class__»
  unfold shownTypeOf
  repeat lk
  exact h
theorem be_entry : entryFor table "BaseException.__getattribute__" = some Builtin.«object.__getattribute__» :=
  entryFor_alias (id' := "object.__getattribute__") (by kernel_rfl) (by first | rfl | decide +kernel) (by decide +kernel) (by kernel_rfl)
theorem be_kind : builtinKind "BaseException.__getattribute__" = some .slot := by decide +kernel
theorem be_split : splitId "BaseException.__getattribute__" = some ("BaseException", "__getattribute__") := by decide +kernel
theorem be_bind (self : Value) : bindSpecial (.builtin "BaseException.__getattribute__") self = pure (.builtin "BaseException.__getattribute__", [self]) := by
  have z1 : withoutEnding? "BaseException.__getattribute__" "#opaque" = none := by decide +kernel
  have z2 : withoutEnding? "BaseException.__getattribute__" "#data" = none := by decide +kernel
  simp only [bindSpecial, typeOf, builtinType, z1, z2, be_kind]
  rfl
theorem be_plain : plainId "BaseException.__getattribute__" = true := by decide +kernel
theorem be_args (a b : Value) : argsOk "BaseException.__getattribute__" ⟨[a, b], []⟩ := by
  unfold argsOk
  kernel_rfl
open PySem.W Builtin Builtin.ObjectAttr Builtin.Getset_descriptor in
theorem exc_check {nm : Value} {Q : Unit → Shared → Prop} (T : ExcT K C) (X : K.In s.heap) (p : ExcAt x C s.heap) (h : Q () s) : wpAny (model prog w) A (checkBuiltinCall "BaseException.__getattribute__" ⟨[.ref x, nm], []⟩) Q E s := by
  obtain ⟨hh, g, d, t, os⟩ := s
  have d0 := p.type (M := model prog w)
  have d1 : Looks (model prog w) hh (isInstance (.ref x) (.type "BaseException")) true := d0.andThen (looks_mroIn (M := model prog w) X T.mb)
  simp only [checkBuiltinCall, be_kind, be_split]
  refine wpAny_bind (d1.at ?_)
  simp only [Bool.not_true, Bool.false_eq_true, if_false]
  have ha := be_args (.ref x) nm
  cases hsig : Manifest.signature? "BaseException.__getattribute__" with
  | none => exact wpAny_pure h
  | some sig =>
    simp only [argsOk, hsig] at ha
    have h2 : Bind.checkArgs "BaseException.__getattribute__" sig ⟨[.ref x, nm], []⟩ = pure () := ha
    show wpAny _ _ (Bind.checkArgs "BaseException.__getattribute__" sig ⟨[.ref x, nm], []⟩) Q E _
    rw [h2]
    exact wpAny_pure h
open PySem.W Builtin Builtin.ObjectAttr Builtin.Getset_descriptor in
theorem exc_attr {tk : Tok} {Q : Fin → Shared → Prop} (T : ExcT K C) (X : K.In s.heap) (p : ExcAt x C s.heap) (h : Q (.done (.ret (.ref C))) s) :
    wpAny (model prog w) A (Builtin.«object.__getattribute__» ⟨[.ref x, .str "__class__" tk], []⟩) Q E s := by
  obtain ⟨hh, g, d, t, os⟩ := s
  have c0 := p.type (M := model prog w)
  have c2 := exc_find (x := x) T (M := model prog w) X
  unfold Builtin.«object.__getattribute__»
  refine wpAny_bind (wpAny_of_eq (a := (Value.ref x, [Value.str "__class__" tk])) rfl ?_)
  refine wpAny_bind (wpAny_of_eq (a := ("__class__" : Str)) rfl ?_)
  refine wpAny_bind (c0.at (wpAny_bind (c2.at ?_)))
  refine wpAny_bind (wpAny_holding (wpAny_call ?_))
  exact exc_get (s := ⟨hh, g, d, t, os⟩) T X p (wpAny_pure h)
open PySem.W Builtin Builtin.ObjectAttr Builtin.Getset_descriptor in
theorem exc_class {Q : Option Value → Shared → Prop} (T : ExcT K C) (X : K.In s.heap) (p : ExcAt x C s.heap) (h : Q (some (.ref C)) { s with toks := s.toks + 1 }) :
    wpAny (model prog w) A (getAttr? (.ref x) "__class__") Q E s := by
  obtain ⟨hh, g, d, t, os⟩ := s
  have c0 := p.type (M := model prog w)
  have c1 := looks_findIn (M := model prog w) X T.ga
  have c3 := looks_findIn (M := model prog w) X T.gh
  unfold getAttr? getAttrBy?
  unfold getAttrBy
  refine wpAny_bind (wpAny_mkText (wpAny_bind (wpAny_attempt ?_)))
  refine wpAny_holding (wpAny_bind (c0.at (wpAny_bind (c1.at ?_))))
  show wpAny _ _ (getAttrByItsOwn _ _ _ _ _ _) _ _ _
  unfold getAttrByItsOwn
  refine wpAny_bind (c3.at ?_)
  refine wpAny_bind (wpAny_attempt (wpAny_holding ?_))
  show wpAny _ _ (boundAndCalled _ _ _) _ _ _
  unfold boundAndCalled
  refine wpAny_bind (wpAny_of_eq (be_bind _) ?_)
  refine wpAny_call (codeAny_call_builtin be_plain be_entry (exc_check (s := ⟨hh, g, d, t + 1, os⟩) T X p (exc_attr (s := ⟨hh, g, d, t + 1, os⟩) T X p ?_)))
  show wpAny _ _ (handedOut (.ref C)) _ _ _
  rw [handedOut_of (show handedIn (.ref C) = true from rfl)]
  exact wpAny_pure (wpAny_pure h)
open PySem.W Builtin Builtin.ObjectAttr Builtin.Getset_descriptor in
theorem kitx_exc (T : ExcT K C) : KitX K (.ref x) (.ref C) (ExcAt x C) where
  ty := fun _ _ _ p => p.type
  it := fun _ _ X _ => by
    have z := T.cs
    unfold clsIn at z
    split at z
    · rename_i c' d' cd' sl' ho
      intro A' Q' E' s' k q
      unfold isType
      unfold loadHead
      exact wpAny_bind (wpAny_loadPart (k _ _ (X _ _ ho)) (wpAny_pure q))
    · cases z
  ne := fun h tp dd its n sl X htp => by
    have z := T.cs
    refine Bool.eq_false_iff.mpr fun q => ?_
    have e : C = tp := Value.ref.inj (beq_iff_eq.mp q)
    subst e
    unfold clsIn at z
    split at z
    · rename_i c' d' cd' sl' ho
      cases (X _ _ ho).symm.trans htp
    · cases z
  ca := fun X p k => exc_class T X p k
end
section
variable {X : Cx}
def rIsiX (K : PySem.W.Frag) : List V → Hp → VK → Prop := fun xs H Q => ∃ a C cV c b, xs = [.ref a, cV] ∧ ((∃ n, cV = .ty n ∧ c = .type n) ∨ (∃ d, cV = .ref d ∧ c = .ref d)) ∧ H a = some (excO a (.ref C)) ∧ ExcT K C ∧ PySem.W.kitOne K (.ref C) c = some b ∧ Q (.bl b) H
theorem call_isiX : CallR X (.builtin "isinstance") (rIsiX X.K) := by
  intro pins s σ H xs us Q I r h
  obtain ⟨a, C, cV, c, b, rfl, hc, ha, T, hk, q⟩ := h
  obtain ⟨u, u2, rfl, rx, rc⟩ := vals2 r
  have e : u2 = c := by
    rcases hc with ⟨n, e1, e2⟩ | ⟨d, e1, e2⟩
    · subst e1 e2; exact rc
    · subst e1 e2; exact rc
  subst e
  cases (show u = Value.ref a from rx)
  have p : ExcAt a C s.heap := by
    obtain ⟨⟨o, vs, q1, q2, q3, _⟩, _⟩ := (show ObjOk X.prog X.w H s.heap a (excO a (.ref C)) from I.hok a _ ha)
    exact ⟨o, vs, q1, q2, q3⟩
  exact PySem.W.kia_one (kitx_exc T) I.kIn p hk (fun z => nomatch z) fun tk => ⟨.bl b, H, I.tok tk, rfl, q⟩
end
section
variable {X : Cx} {x : Str} {pos : Pos} {n : String} {a : Addr}
theorem pe_tyB (hg : Gl X x) (hm : X.mg x = none) (hv : bootBuiltins x = some (.type n)) (hn : x ≠ "__name__" := by decide) (hd : (x == ("__debug__" : Str)) = false := by decide) : PE X (.Name x pos) (tC (.ty n)) := pe_bltn hg hm hv rfl hn hd
theorem pe_cls (hg : Gl X x) (hm : X.mg x = some (.ref a)) (hd : (x == ("__debug__" : Str)) = false := by decide) : PE X (.Name x pos) (tC (.ref a)) := pe_glob hg hm rfl hd
end
/-! ### rules whose reading names K: K by name -/
section
variable {X : Cx}
theorem ixLK (K : PySem.W.Frag) (h : X.K = K := by rfl) : IxR X (rIxL K) := by subst h; exact ix_list
theorem isiXK (K : PySem.W.Frag) (h : X.K = K := by rfl) : CallR X (.builtin "isinstance") (rIsiX K) := by subst h; exact call_isiX
theorem lenK (K : PySem.W.Frag) (h : X.K = K := by rfl) : CallR X (.builtin "len") (fun xs H Q => ∃ p ys, xs = [.ref p] ∧ (SqL K H p ys ∨ SqT K H p ys) ∧ Q (.int ys.length) H) := by subst h; exact call_len_seq
theorem inSK (K : PySem.W.Frag) (h : X.K = K := by rfl) : OpR X (compareOp .In) (rIn K false) := by subst h; exact op_in_seq
theorem inTK (K : PySem.W.Frag) (hu : X.A.in1.units < cLine) (h : X.K = K := by rfl) : OpR X (compareOp .In) (rInT K false) := by subst h; exact op_in_tups hu
theorem slLK (K : PySem.W.Frag) (h : X.K = K := by rfl) : SlR X (rSlL K) := by subst h; exact sl_list
theorem fldK (K : PySem.W.Frag) {e : Expr} {f : Str} {pos : Pos} {ta : TE} (he : PE X e ta) (hb : attributeBase e f X.env (eval e X.env) = eval e X.env := by rfl) (h : X.K = K := by rfl) : PE X (.Attribute e f pos) (tFld K ta f) := by subst h; exact pe_fld he hb
theorem piEK (K : PySem.W.Frag) {es : List Expr} {k : Nat} {tp p pos : Pos} {l : Expr} {ta : TA} (hg : Gl X "enumerate") (hm : X.mg "enumerate" = none) (ha : PA X [l] ta) (hs : starEach [l] X.env = [(false, eval l X.env)] := by rfl) (h : X.K = K := by rfl) :
    PI X (.Tuple es k tp) (.Call (.Name "enumerate" p) [l] [] pos) (iEnum K ta) := by subst h; exact pi_enum hg hm ha hs
end
/-! ### rows -/
end L2

/-! LAMP K: defs that an except suite may call too -/
namespace L2
open PySem PySem.Spec PyProof.Rows
structure RoomS (k : Nat) (A : Around) : Prop where
  dp : A.depth + 3 * k + 5 < recursionLimit
  un : A.units + 16 * k + 200 < cLine
theorem Room.suite {j k : Nat} {A : Around} (r : Room k A) (v : Option Value) (h : j ≤ k) : RoomS j (A.mark v) := ⟨by
  have := r.dp
  show A.depth + 3 * j + 5 < _
  omega, by
  have := r.un
  show A.units + 16 * j + 200 < _
  omega⟩
def cxS (P : Program) (w : World) (K : PySem.W.Frag) (mg : Str → Option Value) (base : Heap) (N : List Str) (qual : Str) (scope : Scope) (f : Addr) (cd : Value) (A : Around) (outer : List Env) (s : Shared) (H : Hp) (E : XK) : Cx :=
  { cxOf CX0 P w K mg base N qual scope f cd A outer s H E with calm := false, xe := fun _ _ => False }
structure FnOkS (P : Program) (w : World) (K : PySem.W.Frag) (mg : Str → Option Value) (base : Heap) (k : Nat) (f : Addr) (fd : FuncData) (ps : List Str) (sp : Sp) : Prop where
  len : ∀ vs H Q E, sp vs H Q E → vs.length = ps.length
  run : ∀ (A : Around) (outer : List Env) (s : Shared) (H : Hp) (args : Args) (us : List Value) (vs : List V) (Q : VK) (E : XK), RoomS k A → Env0 P w K mg base A outer s H → BindsTo s fd args (ps.zip us) → Vals vs us → sp vs H Q E →
    codeAny (model P w) A (.call (.ref f) args) (CR CX0 outer P w H s Q E) s
section
variable {P : Program} {w : World} {K : PySem.W.Frag} {mg : Str → Option Value} {base : Heap}
structure HasS (P : Program) (w : World) (K : PySem.W.Frag) (mg : Str → Option Value) (base : Heap) (k : Nat) (x : Str) (ps : List Str) (sp : Sp) : Prop where
  ex : ∃ f fd, FnOkS P w K mg base k f fd ps sp ∧ Binds K fd ps [] ∧ mg x = some (.ref f) ∧ PySem.W.keepIn K (.ref f) = true
end
section
variable {X : Cx} {k : Nat} {ps : List Str} {sp : Sp} {x : Str} {p pos : Pos} {e : Expr} {es : List Expr} {t : TA}
end
end L2

/-! LAMP P: the end of a list while an exception is handled -/
namespace L2
open PySem PySem.Spec PyProof.Rows
theorem entry_unch : entryFor table "proto.unchain" = some Builtin.«proto.unchain» := entryFor_of_fast (by kernel_rfl)
section
variable {prog : Program} {w : World} {A : Around} {E : Value → Shared → Prop} {s : Shared}
theorem unchain_ok {e v : Value} {ea : Addr} {Q : Value → Shared → Prop} (c : C2 ea s.heap) (h : Q .none s) : wpAny (model prog w) A (runValue (.builtin "proto.unchain" ⟨[e, .ref ea, v, .bool false], []⟩)) Q E s := by
  obtain ⟨o, ho, vs, hd, hv⟩ := c
  refine wpAny_runValue (codeAny_builtin entry_unch ?_)
  show wpAny _ _ (field (.ref ea) 2 >>= _) _ _ s
  refine wpAny_bind (wpAny_field ho hd hv ?_)
  show wpAny _ _ (if (Value.none == Value.none) = true then _ else _) _ _ s
  rw [if_pos (show (Value.none == Value.none) = true from rfl)]
  exact wpAny_pure h
theorem next_endH {it l ea : Addr} {i : Nat} {xs : Array Value} {Q : Option Value → Shared → Prop} (hh : A.handled = some (.ref ea)) (c : C2 ea s.heap) (hI : s.heap.IsListIter it l i) (hL : s.heap.IsList l xs) (hN : xs[i]? = none)
    (hQ : ∀ h', Heap.ExtBut it s.heap h' → Q none { s with heap := h' }) : wpAny (model prog w) A (pyNext (.ref it)) Q E s := by
  obtain ⟨ob, hob, hcb, hdb⟩ := id hI
  obtain ⟨oL, hoL, _, nL, hdL⟩ := hL
  unfold pyNext
  refine wpAny_bind (wpAny_attempt (wpAny_callSpecial?_slot (name := Str.ofString "__next__") hI.typeIs slot_listiter_next (wpAny_call_entry slot_listiter_next hI.typeIs entry_listiter_next ?_ (args_listiter_next _))))
  show wpAny _ _ (field (.ref it) 0 >>= _) _ _ s
  refine wpAny_bind (wpAny_field hob hdb (x := .ref l) rfl ?_)
  show wpAny _ _ (if (Value.ref l == Value.none) = true then _ else _) _ _ s
  rw [if_neg (show ¬ ((Value.ref l == Value.none) = true) from fun z => Bool.false_ne_true z)]
  show wpAny _ _ (field (.ref it) 1 >>= _) _ _ s
  refine wpAny_bind (wpAny_field hob hdb (x := .int i 0) rfl ?_)
  show wpAny _ _ (seqItems? (.ref l) >>= _) _ _ s
  refine wpAny_bind (wpAny_seqItems hoL hdL ?_)
  simp only [Int.toNat_natCast, hN]
  refine wpAny_bind (wpAny_rule (wpAny_bind (wpAny_setField hob hdb (by simp) ?_)))
  show wpAny _ _ (newExc (.type "StopIteration") [] >>= _) _ _ _
  refine wpAny_bind ?_
  simp only [newExc, newTuple]
  refine wpAny_bind (wpAny_newObj_type ?_ (by size_fits))
  refine wpAny_bind (m := firstArgMember _ _) (wpAny_of_eq (a := Value.none) (by first | rfl | (simp only [firstArgMember]; rfl)) ?_)
  refine wpAny_newObj_type ?_ (by size_fits)
  simp only [raiseNew]
  refine wpAny_bind (wpAny_handled ?_)
  rw [show A.in1.handled = some (.ref ea) from hh]
  have c2 : C2 ea (s.heap.update it (Obj.mapFields (·.setIfInBounds 0 Value.none))) := c.upd fun o p => p.set (by decide)
  have x2 : Heap.ExtBut it s.heap (s.heap.update it (Obj.mapFields (·.setIfInBounds 0 Value.none))) := (Heap.SameBut.update ..).extBut
  generalize s.heap.update it (Obj.mapFields (·.setIfInBounds 0 Value.none)) = h1 at c2 x2
  have c3 : C2 ea (h1.push { cls := .type "tuple", data := .seq #[] }) := c2.push
  have x3 : Heap.ExtBut it s.heap (h1.push { cls := .type "tuple", data := .seq #[] }) := x2.push _
  generalize h1.push { cls := .type "tuple", data := .seq #[] } = h2 at c3 x3
  have lt : ea < h2.objs.size := by
    obtain ⟨o, ho, _⟩ := c3
    exact Heap.lt_size ho
  dsimp only
  rw [if_pos (by simp; exact Nat.ne_of_lt lt)]
  refine wpAny_bind (wpAny_holding (unchain_ok c3.push ?_))
  have hg := Heap.get?_push_size h2 (o := { cls := Value.type "StopIteration", data := Data.fields (#[Value.ref h1.objs.size, Value.none, Value.none, Value.none, Value.bool false, Value.none] ++ ownMembersOf (Value.type "StopIteration") []) }) rfl
  refine wpAny_bind (show wpAny _ _ (setField (.ref h2.objs.size) 2 (.ref ea)) _ _ _ from wpAny_setField hg rfl (by rw [Array.size_append]; show 2 < 6 + _; omega) (wpAny_throw ?_))
  refine wpAny_bind (wpAny_isInstance (T := "StopIteration") (b := true) ⟨_, Heap.get?_update_self _ hg rfl, rfl⟩ isSubtype_stop ?_)
  refine wpAny_pure (hQ _ fun b o hb e => ?_)
  have e2 : h2.get? b = some o := x3 b o hb e
  have ne : h2.objs.size ≠ b := Nat.ne_of_gt (Heap.lt_size e2)
  exact (Heap.get?_update_other _ _ ne).trans (Heap.get?_push_of_some _ e2)
theorem walks_listH {ea : Addr} (hh : A.handled = some (.ref ea)) (I ax : Addr) (hne : ax ≠ I) (nea : ea ≠ I) (xs : Array Value) :
    Walks prog w A I [I, ax, ea] [I] xs.size (fun i v => xs[i]? = some v) (fun i h => (h.IsListIter I ax i ∧ h.IsList ax xs) ∧ C2 ea h) where
  sub := fun b hb => by
    have hb' : b = I := List.mem_singleton.mp hb
    rw [hb']
    exact List.mem_cons_self
  frame := fun _ h h' st hk => ⟨⟨st.1.1.at fun o e => hk I (by simp) o e, st.1.2.at fun o e => hk ax (by simp) o e⟩, by
    obtain ⟨o, ho, p⟩ := st.2
    exact ⟨o, hk ea (by simp) o ho, p⟩⟩
  item := fun i s Q E hi st hQ => by
    refine wpAny_pyNext_list_item st.1.1 st.1.2 (x := xs[i]) (by simp [hi]) fun h' hit' hs' => ?_
    have kp : ∀ b o, b ∉ [I] → s.heap.get? b = some o → h'.get? b = some o := fun b o hb e => hs'.extBut b o (fun z => hb (by simp [z])) e
    refine hQ _ h' s.toks (by simp [hi]) ⟨⟨hit', st.1.2.extBut hs'.extBut hne⟩, ?_⟩ kp
    obtain ⟨o, ho, p⟩ := st.2
    exact ⟨o, kp ea o (by simp [nea]) ho, p⟩
  done := fun s Q E st hQ => next_endH hh st.2 st.1.1 st.1.2 (by simp) fun h' he' => hQ h' s.toks fun b o hb e => he' b o (fun z => hb (by simp [z])) e
  self := fun _ _ _ _ st hQ => wpAny_pyIter_listiter st.1.1 hQ
end
end L2

/-! LAMP N: defs that an except suite calls, told what is handled; any of a list there -/
namespace L2
open PySem PySem.Spec PyProof.Rows
structure FnOkT (P : Program) (w : World) (K : PySem.W.Frag) (mg : Str → Option Value) (base : Heap) (k : Nat) (f : Addr) (fd : FuncData) (ps : List Str) (sp : Option Value → Sp) : Prop where
  len : ∀ hv vs H Q E, sp hv vs H Q E → vs.length = ps.length
  run : ∀ (A : Around) (outer : List Env) (s : Shared) (H : Hp) (args : Args) (us : List Value) (vs : List V) (Q : VK) (E : XK), RoomS k A → Env0 P w K mg base A outer s H → BindsTo s fd args (ps.zip us) → Vals vs us → sp A.handled vs H Q E →
    codeAny (model P w) A (.call (.ref f) args) (CR CX0 outer P w H s Q E) s
section
variable {P : Program} {w : World} {K : PySem.W.Frag} {mg : Str → Option Value} {base : Heap}
theorem Fun.okT {x qual : Str} {st : Stmt} {f : Addr} {fd : FuncData} {N ps : List Str} {k : Nat} {sp : Option Value → Sp} (F : Fun K x qual st f fd) (S : FnScope N ps (defScope st)) (len : ∀ hv vs H Q E, sp hv vs H Q E → vs.length = ps.length)
    (hbody : ∀ (cdv : Value) (A : Around) (outer : List Env) (s : Shared) (H : Hp) (vs : List V) (Q : VK) (E : XK), RoomS k (A.deeper (envOfC qual (defScope st) s.heap.objs.size f cdv)) → sp A.handled vs H Q E →
      ∃ t, PSs (cxS P w K mg base N qual (defScope st) f cdv A outer s H E) (defBody st) t ∧ t { nx := fun _ H' => Q .non H', rt := Q } (start N vs) H) : FnOkT P w K mg base (k + 1) f fd ps sp := by
  obtain ⟨oc, od, kV, doc, pm, an, cdv, ct, osl, rfl, lk, hcd⟩ := F.ex
  refine ⟨len, fun A outer s H args us vs Q E hr e0 hb r hsp => ?_⟩
  have hl := len _ _ _ _ _ hsp
  have KX : K.In s.heap := e0.mod.kin.keeps fun b o e => (e0.bs b o e).1
  have lim : s.heap.NoLimit := e0.mod.nolimit.keeps fun b o e => (e0.bs b o e).1
  have hkind : ∀ y ∈ ps.zip us, (defScope st).names.lookup y.1 = some .local ∨ ((defScope st).names.lookup y.1 = some .cell ∧ ((cellsFrom (s.heap.objs.size + 1) (defScope st).names []).lookup y.1).isSome = true) := fun ⟨n, v⟩ hy => by
    rcases S.par n (List.of_mem_zip hy).1 with q | q
    · exact .inl q
    · exact .inr ⟨q, PySem.W.cellsFrom_some _ _ _ (.inl q)⟩
  have hdep : A.depth < recursionLimit := by have := hr.dp; omega
  have hrd : RoomS k (A.deeper (envOfC qual (defScope st) s.heap.objs.size f cdv)) := ⟨by
    have := hr.dp
    show A.depth + 1 + 3 * k + 5 < _
    omega, by
    have := hr.un
    show A.units + 3 + 16 * k + 200 < _
    omega⟩
  refine codeAny_call_function hdep (KX _ _ lk) rfl S.co S.gen rfl (PySem.W.codeRec_of KX hcd) (hb _ _ _ _ ?_)
  refine wpAny_newFunctionEnv_cells S.kind hkind fun env he s1 x => ?_
  subst he
  refine ⟨lim.keeps x.toInCall.keep, codeAny_func ?_⟩
  obtain ⟨t, ht, hq⟩ := hbody cdv A outer s H vs Q E hrd hsp
  have e1 : Env0 P w K mg base { A with handled := none } outer s H := ⟨e0.frames, e0.mod, e0.bs, e0.bsz, e0.funs, e0.frf, e0.hok, e0.bare⟩
  have I0 : Inv (cxOf CX0 P w K mg base N qual (defScope st) f cdv { A with handled := none } outer s H E) [] (start N vs) H s1 := inv_start S rfl e1 hl r x
  have I : Inv (cxS P w K mg base N qual (defScope st) f cdv A outer s H E) [] (start N vs) H s1 :=
    ⟨⟨I0.ok.mod, I0.ok.kind, I0.ok.glob, I0.ok.blt, I0.ok.above, I0.ok.inj, I0.ok.has, I0.ok.cab, fun z => absurd (show false = true from z) Bool.false_ne_true, Around.frames_deeper e0.frames, I0.ok.stk, I0.ok.exf, I0.ok.bs, I0.ok.bsz, I0.ok.noex, I0.ok.exfs, I0.ok.funs, I0.ok.frf⟩,
      I0.os, I0.bare, I0.base, I0.loc, I0.cell, I0.free, I0.freeC, I0.pin, I0.hok, I0.len⟩
  refine wpAny_mono (ht [] s1 (start N vs) H _ I hq) (fun fl s' hs => ?_) fun e s' hs => False.elim hs
  cases fl with
  | ret u =>
    obtain ⟨v, σ', H', J, rv, q⟩ := hs
    exact ⟨v, H', J.os, J.bare, J.base, J.hok, rv, q⟩
  | next =>
    obtain ⟨σ', H', J, q⟩ := hs
    exact ⟨V.non, H', J.os, J.bare, J.base, J.hok, rfl, q⟩
  | brk =>
    obtain ⟨_, _, _, q⟩ := hs
    exact False.elim q
  | cont =>
    obtain ⟨_, _, _, q⟩ := hs
    exact False.elim q
structure HasT (P : Program) (w : World) (K : PySem.W.Frag) (mg : Str → Option Value) (base : Heap) (k : Nat) (x : Str) (ps : List Str) (sp : Option Value → Sp) : Prop where
  ex : ∃ f fd, FnOkT P w K mg base k f fd ps sp ∧ Binds K fd ps [] ∧ mg x = some (.ref f) ∧ PySem.W.keepIn K (.ref f) = true
theorem HasT.mk' {k : Nat} {f : Addr} {fd : FuncData} {ps : List Str} {sp : Option Value → Sp} {x : Str} (F : FnOkT P w K mg base k f fd ps sp) (b : Binds K fd ps []) (m : mg x = some (.ref f)) (kp : PySem.W.keepIn K (.ref f) = true) : HasT P w K mg base k x ps sp := ⟨f, fd, F, b, m, kp⟩
end
section
variable {X : Cx} {k : Nat} {ps : List Str} {sp : Option Value → Sp} {x : Str} {p pos : Pos} {e : Expr} {es : List Expr} {t : TA}
theorem pe_callHT (h : HasT X.prog X.w X.K X.mg X.base k x ps sp) (hr : RoomS k X.A) (hg : Gl X x) (ha : PA X (e :: es) t)
    (hdb : (x == ("__debug__" : Str)) = false := by decide) (he : starEach (e :: es) X.env = (false, eval e X.env) :: starEach es X.env := by rfl) (hpl : (backTo pos (starEach es X.env)).any (·.1) = false := by rfl) :
    PE X (.Call (.Name x p) (e :: es) [] pos) (tCallS (sp X.A.handled) [] (fun _ => E0) t) := by
  obtain ⟨f, fd, F, b, hm, hk⟩ := h.ex
  intro pins s σ H Q I h
  refine wpAny_Call_Name_kw (ld_glob I hg hm ?_ hdb)
  refine PySem.W.callWith_K (h₀ := X.base) I.ok.mod.kin hk (thn (ha pos pins s σ H _ I h) fun us s1 ⟨vs, H1, I1, r, q⟩ => ⟨I1.kIn, ?_⟩) he hpl
  have r2 : Vals (vs ++ []) (us ++ []) := r.append .nil
  have hl : (us ++ []).length = ps.length := by rw [← r2.length]; exact F.len _ _ _ _ _ q
  refine wpAny_call (codeAny_mono (F.run X.A X.stack s1 H1 ⟨us, []⟩ (us ++ []) (vs ++ []) Q E0 hr I1.env0 (b s1 us I1.kIn hl) r2 q) fun r s' hq => ?_)
  cases r with
  | error e => exact False.elim hq
  | ok fl => cases fl <;> first | exact I1.after hq | exact False.elim hq
end
/-! ### any of a list of bools, something handled -/
section
variable {X : Cx}
theorem walk_atH {pins : List (Addr × Obj)} {σ : St} {H : Hp} {s : Shared} {p ea : Addr} {bs : List Bool} {cls : Value} (hh : X.A.handled = some (.ref ea)) (I : Inv X pins σ H s) (hx : H ea = some (excO ea cls)) (hq : SqL X.K H p (bs.map V.bl)) {Q : Value → Shared → Prop} {f : Nat → (Nat → Bool) → Bool}
    (hQ : ∀ s', Inv X pins σ H s' → Q (.bool (f bs.length fun i => bs.getD i false)) s') :
    wpAny (model X.prog X.w) X.A.in1 (pyIter (.ref p)) (fun it s₂ => ∃ I fp wr n P St tr, it = .ref I ∧ Walks X.prog X.w X.A.in1 I fp wr n P St ∧ St 0 s₂.heap ∧ TruthOf X.prog X.w X.A.in1 P tr ∧
      ∀ h' tk, (∀ b o, b ∉ wr → s₂.heap.get? b = some o → h'.get? b = some o) → Q (.bool (f n tr)) { s₂ with heap := h', toks := tk }) X.xe s := by
  obtain ⟨its, e, pl⟩ := walk_bls I hq
  subst e
  have c : C2 ea s.heap := by
    obtain ⟨⟨o, vs, q1, _, q3, q4⟩, _⟩ := (show ObjOk X.prog X.w H s.heap ea (excO ea cls) from I.hok ea _ hx)
    exact ⟨o, q1, vs, q3, q4⟩
  have ne : ea ≠ s.heap.objs.size := by
    obtain ⟨o, ho, _⟩ := c
    exact Nat.ne_of_lt (Heap.lt_size ho)
  have hl := pl.isList
  have hlt : p < s.heap.objs.size := by obtain ⟨o, e, _⟩ := hl; exact Heap.lt_size e
  refine wpAny_pyIter_list hl ?_
  refine ⟨s.heap.objs.size, _, _, (bs.map Value.bool).toArray.size, _, _, fun i => bs.getD i false, rfl, walks_listH (A := X.A.in1) hh s.heap.objs.size p (Nat.ne_of_lt hlt) ne _, ⟨⟨⟨_, Heap.get?_push_size _ rfl, rfl, rfl⟩, hl.push _⟩, c.push⟩, fun i v s' Q' E' hP hq' => ?_, fun h' tk hk => ?_⟩
  · have hP' : (bs.map Value.bool).toArray[i]? = some v := hP
    simp only [List.getElem?_toArray, List.getElem?_map] at hP'
    cases q : bs[i]? with
    | none => rw [q] at hP'; cases hP'
    | some b =>
      rw [q] at hP'
      have e : Value.bool b = v := Option.some.inj hP'
      subst e
      have e2 : bs.getD i false = b := by rw [List.getD_eq_getElem?_getD, q]; rfl
      have hq2 : Q' (bs.getD i false) s' := hq'
      rw [e2] at hq2
      exact wpAny_truthy_bool hq2
  · have e : (bs.map Value.bool).toArray.size = bs.length := by simp
    rw [e]
    exact hQ _ (I.kept (h' := h') (t' := tk) fun b o q => hk b o (by
      intro z
      have z' : b = s.heap.objs.size := by simpa using z
      exact absurd (Heap.lt_size q) (by rw [z']; exact Nat.lt_irrefl _)) (Heap.get?_push_of_some _ q))
theorem anyHK (K : PySem.W.Frag) {ea : Addr} (hh : X.A.handled = some (.ref ea)) (h : X.K = K := by rfl) : CallR X (.builtin "any") (fun xs H Q => ∃ (p : Addr) (bs : List Bool) (cls : Value), xs = [.ref p] ∧ SqL K H p (bs.map V.bl) ∧ H ea = some (excO ea cls) ∧ Q (.bl (bs.any id)) H) := by
  subst h
  intro pins s σ H xs us Q I r h
  obtain ⟨p, bs, cls, rfl, hq, hx, q⟩ := h
  obtain ⟨u, rfl, rx⟩ := vals1 r
  cases rx
  exact call_any_walk (walk_atH (f := fun n tr => (List.range n).any tr) hh I hx hq fun s' I' => ⟨.bl _, H, I', rfl, by have e := (range_bls bs id).2; exact (show _ = _ from e) ▸ q⟩)
end
/-! ### try, the suite told what is caught -/
def tTryT (K : PySem.W.Frag) (cT : Value) (i : Nat) (tb : (St → XK) → TS) (ts : Addr → TS) : TS := fun D σ H => ∃ Hand : St → XK, tTry K cT i Hand (tb Hand) ts D σ H
theorem ps_tryT {X : Cx} {body suite : List Stmt} {b₀ : Stmt} {x n : Str} {np hpos pos : Pos} {i : Nat} {tb : (St → XK) → TS} {ts : Addr → TS} {cT : Value} (K : PySem.W.Frag) (hN : X.N.Nodup) (hi : X.N[i]? = some n) (hlo : X.env.scope.names.lookup n = some .local)
    (hst : X.stack = X.env :: X.outer) (hfr : X.env.frame = some X.env.locals) (hex : X.ex = []) (hg : Gl X x) (hm : X.mg x = some cT) (hb : ∀ Hand pins, PSs (X.tryC pins Hand) body (tb Hand)) (hs : ∀ ea, PSs (X.hand ea) (b₀ :: suite) (ts ea))
    (hd : (x == ("__debug__" : Str)) = false := by decide) (hK : X.K = K := by rfl) : PS X (.Try body [.ExceptHandler (some (.Name x np)) (some n) (b₀ :: suite) hpos] [] [] pos) (tTryT K cT i tb ts) := by
  subst hK
  intro pins s σ H D I h
  obtain ⟨Hand, h⟩ := h
  exact ps_try Hand hN hi hlo hst hfr hex hg hm (hb Hand) hs hd pins s σ H D I h
end L2

/-! LAMP J: xs == [], whatever the items -/
namespace L2
open PySem PySem.Spec PyProof.Rows
section
variable {X : Cx}
end
end L2

/-! LAMP U: xs != [], whatever the items; texts joined -/
namespace L2
open PySem PySem.Spec PyProof.Rows
section
variable {X : Cx}
theorem strs_of : ∀ {ys : List Str} {us : List Value}, Vals (ys.map V.str) us → StrsAre us ys
  | [], _, .nil => .nil
  | y :: ys, _, .cons r rs => by
    obtain ⟨t, rfl⟩ := r
    exact .cons y t (strs_of rs)
def rJoin (K : PySem.W.Frag) : V → List V → Hp → VK → Prop := fun x vs H Q => ∃ z p ys, x = .str z ∧ vs = [.ref p] ∧ SqL K H p (ys.map V.str) ∧ z.length ≤ 16 ∧ (ys.map (·.length)).sum + ys.length ≤ 1048576 ∧ Q (.str (Txt.join z ys)) H
theorem mt_join (K : PySem.W.Frag) (h : X.K = K := by rfl) : MtM X "str.join" (rJoin K) := by
  subst h
  intro pins s σ H x xs v us Q I rx r h
  obtain ⟨z, p, ys, rfl, rfl, hq, h1, h2, q⟩ := h
  obtain ⟨t, rfl⟩ := rx
  obtain ⟨u, rfl, ru⟩ := Vals.one r
  cases ru
  obtain ⟨its, r', pl, hz⟩ := I.list hq
  exact join_listW pl.isList (strs_of r') h1 h2 fun t' k => ⟨.str _, H, I.tok _, ⟨_, rfl⟩, q⟩
theorem pe_ifStr {c : Expr} {x y : Str} {j1 j2 : Nat} {p1 p2 pos : Pos} {t : TT} (hc : PT X c t) : PE X (.IfExp c (.Constant (.str x) j1 p1) (.Constant (.str y) j2 p2) pos) (fun σ H Q => t σ H fun b H1 => Q (.str (if b = true then x else y)) H1) := by
  intro pins s σ H Q I h
  refine pe_ifExp hc pe_str pe_str pins s σ H Q I ?_
  have e : (fun (b : Bool) (H1 : Hp) => Q (.str (if b = true then x else y)) H1) = fun b H1 => if b = true then tC (.str x) σ H1 Q else tC (.str y) σ H1 Q := by
    funext b H1
    cases b <;> rfl
  unfold tIf
  rw [← e]
  exact h
end
theorem comp_rangeG {n : Nat} {js : List Nat} {ti : TT} {te : TE} {σ : St} {Q : VK} {H1 : Hp} (p : Nat → Bool) (f : Nat → V) (hn : n ≤ 1000)
    (hti : ∀ (i : Nat) Hc (k : Bool → Hp → Prop), i < n → Same H1 Hc → (∀ Hd, Same Hc Hd → k (p i) Hd) → ti (some (.int (0 + i)) :: fr1 js σ) Hc k)
    (hte : ∀ (i : Nat) Hc (k : VK), i < n → p i = true → Same H1 Hc → (∀ Hd, Same Hc Hd → k (f i) Hd) → te (some (.int (0 + i)) :: fr1 js σ) Hc k)
    (hq : ∀ D H', H1 D = none → Same H1 H' → H' D = some (.lst (((List.range n).filter p).map f)) → Q (.ref D) H') : tC1 js ti te σ Q (Itr 0 n) H1 := by
  intro D hD
  refine ⟨fun i m ys H => m = n - i ∧ i ≤ n ∧ ys = ((List.range i).filter p).map f ∧ Same H1 H ∧ H D = some (.lst ys), ⟨n, by simp, Nat.zero_le _, rfl, Same.laid hD, upd_same⟩, ?_⟩
  rintro i m ys H ⟨rfl, hi, rfl, sm, hDH⟩
  refine ⟨hDH, ?_⟩
  by_cases hlt : i < n
  · refine .inr ⟨hlt, fun x H' y => ?_⟩
    obtain ⟨rfl, rfl⟩ := y
    refine hti i _ _ hlt sm fun Hd sd => ?_
    have hD2 := sd _ _ hDH
    cases hp : p i with
    | true =>
      refine iteT (hte i _ _ hlt hp (sm.trans sd) fun He se => ⟨se _ _ hD2, ?_, n - (i + 1), by omega, rfl, hlt, ?_, ?_, upd_same⟩)
      · have h1 := List.length_filter_le p (List.range i)
        rw [List.length_range] at h1
        rw [List.length_map]
        exact small1000 (by omega)
      · rw [List.range_succ, List.filter_append, List.map_append]
        simp [hp]
      · intro b o e
        rw [upd_ne (ne_of_none e hD)]
        exact se _ _ (sd _ _ (sm _ _ e))
    | false =>
      refine iteF ⟨n - (i + 1), by omega, rfl, hlt, ?_, sm.trans sd, hD2⟩
      rw [List.range_succ, List.filter_append, List.map_append]
      simp [hp]
  · have e : i = n := by omega
    subst e
    exact .inl ⟨Nat.le_refl _, hq D H hD sm hDH⟩
end L2

/-! LAMP Ub: texts split; for i, x in enumerate(xs) -/
namespace L2
open PySem PySem.Spec PyProof.Rows PySem.Builtin PySem.Builtin.Str
section
variable {prog : Program} {w : World} {A : Around} {E : Value → Shared → Prop} {s : Shared} {x y : Str} {t u : Tok} {Q : Value → Shared → Prop}
theorem split_at (hy : (y.length == 0) = false)
    (hq : ∀ (l : List (Str × Tok)) (k : Nat), l.map (·.1) = Txt.split x y → Q (.ref s.heap.objs.size) { s with toks := k, heap := s.heap.push { cls := .type "list", data := .seq (strValues l).toArray } })
    (hsz : x.length ≤ sizeLine) (hsz2 : (partsBetween x (occurrences x y 0 x.length (x.length + 1)) y.length).length ≤ sizeLine) :
    wpAny (model prog w) A (call (.builtin "str.split") [.str x t, .str y u]) Q E s := by
  cases h1 : (decide (x.length < y.length) || decide (strKind x < strKind y))
  · cases hf : (occurrences x y 0 x.length (x.length + 1)).isEmpty
    · refine call_meets F.slot_str_split (typeIs_str _ _ _) F.entry_str_split (F.args_str_split_2 _ _) (meets_str_split_sep x y t u h1 hy hf hsz hsz2) ?_
      show wants Q E _ { s with toks := _, heap := s.heap.push { cls := .type "list", data := .seq (strsFrom s.toks (partsBetween x (occurrences x y 0 x.length (x.length + 1)) y.length)).toArray } }
      rw [strsFrom_eq]
      exact hq (numbered s.toks _) _ ((numbered_texts _ _).trans ((if_neg (ne_true_of_eq_false h1)).trans (if_neg (ne_true_of_eq_false hf))).symm)
    · exact call_meets F.slot_str_split (typeIs_str _ _ _) F.entry_str_split (F.args_str_split_2 _ _) (meets_str_split_not_found x y t u h1 hy hf)
        (hq [(x, t)] s.toks ((if_neg (ne_true_of_eq_false h1)).trans (if_pos hf)).symm)
  · exact call_meets F.slot_str_split (typeIs_str _ _ _) F.entry_str_split (F.args_str_split_2 _ _) (meets_str_split_cannot_occur x y t u h1)
      (hq [(x, t)] s.toks (if_pos h1).symm)
end
theorem vals_strs : ∀ (l : List (Str × Tok)), Vals ((l.map (·.1)).map V.str) (strValues l)
  | [] => .nil
  | (y, t) :: l => .cons ⟨t, rfl⟩ (vals_strs l)
section
variable {X : Cx}
def rSplit : V → List V → Hp → VK → Prop := fun x vs H Q => ∃ z c, x = .str z ∧ vs = [.str ⟨#[c]⟩] ∧ z.length ≤ 100000 ∧ ∀ D, H D = none → Q (.ref D) (upd H D (.lst ((Txt.split z ⟨#[c]⟩).map V.str)))
theorem parts_le (x y : Str) : (partsBetween x (occurrences x y 0 x.length (x.length + 1)) y.length).length ≤ x.length + 2 := by
  unfold partsBetween
  have h := StrLaws.occ_length_le x y 0 x.length (x.length + 1)
  simp only [List.length_map, List.length_zip, List.length_cons, List.length_append, List.length_nil]
  omega
theorem split_len (x : Str) (c : Nat) : (Txt.split x ⟨#[c]⟩).length ≤ x.length + 2 := by
  unfold Txt.split
  split
  · simp
  · split
    · simp
    · exact parts_le x _
theorem mt_split : MtM X "str.split" rSplit := by
  intro pins s σ H x xs v us Q I rx r h
  obtain ⟨z, c, rfl, rfl, h1, q⟩ := h
  obtain ⟨t, rfl⟩ := rx
  obtain ⟨u, rfl, ru⟩ := Vals.one r
  obtain ⟨t2, rfl⟩ := ru
  have hp := parts_le z ⟨#[c]⟩
  refine split_at (by rfl) (fun l k e => ?_) (by rw [sizeLine_eq]; omega) (by rw [sizeLine_eq]; omega)
  have hl := split_len z c
  refine ⟨.ref s.heap.objs.size, _, I.laid (t' := k) (fun b o e => Heap.get?_push_of_some _ e) (Nat.le_refl _) (show ObjOk X.prog X.w _ _ _ (.lst ((Txt.split z ⟨#[c]⟩).map V.str)) from ⟨by rw [List.length_map, sizeLine_eq]; omega, strValues l, 0, by rw [← e]; exact vals_strs l, Heap.get?_push_size _ rfl⟩), rfl, q _ (I.hok.fresh (Nat.le_refl _))⟩
end
theorem for_enum {K : PySem.W.Frag} {a : Addr} {xs : List V} {g : TG} {tb : TS} {D : Ends} {σ : St} {H : Hp} (Pv : Nat → St → Hp → Prop) (h0 : Pv 0 σ H) (hl : ∀ i σ H, i ≤ xs.length → Pv i σ H → SqL K H a xs)
    (hs : ∀ (i : Nat) v t σ H, xs[i]? = some v → Pv i σ H → H t = none → g (.ref t) σ (upd H t (.tup [.int i, v])) fun σ2 H2 => tb { D with nx := Pv (i + 1), ct := Pv (i + 1), bk := D.nx } σ2 H2) (hd : ∀ σ H, Pv xs.length σ H → D.nx σ H) :
    ∃ W : Nat → Nat → St → Hp → Prop, (∃ m, W 0 m σ H) ∧ ∀ i m σ H, W i m σ H →
      ((Ite K a).stop i H ∧ D.nx σ H) ∨ ((Ite K a).go i H ∧ ∃ N : St → Hp → Prop, (∀ σ' H', N σ' H' → ∃ m', m' < m ∧ W (i + 1) m' σ' H') ∧ ∀ x H', (Ite K a).yld i H x H' → g x σ H' fun σ2 H2 => tb { D with nx := N, ct := N, bk := D.nx } σ2 H2) := by
  refine ⟨fun i m σ H => m = xs.length - i ∧ i ≤ xs.length ∧ Pv i σ H, ⟨xs.length, by simp, Nat.zero_le _, h0⟩, ?_⟩
  rintro i m σ H ⟨rfl, hi, p⟩
  have q := hl i σ H hi p
  by_cases hlt : i < xs.length
  · refine .inr ⟨⟨xs, xs[i], q, by simp [hlt]⟩, Pv (i + 1), fun σ' H' p' => ⟨xs.length - (i + 1), by omega, rfl, hlt, p'⟩, fun x H' y => ?_⟩
    obtain ⟨t, v, rfl, ht, rfl, hv⟩ := y
    exact hs i v t σ H (hv xs q) p ht
  · have e : i = xs.length := by omega
    subst e
    exact .inl ⟨⟨xs, q, Nat.le_refl _⟩, hd σ H p⟩
theorem join_inj (c : Nat) : ∀ {a b : List Str}, a ≠ [] → b ≠ [] → (∀ p ∈ a, c ∉ p.cps.toList) → (∀ p ∈ b, c ∉ p.cps.toList) → Str.join ⟨#[c]⟩ a = Str.join ⟨#[c]⟩ b → a = b
  | [], _, h, _, _, _, _ => absurd rfl h
  | _, [], _, h, _, _, _ => absurd rfl h
  | [x], [y], _, _, _, _, e => by rw [show x = y from e]
  | [x], y :: y2 :: ys, _, _, h1, _, e => by
    exfalso
    have e2 : x.cps.toList = y.cps.toList ++ [c] ++ (Str.join ⟨#[c]⟩ (y2 :: ys)).cps.toList := by
      have : x = y ++ ⟨#[c]⟩ ++ Str.join ⟨#[c]⟩ (y2 :: ys) := e
      rw [this]
      show (y.cps ++ #[c] ++ _).toList = _
      simp
    exact h1 x List.mem_cons_self (by rw [e2]; simp)
  | x :: x2 :: xs, [y], _, _, _, h2, e => by
    exfalso
    have e2 : y.cps.toList = x.cps.toList ++ [c] ++ (Str.join ⟨#[c]⟩ (x2 :: xs)).cps.toList := by
      have : x ++ ⟨#[c]⟩ ++ Str.join ⟨#[c]⟩ (x2 :: xs) = y := e
      rw [← this]
      show (x.cps ++ #[c] ++ _).toList = _
      simp
    exact h2 y List.mem_cons_self (by rw [e2]; simp)
  | x :: x2 :: xs, y :: y2 :: ys, _, _, h1, h2, e => by
    have e0 : x ++ ⟨#[c]⟩ ++ Str.join ⟨#[c]⟩ (x2 :: xs) = y ++ ⟨#[c]⟩ ++ Str.join ⟨#[c]⟩ (y2 :: ys) := e
    have e1 : x.cps.toList ++ c :: (Str.join ⟨#[c]⟩ (x2 :: xs)).cps.toList = y.cps.toList ++ c :: (Str.join ⟨#[c]⟩ (y2 :: ys)).cps.toList := by
      have := congrArg (fun s : Str => s.cps.toList) e0
      have l : ∀ a b : Str, (a ++ ⟨#[c]⟩ ++ b).cps.toList = a.cps.toList ++ c :: b.cps.toList := fun a b => by
        show (a.cps ++ #[c] ++ b.cps).toList = _
        simp
      simpa only [l] using this
    have cut : ∀ (p q r s : List Nat), c ∉ p → c ∉ q → p ++ c :: r = q ++ c :: s → p = q ∧ r = s := by
      intro p
      induction p with
      | nil =>
        intro q r s _ hq e
        cases q with
        | nil => exact ⟨rfl, by simpa using e⟩
        | cons b q =>
          have : c = b := by simpa using (List.cons.inj e).1
          exact absurd (by rw [this]; exact List.mem_cons_self) hq
      | cons a p ih =>
        intro q r s hp hq e
        cases q with
        | nil =>
          have : a = c := (List.cons.inj e).1
          exact absurd (by rw [this]; exact List.mem_cons_self) hp
        | cons b q =>
          obtain ⟨f1, f2⟩ := List.cons.inj e
          obtain ⟨g1, g2⟩ := ih q r s (fun z => hp (List.mem_cons_of_mem _ z)) (fun z => hq (List.mem_cons_of_mem _ z)) f2
          exact ⟨by rw [f1, g1], g2⟩
    obtain ⟨f1, f2⟩ := cut _ _ _ _ (h1 x List.mem_cons_self) (h2 y List.mem_cons_self) e1
    have ex : x = y := by
      cases x; cases y
      exact congrArg Str.mk (Array.toList_inj.mp f1)
    have er : Str.join ⟨#[c]⟩ (x2 :: xs) = Str.join ⟨#[c]⟩ (y2 :: ys) := by
      generalize Str.join ⟨#[c]⟩ (x2 :: xs) = p at f2 ⊢
      generalize Str.join ⟨#[c]⟩ (y2 :: ys) = q at f2 ⊢
      cases p; cases q
      exact congrArg Str.mk (Array.toList_inj.mp f2)
    rw [ex, join_inj c (by simp) (by simp) (fun p hp => h1 p (List.mem_cons_of_mem _ hp)) (fun p hp => h2 p (List.mem_cons_of_mem _ hp)) er]
theorem split_ne (x : Str) (c : Nat) : Txt.split x ⟨#[c]⟩ ≠ [] := by
  unfold Txt.split
  split
  · simp
  · split
    · simp
    · rw [StrLaws.partsBetween_eq]
      obtain ⟨p, r, e⟩ := StrLaws.partsFrom_ne x (⟨#[c]⟩ : Str).length 0 (occurrences x ⟨#[c]⟩ 0 x.length (x.length + 1))
      rw [e]
      simp
theorem split_join {c : Nat} {l : List Str} (hl : l ≠ []) (h : ∀ p ∈ l, c ∉ p.cps.toList) : Txt.split (Txt.join ⟨#[c]⟩ l) ⟨#[c]⟩ = l := by
  refine join_inj c (split_ne _ _) hl (StrLaws.split_free _ _) h ?_
  rw [StrLaws.join_split]
  exact StrLaws.glued_eq_join _ _
theorem ps_forE {P : Program} {w : World} {K : PySem.W.Frag} {mg : Str → Option Value} {base : Heap} {N : List Str} {qual : Str} {scope : Scope} {f : Addr} {cd : Value} {A : Around} {outer : List Env} {s : Shared} {H : Hp} {E : XK}
    {tg iter : Expr} {body : List Stmt} {wi : TI} {g : TG} {tb : TS} {pos : Pos}
    (hi : ∀ pins, PI (Cx.tryC (cxOf (CXE P w) P w K mg base N qual scope f cd A outer s H E) pins (fun _ => E)) tg iter wi) (hg : ∀ pins, PG (Cx.tryC (cxOf (CXE P w) P w K mg base N qual scope f cd A outer s H E) pins (fun _ => E)) tg g) (hb : ∀ pins, PSs (Cx.tryC (cxOf (CXE P w) P w K mg base N qual scope f cd A outer s H E) pins (fun _ => E)) body tb)
    (hs : ∀ x, foldedSetIterable iter (cxOf (CXE P w) P w K mg base N qual scope f cd A outer s H E).env x = pure x := by intro _; rfl) : PS (cxOf (CXE P w) P w K mg base N qual scope f cd A outer s H E) (.For tg iter body [] pos) (tFor wi g tb) :=
  ps_thru (fun _ => E) passEX fun pins => ps_for (passOwnT rfl rfl) rfl (hi pins) (hg pins) (hb pins) hs
theorem pg_tupK (K : PySem.W.Frag) {X : Cx} {es : List Expr} {k : Nat} {pos : Pos} {t : TGs} {n : Nat} (hc : X.calm = true) (h : PGs X es t)
    (hn : (assignEach es X.env).length = n := by rfl) (hst : (assignEach es X.env).findIdx? (·.1) = none := by rfl) (e : X.K = K := by rfl) : PG X (.Tuple es k pos) (gTup K n t) := by subst e; exact pg_tup hc h hn hst
theorem pe_bmK (K : PySem.W.Frag) {X : Cx} {T : String} {id : String} {name : Str} {r : V → List V → Hp → VK → Prop} {o e : Expr} {es : List Expr} {to : TE} {t : TA} {apos cpos : Pos} (pa : PlainAttrs T) (slot : Slot T name id) (hty : typeOf (.builtin id) = pure (.type "method_descriptor")) (hm : MtR X id r) (ho : PE X o to) (ha : PA X (e :: es) t)
    (hbase : attributeBase o name X.env (eval o X.env) = eval o X.env := by rfl)
    (hfew : ((backTo cpos (starEach (e :: es) X.env)).all (fun x => !x.1) && (backToKw cpos (keywordEach [] X.env)).all (fun x => x.1.isSome)
      && decide ((e :: es).length + ([] : List Keyword).length + (if ([] : List Keyword).isEmpty then 0 else 1) < 30)) = true := by rfl)
    (hline : (apos.endLine == cpos.line) = true := by rfl) (hs : starEach (e :: es) X.env = (false, eval e X.env) :: starEach es X.env := by rfl) (hplain : (backTo cpos (starEach es X.env)).any (·.1) = false := by rfl) (hK : X.K = K := by rfl) :
    PE X (.Call (.Attribute o name apos) (e :: es) [] cpos) (tBM K T r to t) := by subst hK; exact pe_bm pa slot hty hm ho ha hbase hfew hline hs hplain
end L2

/-! LAMP Uc: texts cut, found in, made great -/
namespace L2
open PySem PySem.Spec PyProof.Rows PySem.Builtin PySem.Builtin.Str
section
variable {X : Cx}
def rSlS : V → Option Int → Option Int → Hp → VK → Prop := fun x lo hi H Q => ∃ z : Str, x = .str z ∧ z.length ≤ 100000 ∧ Q (.str (Txt.slice z lo hi)) H
theorem sl_str : SlR X rSlS := by
  intro pins s σ H x v vl vu lo hi sl Q I rx hs pl pu h
  obtain ⟨z, rfl, hz, q⟩ := h
  obtain ⟨t, rfl⟩ := rx
  have big : (Txt.slice z lo hi).length ≤ sizeLine := Nat.le_trans (Txt.slice_le z _ _) (by rw [sizeLine_eq]; omega)
  obtain ⟨o, ho, hc, hd⟩ := hs
  refine ⟨"str", _, F.slot_str_getitem.lookup, typeIs_str _ _ _, ?_⟩
  have key : ∀ (l u : Option (Int × Tok)), vl = partValue l → vu = partValue u → lo = l.map (·.1) → hi = u.map (·.1) → wpAny (model X.prog X.w) X.A (getItem (.str z t) (.ref sl)) (EP X pins σ Q) X.xe s := by
    rintro l u rfl rfl rfl rfl
    exact wpAny_getItem_str_slice (l := l) (u := u) (st := none) ⟨o, ho, hc, hd⟩ rfl (post_val_or_str ⟨big, fun t' k => ⟨.str _, H, I.tok _, ⟨_, rfl⟩, q⟩⟩)
  cases pl with
  | none =>
    cases pu with
    | none => exact key none none rfl rfl rfl rfl
    | int j tj => exact key none (some (j, tj)) rfl rfl rfl rfl
  | int i ti =>
    cases pu with
    | none => exact key (some (i, ti)) none rfl rfl rfl rfl
    | int j tj => exact key (some (i, ti)) (some (j, tj)) rfl rfl rfl rfl
def rUpper : V → List V → Hp → VK → Prop := fun x vs H Q => ∃ z : Str, x = .str z ∧ vs = [] ∧ z.length ≤ 100000 ∧ Q (.str (Txt.upper z)) H
theorem mt_upper : MtM X "str.upper" rUpper := by
  intro pins s σ H x xs v us Q I rx r h
  obtain ⟨z, rfl, rfl, h1, q⟩ := h
  obtain ⟨t, rfl⟩ := rx
  cases r
  exact SCL.upper (by omega) fun _ => ⟨.str _, H, I.tok _, ⟨_, rfl⟩, q⟩
def rFind : V → List V → Hp → VK → Prop := fun x vs H Q => ∃ z y : Str, x = .str z ∧ vs = [.str y] ∧ Q (.int (Txt.find z y)) H
theorem mt_find : MtM X "str.find" rFind := by
  intro pins s σ H x xs v us Q I rx r h
  obtain ⟨z, y, rfl, rfl, q⟩ := h
  obtain ⟨t, rfl⟩ := rx
  obtain ⟨u, rfl, ru⟩ := Vals.one r
  obtain ⟨t2, rfl⟩ := ru
  exact SC.find ⟨.int _, H, I.tok _, ⟨_, rfl⟩, q⟩
theorem op_in_strS : OpR X (compareOp .In) (fun x y H Q => ∃ i j, x = .str i ∧ y = .str j ∧ Q (.bl (Txt.contains j i)) H) := by
  intro pins s σ H x y v u Q I rx ry h
  obtain ⟨i, j, rfl, rfl, q⟩ := h
  obtain ⟨t1, rfl⟩ := rx
  obtain ⟨t2, rfl⟩ := ry
  exact P.in_str ⟨.bl _, H, I, rfl, q⟩
end
/-! ### what these texts are -/
theorem mem_slice {x : Str} {l u : Option Int} {c : Nat} (h : c ∈ (Txt.slice x l u).cps.toList) : c ∈ x.cps.toList := by
  unfold Txt.slice at h
  split at h
  · exact h
  · have h : c ∈ ((strSliceIndices l u 1 x.length).filterMap (x.cps[·]?)) := h
    obtain ⟨i, _, e⟩ := List.mem_filterMap.mp h
    have e := Array.getElem?_eq_some_iff.mp e
    rw [← e.2]
    exact Array.getElem_mem_toList ..
theorem slice_from {x : Str} {i : Nat} (h : i ≤ x.length) : (Txt.slice x (some (i : Int)) none).cps.toList = x.cps.toList.drop i := by
  have e : Txt.slice x (some (i : Int)) none = _ := StrLaws.sliceText_from (x := x) (i := (i : Int)) ⟨by omega, by show (i : Int) ≤ (x.cps.toList.length : Nat); have : x.cps.toList.length = x.length := rfl; omega⟩
  rw [e]
  show ((x.cps.toList.drop i).take ((x.cps.toList.length : Int) - i).toNat) = _
  apply List.take_of_length_le
  rw [List.length_drop]
  omega
theorem slice_to {x : Str} {j : Nat} (h : j ≤ x.length) : (Txt.slice x none (some (j : Int))).cps.toList = x.cps.toList.take j := by
  have e : Txt.slice x none (some (j : Int)) = _ := StrLaws.sliceText_to (x := x) (j := (j : Int)) ⟨by omega, by show (j : Int) ≤ (x.cps.toList.length : Nat); have : x.cps.toList.length = x.length := rfl; omega⟩
  rw [e]
  show ((x.cps.toList.drop 0).take ((j : Int) - 0).toNat) = _
  rw [List.drop_zero, show ((j : Int) - 0).toNat = j by omega]
theorem find_at {x : Str} {c : Nat} (h : Txt.contains x ⟨#[c]⟩ = true) : ∃ i : Nat, Txt.find x ⟨#[c]⟩ = (i : Int) ∧ i < x.length ∧ x.cps.toList[i]? = some c := by
  rcases find_spec x ⟨#[c]⟩ with e | ⟨i, e, hi, hs⟩
  · exfalso
    unfold Txt.contains at h
    unfold Txt.find at e
    cases ho : occurrences x ⟨#[c]⟩ 0 x.length 1 with
    | nil =>
      rw [ho] at h
      cases h
    | cons a l =>
      rw [ho] at e
      have e : (a : Int) = -1 := e
      omega
  · have hl : i < x.length := hi
    refine ⟨i, e, hl, ?_⟩
    have h2 : x.cps.extract i (i + 1) = #[c] := congrArg Str.cps hs
    have h3 := congrArg (fun a : Array Nat => a[0]?) h2
    have h4 : (x.cps.extract i (i + 1))[0]? = some c := h3
    rw [Array.getElem?_extract] at h4
    have hl' : i < x.cps.size := hl
    rw [if_pos (by omega)] at h4
    rw [Array.getElem?_toList]
    exact h4
theorem mem_upper {x : Str} {c : Nat} : c ∈ (Txt.upper x).cps.toList ↔ ∃ d ∈ x.cps.toList, c ∈ Unicode.upperOf d := by
  show c ∈ ((x.cps.mapIdx fun _ d => (Unicode.upperOf d).toArray).flatten).toList ↔ _
  rw [Array.mem_toList_iff, Array.mem_flatten]
  constructor
  · rintro ⟨a, ha, hc⟩
    obtain ⟨i, hi, e⟩ := Array.mem_mapIdx.mp ha
    refine ⟨x.cps[i], by simp, ?_⟩
    rw [← e] at hc
    simpa using hc
  · rintro ⟨d, hd, hc⟩
    obtain ⟨i, hi, e⟩ := List.getElem_of_mem hd
    refine ⟨(Unicode.upperOf d).toArray, Array.mem_mapIdx.mpr ⟨i, by simpa using hi, ?_⟩, by simpa using hc⟩
    rw [← e]
    simp
end L2

/-! LAMP M: lights, presses, plain mathematics -/
namespace Lamp
def mat (ties : List (Nat × Nat)) (shy : Nat → Bool) (i j : Nat) : Bool := if i = j then !shy i else ties.contains (i, j) || ties.contains (j, i)
def put2 (M : Nat → Nat → Bool) (a b : Nat) (v : Bool) (i j : Nat) : Bool := if (i = a ∧ j = b) ∨ (i = b ∧ j = a) then v else M i j
def putD (M : Nat → Nat → Bool) (a : Nat) (v : Bool) (i j : Nat) : Bool := if i = a ∧ j = a then v else M i j
end Lamp

/-! ## the yard's defs -/
namespace Lp
open PySem L2 Lamp
def top (i : Nat) : Stmt := PySem.Challenge.pw_lampyard_k17_unread.main.body.getD i (.Pass ⟨0, 0, 0, 0⟩)
abbrev s_check_lamp : Stmt := top 14
abbrev s_check_pair : Stmt := top 15
abbrev s_untied_rows : Stmt := top 16
abbrev s_init : Stmt := inClass (top 17) 0
abbrev s_tie : Stmt := inClass (top 17) 1
abbrev s_untie : Stmt := inClass (top 17) 2
abbrev s_put_tie : Stmt := inClass (top 17) 3
abbrev s_is_tied : Stmt := inClass (top 17) 4
abbrev s_set_shy : Stmt := inClass (top 17) 5
abbrev s_is_shy : Stmt := inClass (top 17) 6
abbrev s_turns : Stmt := inClass (top 17) 7
theorem filt_t {α : Type} (l : List α) : l.filter (fun _ => true) = l := List.filter_eq_self.mpr fun _ _ => rfl
def rowL (n : Nat) (f : Nat → Bool) : List Bool := (List.range n).map f
def rowV (n : Nat) (f : Nat → Bool) : List V := (rowL n f).map V.bl
def idM (i j : Nat) : Bool := decide (j = i)
theorem mr : ¬ (("many" : Str) = "rows") := by decide +kernel
def yf (n : Int) (r : Addr) : List (Str × V) := putF "rows" (.ref r) (putF "many" (.int n) [])
theorem yf_many (n : Int) (r : Addr) : (yf n r).lookup ("many" : Str) = some (.int n) := by
  unfold yf
  rw [lookup_putF, if_neg mr, lookup_putF, if_pos rfl]
theorem yf_rows (n : Int) (r : Addr) : (yf n r).lookup ("rows" : Str) = some (.ref r) := by
  unfold yf
  rw [lookup_putF, if_pos rfl]
theorem yf_no (n : Int) (r : Addr) {m : Str} (h1 : ¬ m = "rows") (h2 : ¬ m = "many") : (yf n r).lookup m = none := by
  unfold yf
  rw [lookup_putF, if_neg h1, lookup_putF, if_neg h2]
  all_goals rfl
theorem nodup_ix' {α : Type} {N : List α} (hN : N.Nodup) {i j : Nat} {x : α} (a : N[i]? = some x) (b : N[j]? = some x) : i = j := by
  obtain ⟨h1, e1⟩ := List.getElem?_eq_some_iff.mp a
  obtain ⟨h2, e2⟩ := List.getElem?_eq_some_iff.mp b
  exact (List.getElem_inj hN).mp (e1.trans e2.symm)
structure YardAt (C : Addr) (H : Hp) (p dx r : Addr) (qs : List Addr) (n : Nat) (M : Nat → Nat → Bool) : Prop where
  ob : H p = some (.ins C dx (yf n r))
  rw : H r = some (.lst (qs.map V.ref))
  ln : qs.length = n
  nd : qs.Nodup
  at_ : ∀ (i : Nat) q, qs[i]? = some q → H q = some (.lst (rowV n (M i)))
theorem YardAt.same {C : Addr} {H H' : Hp} {p dx r : Addr} {qs : List Addr} {n : Nat} {M : Nat → Nat → Bool} (Y : YardAt C H p dx r qs n M) (s : Same H H') : YardAt C H' p dx r qs n M :=
  ⟨s _ _ Y.ob, s _ _ Y.rw, Y.ln, Y.nd, fun i q e => s _ _ (Y.at_ i q e)⟩
theorem rowV_len (n : Nat) (f : Nat → Bool) : (rowV n f).length = n := by simp [rowV, rowL]
theorem rowV_at {n : Nat} (f : Nat → Bool) {j : Nat} (h : j < n) : (rowV n f)[j]? = some (.bl (f j)) := by simp [rowV, rowL, h]
theorem rowV_set {n : Nat} (f : Nat → Bool) (j : Nat) (v : Bool) : (rowV n f).set j (.bl v) = rowV n (fun k => if k = j then v else f k) := by
  apply List.ext_getElem?
  intro i
  by_cases hi : i < n
  · rw [rowV_at _ hi]
    by_cases hj : i = j
    · subst hj
      rw [List.getElem?_set_self (by rw [rowV_len]; exact hi), if_pos rfl]
    · rw [List.getElem?_set_ne (Ne.symm hj), rowV_at _ hi, if_neg hj]
  · rw [List.getElem?_eq_none (by rw [List.length_set, rowV_len]; omega), List.getElem?_eq_none (by rw [rowV_len]; omega)]
theorem rowV_congr {n : Nat} {f g : Nat → Bool} (h : ∀ j, j < n → f j = g j) : rowV n f = rowV n g := by
  unfold rowV rowL
  rw [List.map_map, List.map_map]
  apply List.map_congr_left
  intro j hj
  rw [Function.comp, Function.comp, h j (List.mem_range.mp hj)]
theorem atI_of {α : Type} {xs : List α} {a : Int} {v : α} (h0 : 0 ≤ a) (h : xs[a.toNat]? = some v) : atI xs a = some v := by
  have e : ((a.toNat : Nat) : Int) = a := by omega
  rw [← e]
  exact atI_nat h
theorem ixN_of {n : Nat} {a : Int} (h0 : 0 ≤ a) (h : a < n) : ixN n a = some a.toNat := by
  unfold ixN
  rw [if_pos h0, if_pos h]
theorem YardAt.row {C : Addr} {H : Hp} {p dx r : Addr} {qs : List Addr} {n : Nat} {M : Nat → Nat → Bool} (Y : YardAt C H p dx r qs n M) {a : Int} (h0 : 0 ≤ a) (h1 : a < n) :
    ∃ q, qs[a.toNat]? = some q ∧ atI (qs.map V.ref) a = some (.ref q) ∧ H q = some (.lst (rowV n (M a.toNat))) := by
  have hl : a.toNat < qs.length := by rw [Y.ln]; omega
  refine ⟨qs[a.toNat], by simp [hl], atI_of h0 (by simp [hl]), Y.at_ _ _ (by simp [hl])⟩
theorem YardAt.apart {C : Addr} {H : Hp} {p dx r : Addr} {qs : List Addr} {n : Nat} {M : Nat → Nat → Bool} (Y : YardAt C H p dx r qs n M) (hn : 0 < n) : p ∉ qs ∧ r ∉ qs ∧ p ≠ r := by
  refine ⟨fun z => ?_, fun z => ?_, ne_of Y.ob Y.rw (by intro z; cases z)⟩
  · obtain ⟨j, hj⟩ := List.getElem?_of_mem z
    have h := Y.at_ j p hj
    rw [Y.ob] at h
    cases h
  · obtain ⟨j, hj⟩ := List.getElem?_of_mem z
    have h := Y.at_ j r hj
    rw [Y.rw] at h
    have h' : qs.map V.ref = rowV n (M j) := by injection h with h; injection h
    have e := congrArg (fun l => l[0]?) h'
    have hl : 0 < qs.length := by rw [Y.ln]; exact hn
    simp [rowV_at _ hn, hl] at e
theorem YardAt.put {C : Addr} {H : Hp} {p dx r : Addr} {qs : List Addr} {n : Nat} {M : Nat → Nat → Bool} (Y : YardAt C H p dx r qs n M) {a b : Nat} (ha : a < n) (v : Bool) {q : Addr} (hq : qs[a]? = some q) :
    YardAt C (upd H q (.lst ((rowV n (M a)).set b (.bl v)))) p dx r qs n (fun i j => if i = a ∧ j = b then v else M i j) := by
  obtain ⟨h1, h2, _⟩ := Y.apart (by omega)
  have m := List.mem_of_getElem? hq
  have np : p ≠ q := fun z => h1 (z ▸ m)
  have nr : r ≠ q := fun z => h2 (z ▸ m)
  refine ⟨by rw [upd_ne np]; exact Y.ob, by rw [upd_ne nr]; exact Y.rw, Y.ln, Y.nd, fun i q' e => ?_⟩
  by_cases hi : i = a
  · subst hi
    rw [hq] at e
    cases e
    rw [upd_same, rowV_set]
    congr 2
    apply rowV_congr
    intro j _
    simp
  · have hne : q' ≠ q := fun z => hi (nodup_ix' Y.nd e (z ▸ hq))
    rw [upd_ne hne, Y.at_ i q' e]
    congr 2
    apply rowV_congr
    intro j _
    simp [hi]
structure YT (K : PySem.W.Frag) (mg : Str → Option Value) (C NL AL NY TD UT : Addr) : Prop where
  cl : Cls K C
  nM : NoAttr K C "many"
  nR : NoAttr K C "rows"
  mgC : mg "Yard" = some (.ref C)
  nl : mg "NoLamp" = some (.ref NL)
  xl : PySem.W.excIn K NL bmV "ValueError.__new__" = true
  al : mg "Alone" = some (.ref AL)
  xa : PySem.W.excIn K AL bmV "ValueError.__new__" = true
  ny : mg "NoYard" = some (.ref NY)
  xy : PySem.W.excIn K NY bmV "ValueError.__new__" = true
  td : mg "Tied" = some (.ref TD)
  xt : PySem.W.excIn K TD bmV "ValueError.__new__" = true
  rng : mg "range" = none
  most : ∃ t, mg "MOST_LAMPS" = some (.int 24 t)
section
variable {P : Program} {w : World} {K : PySem.W.Frag} {mg : Str → Option Value} {base : Heap} {C NL AL NY TD UT : Addr}
/-! ### check_lamp -/
def spCheck (NL : Addr) : Sp := fun vs H Q E => ∃ l m : Int, vs = [.int l, .int m] ∧ (0 ≤ l ∧ l < m → Q .non H) ∧ (¬ (0 ≤ l ∧ l < m) → E (.ref NL) none H)
theorem sc_check_lamp : FnScope ["lamp", "many"] ["lamp", "many"] (defScope s_check_lamp) := ⟨rfl, rfl, rfl, by decide +kernel, rfl, by decide +kernel, by decide +kernel⟩
theorem ok_check_lamp {f : Addr} {fd : FuncData} (F : Fun K "check_lamp" "check_lamp" s_check_lamp f fd) (T : YT K mg C NL AL NY TD UT) : FnOk P w K mg base (CXE P w) 1 f fd ["lamp", "many"] (spCheck NL) := by
  refine F.okE sc_check_lamp (fun vs H Q E h => ?_) (fun cdv A outer s H vs Q E hr h => ?_)
  · obtain ⟨l, m, rfl, _⟩ := h
    rfl
  · obtain ⟨l, m, rfl, h1, h2⟩ := h
    refine ⟨_, pss_one (ps_if (PW.pt (pw_or (pt_cmpR op_lt (pv 0) pe_int (nomark _)) (pw_or1 (pt_cmpR op_ge (pv 0) (pv 1) (nomark _)))))
      (pss_one (ps_raise (R := fun _ H => E (.ref NL) none H) rfl rfl T.nl T.xl fun pins σ H s h1 e args I hm hR => raiseE I hm hR)) pss_nil), ?_⟩
    refine ⟨_, rfl, _, _, rfl, rfl, _, rfl, ?_⟩
    refine ite2 (fun c => iteT ?_) (fun c => ?_)
    · have c' : l < 0 := of_decide_eq_true c
      exact h2 (by omega)
    · have c' : ¬ l < 0 := fun z => c (decide_eq_true z)
      refine ⟨_, rfl, _, rfl, _, _, rfl, rfl, _, rfl, ?_⟩
      refine ite2 (fun d => ?_) (fun d => ?_)
      · have d' : m ≤ l := of_decide_eq_true d
        exact h2 (by omega)
      · have d' : ¬ m ≤ l := fun z => d (decide_eq_true z)
        exact h1 (by omega)
/-! ### check_pair -/
def spPair (NL AL : Addr) : Sp := fun vs H Q E => ∃ a b m : Int, vs = [.int a, .int b, .int m] ∧ ((0 ≤ a ∧ a < m) ∧ (0 ≤ b ∧ b < m) ∧ a ≠ b → Q .non H) ∧ (¬ ((0 ≤ a ∧ a < m) ∧ (0 ≤ b ∧ b < m)) → E (.ref NL) none H) ∧
  ((0 ≤ a ∧ a < m) ∧ (0 ≤ b ∧ b < m) ∧ a = b → E (.ref AL) none H)
theorem sc_check_pair : FnScope ["one", "other", "many"] ["one", "other", "many"] (defScope s_check_pair) := ⟨rfl, rfl, rfl, by decide +kernel, rfl, by decide +kernel, by decide +kernel⟩
theorem ok_check_pair {f f1 : Addr} {fd fd1 : FuncData} (F : Fun K "check_pair" "check_pair" s_check_pair f fd) (T : YT K mg C NL AL NY TD UT) (G : FnOk P w K mg base (CXE P w) 1 f1 fd1 ["lamp", "many"] (spCheck NL)) (b1 : Binds K fd1 ["lamp", "many"] [])
    (m1 : mg "check_lamp" = some (.ref f1)) (k1 : PySem.W.keepIn K (.ref f1) = true) : FnOk P w K mg base (CXE P w) 2 f fd ["one", "other", "many"] (spPair NL AL) := by
  refine F.okE sc_check_pair (fun vs H Q E h => ?_) (fun cdv A outer s H vs Q E hr h => ?_)
  · obtain ⟨a, b, m, rfl, _⟩ := h
    rfl
  · obtain ⟨a, b, m, rfl, h1, h2, h3⟩ := h
    refine ⟨_, pss_cons (ps_expr (pe_callS G hr rfl m1 k1 b1 .nil passE.s (pa_cons (pv 0) (pa_cons (pv 2) pa_nil))))
      (pss_cons (ps_expr (pe_callS G hr rfl m1 k1 b1 .nil passE.s (pa_cons (pv 1) (pa_cons (pv 2) pa_nil))))
      (pss_one (ps_if (pt_cmpR op_eq (pv 0) (pv 1) (nomark _)) (pss_one (ps_raise (R := fun _ H => E (.ref AL) none H) rfl rfl T.al T.xa fun pins σ H s h1 e args I hm hR => raiseE I hm hR)) pss_nil))), ?_⟩
    refine ⟨_, rfl, _, rfl, a, m, rfl, fun c1 => ?_, fun c1 => h2 (fun z => c1 z.1)⟩
    refine ⟨_, rfl, _, rfl, b, m, rfl, fun c2 => ?_, fun c2 => h2 (fun z => c2 z.2)⟩
    refine ⟨_, rfl, _, rfl, rfl, _, rfl, ?_⟩
    refine ite2 (fun d => ?_) (fun d => ?_)
    · have d' : V.int a = V.int b := of_decide_eq_true d
      exact h3 ⟨c1, c2, V.int.inj d'⟩
    · exact h1 ⟨c1, c2, fun z => d (decide_eq_true (congrArg V.int z))⟩
/-! ### untied_rows -/
def spRows : Sp := fun vs H Q _ => ∃ n : Nat, vs = [.int n] ∧ n ≤ 24 ∧ ∀ (r : Addr) (qs : List Addr) (H' : Hp), Same H H' → H r = none → (∀ q ∈ qs, H q = none) → qs.length = n → qs.Nodup → r ∉ qs → H' r = some (.lst (qs.map V.ref)) →
  (∀ (i : Nat) q, qs[i]? = some q → H' q = some (.lst (rowV n (idM i)))) → Q (.ref r) H'
theorem sc_untied_rows : FnScope ["many", "rows", "lamp"] ["many"] (defScope s_untied_rows) := ⟨rfl, rfl, rfl, by decide +kernel, rfl, by decide +kernel, by decide +kernel⟩
theorem ok_untied_rows {f : Addr} {fd : FuncData} (F : Fun K "untied_rows" "untied_rows" s_untied_rows f fd) (T : YT K mg C NL AL NY TD UT) : FnOk P w K mg base CX0 1 f fd ["many"] spRows := by
  refine F.ok sc_untied_rows (fun vs H Q E h => ?_) (fun cdv A outer s H vs Q E hr h => ?_)
  · obtain ⟨n, rfl, _⟩ := h
    rfl
  · obtain ⟨n, rfl, hn, k⟩ := h
    refine ⟨_, pss_cons (ps_set (i := 1) sc_untied_rows.nd rfl (Or.inl rfl) (pe_lst pa_nil))
      (pss_cons (ps_for PassesOwn.never rfl (pi_range1 rfl T.rng (pa_cons (pv 0) pa_nil)) (pg_name (i := 2) sc_untied_rows.nd rfl (Or.inr rfl))
        (pss_one (ps_expr (pe_bm PySem.F.plainAttrs_list PySem.F.slot_list_append PySem.F.type_list_append mt_append (pv 1) (pa_cons
          (pe_compN (js := [2]) rfl (by kernel_rfl) (pi_range1 rfl T.rng (pa_cons (pv 0) pa_nil)) (fun _ _ _ _ _ => pf_nil) (fun _ _ _ _ _ => pe_cmpR op_eq (pv 0) (pv 1) (nomark _))) pa_nil)))))
      (pss_one (ps_ret (pv 1)))), ?_⟩
    refine ⟨Nat.zero_le _, fun r hr0 => ?_⟩
    have s0 : Same H (upd H r (.lst [])) := fun b o e => by rw [upd_ne (ne_of_none e hr0)]; exact e
    refine ⟨_, rfl, n, rfl, by omega, by omega, for_range (lo := 0) (n := n) (fun i σ H2 => ∃ (qs : List Addr) (v : Option V), σ = [some (.int n), some (.ref r), v] ∧ Same H H2 ∧ H2 r = some (.lst (qs.map V.ref)) ∧ qs.length = i ∧ qs.Nodup ∧ r ∉ qs ∧
      (∀ q ∈ qs, H q = none) ∧ ∀ (j : Nat) q, qs[j]? = some q → H2 q = some (.lst (rowV n (idM j)))) ⟨[], none, rfl, s0, upd_same, rfl, List.nodup_nil, List.not_mem_nil, fun q hq => absurd hq List.not_mem_nil, fun j q e => by simp at e⟩ ?_ ?_⟩
    · rintro i σ H2 hi ⟨qs, v, rfl, s2, hr2, hl, nd, hrq, hf, hat⟩
      refine ⟨_, rfl, .inl ⟨rfl, _, SqL.of hr2⟩, _, rfl, n, rfl, by omega, by omega, comp_range (n := n) (fun _ => true) (fun j => V.bl (decide (j = i))) (by omega) (fun j Hc k _ _ q => q) (fun j Hc k hj _ _ q => ?_) fun D hD => ?_⟩
      · have e : decide (V.int (0 + (j : Int)) = V.int (0 + (i : Int))) = decide (j = i) := by
          rw [Bool.eq_iff_iff]
          simp
          omega
        refine ⟨_, rfl, _, rfl, rfl, ?_⟩
        rw [e]
        exact q
      · have hDq : D ∉ qs := fun z => by
          obtain ⟨j, hj⟩ := List.getElem?_of_mem z
          rw [hat j D hj] at hD
          cases hD
        refine ⟨r, _, _, rfl, rfl, (by rw [upd_ne (ne_of_none hr2 hD)]; exact hr2), small1000 (by rw [List.length_map]; omega), qs ++ [D], _, rfl, fun b o e => ?_, ?_, by simp [hl], ?_, ?_, fun q hq => ?_, fun j q e => ?_⟩
        · have e2 := s2 b o e
          have hb : b ≠ r := ne_of_none e hr0
          rw [upd_ne hb, upd_ne (ne_of_none e2 hD)]
          exact e2
        · rw [upd_same, List.map_append]
          rfl
        · rw [List.nodup_append]
          refine ⟨nd, by simp, fun a ha b hb => ?_⟩
          have hb' : b = D := by simpa using hb
          rw [hb']
          rintro rfl
          exact hDq ha
        · intro z
          rcases List.mem_append.mp z with z | z
          · exact hrq z
          · have z' : r = D := by simpa using z
            rw [← z', hr2] at hD
            cases hD
        · rcases List.mem_append.mp hq with z | z
          · exact hf q z
          · have z' : q = D := by simpa using z
            rw [z']
            exact s2.free hD
        · by_cases hj : j < qs.length
          · rw [List.getElem?_append_left hj] at e
            have hq := hat j q e
            have n1 : q ≠ r := fun z => hrq (by rw [← z]; exact List.mem_of_getElem? e)
            rw [upd_ne n1, upd_ne (ne_of_none hq hD)]
            exact hq
          · rw [List.getElem?_append_right (by omega)] at e
            have hj0 : j - qs.length = 0 := by
              have := (List.getElem?_eq_some_iff.mp e).1
              simp at this
              omega
            rw [hj0] at e
            have e' : D = q := by simpa using e
            subst e'
            have n1 : D ≠ r := Ne.symm (ne_of_none hr2 hD)
            have hji : j = i := by omega
            subst hji
            rw [upd_ne n1, upd_same, rowV, rowL, List.map_map, filt_t]
            rfl
    · rintro σ H2 ⟨qs, v, rfl, s2, hr2, hl, nd, hrq, hf, hat⟩
      exact ⟨_, rfl, k r qs H2 s2 hr0 hf hl nd hrq hr2 hat⟩
/-! ### Yard.__init__ -/
def spInit (C NY : Addr) : Sp := fun vs H Q E => ∃ (p dx : Addr) (n : Int), vs = [.ref p, .int n] ∧ H p = some (.ins C dx []) ∧
  (1 ≤ n ∧ n ≤ 24 → ∀ (r : Addr) (qs : List Addr) (H' : Hp), YardAt C H' p dx r qs n.toNat idM → (∀ b o, H b = some o → b ≠ p → H' b = some o) → H r = none → (∀ q ∈ qs, H q = none) → r ∉ qs → Q .non H') ∧ (¬ (1 ≤ n ∧ n ≤ 24) → E (.ref NY) none H)
theorem sc_init : FnScope ["self", "many"] ["self", "many"] (defScope s_init) := ⟨rfl, rfl, rfl, by decide +kernel, rfl, by decide +kernel, by decide +kernel⟩
theorem ok_init {f f1 : Addr} {fd fd1 : FuncData} (F : Fun K "__init__" "Yard.__init__" s_init f fd) (T : YT K mg C NL AL NY TD UT) (G : FnOk P w K mg base CX0 1 f1 fd1 ["many"] spRows) (b1 : Binds K fd1 ["many"] [])
    (m1 : mg "untied_rows" = some (.ref f1)) (k1 : PySem.W.keepIn K (.ref f1) = true) : FnOk P w K mg base (CXE P w) 2 f fd ["self", "many"] (spInit C NY) := by
  obtain ⟨tk, hmost⟩ := T.most
  refine F.okE sc_init (fun vs H Q E h => ?_) (fun cdv A outer s H vs Q E hr h => ?_)
  · obtain ⟨p, dx, n, rfl, _⟩ := h
    rfl
  · obtain ⟨p, dx, n, rfl, hp, h1, h2⟩ := h
    refine ⟨_, pss_cons (ps_if (PW.pt (pw_or (pt_cmpR op_lt (pv 1) pe_int (nomark _)) (pw_or1 (pt_cmpR op_gt (pv 1) (pe_glob (v := .int 24) rfl hmost ⟨_, rfl⟩) (nomark _)))))
      (pss_one (ps_raise (R := fun _ H => E (.ref NY) none H) rfl rfl T.ny T.xy fun pins σ H s h1 e args I hm hR => raiseE I hm hR)) pss_nil)
      (pss_cons (ps_fld (pv 0) (pv 1) rfl)
      (pss_one (ps_fld (pv 0) (pe_call G hr rfl m1 k1 b1 .nil pass0 (pa_cons (pv 1) pa_nil)) rfl))), ?_⟩
    refine ⟨_, rfl, _, _, rfl, rfl, _, rfl, ?_⟩
    refine ite2 (fun c => iteT ?_) (fun c => ?_)
    · have c' : n < 1 := of_decide_eq_true c
      exact h2 (by omega)
    have c' : ¬ n < 1 := fun z => c (decide_eq_true z)
    refine ⟨_, rfl, _, _, rfl, rfl, _, rfl, ?_⟩
    refine ite2 (fun d => ?_) (fun d => ?_)
    · have d' : 24 < n := of_decide_eq_true d
      exact h2 (by omega)
    have d' : ¬ 24 < n := fun z => d (decide_eq_true z)
    have hn : ((n.toNat : Nat) : Int) = n := by omega
    refine ⟨_, rfl, _, rfl, p, C, dx, [], rfl, hp, T.cl, T.nM, (by show 0 < 1000; decide), ?_⟩
    refine ⟨_, rfl, n.toNat, by rw [hn]; rfl, by omega, fun r qs H' s' hr0 hq0 hl nd hrq hr' hat => ?_⟩
    have hp1 : (upd H p (.ins C dx (putF "many" (.int n) []))) p = some (.ins C dx (putF "many" (.int n) [])) := upd_same
    have hp2 := s' _ _ hp1
    refine ⟨_, rfl, p, C, dx, _, rfl, hp2, T.cl, T.nR, (by show 1 < 1000; decide), ?_⟩
    have npr : p ≠ r := ne_of_none hp1 hr0
    have npq : ∀ q ∈ qs, p ≠ q := fun q hq => ne_of_none hp1 (hq0 q hq)
    have fr : ∀ b, (upd H p (.ins C dx (putF "many" (.int n) []))) b = none → H b = none := fun b e => by
      have hb : b ≠ p := fun z => by rw [z, hp1] at e; cases e
      rw [upd_ne hb] at e
      exact e
    refine h1 (by omega) r qs _ ⟨?_, by rw [upd_ne npr.symm]; exact hr', hl, nd, fun i q e => ?_⟩ (fun b o e hb => ?_) (fr r hr0) (fun q hq => fr q (hq0 q hq)) hrq
    · rw [upd_same, hn]
      rfl
    · rw [upd_ne (npq q (List.mem_of_getElem? e)).symm]
      exact hat i q e
    · rw [upd_ne hb]
      exact s' b o (by rw [upd_ne hb]; exact e)
/-! ### is_tied -/
def okL (n : Nat) (a : Int) : Prop := 0 ≤ a ∧ a < n
def spIsTied (C NL AL : Addr) : Sp := fun vs H Q E => ∃ (p dx r : Addr) (qs : List Addr) (n : Nat) (M : Nat → Nat → Bool) (a b : Int), vs = [.ref p, .int a, .int b] ∧ YardAt C H p dx r qs n M ∧
  (okL n a ∧ okL n b ∧ a ≠ b → Q (.bl (M a.toNat b.toNat)) H) ∧ (¬ (okL n a ∧ okL n b) → E (.ref NL) none H) ∧ (okL n a ∧ okL n b ∧ a = b → E (.ref AL) none H)
theorem sc_is_tied : FnScope ["self", "one", "other"] ["self", "one", "other"] (defScope s_is_tied) := ⟨rfl, rfl, rfl, by decide +kernel, rfl, by decide +kernel, by decide +kernel⟩
theorem ok_is_tied {f f1 : Addr} {fd fd1 : FuncData} (F : Fun K "is_tied" "Yard.is_tied" s_is_tied f fd) (T : YT K mg C NL AL NY TD UT) (G : FnOk P w K mg base (CXE P w) 2 f1 fd1 ["one", "other", "many"] (spPair NL AL)) (b1 : Binds K fd1 ["one", "other", "many"] [])
    (m1 : mg "check_pair" = some (.ref f1)) (k1 : PySem.W.keepIn K (.ref f1) = true) : FnOk P w K mg base (CXE P w) 3 f fd ["self", "one", "other"] (spIsTied C NL AL) := by
  refine F.okE sc_is_tied (fun vs H Q E h => ?_) (fun cdv A outer s H vs Q E hr h => ?_)
  · obtain ⟨p, dx, r, qs, n, M, a, b, rfl, _⟩ := h
    rfl
  · obtain ⟨p, dx, r, qs, n, M, a, b, rfl, Y, h1, h2, h3⟩ := h
    refine ⟨_, pss_cons (ps_expr (pe_callS G hr rfl m1 k1 b1 .nil passE.s (pa_cons (pv 1) (pa_cons (pv 2) (pa_cons (pe_fld (pv 0) rfl) pa_nil)))))
      (pss_one (ps_ret (pe_ix ix_list (pe_ix ix_list (pe_fld (pv 0) rfl) (pv 1) (fun _ _ => rfl)) (pv 2) (fun _ _ => rfl)))), ?_⟩
    refine ⟨_, rfl, _, rfl, _, rfl, p, C, dx, _, _, rfl, Y.ob, T.cl, T.nM, yf_many _ _, a, b, n, rfl, fun ok => ?_, fun bad => h2 bad, fun al => h3 al⟩
    obtain ⟨q, _, hq, hrow⟩ := Y.row ok.1.1 ok.1.2
    refine ⟨_, rfl, p, C, dx, _, _, rfl, Y.ob, T.cl, T.nR, yf_rows _ _, _, rfl, r, _, a, _, rfl, rfl, SqL.of Y.rw, hq, _, rfl, q, _, b, _, rfl, rfl, SqL.of hrow, atI_of ok.2.1.1 (rowV_at _ (by have := ok.2.1.2; omega)), h1 ok⟩
/-! ### is_shy -/
def spIsShy (C NL : Addr) : Sp := fun vs H Q E => ∃ (p dx r : Addr) (qs : List Addr) (n : Nat) (M : Nat → Nat → Bool) (a : Int), vs = [.ref p, .int a] ∧ YardAt C H p dx r qs n M ∧
  (okL n a → Q (.bl (!M a.toNat a.toNat)) H) ∧ (¬ okL n a → E (.ref NL) none H)
theorem sc_is_shy : FnScope ["self", "lamp"] ["self", "lamp"] (defScope s_is_shy) := ⟨rfl, rfl, rfl, by decide +kernel, rfl, by decide +kernel, by decide +kernel⟩
theorem ok_is_shy {f f1 : Addr} {fd fd1 : FuncData} (F : Fun K "is_shy" "Yard.is_shy" s_is_shy f fd) (T : YT K mg C NL AL NY TD UT) (G : FnOk P w K mg base (CXE P w) 1 f1 fd1 ["lamp", "many"] (spCheck NL)) (b1 : Binds K fd1 ["lamp", "many"] [])
    (m1 : mg "check_lamp" = some (.ref f1)) (k1 : PySem.W.keepIn K (.ref f1) = true) : FnOk P w K mg base (CXE P w) 2 f fd ["self", "lamp"] (spIsShy C NL) := by
  refine F.okE sc_is_shy (fun vs H Q E h => ?_) (fun cdv A outer s H vs Q E hr h => ?_)
  · obtain ⟨p, dx, r, qs, n, M, a, rfl, _⟩ := h
    rfl
  · obtain ⟨p, dx, r, qs, n, M, a, rfl, Y, h1, h2⟩ := h
    refine ⟨_, pss_cons (ps_expr (pe_callS G hr rfl m1 k1 b1 .nil passE.s (pa_cons (pv 1) (pa_cons (pe_fld (pv 0) rfl) pa_nil))))
      (pss_one (ps_ret (pe_not (pe_ix ix_list (pe_ix ix_list (pe_fld (pv 0) rfl) (pv 1) (fun _ _ => rfl)) (pv 1) (fun _ _ => rfl))))), ?_⟩
    refine ⟨_, rfl, _, rfl, p, C, dx, _, _, rfl, Y.ob, T.cl, T.nM, yf_many _ _, a, n, rfl, fun ok => ?_, fun bad => h2 bad⟩
    obtain ⟨q, _, hq, hrow⟩ := Y.row ok.1 ok.2
    refine ⟨_, rfl, p, C, dx, _, _, rfl, Y.ob, T.cl, T.nR, yf_rows _ _, _, rfl, r, _, a, _, rfl, rfl, SqL.of Y.rw, hq, _, rfl, q, _, a, _, rfl, rfl, SqL.of hrow, atI_of ok.1 (rowV_at _ (by have := ok.1; have := ok.2; omega)), _, rfl, h1 ok⟩
/-! ### turns -/
/-! ### put_tie -/
def spPut (C : Addr) : Sp := fun vs H Q _ => ∃ (p dx r : Addr) (qs : List Addr) (n : Nat) (M : Nat → Nat → Bool) (a b : Int) (v : Bool), vs = [.ref p, .int a, .int b, .bl v] ∧ YardAt C H p dx r qs n M ∧ okL n a ∧ okL n b ∧ a ≠ b ∧
  ∀ H', YardAt C H' p dx r qs n (put2 M a.toNat b.toNat v) → (∀ c o, H c = some o → c ∉ qs → H' c = some o) → Q .non H'
theorem sc_put_tie : FnScope ["self", "one", "other", "answer"] ["self", "one", "other", "answer"] (defScope s_put_tie) := ⟨rfl, rfl, rfl, by decide +kernel, rfl, by decide +kernel, by decide +kernel⟩
theorem ok_put_tie {f : Addr} {fd : FuncData} (F : Fun K "put_tie" "Yard.put_tie" s_put_tie f fd) (T : YT K mg C NL AL NY TD UT) : FnOk P w K mg base CX0 1 f fd ["self", "one", "other", "answer"] (spPut C) := by
  refine F.ok sc_put_tie (fun vs H Q E h => ?_) (fun cdv A outer s H vs Q E hr h => ?_)
  · obtain ⟨p, dx, r, qs, n, M, a, b, v, rfl, _⟩ := h
    rfl
  · obtain ⟨p, dx, r, qs, n, M, a, b, v, rfl, Y, ha, hb, hab, k⟩ := h
    refine ⟨_, pss_cons (ps_asg (pv 3) (pg_sub (pe_ix ix_list (pe_fld (pv 0) rfl) (pv 1) (fun _ _ => rfl)) (pv 2) set_list))
      (pss_one (ps_asg (pv 3) (pg_sub (pe_ix ix_list (pe_fld (pv 0) rfl) (pv 2) (fun _ _ => rfl)) (pv 1) set_list))), ?_⟩
    obtain ⟨q1, hq1, hx1, hrow1⟩ := Y.row ha.1 ha.2
    have hlt1 : a.toNat < n := by have := ha.2; have := ha.1; omega
    have hlt2 : b.toNat < n := by have := hb.2; have := hb.1; omega
    have Y1 := Y.put (b := b.toNat) hlt1 v hq1
    obtain ⟨q2, hq2, hx2, hrow2⟩ := Y1.row hb.1 hb.2
    have Y2 := Y1.put (b := a.toNat) hlt2 v hq2
    refine ⟨_, rfl, _, rfl, p, C, dx, _, _, rfl, Y.ob, T.cl, T.nR, yf_rows _ _, _, rfl, r, _, a, _, rfl, rfl, SqL.of Y.rw, hx1, _, rfl, q1, _, b, b.toNat, rfl, rfl, hrow1, (by rw [rowV_len]; exact ixN_of hb.1 hb.2), ?_⟩
    refine ⟨_, rfl, _, rfl, p, C, dx, _, _, rfl, Y1.ob, T.cl, T.nR, yf_rows _ _, _, rfl, r, _, b, _, rfl, rfl, SqL.of Y1.rw, hx2, _, rfl, q2, _, a, a.toNat, rfl, rfl, hrow2, (by rw [rowV_len]; exact ixN_of ha.1 ha.2), ?_⟩
    refine k _ ?_ (fun c o e hc => ?_)
    · have e : (put2 M a.toNat b.toNat v) = (fun i j => if i = b.toNat ∧ j = a.toNat then v else if i = a.toNat ∧ j = b.toNat then v else M i j) := by
        funext i j
        unfold put2
        by_cases c1 : i = b.toNat ∧ j = a.toNat
        · simp [c1]
        · by_cases c2 : i = a.toNat ∧ j = b.toNat
          · simp [c2]
          · simp [c1, c2]
      rw [e]
      exact Y2
    · have n1 : c ≠ q1 := fun z => hc (z ▸ List.mem_of_getElem? hq1)
      have n2 : c ≠ q2 := fun z => hc (z ▸ List.mem_of_getElem? hq2)
      rw [upd_ne n2, upd_ne n1]
      exact e
/-! ### tie, untie -/
def spTie (C NL AL TD : Addr) (v : Bool) : Sp := fun vs H Q E => ∃ (p dx r : Addr) (qs : List Addr) (n : Nat) (M : Nat → Nat → Bool) (a b : Int), vs = [.ref p, .int a, .int b] ∧ YardAt C H p dx r qs n M ∧
  (okL n a ∧ okL n b ∧ a ≠ b ∧ M a.toNat b.toNat = !v → ∀ H', YardAt C H' p dx r qs n (put2 M a.toNat b.toNat v) → (∀ c o, H c = some o → c ∉ qs → H' c = some o) → Q .non H') ∧
  (¬ (okL n a ∧ okL n b) → E (.ref NL) none H) ∧ (okL n a ∧ okL n b ∧ a = b → E (.ref AL) none H) ∧ (okL n a ∧ okL n b ∧ a ≠ b ∧ M a.toNat b.toNat = v → E (.ref TD) none H)
theorem sc_tie : FnScope ["self", "one", "other"] ["self", "one", "other"] (defScope s_tie) := ⟨rfl, rfl, rfl, by decide +kernel, rfl, by decide +kernel, by decide +kernel⟩
theorem ok_tie {f f1 f2 : Addr} {fd fd1 fd2 : FuncData} (F : Fun K "tie" "Yard.tie" s_tie f fd) (T : YT K mg C NL AL NY TD UT) (G : FnOk P w K mg base (CXE P w) 3 f1 fd1 ["self", "one", "other"] (spIsTied C NL AL)) (b1 : Binds K fd1 ["self", "one", "other"] []) (M1 : Meth K C "is_tied" f1)
    (G2 : FnOk P w K mg base CX0 1 f2 fd2 ["self", "one", "other", "answer"] (spPut C)) (b2 : Binds K fd2 ["self", "one", "other", "answer"] []) (M2 : Meth K C "put_tie" f2) : FnOk P w K mg base (CXE P w) 4 f fd ["self", "one", "other"] (spTie C NL AL TD true) := by
  refine F.okE sc_tie (fun vs H Q E h => ?_) (fun cdv A outer s H vs Q E hr h => ?_)
  · obtain ⟨p, dx, r, qs, n, M, a, b, rfl, _⟩ := h
    rfl
  · obtain ⟨p, dx, r, qs, n, M, a, b, rfl, Y, h1, h2, h3, h4⟩ := h
    refine ⟨_, pss_cons (ps_if (pt_val (pe_methS (pv 0) T.cl M1 G hr b1 .nil passE.s (pa_cons (pv 1) (pa_cons (pv 2) pa_nil))))
      (pss_one (ps_raise (R := fun _ H => E (.ref TD) none H) rfl rfl T.td T.xt fun pins σ H s h1 e args I hm hR => raiseE I hm hR)) pss_nil)
      (pss_one (ps_expr (pe_meth (pv 0) T.cl M2 G2 (hr.mono (by decide)) b2 .nil pass0 (pa_cons (pv 1) (pa_cons (pv 2) (pa_cons pe_bl pa_nil)))))), ?_⟩
    refine ⟨_, rfl, p, dx, _, rfl, Y.ob, yf_no _ _ (by decide +kernel) (by decide +kernel), _, rfl, _, rfl, p, dx, r, qs, n, M, a, b, rfl, Y, fun ok => ?_, h2, h3⟩
    refine ⟨_, rfl, ?_⟩
    cases hM : M a.toNat b.toNat with
    | true => exact iteT (h4 ⟨ok.1, ok.2.1, ok.2.2, hM⟩)
    | false => exact iteF ⟨_, rfl, p, dx, _, rfl, Y.ob, yf_no _ _ (by decide +kernel) (by decide +kernel), _, rfl, _, rfl, p, dx, r, qs, n, M, a, b, true, rfl, Y, ok.1, ok.2.1, ok.2.2, fun H' Y' fr => h1 ⟨ok.1, ok.2.1, ok.2.2, hM⟩ H' Y' fr⟩
/-! ### set_shy -/
def spShy (C NL : Addr) : Sp := fun vs H Q E => ∃ (p dx r : Addr) (qs : List Addr) (n : Nat) (M : Nat → Nat → Bool) (a : Int) (v : Bool), vs = [.ref p, .int a, .bl v] ∧ YardAt C H p dx r qs n M ∧
  (okL n a → ∀ H', YardAt C H' p dx r qs n (putD M a.toNat (!v)) → (∀ c o, H c = some o → c ∉ qs → H' c = some o) → Q .non H') ∧ (¬ okL n a → E (.ref NL) none H)
theorem sc_set_shy : FnScope ["self", "lamp", "answer"] ["self", "lamp", "answer"] (defScope s_set_shy) := ⟨rfl, rfl, rfl, by decide +kernel, rfl, by decide +kernel, by decide +kernel⟩
theorem ok_set_shy {f f1 : Addr} {fd fd1 : FuncData} (F : FunD K "set_shy" "Yard.set_shy" s_set_shy f fd [.bool true]) (T : YT K mg C NL AL NY TD UT) (G : FnOk P w K mg base (CXE P w) 1 f1 fd1 ["lamp", "many"] (spCheck NL)) (b1 : Binds K fd1 ["lamp", "many"] [])
    (m1 : mg "check_lamp" = some (.ref f1)) (k1 : PySem.W.keepIn K (.ref f1) = true) : FnOk P w K mg base (CXE P w) 2 f fd ["self", "lamp", "answer"] (spShy C NL) := by
  refine F.okE sc_set_shy (fun vs H Q E h => ?_) (fun cdv A outer s H vs Q E hr h => ?_)
  · obtain ⟨p, dx, r, qs, n, M, a, v, rfl, _⟩ := h
    rfl
  · obtain ⟨p, dx, r, qs, n, M, a, v, rfl, Y, h1, h2⟩ := h
    refine ⟨_, pss_cons (ps_expr (pe_callS G hr rfl m1 k1 b1 .nil passE.s (pa_cons (pv 1) (pa_cons (pe_fld (pv 0) rfl) pa_nil))))
      (pss_one (ps_asg (pe_not (pv 2)) (pg_sub (pe_ix ix_list (pe_fld (pv 0) rfl) (pv 1) (fun _ _ => rfl)) (pv 1) set_list))), ?_⟩
    refine ⟨_, rfl, _, rfl, p, C, dx, _, _, rfl, Y.ob, T.cl, T.nM, yf_many _ _, a, n, rfl, fun ok => ?_, h2⟩
    obtain ⟨q, hq, hx, hrow⟩ := Y.row ok.1 ok.2
    have hlt : a.toNat < n := by have := ok.2; have := ok.1; omega
    refine ⟨_, rfl, _, rfl, _, rfl, p, C, dx, _, _, rfl, Y.ob, T.cl, T.nR, yf_rows _ _, _, rfl, r, _, a, _, rfl, rfl, SqL.of Y.rw, hx, _, rfl, q, _, a, a.toNat, rfl, rfl, hrow, (by rw [rowV_len]; exact ixN_of ok.1 ok.2), ?_⟩
    refine h1 ok _ (Y.put (b := a.toNat) hlt (!v) hq) (fun c o e hc => ?_)
    have n1 : c ≠ q := fun z => hc (z ▸ List.mem_of_getElem? hq)
    rw [upd_ne n1]
    exact e
theorem binds_shy2 {f : Addr} {fd : FuncData} (F : FunD K "set_shy" "Yard.set_shy" s_set_shy f fd [.bool true]) : Binds K fd ["self", "lamp", "answer"] [.bool true] := by
  obtain ⟨oc, od, T, kV, doc, pm, an, cdv, ct, osl, ot, nt, rfl, lk, hcd, lT, hd⟩ := F.ex
  intro s us X hl
  have hl' : us.length = 2 := by
    rw [List.length_append] at hl
    have h1 : ([Value.bool true] : List Value).length = 1 := rfl
    have h2 : (["self", "lamp", "answer"] : List Str).length = 3 := rfl
    omega
  match us, hl' with
  | [u1, u2], _ => exact PySem.W.binds_K X rfl lT hd rfl rfl
theorem binds_shy3 {f : Addr} {fd : FuncData} (F : FunD K "set_shy" "Yard.set_shy" s_set_shy f fd [.bool true]) : Binds K fd ["self", "lamp", "answer"] [] := by
  obtain ⟨oc, od, T, kV, doc, pm, an, cdv, ct, osl, ot, nt, rfl, lk, hcd, lT, hd⟩ := F.ex
  intro s us X hl
  rw [List.append_nil] at hl ⊢
  match us, hl with
  | [u1, u2, u3], _ => exact PySem.W.binds_K X rfl lT hd rfl rfl
end
end Lp

/-! ## the law's own draws -/
namespace Lp
open PySem L2 Lamp
abbrev s_cell : Stmt := top 24
abbrev s_mix : Stmt := top 25
abbrev s_many : Stmt := top 26
abbrev s_drawn : Stmt := top 27
def cellF (ns : List Int) (k : Int) : Int := if k < ns.length then ns.getD k.toNat 0 else 0
def mix1 (c k : Int) : Int := (c + 7919 * (k + 3)) % 2147483647
def mix2 (c k : Int) : Int := (mix1 c k * mix1 c k + 104729 * k + 5) % 2147483629
def mixF (c k : Int) : Int := mix2 c k * mix2 c k % 2147483587
def manyF (c : Int) : Int := if c % 4 = 3 then 1 + c / 4 % 24 else 1 + c / 4 % 10
theorem manyF_ok (c : Int) : 1 ≤ manyF c ∧ manyF c ≤ 24 := by
  unfold manyF
  split <;> omega
theorem mix1_ok (c k : Int) : -(2 ^ 64) < mix1 c k ∧ mix1 c k < 2 ^ 64 := by
  unfold mix1
  omega
theorem mix2_ok (c k : Int) : -(2 ^ 64) < mix2 c k ∧ mix2 c k < 2 ^ 64 := by
  unfold mix2
  omega
section
variable {P : Program} {w : World} {K : PySem.W.Frag} {mg : Str → Option Value} {base : Heap}
def spCell (K : PySem.W.Frag) : Sp := fun vs H Q _ => ∃ (a : Addr) (ns : List Int) (k : Int), vs = [.ref a, .int k] ∧ 0 ≤ k ∧ SqL K H a (ns.map V.int) ∧ Q (.int (cellF ns k)) H
theorem sc_cell : FnScope ["script", "k"] ["script", "k"] (defScope s_cell) := ⟨rfl, rfl, rfl, by decide +kernel, rfl, by decide +kernel, by decide +kernel⟩
theorem ok_cell {f : Addr} {fd : FuncData} (F : Fun K "_law_cell_at" "_law_cell_at" s_cell f fd) (T : LB mg) : FnOk P w K mg base CX0 1 f fd ["script", "k"] (spCell K) := by
  refine F.ok sc_cell (fun vs H Q E h => ?_) (fun cdv A outer s H vs Q E hr h => ?_)
  · obtain ⟨a, ns, k, rfl, _⟩ := h
    rfl
  · obtain ⟨a, ns, k, rfl, hk, hs, q⟩ := h
    refine ⟨_, pss_cons (ps_if (pt_cmpR op_lt (pv 1) (pe_callB call_len_seq rfl T.b_len PySem.boot_len (pa_cons (pv 0) pa_nil)) (nomark _)) (pss_one (ps_ret (pe_ix ix_list (pv 0) (pv 1) (fun _ _ => rfl)))) pss_nil) (pss_one (ps_ret pe_int)), ?_⟩
    refine ⟨_, rfl, _, rfl, a, _, rfl, .inl hs, _, _, rfl, rfl, _, rfl, ?_⟩
    refine ite2 (fun c => ?_) (fun c => ?_)
    · have c' : k < ns.length := by
        have := of_decide_eq_true c
        rwa [List.length_map] at this
      refine ⟨_, rfl, _, rfl, a, _, k, .int (cellF ns k), rfl, rfl, hs, atI_of hk ?_, q⟩
      have hlt : k.toNat < ns.length := by omega
      unfold cellF
      rw [if_pos c', List.getElem?_map, List.getD_eq_getElem?_getD]
      simp [hlt]
    · have c' : ¬ k < ns.length := fun z => c (decide_eq_true (by rw [List.length_map]; exact z))
      have e : cellF ns k = 0 := by unfold cellF; rw [if_neg c']
      rw [e] at q
      exact q
def spMix : Sp := fun vs H Q _ => ∃ c k : Int, vs = [.int c, .int k] ∧ Q (.int (mixF c k)) H
theorem sc_mix : FnScope ["cell", "k", "seed"] ["cell", "k"] (defScope s_mix) := ⟨rfl, rfl, rfl, by decide +kernel, rfl, by decide +kernel, by decide +kernel⟩
theorem ok_mix {f : Addr} {fd : FuncData} (F : Fun K "_law_mix" "_law_mix" s_mix f fd) : FnOk P w K mg base CX0 1 f fd ["cell", "k"] spMix := by
  refine F.ok sc_mix (fun vs H Q E h => ?_) (fun cdv A outer s H vs Q E hr h => ?_)
  · obtain ⟨c, k, rfl, _⟩ := h
    rfl
  · obtain ⟨c, k, rfl, q⟩ := h
    refine ⟨_, pss_cons (ps_set (i := 2) sc_mix.nd rfl (Or.inl rfl) (pe_op op_mod (pe_op op_add (pv 0) (pe_op op_mul pe_int (pe_op op_add (pv 1) pe_int))) pe_int))
      (pss_cons (ps_set (i := 2) sc_mix.nd rfl (Or.inl rfl) (pe_op op_mod (pe_op op_add (pe_op op_add (pe_op op_mul (pv 2) (pv 2)) (pe_op op_mul pe_int (pv 1))) pe_int) pe_int))
      (pss_one (ps_ret (pe_op op_mod (pe_op op_mul (pv 2) (pv 2)) pe_int)))), ?_⟩
    refine ⟨_, rfl, _, rfl, _, _, rfl, rfl, _, _, rfl, rfl, .inl ⟨by decide, by decide⟩, _, _, rfl, rfl, _, _, rfl, rfl, posI rfl, ?_⟩
    refine ⟨_, rfl, _, rfl, mix1 c k, mix1 c k, rfl, rfl, .inl (mix1_ok c k), _, rfl, _, _, rfl, rfl, .inl ⟨by decide, by decide⟩, _, _, rfl, rfl, _, _, rfl, rfl, _, _, rfl, rfl, posI rfl, ?_⟩
    exact ⟨_, rfl, _, rfl, mix2 c k, mix2 c k, rfl, rfl, .inl (mix2_ok c k), _, _, rfl, rfl, posI rfl, q⟩
def spMany : Sp := fun vs H Q _ => ∃ c : Int, vs = [.int c] ∧ Q (.int (manyF c)) H
theorem sc_many : FnScope ["cell"] ["cell"] (defScope s_many) := ⟨rfl, rfl, rfl, by decide +kernel, rfl, by decide +kernel, by decide +kernel⟩
theorem ok_many {f : Addr} {fd : FuncData} (F : Fun K "_law_many" "_law_many" s_many f fd) : FnOk P w K mg base CX0 1 f fd ["cell"] spMany := by
  refine F.ok sc_many (fun vs H Q E h => ?_) (fun cdv A outer s H vs Q E hr h => ?_)
  · obtain ⟨c, rfl, _⟩ := h
    rfl
  · obtain ⟨c, rfl, q⟩ := h
    refine ⟨_, pss_cons (ps_if (pt_cmpR op_eq (pe_op op_mod (pv 0) pe_int) pe_int (nomark _)) (pss_one (ps_ret (pe_op op_add pe_int (pe_op op_mod (pe_op op_fdiv (pv 0) pe_int) pe_int)))) pss_nil)
      (pss_one (ps_ret (pe_op op_add pe_int (pe_op op_mod (pe_op op_fdiv (pv 0) pe_int) pe_int)))), ?_⟩
    refine ⟨_, rfl, _, _, rfl, rfl, posI rfl, rfl, _, rfl, ?_⟩
    refine ite2 (fun z => ?_) (fun z => ?_)
    · have z' : c % 4 = 3 := by
        have := of_decide_eq_true z
        exact V.int.inj this
      unfold manyF at q
      rw [if_pos z'] at q
      exact ⟨_, rfl, _, _, rfl, rfl, ⟨by decide, by decide⟩, _, _, rfl, rfl, posI rfl, _, _, rfl, rfl, q⟩
    · have z' : ¬ c % 4 = 3 := fun y => z (decide_eq_true (congrArg V.int y))
      unfold manyF at q
      rw [if_neg z'] at q
      exact ⟨_, rfl, _, _, rfl, rfl, ⟨by decide, by decide⟩, _, _, rfl, rfl, posI rfl, _, _, rfl, rfl, q⟩
end
structure TiesP (H : Hp) (lt : Addr) (zs : List (Addr × Nat × Nat)) (p : Nat → Nat → Prop) : Prop where
  top : H lt = some (.lst (zs.map fun z => V.ref z.1))
  at_ : ∀ z ∈ zs, H z.1 = some (.tup [.int (z.2.1 : Int), .int (z.2.2 : Int)])
  nd : (zs.map (·.2)).Nodup
  ok : ∀ z ∈ zs, z.2.1 < z.2.2 ∧ p z.2.1 z.2.2
abbrev TiesAt (H : Hp) (lt : Addr) (zs : List (Addr × Nat × Nat)) (n : Nat) : Prop := TiesP H lt zs fun _ b => b < n
theorem TiesP.same {H H' : Hp} {lt : Addr} {zs : List (Addr × Nat × Nat)} {p : Nat → Nat → Prop} (T : TiesP H lt zs p) (s : Same H H') : TiesP H' lt zs p := ⟨s _ _ T.top, fun z hz => s _ _ (T.at_ z hz), T.nd, T.ok⟩
theorem TiesP.mono {H : Hp} {lt : Addr} {zs : List (Addr × Nat × Nat)} {p q : Nat → Nat → Prop} (T : TiesP H lt zs p) (h : ∀ a b, p a b → q a b) : TiesP H lt zs q := ⟨T.top, T.at_, T.nd, fun z hz => ⟨(T.ok z hz).1, h _ _ (T.ok z hz).2⟩⟩
theorem TiesP.push {H : Hp} {lt t : Addr} {zs : List (Addr × Nat × Nat)} {p q : Nat → Nat → Prop} {a b : Nat} (T : TiesP H lt zs p) (ht : H t = none) (hab : a < b) (hn : ¬ p a b) (hpq : ∀ x y, p x y → q x y) (hq : q a b) :
    TiesP (upd (upd H t (.tup [.int (a : Int), .int (b : Int)])) lt (.lst ((zs.map fun z => V.ref z.1) ++ [.ref t]))) lt (zs ++ [(t, a, b)]) q := by
  have nlt : lt ≠ t := ne_of_none T.top ht
  refine ⟨by rw [upd_same]; simp, fun z hz => ?_, ?_, fun z hz => ?_⟩
  · rcases List.mem_append.mp hz with hz | hz
    · have h := T.at_ z hz
      have n1 : z.1 ≠ lt := ne_of h T.top (by intro e; cases e)
      rw [upd_ne n1, upd_ne (ne_of_none h ht)]
      exact h
    · have e : z = (t, a, b) := by simpa using hz
      subst e
      rw [upd_ne nlt.symm, upd_same]
  · rw [List.map_append, List.nodup_append]
    refine ⟨T.nd, by simp, fun x hx y hy => ?_⟩
    have hy' : y = (a, b) := by simpa using hy
    rw [hy']
    rintro rfl
    obtain ⟨z, hz, e⟩ := List.mem_map.mp hx
    have := (T.ok z hz).2
    rw [e] at this
    exact hn this
  · rcases List.mem_append.mp hz with hz | hz
    · exact ⟨(T.ok z hz).1, hpq _ _ (T.ok z hz).2⟩
    · have e : z = (t, a, b) := by simpa using hz
      subst e
      exact ⟨hab, hq⟩
theorem atI_ints {xs : List Int} {m : Int} (h0 : 0 ≤ m) (h : m < xs.length) : atI (xs.map V.int) m = some (.int (xs.getD m.toNat 0)) := by
  refine atI_of h0 ?_
  have hl : m.toNat < xs.length := by omega
  rw [List.getElem?_map, List.getD_eq_getElem?_getD]
  simp [hl]
theorem rowV_comp (n : Nat) (f : Nat → Bool) : ((List.range n).filter (fun _ => true)).map (fun j => V.bl (f j)) = rowV n f := by
  rw [filt_t, rowV, rowL, List.map_map]
  rfl
section
variable {P : Program} {w : World} {K : PySem.W.Frag} {mg : Str → Option Value} {base : Heap}
def spDrawn (K : PySem.W.Frag) : Sp := fun vs H Q _ => ∃ (a : Addr) (ns : List Int), vs = [.ref a] ∧ SqL K H a (ns.map V.int) ∧ ∀ (t lt ls : Addr) (zs : List (Addr × Nat × Nat)) (n : Nat) (f : Nat → Bool) (H' : Hp), Same H H' → 1 ≤ n → n ≤ 24 →
  H' t = some (.tup [.int (n : Int), .ref lt, .ref ls]) → TiesAt H' lt zs n → zs.length ≤ 600 → H' ls = some (.lst (rowV n f)) → H lt = none → H ls = none → Q (.ref t) H'
def spDrawnN (K : PySem.W.Frag) : Sp := fun vs H Q _ => ∃ (a : Addr) (ns : List Int), vs = [.ref a] ∧ SqL K H a (ns.map V.int) ∧ ∀ (t lt ls : Addr) (zs : List (Addr × Nat × Nat)) (n : Nat) (f : Nat → Bool) (H' : Hp), Same H H' → 1 ≤ n → n ≤ 24 →
  H' t = some (.tup [.int (n : Int), .ref lt, .ref ls]) → TiesAt H' lt zs n → zs.length ≤ 600 → H' ls = some (.lst (rowV n f)) → H lt = none → H ls = none → (n : Int) = manyF (cellF ns 0) → Q (.ref t) H'
theorem fn_weaken {CX : CXT} {k : Nat} {f : Addr} {fd : FuncData} {ps : List Str} {sp sp' : Sp} (F : FnOk P w K mg base CX k f fd ps sp') (h : ∀ vs H Q E, sp vs H Q E → sp' vs H Q E) : FnOk P w K mg base CX k f fd ps sp :=
  ⟨fun vs H Q E x => F.len _ _ _ _ (h _ _ _ _ x), fun A outer s H args us vs Q E hr e0 hb r x => F.run A outer s H args us vs Q E hr e0 hb r (h _ _ _ _ x)⟩
theorem sc_drawn : FnScope ["script", "many", "much", "ties", "other", "one", "drawn", "shy"] ["script"] (defScope s_drawn) := ⟨rfl, rfl, rfl, by decide +kernel, rfl, by decide +kernel, by decide +kernel⟩
theorem ok_drawnN {f : Addr} {fd : FuncData} (F : Fun K "_law_drawn" "_law_drawn" s_drawn f fd) (T : LB mg) (hC : Has P w K mg base CX0 1 "_law_cell_at" ["script", "k"] (spCell K)) (hM : Has P w K mg base CX0 1 "_law_many" ["cell"] spMany) (hX : Has P w K mg base CX0 1 "_law_mix" ["cell", "k"] spMix) :
    FnOk P w K mg base CX0 2 f fd ["script"] (spDrawnN K) := by
  refine F.ok sc_drawn (fun vs H Q E h => ?_) (fun cdv A outer s H vs Q E hr h => ?_)
  · obtain ⟨a, ns, rfl, _⟩ := h
    rfl
  · obtain ⟨a, ns, rfl, hs, k⟩ := h
    refine ⟨_, (L2.pss_cons (ps_set (i := 1) sc_drawn.nd rfl (Or.inl rfl) (pe_callH hM hr rfl pass0S (E := fun _ => E0) (L2.pa_cons (pe_callH hC hr rfl pass0S (E := fun _ => E0) (L2.pa_cons (pv 0) (L2.pa_cons (pe_int) L2.pa_nil))) L2.pa_nil))) (L2.pss_cons (ps_set (i := 2) sc_drawn.nd rfl (Or.inl rfl) (pe_op op_mod (pe_callH hC hr rfl pass0S (E := fun _ => E0) (L2.pa_cons (pv 0) (L2.pa_cons (pe_int) L2.pa_nil))) pe_int)) (L2.pss_cons (ps_set (i := 3) sc_drawn.nd rfl (Or.inl rfl) (pe_lst L2.pa_nil)) (L2.pss_cons (ps_for PassesOwn.never rfl (pi_range1 rfl T.b_range (L2.pa_cons (pv 1) L2.pa_nil)) (pg_name (i := 4) sc_drawn.nd rfl (Or.inl rfl)) (L2.pss_one (ps_for PassesOwn.never rfl (pi_range1 rfl T.b_range (L2.pa_cons (pv 4) L2.pa_nil)) (pg_name (i := 5) sc_drawn.nd rfl (Or.inl rfl)) (L2.pss_cons (ps_set (i := 6) sc_drawn.nd rfl (Or.inl rfl) (pe_op op_fdiv (pe_callH hX hr rfl pass0S (E := fun _ => E0) (L2.pa_cons (pe_op op_add (pe_callH hC hr rfl pass0S (E := fun _ => E0) (L2.pa_cons (pv 0) (L2.pa_cons (pe_op op_add pe_int (pe_op op_mod (pv 4) pe_int)) L2.pa_nil))) (pe_op op_mul pe_int (pv 4))) (L2.pa_cons (pv 5) L2.pa_nil))) pe_int)) (L2.pss_one (ps_if (pt_cmpR op_lt (pe_op op_mod (pv 6) pe_int) (pe_ix ix_list (pe_lst (L2.pa_cons (pe_int) (L2.pa_cons (pe_int) (L2.pa_cons (pe_int) (L2.pa_cons (pe_int) (L2.pa_cons (pe_int) L2.pa_nil)))))) (pv 2) (fun _ _ => rfl)) (nomark _))
            (L2.pss_one (ps_expr (pe_bm PySem.F.plainAttrs_list PySem.F.slot_list_append PySem.F.type_list_append mt_append (pv 3) (L2.pa_cons (pe_tup (L2.pa_cons (pv 5) (L2.pa_cons (pv 4) L2.pa_nil))) L2.pa_nil)))) pss_nil)))))) (L2.pss_cons (ps_compN (i := 7) (js := []) sc_drawn.nd rfl (Or.inl rfl) rfl (by kernel_rfl) (pi_range1 rfl T.b_range (L2.pa_cons (pv 1) L2.pa_nil)) (fun _ _ _ _ _ => pf_nil) (fun _ _ _ _ _ => pe_bl)) (L2.pss_cons (ps_if (pt_cmpR op_eq (pe_op op_mod (pe_op op_fdiv (pe_callH hC hr rfl pass0S (E := fun _ => E0) (L2.pa_cons (pv 0) (L2.pa_cons (pe_int) L2.pa_nil))) pe_int) pe_int) pe_int (nomark _))
        (L2.pss_one (ps_compN (i := 7) (js := [0]) sc_drawn.nd rfl (Or.inl rfl) rfl (by kernel_rfl) (pi_range1 rfl T.b_range (L2.pa_cons (pv 1) L2.pa_nil)) (fun _ _ _ _ _ => pf_nil)
          (fun _ _ _ _ _ => pe_cmpR op_eq (pe_op op_mod (pe_op op_fdiv (pe_callH hX hr rfl pass0S (E := fun _ => E0) (L2.pa_cons (pe_callH hC hr rfl pass0S (E := fun _ => E0) (L2.pa_cons (pv 1) (L2.pa_cons (pe_int) L2.pa_nil))) (L2.pa_cons (pv 0) L2.pa_nil))) pe_int) pe_int) pe_int (nomark _)))) pss_nil) (L2.pss_one (ps_ret (pe_tup (L2.pa_cons (pv 1) (L2.pa_cons (pv 3) (L2.pa_cons (pv 7) L2.pa_nil)))))))))))), ?_⟩
    obtain ⟨m1, m2⟩ := manyF_ok (cellF ns 0)
    generalize hN : manyF (cellF ns 0) = N at m1 m2
    have en : ((N.toNat : Nat) : Int) = N := by omega
    refine ⟨_, rfl, a, ns, 0, rfl, by decide, hs, _, rfl, ?_⟩
    rw [hN]
    refine ⟨_, rfl, a, ns, 1, rfl, by decide, hs, _, _, rfl, rfl, posI rfl, ?_⟩
    have u1 : 0 ≤ cellF ns 1 % 5 := by omega
    have u2 : cellF ns 1 % 5 < 5 := by omega
    refine ⟨Nat.zero_le _, fun lt hlt => ?_⟩
    have s0 : Same H (upd H lt (.lst [])) := Same.laid hlt
    refine ⟨_, rfl, N, rfl, by omega, by omega, for_range (lo := 0) (n := N.toNat) (fun i σ H2 => ∃ (zs : List (Addr × Nat × Nat)) (v4 v5 v6 : Option V), σ = [some (.ref a), some (.int N), some (.int (cellF ns 1 % 5)), some (.ref lt), v4, v5, v6, none] ∧ Same H H2 ∧ TiesP H2 lt zs (fun _ y => y < i) ∧ zs.length ≤ 24 * i)
      ⟨[], none, none, none, rfl, s0, ⟨upd_same, fun z hz => absurd hz List.not_mem_nil, List.nodup_nil, fun z hz => absurd hz List.not_mem_nil⟩, Nat.zero_le _⟩ ?_ ?_⟩
    · rintro i σ H2 hi ⟨zs, v4, v5, v6, rfl, s2, T2, hz⟩
      refine ⟨_, rfl, 0 + (i : Int), rfl, by omega, by omega, for_range (lo := 0) (n := (0 + (i : Int)).toNat) (fun j σ H3 => ∃ (zs : List (Addr × Nat × Nat)) (v5 v6 : Option V), σ = [some (.ref a), some (.int N), some (.int (cellF ns 1 % 5)), some (.ref lt), some (.int (0 + (i : Int))), v5, v6, none] ∧ Same H H3 ∧ TiesP H3 lt zs (fun x y => y < i ∨ (y = i ∧ x < j)) ∧ zs.length ≤ 24 * i + j)
        ⟨zs, v5, v6, rfl, s2, T2.mono fun x y h => .inl h, by omega⟩ ?_ ?_⟩
      · rintro j σ H3 hj ⟨zs, v5, v6, rfl, s3, T3, hz⟩
        have hj' : j < i := by omega
        refine ⟨_, rfl, _, rfl, _, _, rfl, rfl, posI rfl, _, _, rfl, rfl, a, ns, _, rfl, by omega, s3.seq hs, _, rfl, _, _, rfl, rfl, mulL rfl, _, _, rfl, rfl, _, rfl, _, _, rfl, _, _, rfl, rfl, divI rfl, ?_⟩
        refine ⟨_, rfl, _, _, rfl, rfl, posI rfl, (by show 5 ≤ sizeLine; decide), fun p hp => ?_⟩
        refine ⟨_, rfl, p, _, cellF ns 1 % 5, _, rfl, rfl, SqL.of upd_same, atI_ints (xs := [0, 2, 4, 6, 12]) u1 (by simpa using u2), _, _, rfl, rfl, _, rfl, ?_⟩
        have s4 : Same H3 (upd H3 p (.lst [.int 0, .int 2, .int 4, .int 6, .int 12])) := Same.laid hp
        have T4 := T3.same s4
        refine ite2 (fun c => ?_) (fun c => ?_)
        · refine ⟨_, rfl, .inl ⟨rfl, _, SqL.of T4.top⟩, _, rfl, _, rfl, (by show 2 ≤ sizeLine; decide), fun t ht => ?_⟩
          have nlt : lt ≠ t := ne_of_none T4.top ht
          refine ⟨lt, _, _, rfl, rfl, (by rw [upd_ne nlt]; exact T4.top), small1000 (by rw [List.length_map]; omega), ?_⟩
          rw [show V.int (0 + (j : Int)) = V.int (j : Int) by rw [Int.zero_add], show V.int (0 + (i : Int)) = V.int (i : Int) by rw [Int.zero_add]]
          refine ⟨zs ++ [(t, j, i)], _, _, rfl, fun b o e => ?_, T4.push ht hj' (by omega) (fun x y h => by omega) (by omega), by simp; omega⟩
          rw [upd_ne (ne_of_none e hlt), upd_ne (ne_of_none (s4 _ _ (s3 _ _ e)) ht)]
          exact s4 _ _ (s3 _ _ e)
        · exact ⟨zs, _, _, rfl, s3.trans s4, T4.mono (fun x y h => by omega), by omega⟩
      · rintro σ H3 ⟨zs, v5, v6, rfl, s3, T3, hz⟩
        exact ⟨zs, _, v5, v6, rfl, s3, ⟨T3.top, T3.at_, T3.nd, fun z hz => ⟨(T3.ok z hz).1, by
          have h1 := (T3.ok z hz).1
          have h2 := (T3.ok z hz).2
          omega⟩⟩, by omega⟩
    · rintro σ H2 ⟨zs, v4, v5, v6, rfl, s2, T2, hz⟩
      have fin : ∀ (ls : Addr) (g : Nat → Bool) (H3 : Hp), Same H2 H3 → H3 ls = some (.lst (rowV N.toNat g)) → H2 ls = none → ∀ p, H3 p = none → Q (.ref p) (upd H3 p (.tup [.int N, .ref lt, .ref ls])) := fun ls g H3 s3 hls nls p hp => by
        have s4 : Same H3 (upd H3 p (.tup [.int N, .ref lt, .ref ls])) := Same.laid hp
        refine k p lt ls zs N.toNat g _ ((s2.trans s3).trans s4) (by omega) (by omega) (by rw [upd_same, en]) ((T2.same s3).same s4) (by omega) (s4 _ _ hls) hlt (s2.free nls) (by rw [en, hN])
      refine ⟨_, rfl, N, rfl, by omega, by omega, comp_range (n := N.toNat) (fun _ => true) (fun _ => V.bl false) (by omega) (fun j Hc k _ _ q => q) (fun j Hc k _ _ _ q => q) fun ls hls => ?_⟩
      rw [show ((List.range N.toNat).filter (fun _ => true)).map (fun _ => V.bl false) = rowV N.toNat (fun _ => false) from rowV_comp _ _]
      have s3 : Same H2 (upd H2 ls (.lst (rowV N.toNat fun _ => false))) := Same.laid hls
      refine ⟨_, rfl, a, ns, 1, rfl, by decide, (s2.trans s3).seq hs, _, _, rfl, rfl, divI rfl, _, _, rfl, rfl, posI rfl, rfl, _, rfl, ?_⟩
      refine ite2 (fun c => ?_) (fun c => ?_)
      · refine ⟨_, rfl, N, rfl, by omega, by omega, comp_range (n := N.toNat) (fun _ => true) (fun j => V.bl (decide (V.int (mixF (cellF ns 10) (0 + (j : Int)) / 7 % 3) = V.int 0))) (by omega) (fun j Hc k _ _ q => q) (fun j Hc k _ _ sm q => ?_) fun l2 hl2 => ?_⟩
        · exact ⟨_, rfl, a, ns, 10, rfl, by decide, ((s2.trans s3).trans sm).seq hs, _, rfl, _, _, rfl, _, _, rfl, rfl, divI rfl, _, _, rfl, rfl, posI rfl, rfl, q⟩
        · rw [rowV_comp]
          exact ⟨_, rfl, _, rfl, _, rfl, (by show 3 ≤ sizeLine; decide), fin l2 _ _ (s3.trans (Same.laid hl2)) upd_same (s3.free hl2)⟩
      · exact ⟨_, rfl, _, rfl, _, rfl, (by show 3 ≤ sizeLine; decide), fin ls _ _ s3 upd_same hls⟩
theorem ok_drawn {f : Addr} {fd : FuncData} (F : Fun K "_law_drawn" "_law_drawn" s_drawn f fd) (T : LB mg) (hC : Has P w K mg base CX0 1 "_law_cell_at" ["script", "k"] (spCell K)) (hM : Has P w K mg base CX0 1 "_law_many" ["cell"] spMany) (hX : Has P w K mg base CX0 1 "_law_mix" ["cell", "k"] spMix) :
    FnOk P w K mg base CX0 2 f fd ["script"] (spDrawn K) := fn_weaken (ok_drawnN F T hC hM hX) fun vs H Q E ⟨a, ns, e, hs, k⟩ => ⟨a, ns, e, hs, fun t lt ls zs n f H' h1 h2 h3 h4 h5 h6 h7 h8 h9 _ => k t lt ls zs n f H' h1 h2 h3 h4 h5 h6 h7 h8 h9⟩
end
end Lp

/-! ## the law's own yard, its turns, lights and presses -/
namespace Lp
open PySem L2 Lamp
abbrev s_built : Stmt := (.Pass ⟨0, 0, 0, 0⟩)
theorem YardAt.congr {C : Addr} {H : Hp} {p dx r : Addr} {qs : List Addr} {n : Nat} {M N : Nat → Nat → Bool} (Y : YardAt C H p dx r qs n M) (h : ∀ i j, i < n → j < n → M i j = N i j) : YardAt C H p dx r qs n N :=
  ⟨Y.ob, Y.rw, Y.ln, Y.nd, fun i q e => by
    have hi : i < n := by rw [← Y.ln]; exact (List.getElem?_eq_some_iff.mp e).1
    rw [Y.at_ i q e, rowV_congr fun j hj => h i j hi hj]⟩
def Left (qs : List Addr) (H H' : Hp) : Prop := ∀ c o, H c = some o → c ∉ qs → H' c = some o
theorem Left.same {qs : List Addr} {H0 H H' : Hp} (l : Left qs H H') (s : Same H0 H) (fr : ∀ q ∈ qs, H0 q = none) : Same H0 H' := fun b o e => l b o (s b o e) fun z => by
  rw [fr b z] at e
  cases e
theorem TiesP.turned {H : Hp} {lt : Addr} {zs us : List (Addr × Nat × Nat)} {p : Nat → Nat → Prop} (T : TiesP H lt zs p) (h : ∀ u ∈ us, u ∈ zs) {x y : Nat} (hxy : x < y) : (y, x) ∉ us.map (·.2) := fun m => by
  obtain ⟨u, hu, e⟩ := List.mem_map.mp m
  have := (T.ok u (h u hu)).1
  rw [e] at this
  exact absurd this (by show ¬ y < x; omega)
section
variable {P : Program} {w : World} {K : PySem.W.Frag} {mg : Str → Option Value} {base : Heap} {C NL AL NY TD UT : Addr}
end
end Lp

/-! ## what the laws share -/
namespace Lp
open PySem L2 Lamp
def spLaw (K : PySem.W.Frag) : Sp := fun vs H Q _ => ∃ (a : Addr) (ns : List Int), vs = [.ref a] ∧ SqL K H a (ns.map V.int) ∧ ns.length ≤ 63 ∧ ∀ H', Q (.bl true) H'
end Lp

/-! ## a tie among the drawn ones -/
namespace Lp
open PySem L2 Lamp
theorem tie_in {H : Hp} {lt : Addr} {zs : List (Addr × Nat × Nat)} {p : Nat → Nat → Prop} (T : TiesP H lt zs p) (x y : Nat) : ((zs.map (·.1)).any fun a => eqVs (tupAt H a) [.int (x : Int), .int (y : Int)]) = (zs.map (·.2)).contains (x, y) := by
  rw [Bool.eq_iff_iff, List.any_eq_true, List.contains_iff_mem]
  constructor
  · rintro ⟨a, ha, e⟩
    obtain ⟨z, hz', rfl⟩ := List.mem_map.mp ha
    rw [tupAt_of (T.at_ z hz')] at e
    obtain ⟨za, zb, zc⟩ := z
    simp [eqVs, eqV] at e
    refine List.mem_map.mpr ⟨(za, zb, zc), hz', ?_⟩
    show (zb, zc) = (x, y)
    congr 1 <;> omega
  · intro h
    obtain ⟨z, hz', e⟩ := List.mem_map.mp h
    refine ⟨z.1, List.mem_map.mpr ⟨z, hz', rfl⟩, ?_⟩
    rw [tupAt_of (T.at_ z hz'), e]
    simp [eqVs, eqV]
end Lp

/-! ## rows left alone -/
namespace Lp
open PySem L2 Lamp
theorem Left.trans {qs : List Addr} {H H' H'' : Hp} (a : Left qs H H') (b : Left qs H' H'') : Left qs H H'' := fun c o e h => b c o (a c o e h) h
theorem Left.of {qs : List Addr} {H H' : Hp} (s : Same H H') : Left qs H H' := fun c o e _ => s c o e
theorem YardAt.not_row {C : Addr} {H : Hp} {p dx r : Addr} {qs : List Addr} {n : Nat} {M : Nat → Nat → Bool} (Y : YardAt C H p dx r qs n M) {c : Addr} (h : H c = none) : c ∉ qs := fun z => by
  obtain ⟨i, hi⟩ := List.getElem?_of_mem z
  rw [Y.at_ i c hi] at h
  cases h
theorem iteFe {c : Bool} {A B : Prop} (e : c = false) (h : B) : if c = true then A else B := by
  subst e
  exact iteF h
end Lp

/-! ## notes: a yard's text -/
namespace Lp
open PySem L2 Lamp
abbrev s_shown_lamp : Stmt := top 19
abbrev s_shown : Stmt := top 20
abbrev s_text : Stmt := top 28
def numS (i : Int) : Str := Str.ofString (toString i)
def wordS (b : Bool) : Str := if b = true then "shy" else "lamp"
def lineW (M : Nat → Nat → Bool) (i : Nat) : List Str := wordS (!M i i) :: ((List.range i).filter (M i)).map fun j : Nat => numS (j : Int)
def lineS (M : Nat → Nat → Bool) (i : Nat) : Str := Txt.join " " (lineW M i)
def linesS (n : Nat) (M : Nat → Nat → Bool) : List Str := (List.range n).map (lineS M)
def textS (n : Nat) (M : Nat → Nat → Bool) : Str := Txt.join "\n" (linesS n M)
theorem log_small {j : Nat} (h : j < 1900) : (0 + (j : Int)).natAbs.log2 < 1920 := by
  have e : (0 + (j : Int)).natAbs = j := by omega
  rw [e]
  exact Nat.lt_of_le_of_lt (Nat.log2_le_self j) (by omega)
theorem log_small2 {j : Nat} (h : j < 1900) : ((j : Nat) : Int).natAbs.log2 < 1920 := by
  have := log_small h
  rwa [Int.zero_add] at this
theorem numS_len : ∀ j : Nat, j < 24 → (numS (j : Int)).length ≤ 2 := by decide +kernel
theorem wordS_len (b : Bool) : (wordS b).length ≤ 4 := by cases b <;> decide +kernel
theorem blank_len : (" " : Str).length = 1 := by decide +kernel
theorem str_app (a b : Str) : (a ++ b).cps = a.cps ++ b.cps := rfl
theorem str_len (a b : Str) : (a ++ b).length = a.length + b.length := by
  show (a.cps ++ b.cps).size = a.cps.size + b.cps.size
  rw [Array.size_append]
def accS (M : Nat → Nat → Bool) (i : Nat) (w : Str) (j : Nat) : Str := ((List.range j).filter (M i)).foldl (fun acc o => acc ++ " " ++ numS ((o : Nat) : Int)) w
theorem accS_step (M : Nat → Nat → Bool) (i : Nat) (w : Str) (j : Nat) : accS M i w (j + 1) = if M i j = true then accS M i w j ++ " " ++ numS ((j : Nat) : Int) else accS M i w j := by
  unfold accS
  rw [List.range_succ, List.filter_append, List.foldl_append]
  cases h : M i j <;> simp [h]
theorem accS_len (M : Nat → Nat → Bool) (i : Nat) (w : Str) : ∀ j, j ≤ 24 → (accS M i w j).length ≤ w.length + 3 * j
  | 0, _ => by simp [accS]
  | j + 1, h => by
    have ih := accS_len M i w j (by omega)
    rw [accS_step]
    cases hM : M i j with
    | true =>
      simp only [↓reduceIte]
      rw [str_len, str_len, blank_len]
      have := numS_len j (by omega)
      omega
    | false =>
      simp only [Bool.false_eq_true, ↓reduceIte]
      omega
theorem fold_cps (xs : List Nat) : ∀ w : Str, (xs.foldl (fun acc o => acc ++ " " ++ numS ((o : Nat) : Int)) w).cps = (xs.map fun j : Nat => numS (j : Int)).foldl (fun acc p => acc ++ (" " : Str).cps ++ p.cps) w.cps := by
  induction xs with
  | nil => intro w; rfl
  | cons x xs ih =>
    intro w
    rw [List.foldl_cons, List.map_cons, List.foldl_cons, ih]
    rfl
theorem accS_line (M : Nat → Nat → Bool) (i : Nat) : accS M i (wordS (!M i i)) i = lineS M i := by
  unfold lineS lineW Txt.join Builtin.Str.glued
  simp only [List.drop_succ_cons, List.drop_zero, List.headD_cons]
  rw [← fold_cps]
  rfl
theorem lineS_len (M : Nat → Nat → Bool) {i : Nat} (h : i < 24) : (lineS M i).length ≤ 76 := by
  rw [← accS_line]
  have := accS_len M i (wordS (!M i i)) i (by omega)
  have := wordS_len (!M i i)
  omega
theorem sum_le {l : List Str} {b : Nat} (h : ∀ s ∈ l, s.length ≤ b) : (l.map (·.length)).sum ≤ l.length * b := by
  induction l with
  | nil => simp
  | cons a l ih =>
    have h1 := h a List.mem_cons_self
    have h2 := ih fun s hs => h s (List.mem_cons_of_mem _ hs)
    simp only [List.map_cons, List.sum_cons, List.length_cons, Nat.succ_mul]
    omega
theorem linesS_ok {n : Nat} (M : Nat → Nat → Bool) (hn : n ≤ 24) : ((linesS n M).map (·.length)).sum + (linesS n M).length ≤ 1048576 := by
  have h1 := sum_le (l := linesS n M) (b := 76) fun s hs => by
    obtain ⟨i, hi, rfl⟩ := List.mem_map.mp hs
    exact lineS_len M (by have := List.mem_range.mp hi; omega)
  have h2 : (linesS n M).length = n := by simp [linesS]
  rw [h2] at h1 ⊢
  have : n * 76 ≤ 24 * 76 := Nat.mul_le_mul_right _ hn
  omega
theorem words_ok (M : Nat → Nat → Bool) {i : Nat} (hi : i < 24) : ((lineW M i).map (·.length)).sum + (lineW M i).length ≤ 1048576 := by
  have h1 := sum_le (l := lineW M i) (b := 4) fun s hs => by
    rcases List.mem_cons.mp hs with e | hs
    · rw [e]
      exact wordS_len _
    · obtain ⟨j, hj, rfl⟩ := List.mem_map.mp hs
      have := List.mem_range.mp (List.mem_filter.mp hj).1
      have := numS_len j (by omega)
      omega
  have h2 : (lineW M i).length ≤ 24 := by
    unfold lineW
    rw [List.length_cons, List.length_map]
    have := List.length_filter_le (M i) (List.range i)
    rw [List.length_range] at this
    omega
  have : (lineW M i).length * 4 ≤ 24 * 4 := Nat.mul_le_mul_right _ h2
  omega
theorem linesS_congr {n : Nat} {M N : Nat → Nat → Bool} (h : ∀ i j, i < n → j < n → M i j = N i j) : linesS n M = linesS n N := by
  unfold linesS
  apply List.map_congr_left
  intro i hi
  have hi := List.mem_range.mp hi
  unfold lineS lineW
  rw [h i i hi hi]
  congr 3
  apply List.filter_congr
  intro j hj
  exact h i j hi (by have := List.mem_range.mp hj; omega)
section
variable {P : Program} {w : World} {K : PySem.W.Frag} {mg : Str → Option Value} {base : Heap} {C NL AL : Addr}
def spShownLamp (C : Addr) : Sp := fun vs H Q _ => ∃ (p dx r : Addr) (qs : List Addr) (n : Nat) (M : Nat → Nat → Bool) (i : Nat), vs = [.ref p, .int (i : Int)] ∧ YardAt C H p dx r qs n M ∧ n ≤ 24 ∧ i < n ∧ ∀ H', Same H H' → Q (.str (lineS M i)) H'
theorem sc_shown_lamp : FnScope ["yard", "lamp", "word"] ["yard", "lamp"] (defScope s_shown_lamp) := ⟨rfl, rfl, rfl, by decide +kernel, rfl, by decide +kernel, by decide +kernel⟩
theorem ok_shown_lamp {f : Addr} {fd : FuncData} (F : Fun K "shown_lamp" "shown_lamp" s_shown_lamp f fd) (T : LB mg) (hM_is_shy : HasM P w K mg base (CXE P w) 2 C "is_shy" ["self", "lamp"] [] (spIsShy C NL)) (hM_is_tied : HasM P w K mg base (CXE P w) 3 C "is_tied" ["self", "one", "other"] [] (spIsTied C NL AL)) : FnOk P w K mg base CX0 4 f fd ["yard", "lamp"] (spShownLamp C) := by
  refine F.ok sc_shown_lamp (fun vs H Q E h => ?_) (fun cdv A outer s H vs Q E hr h => ?_)
  · obtain ⟨p, dx, r, qs, n, M, i, rfl, _⟩ := h
    rfl
  · obtain ⟨p, dx, r, qs, n, M, i, rfl, Y, hn, hi, k⟩ := h
    refine ⟨_, ((L2.pss_cons (ps_set (i := 2) sc_shown_lamp.nd rfl (by first | exact Or.inl rfl | exact Or.inr rfl) (pe_ifStr (pt_val (pe_methH (pv 0) hM_is_shy (hr.mono (by decide)) (passN) (L2.pa_cons ((pv 1)) L2.pa_nil))))) (L2.pss_one (ps_ret (pe_bm PySem.F.plainAttrs_str PySem.F.slot_str_join PySem.F.type_str_join (mt_join K) (pe_str) (L2.pa_cons ((pe_op op_cat (pe_lst (L2.pa_cons ((pv 2)) L2.pa_nil)) (pe_compN (js := [0, 1]) rfl (by kernel_rfl) (pi_range1 rfl T.b_range (L2.pa_cons ((pv 1)) L2.pa_nil)) (fun _ _ _ _ _ => pf_one (pt_val (pe_methH (pv 1) hM_is_tied (hr.mono (by decide)) (passN) (L2.pa_cons ((pv 2)) (L2.pa_cons ((pv 0)) L2.pa_nil))))) (fun _ _ _ _ _ => (pe_callTy call_str_int rfl T.b_str bootB_str (L2.pa_cons ((pv 0)) L2.pa_nil)))))) L2.pa_nil)))))), ?_⟩
    have oki : okL n (i : Int) := ⟨by omega, by omega⟩
    refine ⟨_, rfl, p, dx, _, rfl, Y.ob, yf_no _ _ (by decide +kernel) (by decide +kernel), _, rfl, p, dx, r, qs, n, M, _, rfl, Y, fun _ => ⟨_, rfl, ?_⟩, fun bad => absurd oki bad⟩
    rw [show (i : Int).toNat = i by omega]
    refine ⟨rfl, _, rfl, (by show 1 ≤ sizeLine; decide), fun l1 hl1 => ?_⟩
    have t1 := Same.laid (o := .lst [.str (wordS (!M i i))]) hl1
    refine ⟨_, rfl, _, rfl, by omega, by omega, ?_⟩
    rw [show ((i : Int)).toNat = i by omega]
    refine comp_range (n := i) (M i) (fun j => V.str (numS ((j : Nat) : Int))) (by omega) (fun j Hc k' hj sm q => ?_) (fun j Hc k' hj _ sm q => ?_) fun D hD => ?_
    · have okj : okL n (0 + (j : Int)) := ⟨by omega, by omega⟩
      refine ⟨_, rfl, p, dx, _, rfl, ((Y.same t1).same sm).ob, yf_no _ _ (by decide +kernel) (by decide +kernel), _, rfl, _, rfl, p, dx, r, qs, n, M, _, _, rfl, (Y.same t1).same sm, fun _ => ⟨_, rfl, ?_⟩, fun bad => absurd ⟨oki, okj⟩ bad, fun al => absurd al.2.2 (by omega)⟩
      rw [show (i : Int).toNat = i by omega, show (0 + (j : Int)).toNat = j by omega]
      exact q
    · refine ⟨_, rfl, _, rfl, ?_, ?_⟩
      · exact log_small (by omega)
      · rw [Int.zero_add]
        exact q
    · have t2 := Same.laid (o := .lst (((List.range i).filter (M i)).map fun j : Nat => V.str (numS (j : Int)))) hD
      refine ⟨l1, D, _, _, rfl, rfl, t2 _ _ upd_same, upd_same, Nat.le_of_lt (small1000 (by simp; have := List.length_filter_le (M i) (List.range i); rw [List.length_range] at this; omega)), fun l3 hl3 => ?_⟩
      have t3 := Same.laid (o := .lst ([.str (wordS (!M i i))] ++ ((List.range i).filter (M i)).map fun j : Nat => V.str (numS (j : Int)))) hl3
      refine ⟨_, l3, lineW M i, rfl, rfl, SqL.of ?_, (by decide +kernel), words_ok M (by omega), k _ ((t1.trans t2).trans t3)⟩
      rw [upd_same]
      unfold lineW
      rw [List.map_cons, List.map_map]
      rfl
def spShown (C : Addr) : Sp := fun vs H Q _ => ∃ (p dx r : Addr) (qs : List Addr) (n : Nat) (M : Nat → Nat → Bool), vs = [.ref p] ∧ YardAt C H p dx r qs n M ∧ n ≤ 24 ∧ ∀ H', Same H H' → Q (.str (textS n M)) H'
theorem sc_shown : FnScope ["yard"] ["yard"] (defScope s_shown) := ⟨rfl, rfl, rfl, by decide +kernel, rfl, by decide +kernel, by decide +kernel⟩
theorem ok_shown {f : Addr} {fd : FuncData} (F : Fun K "shown" "shown" s_shown f fd) (T : LB mg) (Y0 : Cls K C) (nM : NoAttr K C "many") (hF_shown_lamp : Has P w K mg base (CXE P w) 4 "shown_lamp" ["yard", "lamp"] (spShownLamp C)) : FnOk P w K mg base CX0 5 f fd ["yard"] (spShown C) := by
  refine F.ok sc_shown (fun vs H Q E h => ?_) (fun cdv A outer s H vs Q E hr h => ?_)
  · obtain ⟨p, dx, r, qs, n, M, rfl, _⟩ := h
    rfl
  · obtain ⟨p, dx, r, qs, n, M, rfl, Y, hn, k⟩ := h
    refine ⟨_, ((L2.pss_one (ps_ret (pe_bm PySem.F.plainAttrs_str PySem.F.slot_str_join PySem.F.type_str_join (mt_join K) (pe_str) (L2.pa_cons ((pe_compN (js := [0]) rfl (by kernel_rfl) (pi_range1 rfl T.b_range (L2.pa_cons ((fldK K (pv 0))) L2.pa_nil)) (fun _ _ _ _ _ => pf_nil) (fun _ _ _ _ _ => (pe_callH hF_shown_lamp (hr.mono (by decide)) rfl (passN) (L2.pa_cons ((pv 1)) (L2.pa_cons ((pv 0)) L2.pa_nil)))))) L2.pa_nil))))), ?_⟩
    refine ⟨rfl, _, rfl, p, C, dx, _, _, rfl, Y.ob, Y0, nM, yf_many _ _, n, rfl, by omega, by omega, comp_rangeG (n := n) (fun _ => true) (fun i => V.str (lineS M i)) (by omega) (fun j Hc k' hj sm q => q _ (Same.refl _)) (fun j Hc k' hj _ sm q => ?_) fun D H2 hD s2 h2 => ?_⟩
    · refine ⟨_, rfl, _, rfl, p, dx, r, qs, n, M, j, (by rw [Int.zero_add]; rfl), Y.same sm, hn, hj, fun H' s' => q _ s'⟩
    · rw [filt_t] at h2
      refine ⟨_, D, linesS n M, rfl, rfl, SqL.of ?_, (by decide +kernel), linesS_ok M hn, k _ s2⟩
      rw [h2]
      unfold linesS
      rw [List.map_map]
      rfl
def spText : Sp := fun vs H Q _ => ∃ (lt ls : Addr) (zs : List (Addr × Nat × Nat)) (n : Nat) (f : Nat → Bool), vs = [.int (n : Int), .ref lt, .ref ls] ∧ n ≤ 24 ∧ TiesAt H lt zs n ∧ zs.length ≤ 600 ∧ H ls = some (.lst (rowV n f)) ∧
  ∀ (D : Addr) (H' : Hp), H D = none → Same H H' → H' D = some (.lst ((linesS n (mat (zs.map (·.2)) f)).map V.str)) → Q (.ref D) H'
theorem sc_text : FnScope ["many", "ties", "shy", "found", "lamp", "line", "other"] ["many", "ties", "shy"] (defScope s_text) := ⟨rfl, rfl, rfl, by decide +kernel, rfl, by decide +kernel, by decide +kernel⟩
theorem ok_text {f : Addr} {fd : FuncData} (F : Fun K "_law_text" "_law_text" s_text f fd) (T : LB mg) : FnOk P w K mg base CX0 3 f fd ["many", "ties", "shy"] spText := by
  refine F.ok sc_text (fun vs H Q E h => ?_) (fun cdv A outer s H vs Q E hr h => ?_)
  · obtain ⟨lt, ls, zs, n, f, rfl, _⟩ := h
    rfl
  · obtain ⟨lt, ls, zs, n, f, rfl, hn, hT, hz, hS, k⟩ := h
    have hu : (A.deeper (PyProof.Rows.envOfC "_law_text" (defScope s_text) s.heap.objs.size _ cdv)).in1.units < cLine := ((hr.mono (by decide) : Room 2 _).in1).units0
    refine ⟨_, ((L2.pss_cons (ps_set (i := 3) sc_text.nd rfl (by first | exact Or.inl rfl | exact Or.inr rfl) (pe_lst L2.pa_nil)) (L2.pss_cons (ps_for PassesOwn.never rfl (pi_range1 rfl T.b_range (L2.pa_cons ((pv 0)) L2.pa_nil)) (pg_name (i := 4) sc_text.nd rfl (by first | exact Or.inl rfl | exact Or.inr rfl)) ((L2.pss_cons (ps_set (i := 5) sc_text.nd rfl (by first | exact Or.inl rfl | exact Or.inr rfl) (pe_ifStr (pt_val (pe_ix (ixLK K) (pv 2) (pv 4) (fun _ _ => rfl))))) (L2.pss_cons (ps_for PassesOwn.never rfl (pi_range1 rfl T.b_range (L2.pa_cons ((pv 4)) L2.pa_nil)) (pg_name (i := 6) sc_text.nd rfl (by first | exact Or.inl rfl | exact Or.inr rfl)) ((L2.pss_one (ps_if (pt_cmpR (inTK K hu) (pe_tup (L2.pa_cons ((pv 6)) (L2.pa_cons ((pv 4)) L2.pa_nil))) (pv 1) rfl) ((L2.pss_one (ps_set (i := 5) sc_text.nd rfl (by first | exact Or.inl rfl | exact Or.inr rfl) (pe_op op_add_str (pe_op op_add_str (pv 5) (pe_str)) (pe_callTy call_str_int rfl T.b_str bootB_str (L2.pa_cons ((pv 6)) L2.pa_nil)))))) pss_nil)))) (L2.pss_one (ps_expr (pe_bm PySem.F.plainAttrs_list PySem.F.slot_list_append PySem.F.type_list_append mt_append (pv 3) (L2.pa_cons ((pv 5)) L2.pa_nil)))))))) (L2.pss_one (ps_ret (pv 3)))))), ?_⟩
    generalize hMM : mat (zs.map (·.2)) f = M at k
    refine ⟨Nat.zero_le _, fun D hD => ?_⟩
    have s0 := Same.laid (o := .lst []) hD
    refine ⟨_, rfl, n, rfl, by omega, by omega, for_range (lo := 0) (n := n) (fun i σ H2 => ∃ (v4 v5 v6 : Option V), σ = [some (.int (n : Int)), some (.ref lt), some (.ref ls), some (.ref D), v4, v5, v6] ∧ Same H H2 ∧ H2 D = some (.lst ((linesS i M).map V.str)))
      ⟨none, none, none, rfl, s0, upd_same⟩ ?_ ?_⟩
    · rintro i σ H2 hi ⟨v4, v5, v6, rfl, s2, h2⟩
      have hi' : i < n := by omega
      have ix : atI (rowV n f) (0 + (i : Int)) = some (.bl (f i)) := atI_of (by omega) (by rw [show (0 + (i : Int)).toNat = i by omega]; exact rowV_at f hi')
      have eM : M i i = !f i := by rw [← hMM]; simp [mat]
      refine ⟨_, rfl, _, rfl, ls, _, _, _, rfl, rfl, SqL.of (s2 _ _ hS), ix, _, rfl, ?_⟩
      refine ⟨_, rfl, _, rfl, by omega, by omega, for_range (lo := 0) (n := (0 + (i : Int)).toNat) (fun j σ H3 => ∃ (v6 : Option V), σ = [some (.int (n : Int)), some (.ref lt), some (.ref ls), some (.ref D), some (.int (0 + (i : Int))), some (.str (accS M i (wordS (f i)) j)), v6] ∧ Same H H3 ∧ H3 D = some (.lst ((linesS i M).map V.str)))
        ⟨v6, rfl, s2, h2⟩ ?_ ?_⟩
      · rintro j σ H3 hj ⟨v6, rfl, s3, h3⟩
        have hj' : j < i := by omega
        refine ⟨_, rfl, _, rfl, (by show 2 ≤ sizeLine; decide), fun t ht => ?_⟩
        rw [show V.int (0 + (j : Int)) = V.int (j : Int) by rw [Int.zero_add], show V.int (0 + (i : Int)) = V.int (i : Int) by rw [Int.zero_add]]
        have t4 := Same.laid (o := .tup [.int (j : Int), .int (i : Int)]) ht
        have T4 := (hT.same s3).same t4
        refine ⟨_, rfl, t, _, lt, zs.map (·.1), rfl, SqT.of upd_same, rfl, rfl, SqL.of (by rw [T4.top, List.map_map]; rfl), (fun a ha => ?_), _, rfl, ?_⟩
        · obtain ⟨z, hz', rfl⟩ := List.mem_map.mp ha
          rw [tupAt_of (T4.at_ z hz')]
          exact ⟨T4.at_ z hz', rfl⟩
        rw [if_neg Bool.false_ne_true, tie_in T4 j i]
        have eq : M i j = (zs.map (·.2)).contains (j, i) := by
          have srt : (i, j) ∉ zs.map (·.2) := hT.turned (us := zs) (fun u hu => hu) hj'
          rw [← hMM]
          unfold mat
          rw [if_neg (by omega), Bool.or_eq_right_iff_imp.mpr]
          intro z
          exact absurd (List.contains_iff_mem.mp z) srt
        rw [← eq]
        have la := accS_len M i (wordS (f i)) j (by omega)
        have lw := wordS_len (f i)
        have ln := numS_len j (by omega)
        cases hM : M i j with
        | true =>
          refine iteT ⟨_, rfl, _, _, rfl, rfl, (by rw [blank_len, sizeLine_eq]; omega), _, rfl, _, rfl, log_small2 (by omega), ?_⟩
          refine ⟨_, _, rfl, rfl, (by rw [str_len, blank_len, sizeLine_eq]; show _ + (numS ((j : Nat) : Int)).length ≤ _; omega), some (.int (j : Int)), ?_, s3.trans t4, t4 _ _ h3⟩
          rw [accS_step, hM]
          rfl
        | false =>
          refine iteF ⟨some (.int (j : Int)), ?_, s3.trans t4, t4 _ _ h3⟩
          rw [accS_step, hM]
          rfl
      · rintro σ H3 ⟨v6, rfl, s3, h3⟩
        rw [show (0 + (i : Int)).toNat = i by omega]
        have ew : accS M i (wordS (f i)) i = lineS M i := by
          rw [← accS_line, eM, Bool.not_not]
        rw [ew]
        have len : ((linesS i M).map V.str).length = i := by simp [linesS]
        refine ⟨_, rfl, .inl ⟨rfl, _, SqL.of h3⟩, _, rfl, D, _, _, rfl, rfl, h3, small1000 (by rw [len]; omega), _, _, _, rfl, fun c o e => ?_, ?_⟩
        · rw [upd_ne (ne_of_none e hD)]
          exact s3 _ _ e
        · rw [upd_same]
          unfold linesS
          rw [List.range_succ, List.map_append, List.map_append]
          rfl
    · rintro σ H2 ⟨v4, v5, v6, rfl, s2, h2⟩
      exact ⟨_, rfl, k D H2 hD s2 h2⟩
end
end Lp

/-! ## read: what a text is taken for -/
namespace Lp
open PySem L2 Lamp
abbrev s_take_lamp : Stmt := top 21
abbrev s_read : Stmt := top 22
theorem nl_is : ("\n" : Str) = ⟨#[10]⟩ := by decide +kernel
theorem bl_is : (" " : Str) = ⟨#[32]⟩ := by decide +kernel
def takeM (M : Nat → Nat → Bool) (i : Nat) (w0 : Str) (ws : List Str) (j : Nat) (a b : Nat) : Bool :=
  if a = i ∧ b = i then !decide (w0 = "shy") else if (a = i ∧ b < j ∧ numS (b : Int) ∈ ws) ∨ (b = i ∧ a < j ∧ numS (a : Int) ∈ ws) then true else M a b
theorem cut_one (x : V) (l : List V) : cutV (x :: l) (some 1) none = l := by
  unfold cutV
  have h1 : HT.sIx (x :: l).length 0 (some 1) = 1 := by
    unfold HT.sIx
    simp
    try omega
  have h2 : HT.sIx (x :: l).length (x :: l).length none = (x :: l).length := by
    unfold HT.sIx
    simp
  rw [h1, h2]
  simp
theorem inV_str (x : Str) (l : List Str) : inV (.str x) (l.map V.str) = decide (x ∈ l) := by
  unfold inV
  rw [Bool.eq_iff_iff, List.any_eq_true, decide_eq_true_eq]
  constructor
  · rintro ⟨y, hy, e⟩
    obtain ⟨z, hz, rfl⟩ := List.mem_map.mp hy
    have : z = x := by simpa [eqV] using e
    rw [← this]
    exact hz
  · intro h
    exact ⟨.str x, List.mem_map.mpr ⟨x, h, rfl⟩, by simp [eqV]⟩
theorem strs_flat (l : List Str) : (l.map V.str).all flatV = true := by simp [flatV]
section
variable {P : Program} {w : World} {K : PySem.W.Frag} {mg : Str → Option Value} {base : Heap} {C NL AL NY TD NN : Addr}
def spTake (C : Addr) : Sp := fun vs H Q _ => ∃ (p dx r : Addr) (qs : List Addr) (n : Nat) (M : Nat → Nat → Bool) (i : Nat) (W : Addr) (w0 : Str) (ws : List Str), vs = [.ref p, .int (i : Int), .ref W] ∧ YardAt C H p dx r qs n M ∧ n ≤ 24 ∧ i < n ∧ H W = some (.lst ((w0 :: ws).map V.str)) ∧ W ∉ qs ∧
  (∀ j, j < i → M i j = false) ∧ ∀ H', Left qs H H' → YardAt C H' p dx r qs n (takeM M i w0 ws i) → Q .non H'
theorem sc_take_lamp : FnScope ["yard", "lamp", "words", "other"] ["yard", "lamp", "words"] (defScope s_take_lamp) := ⟨rfl, rfl, rfl, by decide +kernel, rfl, by decide +kernel, by decide +kernel⟩
theorem ok_take_lamp {f : Addr} {fd : FuncData} (F : Fun K "take_lamp" "take_lamp" s_take_lamp f fd) (T : LB mg) (hM_tie : HasM P w K mg base (CXE P w) 4 C "tie" ["self", "one", "other"] [] (spTie C NL AL TD true)) (hM_set_shy3 : HasM P w K mg base (CXE P w) 2 C "set_shy" ["self", "lamp", "answer"] [] (spShy C NL)) : FnOk P w K mg base CX0 5 f fd ["yard", "lamp", "words"] (spTake C) := by
  refine F.ok sc_take_lamp (fun vs H Q E h => ?_) (fun cdv A outer s H vs Q E hr h => ?_)
  · obtain ⟨p, dx, r, qs, n, M, i, W, w0, ws, rfl, _⟩ := h
    rfl
  · obtain ⟨p, dx, r, qs, n, M, i, W, w0, ws, rfl, Y, hn, hi, hW, nW, hno, k⟩ := h
    refine ⟨_, ((L2.pss_cons (ps_expr (pe_methH (pv 0) hM_set_shy3 (hr.mono (by decide)) (passN) (L2.pa_cons ((pv 1)) (L2.pa_cons ((pe_cmpR op_eq (pe_ix (ixLK K) (pv 2) (pe_int) (fun _ _ => rfl)) (pe_str) (nomark _))) L2.pa_nil)))) (L2.pss_one (ps_for PassesOwn.never rfl (pi_range1 rfl T.b_range (L2.pa_cons ((pv 1)) L2.pa_nil)) (pg_name (i := 3) sc_take_lamp.nd rfl (by first | exact Or.inl rfl | exact Or.inr rfl)) ((L2.pss_one (ps_if (pt_cmpR (inSK K) (pe_callTy call_str_int rfl T.b_str bootB_str (L2.pa_cons ((pv 3)) L2.pa_nil)) (pe_slice (slLK K) (pv 2) (po_some (pe_int)) po_none) rfl) ((L2.pss_one (ps_expr (pe_methH (pv 0) hM_tie (hr.mono (by decide)) (passN) (L2.pa_cons ((pv 1)) (L2.pa_cons ((pv 3)) L2.pa_nil)))))) pss_nil))))))), ?_⟩
    have oki : okL n (i : Int) := ⟨by omega, by omega⟩
    have i0 : atI ((w0 :: ws).map V.str) 0 = some (.str w0) := atI_nat (j := 0) rfl
    refine ⟨_, rfl, p, dx, _, rfl, Y.ob, yf_no _ _ (by decide +kernel) (by decide +kernel), _, rfl, _, rfl, W, _, _, _, rfl, rfl, SqL.of hW, i0, rfl, p, dx, r, qs, n, M, _, _, rfl, Y, fun _ H1 Y1 fr1 => ?_, fun bad => absurd oki bad⟩
    rw [show (i : Int).toNat = i by omega] at Y1
    have fr1 : Left qs H H1 := fr1
    have Y1 := Y1.congr (N := takeM M i w0 ws 0) fun a b _ _ => by
      unfold putD takeM
      by_cases h : a = i ∧ b = i
      · rw [if_pos h, if_pos h]
        have e : decide (V.str w0 = V.str "shy") = decide (w0 = "shy") := by
          rw [Bool.eq_iff_iff]
          simp
        rw [e]
      · rw [if_neg h, if_neg h, if_neg (by omega)]
    refine ⟨_, rfl, _, rfl, by omega, by omega, for_range (lo := 0) (n := i) (fun j σ H2 => ∃ (v3 : Option V), σ = [some (.ref p), some (.int (i : Int)), some (.ref W), v3] ∧ Left qs H H2 ∧ YardAt C H2 p dx r qs n (takeM M i w0 ws j))
      ⟨none, rfl, fr1, Y1⟩ ?_ ?_⟩
    · rintro j σ H2 hj ⟨v3, rfl, fr2, Y2⟩
      have okj : okL n (0 + (j : Int)) := ⟨by omega, by omega⟩
      have hW2 := fr2 _ _ hW nW
      refine ⟨_, rfl, _, rfl, log_small (by omega), _, rfl, 1, rfl, W, _, rfl, SqL.of hW2, fun l1 hl1 => ?_⟩
      rw [List.map_cons, cut_one]
      have t3 := Same.laid (o := .lst (ws.map V.str)) hl1
      have Y3 := Y2.same t3
      refine ⟨l1, _, rfl, .inl (SqL.of upd_same), rfl, strs_flat _, _, rfl, ?_⟩
      rw [if_neg Bool.false_ne_true, Int.zero_add]
      have ein : inV (.str (Str.ofString (toString ((j : Nat) : Int)))) (ws.map V.str) = decide (numS ((j : Nat) : Int) ∈ ws) := inV_str _ _
      rw [ein]
      by_cases hm : numS ((j : Nat) : Int) ∈ ws
      · rw [decide_eq_true hm]
        have M0 : takeM M i w0 ws j i j = false := by
          unfold takeM
          rw [if_neg (by omega), if_neg (by omega)]
          exact hno j (by omega)
        refine iteT ⟨_, rfl, p, dx, _, rfl, Y3.ob, yf_no _ _ (by decide +kernel) (by decide +kernel), _, rfl, _, rfl, p, dx, r, qs, n, _, _, _, rfl, Y3, fun _ H4 Y4 fr4 => ?_, fun bad => absurd ⟨oki, ⟨by omega, by omega⟩⟩ bad, fun al => absurd al.2.2 (by omega), fun td => ?_⟩
        · rw [show (i : Int).toNat = i by omega, show ((j : Nat) : Int).toNat = j by omega] at Y4
          refine ⟨_, rfl, (fr2.trans (Left.of t3)).trans fr4, Y4.congr fun a b _ _ => ?_⟩
          unfold put2 takeM
          by_cases h1 : a = i ∧ b = i
          · rw [if_neg (by omega), if_pos h1, if_pos h1]
          · rw [if_neg h1, if_neg h1]
            by_cases h2 : (a = i ∧ b = j) ∨ (a = j ∧ b = i)
            · rw [if_pos h2, if_pos]
              rcases h2 with ⟨e1, e2⟩ | ⟨e1, e2⟩
              · exact .inl ⟨e1, by omega, by rw [e2]; exact hm⟩
              · exact .inr ⟨e2, by omega, by rw [e1]; exact hm⟩
            · rw [if_neg h2]
              by_cases h3 : (a = i ∧ b < j ∧ numS (b : Int) ∈ ws) ∨ (b = i ∧ a < j ∧ numS (a : Int) ∈ ws)
              · rw [if_pos h3, if_pos]
                rcases h3 with ⟨e1, e2, e3⟩ | ⟨e1, e2, e3⟩
                · exact .inl ⟨e1, by omega, e3⟩
                · exact .inr ⟨e1, by omega, e3⟩
              · rw [if_neg h3, if_neg]
                rintro (⟨e1, e2, e3⟩ | ⟨e1, e2, e3⟩)
                · by_cases e : b = j
                  · exact h2 (.inl ⟨e1, e⟩)
                  · exact h3 (.inl ⟨e1, by omega, e3⟩)
                · by_cases e : a = j
                  · exact h2 (.inr ⟨e, e1⟩)
                  · exact h3 (.inr ⟨e1, by omega, e3⟩)
        · have td := td.2.2.2
          rw [show (i : Int).toNat = i by omega, show ((j : Nat) : Int).toNat = j by omega, M0] at td
          cases td
      · rw [decide_eq_false hm]
        refine iteF ⟨_, rfl, fr2.trans (Left.of t3), Y3.congr fun a b _ _ => ?_⟩
        unfold takeM
        by_cases h1 : a = i ∧ b = i
        · rw [if_pos h1, if_pos h1]
        · rw [if_neg h1, if_neg h1]
          by_cases h3 : (a = i ∧ b < j ∧ numS (b : Int) ∈ ws) ∨ (b = i ∧ a < j ∧ numS (a : Int) ∈ ws)
          · rw [if_pos h3, if_pos]
            rcases h3 with ⟨e1, e2, e3⟩ | ⟨e1, e2, e3⟩
            · exact .inl ⟨e1, by omega, e3⟩
            · exact .inr ⟨e1, by omega, e3⟩
          · rw [if_neg h3, if_neg]
            rintro (⟨e1, e2, e3⟩ | ⟨e1, e2, e3⟩)
            · by_cases e : b = j
              · rw [e] at e3
                exact hm e3
              · exact h3 (.inl ⟨e1, by omega, e3⟩)
            · by_cases e : a = j
              · rw [e] at e3
                exact hm e3
              · exact h3 (.inr ⟨e1, by omega, e3⟩)
    · rintro σ H2 ⟨v3, rfl, fr2, Y2⟩
      exact k H2 fr2 Y2
def wdS (ls : List Str) (i : Nat) : List Str := Txt.split (ls.getD i Str.empty) ⟨#[32]⟩
def readI (ls : List Str) (k a b : Nat) : Bool :=
  if a = b then (if a < k then !decide ((wdS ls a).headD Str.empty = "shy") else true) else decide (max a b < k ∧ numS ((min a b : Nat) : Int) ∈ (wdS ls (max a b)).tail)
def readM (ls : List Str) : Nat → Nat → Bool := readI ls ls.length
theorem read_step (ls : List Str) (i : Nat) {w0 : Str} {ws : List Str} (e : wdS ls i = w0 :: ws) (a b : Nat) : takeM (readI ls i) i w0 ws i a b = readI ls (i + 1) a b := by
  unfold takeM readI
  by_cases h1 : a = i ∧ b = i
  · obtain ⟨rfl, rfl⟩ := h1
    rw [if_pos ⟨rfl, rfl⟩, if_pos rfl, if_pos (by omega), e]
    rfl
  · rw [if_neg h1]
    by_cases hab : a = b
    · rw [if_neg (by omega), if_pos hab, if_pos hab]
      by_cases h2 : a < i
      · rw [if_pos h2, if_pos (by omega)]
      · rw [if_neg h2, if_neg (by omega)]
    · rw [if_neg hab, if_neg hab]
      by_cases h2 : a = i ∧ b < i
      · obtain ⟨rfl, h2⟩ := h2
        have m1 : max a b = a := by omega
        have m2 : min a b = b := by omega
        rw [m1, m2, e]
        by_cases h3 : numS (b : Int) ∈ ws
        · rw [if_pos (.inl ⟨rfl, h2, h3⟩), decide_eq_true ⟨by omega, h3⟩]
        · rw [if_neg (by rintro (⟨_, _, z⟩ | ⟨z, _, _⟩); { exact h3 z }; { omega }), decide_eq_false (by omega), decide_eq_false (fun z => h3 z.2)]
      · by_cases h4 : b = i ∧ a < i
        · obtain ⟨rfl, h4⟩ := h4
          have m1 : max a b = b := by omega
          have m2 : min a b = a := by omega
          rw [m1, m2, e]
          by_cases h3 : numS (a : Int) ∈ ws
          · rw [if_pos (.inr ⟨rfl, h4, h3⟩), decide_eq_true ⟨by omega, h3⟩]
          · rw [if_neg (by rintro (⟨z, _, _⟩ | ⟨_, _, z⟩); { omega }; { exact h3 z }), decide_eq_false (by omega), decide_eq_false (fun z => h3 z.2)]
        · rw [if_neg (by rintro (⟨z1, z2, _⟩ | ⟨z1, z2, _⟩); { exact h2 ⟨z1, z2⟩ }; { exact h4 ⟨z1, z2⟩ })]
          rw [Bool.eq_iff_iff, decide_eq_true_eq, decide_eq_true_eq]
          constructor
          · rintro ⟨z1, z2⟩
            exact ⟨by omega, z2⟩
          · rintro ⟨z1, z2⟩
            exact ⟨by omega, z2⟩
def spRead (C NN : Addr) : Sp := fun vs H Q E => ∃ text : Str, vs = [.str text] ∧ text.length ≤ 90000 ∧
  (((Txt.split text ⟨#[10]⟩).length ≤ 24 ∧ textS (Txt.split text ⟨#[10]⟩).length (readM (Txt.split text ⟨#[10]⟩)) = text) → ∀ (p dx r : Addr) (qs : List Addr) (H' : Hp), Same H H' → YardAt C H' p dx r qs (Txt.split text ⟨#[10]⟩).length (readM (Txt.split text ⟨#[10]⟩)) → H p = none → (∀ q ∈ qs, H q = none) → Q (.ref p) H') ∧
  (¬ ((Txt.split text ⟨#[10]⟩).length ≤ 24 ∧ textS (Txt.split text ⟨#[10]⟩).length (readM (Txt.split text ⟨#[10]⟩)) = text) → ∀ H', Same H H' → E (.ref NN) none H')
theorem piece_len {x : Str} {c : Nat} {p : Str} (h : p ∈ Txt.split x ⟨#[c]⟩) : p.length ≤ x.length := by
  have e := StrLaws.join_split x ⟨#[c]⟩
  have key : ∀ (l : List Str), p ∈ l → p.length ≤ (Str.join ⟨#[c]⟩ l).length := by
    intro l
    induction l with
    | nil => intro h; exact absurd h List.not_mem_nil
    | cons a l ih =>
      intro h
      cases l with
      | nil =>
        have : p = a := by simpa using h
        rw [this]
        exact Nat.le_refl _
      | cons b l =>
        show p.length ≤ (a ++ ⟨#[c]⟩ ++ Str.join ⟨#[c]⟩ (b :: l)).length
        rw [str_len, str_len]
        rcases List.mem_cons.mp h with e | h
        · rw [e]
          omega
        · have := ih h
          omega
  have := key _ h
  rw [e] at this
  exact this
theorem sc_read : FnScope ["text", "lines", "yard", "lamp", "line"] ["text"] (defScope s_read) := ⟨rfl, rfl, rfl, by decide +kernel, rfl, by decide +kernel, by decide +kernel⟩
theorem ok_read {f : Addr} {fd : FuncData} (F : Fun K "read" "read" s_read f fd) (T : LB mg) (gN : mg "NoNote" = some (.ref NN)) (xN : PySem.W.excIn K NN bmV "ValueError.__new__" = true) (gM : ∃ t, mg "MOST_LAMPS" = some (.int 24 t)) (hC_Yard : HasC P w K mg base (CXE P w) 2 C "Yard" ["self", "many"] (spInit C NY))
    (hF_take_lamp : Has P w K mg base (CXE P w) 5 "take_lamp" ["yard", "lamp", "words"] (spTake C)) (hF_shown : Has P w K mg base (CXE P w) 5 "shown" ["yard"] (spShown C)) : FnOk P w K mg base (CXE P w) 6 f fd ["text"] (spRead C NN) := by
  refine F.okE sc_read (fun vs H Q E h => ?_) (fun cdv A outer s H vs Q E hr h => ?_)
  · obtain ⟨text, rfl, _⟩ := h
    rfl
  · obtain ⟨text, rfl, htl, k1, k2⟩ := h
    obtain ⟨tM, gM⟩ := gM
    refine ⟨_, ((L2.pss_cons (ps_set (i := 1) sc_read.nd rfl (by first | exact Or.inl rfl | exact Or.inr rfl) (pe_bmK K PySem.F.plainAttrs_str PySem.F.slot_str_split PySem.F.type_str_split mt_split (pv 0) (L2.pa_cons ((pe_str)) L2.pa_nil))) (L2.pss_cons (ps_if (pt_cmpR op_gt (pe_callB (lenK K) rfl T.b_len bootB_len (L2.pa_cons ((pv 1)) L2.pa_nil)) (pe_glob (v := .int 24) rfl gM ⟨tM, rfl⟩) (nomark _)) ((L2.pss_one ((ps_raise (R := fun _ H => E (.ref NN) none H) rfl rfl gN xN fun pins σ H s h1 e args I hm hR => raiseE I hm hR)))) pss_nil) (L2.pss_cons (ps_set (i := 2) sc_read.nd rfl (by first | exact Or.inl rfl | exact Or.inr rfl) (pe_makeH hC_Yard (hr.mono (by decide)) rfl (passE.s) (L2.pa_cons ((pe_callB (lenK K) rfl T.b_len bootB_len (L2.pa_cons ((pv 1)) L2.pa_nil))) L2.pa_nil))) (L2.pss_cons (ps_forE (fun _ => (piEK K rfl T.b_enumerate (L2.pa_cons ((pv 1)) L2.pa_nil))) (fun _ => (pg_tupK (n := 2) K rfl (pgs_cons (pg_name (i := 3) sc_read.nd rfl (by first | exact Or.inl rfl | exact Or.inr rfl)) (pgs_cons (pg_name (i := 4) sc_read.nd rfl (by first | exact Or.inl rfl | exact Or.inr rfl)) (pgs_nil))))) (fun _ => ((L2.pss_one (ps_expr (pe_callH hF_take_lamp (hr.mono (by decide)) rfl (passT) (L2.pa_cons ((pv 2)) (L2.pa_cons ((pv 3)) (L2.pa_cons ((pe_bmK K PySem.F.plainAttrs_str PySem.F.slot_str_split PySem.F.type_str_split mt_split (pv 4) (L2.pa_cons ((pe_str)) L2.pa_nil))) L2.pa_nil))))))))) (L2.pss_cons (ps_if (pt_cmpR op_ne (pe_callH hF_shown (hr.mono (by decide)) rfl (passE.s) (L2.pa_cons ((pv 2)) L2.pa_nil)) (pv 0) (nomark _)) ((L2.pss_one ((ps_raise (R := fun _ H => E (.ref NN) none H) rfl rfl gN xN fun pins σ H s h1 e args I hm hR => raiseE I hm hR)))) pss_nil) (L2.pss_one (ps_ret (pv 2))))))))), ?_⟩
    generalize hls : Txt.split text ⟨#[10]⟩ = ls at k1 k2
    have hne : 1 ≤ ls.length := by
      have := split_ne text 10
      rw [hls] at this
      exact List.length_pos_iff.mpr this
    refine ⟨_, rfl, rfl, text, 10, rfl, (by rw [nl_is]), by omega, fun L hL => ?_⟩
    rw [hls]
    have t1 := Same.laid (o := .lst (ls.map V.str)) hL
    have L1 : (upd H L (.lst (ls.map V.str))) L = some (.lst (ls.map V.str)) := upd_same
    generalize (upd H L (.lst (ls.map V.str))) = H1 at t1 L1
    refine ⟨_, rfl, L, _, rfl, .inl (SqL.of L1), _, _, rfl, rfl, _, rfl, ite2 (fun c => ?_) (fun c => ?_)⟩
    · have c' : (24 : Int) < ((ls.map V.str).length : Nat) := of_decide_eq_true c
      rw [List.length_map] at c'
      exact k2 (fun z => by omega) _ t1
    have c' : ¬ (24 : Int) < ((ls.map V.str).length : Nat) := fun z => c (decide_eq_true z)
    rw [List.length_map] at c'
    have hn : ls.length ≤ 24 := by omega
    refine ⟨_, rfl, L, _, rfl, .inl (SqL.of L1), fun p dx hp hdx hne0 => ⟨p, dx, _, rfl, upd_same, fun _ r qs H2 Y2 kp hr0 hq0 hrq => ⟨rfl, ?_⟩, fun bad => absurd (by rw [List.length_map]; omega) bad⟩⟩
    have Y2 : YardAt C H2 p dx r qs ls.length idM := by
      rw [List.length_map] at Y2
      exact Y2
    have s0 : Same H1 (upd (upd H1 dx (.own p)) p (.ins C dx [])) := fun b o e => by
      rw [upd_ne (ne_of_none e hp), upd_ne (ne_of_none e hdx)]
      exact e
    have s1 : Same H1 H2 := fun b o e => kp b o (s0 b o e) (ne_of_none e hp)
    have hqf : ∀ q ∈ qs, H1 q = none := fun q hq => s0.free (hq0 q hq)
    have L2 := s1 _ _ L1
    have nL : L ∉ qs := fun z => by
      have := hqf L z
      rw [L1] at this
      cases this
    refine ⟨_, rfl, L, rfl, ⟨_, SqL.of L2⟩, for_enum (xs := ls.map V.str) (fun i σ H3 => ∃ (v3 v4 : Option V), σ = [some (.str text), some (.ref L), some (.ref p), v3, v4] ∧ Left qs H2 H3 ∧ YardAt C H3 p dx r qs ls.length (readI ls i))
      ⟨none, none, rfl, fun c o e _ => e, Y2.congr fun a b _ _ => ?_⟩ ?_ ?_ ?_⟩
    · unfold idM readI
      by_cases hab : a = b
      · simp [hab]
      · simp [hab]
        exact fun z => hab z.symm
    · rintro i σ H3 hi ⟨v3, v4, rfl, fr3, Y3⟩
      exact SqL.of (fr3 _ _ L2 nL)
    · rintro i v t σ H3 hv ⟨v3, v4, rfl, fr3, Y3⟩ ht
      rw [List.getElem?_map] at hv
      obtain ⟨line, hline, rfl⟩ := Option.map_eq_some_iff.mp hv
      have hi : i < ls.length := (List.getElem?_eq_some_iff.mp hline).1
      have t4 := Same.laid (o := .tup [.int i, .str line]) ht
      have Y4 := Y3.same t4
      have len : line.length ≤ text.length := piece_len (c := 10) (by rw [hls]; exact List.mem_of_getElem? hline)
      have ewd : wdS ls i = Txt.split line ⟨#[32]⟩ := by
        unfold wdS
        rw [List.getD_eq_getElem?_getD, hline]
        rfl
      obtain ⟨w0, ws, ew⟩ : ∃ w0 ws, Txt.split line ⟨#[32]⟩ = w0 :: ws := by
        have := split_ne line 32
        cases h : Txt.split line ⟨#[32]⟩ with
        | nil => exact absurd h this
        | cons a b => exact ⟨a, b, rfl⟩
      refine ⟨t, _, rfl, SqT.of upd_same, rfl, _, _, rfl, _, _, rfl, rfl, _, rfl, _, rfl, _, rfl, rfl, line, 32, rfl, (by rw [bl_is]), by omega, fun W hW => ?_⟩
      have t5 := Same.laid (o := .lst ((Txt.split line ⟨#[32]⟩).map V.str)) hW
      have Y5 := Y4.same t5
      refine ⟨p, dx, r, qs, ls.length, _, i, W, w0, ws, rfl, Y5, hn, hi, (by rw [← ew]; exact upd_same), Y4.not_row hW, fun j hj => ?_, fun H6 fr6 Y6 => ?_⟩
      · unfold readI
        rw [if_neg (by omega), decide_eq_false (by omega)]
      · refine ⟨_, _, rfl, ((fr3.trans (Left.of t4)).trans (Left.of t5)).trans fr6, Y6.congr fun a b _ _ => read_step ls i (by rw [ewd]; exact ew) a b⟩
    · rintro σ H3 ⟨v3, v4, rfl, fr3, Y3⟩
      rw [List.length_map] at Y3
      have Y3 : YardAt C H3 p dx r qs ls.length (readM ls) := Y3
      have sa : Same H H3 := t1.trans (fr3.same s1 hqf)
      refine ⟨_, rfl, p, dx, r, qs, ls.length, readM ls, rfl, Y3, hn, fun H4 s4 => ⟨_, rfl, rfl, _, rfl, ?_⟩⟩
      have ed : (!decide (V.str (textS ls.length (readM ls)) = V.str text)) = !decide (textS ls.length (readM ls) = text) := by
        congr 1
        rw [Bool.eq_iff_iff]
        simp
      rw [ed]
      by_cases h : textS ls.length (readM ls) = text
      · rw [decide_eq_true h]
        exact iteF ⟨_, rfl, k1 ⟨hn, h⟩ p dx r qs H4 (sa.trans s4) (Y3.same s4) (t1.free hp) fun q hq => t1.free (hqf q hq)⟩
      · rw [decide_eq_false h]
        exact iteT (k2 (fun z => h z.2) H4 (sa.trans s4))
end
end Lp

/-! ## what is written is read -/
namespace Lp
open PySem L2 Lamp
theorem numS_inj : ∀ j : Nat, j < 24 → ∀ k : Nat, k < 24 → numS (j : Int) = numS (k : Int) → j = k := by decide +kernel
theorem numS_clean : ∀ j : Nat, j < 24 → 10 ∉ (numS (j : Int)).cps.toList ∧ 32 ∉ (numS (j : Int)).cps.toList := by decide +kernel
theorem wordS_clean (b : Bool) : 10 ∉ (wordS b).cps.toList ∧ 32 ∉ (wordS b).cps.toList := by cases b <;> decide +kernel
theorem blank_clean : 10 ∉ (" " : Str).cps.toList := by decide +kernel
theorem lineW_clean (M : Nat → Nat → Bool) {i : Nat} (hi : i < 24) : ∀ p ∈ lineW M i, 10 ∉ p.cps.toList ∧ 32 ∉ p.cps.toList := by
  intro p hp
  rcases List.mem_cons.mp hp with e | hp
  · rw [e]
    exact wordS_clean _
  · obtain ⟨j, hj, rfl⟩ := List.mem_map.mp hp
    have := List.mem_range.mp (List.mem_filter.mp hj).1
    exact numS_clean j (by omega)
theorem accS_clean (M : Nat → Nat → Bool) (i : Nat) (w : Str) (hw : 10 ∉ w.cps.toList) : ∀ j, j ≤ 24 → 10 ∉ (accS M i w j).cps.toList
  | 0, _ => by simpa [accS] using hw
  | j + 1, h => by
    have ih := accS_clean M i w hw j (by omega)
    rw [accS_step]
    cases hM : M i j with
    | true =>
      simp only [↓reduceIte]
      rw [str_app, str_app, Array.toList_append, Array.toList_append, List.mem_append, List.mem_append]
      rintro ((z | z) | z)
      · exact ih z
      · exact blank_clean z
      · exact (numS_clean j (by omega)).1 z
    | false =>
      simp only [Bool.false_eq_true, ↓reduceIte]
      exact ih
theorem lineS_clean (M : Nat → Nat → Bool) {i : Nat} (hi : i < 24) : 10 ∉ (lineS M i).cps.toList := by
  rw [← accS_line]
  exact accS_clean M i _ (wordS_clean _).1 i (by omega)
theorem split_line (M : Nat → Nat → Bool) {i : Nat} (hi : i < 24) : Txt.split (lineS M i) ⟨#[32]⟩ = lineW M i := by
  unfold lineS
  rw [bl_is]
  exact split_join (by simp [lineW]) fun p hp => (lineW_clean M hi p hp).2
theorem split_text (M : Nat → Nat → Bool) {n : Nat} (h1 : 1 ≤ n) (h2 : n ≤ 24) : Txt.split (textS n M) ⟨#[10]⟩ = linesS n M := by
  unfold textS
  rw [nl_is]
  refine split_join ?_ fun p hp => ?_
  · intro z
    have := congrArg List.length z
    simp [linesS] at this
    omega
  · obtain ⟨i, hi, rfl⟩ := List.mem_map.mp hp
    exact lineS_clean M (by have := List.mem_range.mp hi; omega)
theorem linesS_len (n : Nat) (M : Nat → Nat → Bool) : (linesS n M).length = n := by simp [linesS]
theorem wd_line (M : Nat → Nat → Bool) {n i : Nat} (h2 : n ≤ 24) (hi : i < n) : wdS (linesS n M) i = lineW M i := by
  unfold wdS
  have e : (linesS n M)[i]? = some (lineS M i) := by
    unfold linesS
    rw [List.getElem?_map, List.getElem?_range hi]
    rfl
  rw [List.getD_eq_getElem?_getD, e]
  exact split_line M (by omega)
theorem mem_num (M : Nat → Nat → Bool) {i j : Nat} (hi : i < 24) (hj : j < i) : numS (j : Int) ∈ (lineW M i).tail ↔ M i j = true := by
  unfold lineW
  rw [List.tail_cons, List.mem_map]
  constructor
  · rintro ⟨k, hk, e⟩
    have hk' := List.mem_filter.mp hk
    have := List.mem_range.mp hk'.1
    have := numS_inj k (by omega) j (by omega) e
    rw [← this]
    exact hk'.2
  · intro h
    exact ⟨j, List.mem_filter.mpr ⟨List.mem_range.mpr hj, h⟩, rfl⟩
theorem word_is (b : Bool) : decide (wordS b = "shy") = b := by cases b <;> decide +kernel
theorem read_back {M : Nat → Nat → Bool} (sym : ∀ i j, M i j = M j i) {n : Nat} (h2 : n ≤ 24) {a b : Nat} (ha : a < n) (hb : b < n) : readM (linesS n M) a b = M a b := by
  unfold readM readI
  rw [linesS_len]
  by_cases hab : a = b
  · subst hab
    rw [if_pos rfl, if_pos ha, wd_line M h2 ha]
    show (!decide (wordS (!M a a) = "shy")) = M a a
    rw [word_is, Bool.not_not]
  · rw [if_neg hab]
    have key : ∀ i j : Nat, i < n → j < i → decide (i < n ∧ numS ((j : Nat) : Int) ∈ (wdS (linesS n M) i).tail) = M i j := fun i j hi hj => by
      rw [wd_line M h2 hi, Bool.eq_iff_iff, decide_eq_true_eq, mem_num M (by omega) hj]
      exact ⟨fun z => z.2, fun z => ⟨hi, z⟩⟩
    by_cases h : b < a
    · rw [show max a b = a by omega, show min a b = b by omega]
      exact key a b ha h
    · rw [show max a b = b by omega, show min a b = a by omega, key b a hb (by omega), sym]
theorem join_len (c : Nat) : ∀ l : List Str, (Str.join ⟨#[c]⟩ l).length ≤ (l.map (·.length)).sum + l.length
  | [] => Nat.zero_le _
  | [a] => by
    show a.length ≤ (a.length + 0) + 1
    omega
  | a :: b :: l => by
    have ih := join_len c (b :: l)
    show (a ++ ⟨#[c]⟩ ++ Str.join ⟨#[c]⟩ (b :: l)).length ≤ _
    rw [str_len, str_len, List.map_cons, List.sum_cons, List.length_cons]
    show a.length + 1 + _ ≤ _
    omega
theorem textS_len {n : Nat} (M : Nat → Nat → Bool) (h2 : n ≤ 24) : (textS n M).length ≤ 1900 := by
  have e : textS n M = Str.join ⟨#[10]⟩ (linesS n M) := by
    unfold textS
    rw [nl_is]
    exact (StrLaws.glued_eq_join _ _)
  rw [e]
  have h1 := join_len 10 (linesS n M)
  have h3 := sum_le (l := linesS n M) (b := 76) fun s hs => by
    obtain ⟨i, hi, rfl⟩ := List.mem_map.mp hs
    exact lineS_len M (by have := List.mem_range.mp hi; omega)
  rw [linesS_len] at h1 h3
  have : n * 76 ≤ 24 * 76 := Nat.mul_le_mul_right _ h2
  omega
theorem text_read {M : Nat → Nat → Bool} (sym : ∀ i j, M i j = M j i) {n : Nat} (h2 : n ≤ 24) : textS n (readM (linesS n M)) = textS n M := by
  unfold textS
  rw [linesS_congr fun i j hi hj => read_back sym h2 hi hj]
theorem read_cond {n : Nat} {M : Nat → Nat → Bool} (h1 : 1 ≤ n) (h2 : n ≤ 24) (sym : ∀ i j, M i j = M j i) :
    (Txt.split (textS n M) ⟨#[10]⟩).length ≤ 24 ∧ textS (Txt.split (textS n M) ⟨#[10]⟩).length (readM (Txt.split (textS n M) ⟨#[10]⟩)) = textS n M := by
  rw [split_text M h1 h2, linesS_len, text_read sym h2]
  exact ⟨h2, rfl⟩
theorem read_yard {C : Addr} {H : Hp} {p dx r : Addr} {qs : List Addr} {n : Nat} {M : Nat → Nat → Bool} (h1 : 1 ≤ n) (h2 : n ≤ 24) (sym : ∀ i j, M i j = M j i)
    (Y : YardAt C H p dx r qs (Txt.split (textS n M) ⟨#[10]⟩).length (readM (Txt.split (textS n M) ⟨#[10]⟩))) : YardAt C H p dx r qs n M := by
  rw [split_text M h1 h2, linesS_len] at Y
  exact Y.congr fun i j hi hj => read_back sym h2 hi hj
theorem text_small {n : Nat} (M : Nat → Nat → Bool) (h2 : n ≤ 24) : (textS n M).length ≤ 90000 := Nat.le_trans (textS_len M h2) (by decide)
theorem mat_sym (ts : List (Nat × Nat)) (f : Nat → Bool) (i j : Nat) : mat ts f i j = mat ts f j i := by
  unfold mat
  by_cases h : i = j
  · subst h
    rfl
  · rw [if_neg h, if_neg (fun z => h z.symm), Bool.or_comm]
end Lp

/-! ## lines that are no lamp's -/
namespace Lp
open PySem L2 Lamp
def dig (c : Nat) : Prop := c = 32 ∨ (48 ≤ c ∧ c ≤ 57)
structure Sh (T : List Nat) : Prop where
  fst : T = [] ∨ ∃ d R, T = 32 :: d :: R ∧ 48 ≤ d ∧ d ≤ 57
  all : ∀ c ∈ T, dig c
theorem numS_digits : ∀ j : Nat, j < 24 → (numS (j : Int)).cps.toList ≠ [] ∧ ∀ c ∈ (numS (j : Int)).cps.toList, 48 ≤ c ∧ c ≤ 57 := by decide +kernel
theorem blank_chars : (" " : Str).cps.toList = [32] := by decide +kernel
theorem word_chars (b : Bool) : (wordS b).cps.toList = if b = true then [115, 104, 121] else [108, 97, 109, 112] := by cases b <;> decide +kernel
theorem app_chars (a b : Str) : (a ++ b).cps.toList = a.cps.toList ++ b.cps.toList := by rw [str_app, Array.toList_append]
theorem str_ext {a b : Str} (h : a.cps.toList = b.cps.toList) : a = b := by
  cases a
  cases b
  congr 1
  exact Array.toList_inj.mp h
theorem app_assoc (a b c : Str) : a ++ (b ++ c) = a ++ b ++ c := str_ext (by rw [app_chars, app_chars, app_chars, app_chars, List.append_assoc])
theorem app_empty (a : Str) : a ++ ("" : Str) = a := str_ext (by rw [app_chars, show ("" : Str).cps.toList = [] by decide +kernel, List.append_nil])
theorem acc_shape (M : Nat → Nat → Bool) (i : Nat) (w : Str) : ∀ j, j ≤ 24 → ∃ T, (accS M i w j).cps.toList = w.cps.toList ++ T ∧ Sh T
  | 0, _ => ⟨[], by simp [accS], .inl rfl, fun c h => absurd h List.not_mem_nil⟩
  | j + 1, h => by
    obtain ⟨T, e, hT⟩ := acc_shape M i w j (by omega)
    rw [accS_step]
    cases hM : M i j with
    | false =>
      simp only [Bool.false_eq_true, ↓reduceIte]
      exact ⟨T, e, hT⟩
    | true =>
      simp only [↓reduceIte]
      obtain ⟨ne, dg⟩ := numS_digits j (by omega)
      refine ⟨T ++ (32 :: (numS (j : Int)).cps.toList), ?_, ?_, ?_⟩
      · rw [app_chars, app_chars, e, blank_chars, List.append_assoc, List.append_assoc]
        rfl
      · refine .inr ?_
        rcases hT.fst with e0 | ⟨d, R, e0, h1, h2⟩
        · subst e0
          cases hn : (numS (j : Int)).cps.toList with
          | nil => exact absurd hn ne
          | cons d R =>
            rw [hn] at dg
            exact ⟨d, R, rfl, (dg d List.mem_cons_self).1, (dg d List.mem_cons_self).2⟩
        · subst e0
          exact ⟨d, _, rfl, h1, h2⟩
      · intro c hc
        rcases List.mem_append.mp hc with hc | hc
        · exact hT.all c hc
        · rcases List.mem_cons.mp hc with rfl | hc
          · exact .inl rfl
          · exact .inr (dg c hc)
theorem line_shape (M : Nat → Nat → Bool) {i : Nat} (hi : i < 24) : ∃ (b : Bool) (T : List Nat), (lineS M i).cps.toList = (wordS b).cps.toList ++ T ∧ Sh T := by
  rw [← accS_line]
  obtain ⟨T, e, h⟩ := acc_shape M i (wordS (!M i i)) i (by omega)
  exact ⟨_, T, e, h⟩
theorem pick {ws : List Str} {m : Nat} (h : m < ws.length) : (ws.map V.str)[m]? = some (.str ws[m]) := by
  rw [List.getElem?_map, List.getElem?_eq_getElem h]
  rfl
theorem iteTr {c : Bool} {A B : Prop} (e : c = true) (h : A) : if c = true then A else B := by
  subst e
  exact iteT h
def okC (c : Nat) : Bool := c == 32 || (decide (48 ≤ c) && decide (c ≤ 57)) || [108, 97, 109, 112, 115, 104, 121].contains c
theorem ok_dig {c : Nat} (h : dig c) : okC c = true := by
  unfold okC
  rcases h with rfl | ⟨h1, h2⟩
  · rfl
  · simp [h1, h2]
theorem line_ok (M : Nat → Nat → Bool) {i : Nat} (hi : i < 24) : ∀ c ∈ (lineS M i).cps.toList, okC c = true := by
  obtain ⟨b, T, e, hT⟩ := line_shape M hi
  intro c hc
  rw [e] at hc
  rcases List.mem_append.mp hc with hc | hc
  · rw [word_chars] at hc
    have : ∀ c ∈ (if b = true then [115, 104, 121] else [108, 97, 109, 112]), okC c = true := by cases b <;> decide
    exact this c hc
  · exact ok_dig (hT.all c hc)
def BadL (i : Nat) (L : Str) : Prop := (∀ M, lineS M i ≠ L) ∧ 10 ∉ L.cps.toList ∧ L.length ≤ 400
theorem no10 {l : List Nat} (h : ∀ c ∈ l, okC c = true) : 10 ∉ l := fun z => by
  have := h 10 z
  cases this
/-! ### words put together -/
theorem join_fold (a : Str) (ws : List Str) : Txt.join " " (a :: ws) = ws.foldl (fun (acc p : Str) => acc ++ (" " : Str) ++ p) a := by
  have key : ∀ (ws : List Str) (a : Str), ws.foldl (fun (acc : Array Nat) (p : Str) => acc ++ (" " : Str).cps ++ p.cps) a.cps = (ws.foldl (fun (acc p : Str) => acc ++ (" " : Str) ++ p) a).cps := fun ws => by
    induction ws with
    | nil => intro a; rfl
    | cons w ws ih => intro a; exact ih (a ++ " " ++ w)
  unfold Txt.join Builtin.Str.glued
  simp only [List.drop_succ_cons, List.drop_zero, List.headD_cons]
  rw [key]
theorem fold_pre (p : Str) : ∀ (ws : List Str) (q : Str), ws.foldl (fun (acc p : Str) => acc ++ (" " : Str) ++ p) (p ++ q) = p ++ ws.foldl (fun (acc p : Str) => acc ++ (" " : Str) ++ p) q
  | [], q => rfl
  | w :: ws, q => by
    show ws.foldl (fun (acc p : Str) => acc ++ (" " : Str) ++ p) (p ++ q ++ " " ++ w) = p ++ ws.foldl (fun (acc p : Str) => acc ++ (" " : Str) ++ p) (q ++ " " ++ w)
    rw [← fold_pre p ws, app_assoc, app_assoc]
theorem join_app (a : Str) (ws : List Str) (b : Str) (vs : List Str) : Txt.join " " (a :: ws ++ b :: vs) = Txt.join " " (a :: ws) ++ " " ++ Txt.join " " (b :: vs) := by
  rw [List.cons_append, join_fold, join_fold, join_fold, List.foldl_append, List.foldl_cons, fold_pre]
theorem line_is (M : Nat → Nat → Bool) (i : Nat) : ∃ ws, lineW M i = wordS (!M i i) :: ws := ⟨_, rfl⟩
theorem line_app (M : Nat → Nat → Bool) (i : Nat) (b : Str) (vs : List Str) : lineS M i ++ " " ++ Txt.join " " (b :: vs) = Txt.join " " (lineW M i ++ b :: vs) := by
  unfold lineS
  exact (join_app _ _ _ _).symm
theorem words_are {M : Nat → Nat → Bool} {i : Nat} (hi : i < 24) {a : Str} {ws : List Str} (h : ∀ w ∈ a :: ws, 32 ∉ w.cps.toList) (e : lineS M i = Txt.join " " (a :: ws)) : lineW M i = a :: ws := by
  rw [← split_line M hi, e, bl_is]
  exact split_join (by simp) h
theorem behind {M' M : Nat → Nat → Bool} {i : Nat} (hi : i < 24) {b : Str} {vs : List Str} (h : ∀ w ∈ b :: vs, 32 ∉ w.cps.toList) (e : lineS M' i = lineS M i ++ " " ++ Txt.join " " (b :: vs)) : ∀ w ∈ b :: vs, ∃ j : Nat, j < i ∧ w = numS (j : Int) := by
  rw [line_app] at e
  have := words_are hi (a := wordS (!M i i)) (ws := ((List.range i).filter (M i)).map (fun j : Nat => numS (j : Int)) ++ b :: vs) (fun w hw => by
    rcases List.mem_append.mp (show w ∈ lineW M i ++ b :: vs from hw) with hw | hw
    · exact (lineW_clean M hi w hw).2
    · exact h w hw) e
  unfold lineW at this
  injection this with _ e2
  intro w hw
  have : w ∈ ((List.range i).filter (M' i)).map (fun j : Nat => numS (j : Int)) := by
    rw [e2]
    exact List.mem_append.mpr (.inr hw)
  obtain ⟨j, hj, rfl⟩ := List.mem_map.mp this
  exact ⟨j, List.mem_range.mp (List.mem_filter.mp hj).1, rfl⟩
theorem grows {M' : Nat → Nat → Bool} {i a b : Nat} {w : Str} (hi : i < 24) (ha : a < 24) (hb : b < 24) (hw : 32 ∉ w.cps.toList) (e : lineS M' i = Txt.join " " [w, numS (a : Int), numS (b : Int)]) : a < b := by
  have := words_are hi (a := w) (ws := [numS (a : Int), numS (b : Int)]) (fun x hx => by
    rcases List.mem_cons.mp hx with rfl | hx
    · exact hw
    · rcases List.mem_cons.mp hx with rfl | hx
      · exact (numS_clean a ha).2
      · have : x = numS (b : Int) := by simpa using hx
        rw [this]
        exact (numS_clean b hb).2) e
  unfold lineW at this
  injection this with _ e2
  have pw : ((List.range i).filter (M' i)).Pairwise (· < ·) := List.Pairwise.filter _ List.pairwise_lt_range
  have lt : ∀ j ∈ (List.range i).filter (M' i), j < 24 := fun j hj => by
    have := List.mem_range.mp (List.mem_filter.mp hj).1
    omega
  generalize (List.range i).filter (M' i) = js at e2 pw lt
  match js, e2, pw, lt with
  | [], e2, _, _ => cases e2
  | [_], e2, _, _ =>
    injection e2 with _ e3
    cases e3
  | x :: y :: zs, e2, pw, lt =>
    injection e2 with e3 e4
    injection e4 with e5 _
    have h1 := numS_inj x (lt x (by simp)) a ha e3
    have h2 := numS_inj y (lt y (by simp)) b hb e5
    rw [← h1, ← h2]
    exact (List.pairwise_cons.mp pw).1 y (by simp)
end Lp

/-! ## each fault -/
namespace Lp
open PySem L2 Lamp
theorem line10 (M : Nat → Nat → Bool) {i : Nat} (hi : i < 24) : 10 ∉ (lineS M i).cps.toList := no10 (line_ok M hi)
theorem lineL (M : Nat → Nat → Bool) {i : Nat} (hi : i < 24) : (lineS M i).length ≤ 76 := lineS_len M hi
theorem len_chars (s : Str) : s.cps.toList.length = s.length := rfl
theorem cut_len (x : Str) (l u : Option Int) : (Txt.slice x l u).length ≤ x.length := Txt.slice_le x l u
theorem lamps_chars : ("lamps" : Str).cps.toList = [108, 97, 109, 112, 115] := by decide +kernel
theorem bad0 (M : Nat → Nat → Bool) {i : Nat} (hi : i < 24) (l u : Option Int) : BadL i ("lamps" ++ Txt.slice (lineS M i) l u) := by
  refine ⟨fun M' e => ?_, ?_, ?_⟩
  · obtain ⟨b, T, eT, hT⟩ := line_shape M' hi
    rw [e, app_chars, lamps_chars, word_chars] at eT
    cases b with
    | true => simp at eT
    | false =>
      have : T = 115 :: (Txt.slice (lineS M i) l u).cps.toList := by
        simp at eT
        exact eT.symm
      rcases hT.fst with e0 | ⟨d, R, e0, _⟩
      · rw [e0] at this
        cases this
      · rw [e0] at this
        simp at this
  · rw [app_chars, lamps_chars, List.mem_append]
    rintro (z | z)
    · revert z
      decide
    · exact line10 M hi (mem_slice z)
  · rw [str_len]
    have := cut_len (lineS M i) l u
    have := lineL M hi
    have : ("lamps" : Str).length = 5 := by decide +kernel
    omega
theorem ok_small {c : Nat} (h : okC c = true) : c < 128 := by
  unfold okC at h
  simp at h
  omega
theorem up10 : ∀ d : Nat, d < 128 → okC d = true → 10 ∉ Unicode.upperOf d := by decide +kernel
theorem up_l : 76 ∈ Unicode.upperOf 108 := by decide +kernel
theorem up_s : 83 ∈ Unicode.upperOf 115 := by decide +kernel
theorem bad1 (M : Nat → Nat → Bool) {i : Nat} (hi : i < 24) : BadL i (Txt.upper (lineS M i)) := by
  refine ⟨fun M' e => ?_, ?_, ?_⟩
  · obtain ⟨b, T, eT, hT⟩ := line_shape M hi
    have ok := line_ok M' hi
    rw [e] at ok
    rw [word_chars] at eT
    cases b with
    | true =>
      have := ok 83 (mem_upper.mpr ⟨115, by rw [eT]; simp, up_s⟩)
      cases this
    | false =>
      have := ok 76 (mem_upper.mpr ⟨108, by rw [eT]; simp, up_l⟩)
      cases this
  · intro z
    obtain ⟨d, hd, hz⟩ := mem_upper.mp z
    have := line_ok M hi d hd
    exact up10 d (ok_small this) this hz
  · have := PyProof.Rows.len_upper (lineS M i)
    have := lineL M hi
    omega
theorem first_sign (M : Nat → Nat → Bool) {i : Nat} (hi : i < 24) : ∃ c R, (lineS M i).cps.toList = c :: R ∧ (c = 108 ∨ c = 115) := by
  obtain ⟨b, T, eT, hT⟩ := line_shape M hi
  rw [word_chars] at eT
  cases b with
  | true => exact ⟨115, _, eT, .inr rfl⟩
  | false => exact ⟨108, _, eT, .inl rfl⟩
def cutB (s : Str) : Str := if Txt.contains s " " = true then Txt.slice s (some (Txt.find s " " + 1)) none else ""
theorem bad2 (M : Nat → Nat → Bool) {i : Nat} (hi : i < 24) : BadL i (cutB (lineS M i)) := by
  unfold cutB
  by_cases hc : Txt.contains (lineS M i) " " = true
  · rw [if_pos hc]
    rw [bl_is] at hc ⊢
    obtain ⟨k, ek, hk, at_⟩ := find_at hc
    have ei : Txt.find (lineS M i) ⟨#[32]⟩ + 1 = ((k + 1 : Nat) : Int) := by rw [ek]; omega
    rw [ei]
    have ch := slice_from (x := lineS M i) (i := k + 1) hk
    refine ⟨fun M' e => ?_, ?_, ?_⟩
    · obtain ⟨c, R, eR, hc'⟩ := first_sign M' hi
      rw [e, ch] at eR
      obtain ⟨b, T, eT, hT⟩ := line_shape M hi
      have hd : c ∈ (lineS M i).cps.toList.drop (k + 1) := by rw [eR]; simp
      have nb : ∀ j, (wordS b).cps.toList[j]? ≠ some 32 := fun j z => by
        have := List.mem_of_getElem? z
        rw [word_chars] at this
        cases b <;> revert this <;> decide
      have hw : (wordS b).cps.toList.length ≤ k := by
        rcases Nat.lt_or_ge k (wordS b).cps.toList.length with h | h
        · rw [eT, List.getElem?_append_left h] at at_
          exact absurd at_ (nb k)
        · exact h
      rw [eT, List.drop_append, List.drop_eq_nil_of_le (by omega), List.nil_append] at hd
      have := hT.all c (List.mem_of_mem_drop hd)
      unfold dig at this
      omega
    · intro z
      exact line10 M hi (mem_slice z)
    · have := cut_len (lineS M i) (some ((k + 1 : Nat) : Int)) none
      have := lineL M hi
      omega
  · rw [if_neg hc]
    refine ⟨fun M' e => ?_, by decide +kernel, by decide +kernel⟩
    obtain ⟨c, R, eR, _⟩ := first_sign M' hi
    rw [e] at eR
    have : ("" : Str).cps.toList = [] := by decide +kernel
    rw [this] at eR
    cases eR
theorem bad3 (M : Nat → Nat → Bool) {i : Nat} (hi : i < 24) : BadL i (Txt.slice (lineS M i) none (some 3) ++ " " ++ Txt.slice (lineS M i) (some 3) none) := by
  obtain ⟨b, T, eT, hT⟩ := line_shape M hi
  have hl : 3 ≤ (lineS M i).length := by
    rw [← len_chars, eT, List.length_append, word_chars]
    cases b <;> simp <;> omega
  have e1 := slice_to (x := lineS M i) (j := 3) hl
  have e2 := slice_from (x := lineS M i) (i := 3) hl
  refine ⟨fun M' e => ?_, ?_, ?_⟩
  · have e := congrArg (fun s : Str => s.cps.toList) e
    rw [app_chars, app_chars, blank_chars] at e
    have e1 : (Txt.slice (lineS M i) none (some 3)).cps.toList = _ := e1
    have e2 : (Txt.slice (lineS M i) (some 3) none).cps.toList = _ := e2
    rw [e1, e2, eT] at e
    obtain ⟨b', T', eT', hT'⟩ := line_shape M' hi
    rw [eT', word_chars, word_chars] at e
    cases b <;> cases b' <;> simp at e
    rcases hT'.fst with e0 | ⟨d, R, e0, h1, h2⟩
    · rw [e0] at e
      cases e
    · rw [e0] at e
      injection e with _ e
      rcases hT.fst with e3 | ⟨d', R', e3, _⟩
      · rw [e3] at e
        cases e
      · rw [e3] at e
        injection e with e _
        omega
  · rw [app_chars, app_chars, List.mem_append, List.mem_append]
    rintro ((z | z) | z)
    · exact line10 M hi (mem_slice z)
    · revert z
      decide +kernel
    · exact line10 M hi (mem_slice z)
  · rw [str_len, str_len, blank_len]
    have := cut_len (lineS M i) none (some 3)
    have := cut_len (lineS M i) (some 3) none
    have := lineL M hi
    omega
theorem bad_words (M : Nat → Nat → Bool) {i : Nat} (hi : i < 24) {b : Str} {vs : List Str} (h : ∀ w ∈ b :: vs, 32 ∉ w.cps.toList) {w : Str} (hw : w ∈ b :: vs) (hn : ∀ j : Nat, j < i → w ≠ numS (j : Int)) (h10 : 10 ∉ (Txt.join " " (b :: vs)).cps.toList) (hl : (Txt.join " " (b :: vs)).length ≤ 100) :
    BadL i (lineS M i ++ " " ++ Txt.join " " (b :: vs)) := by
  refine ⟨fun M' e => ?_, ?_, ?_⟩
  · obtain ⟨j, hj, e2⟩ := behind hi h e w hw
    exact hn j hj e2
  · rw [app_chars, app_chars, List.mem_append, List.mem_append]
    rintro ((z | z) | z)
    · exact line10 M hi z
    · revert z
      decide +kernel
    · exact h10 z
  · rw [str_len, str_len, blank_len]
    have := lineL M hi
    omega
theorem join_one (w : Str) : Txt.join " " [w] = w := by rw [join_fold]; rfl
theorem bad_word (M : Nat → Nat → Bool) {i : Nat} (hi : i < 24) {w : Str} (h : 32 ∉ w.cps.toList) (hn : ∀ j : Nat, j < i → w ≠ numS (j : Int)) (h10 : 10 ∉ w.cps.toList) (hl : w.length ≤ 100) : BadL i (lineS M i ++ " " ++ w) := by
  have := bad_words M hi (b := w) (vs := []) (fun x hx => by
    have : x = w := by simpa using hx
    rw [this]
    exact h) (w := w) (by simp) hn (by rw [join_one]; exact h10) (by rw [join_one]; exact hl)
  rwa [join_one] at this
theorem bad4 (M : Nat → Nat → Bool) {i : Nat} (hi : i < 24) : BadL i (lineS M i ++ " ") := by
  have := bad_word M hi (w := "") (by decide +kernel) (fun j hj e => by
    have := (numS_digits j (by omega)).1
    rw [← e] at this
    exact this (by decide +kernel)) (by decide +kernel) (by decide +kernel)
  rwa [app_empty] at this
theorem bad5 (M : Nat → Nat → Bool) {i : Nat} (hi : i < 24) : BadL i (" " ++ lineS M i) := by
  refine ⟨fun M' e => ?_, ?_, ?_⟩
  · obtain ⟨c, R, eR, hc⟩ := first_sign M' hi
    rw [e, app_chars, blank_chars] at eR
    injection eR with e0 _
    omega
  · rw [app_chars, blank_chars, List.mem_append]
    rintro (z | z)
    · revert z
      decide
    · exact line10 M hi z
  · rw [str_len, blank_len]
    have := lineL M hi
    omega
theorem bad6 (M : Nat → Nat → Bool) {i : Nat} (hi : i < 24) : BadL i (lineS M i ++ "\t0") := by
  refine ⟨fun M' e => ?_, ?_, ?_⟩
  · have := line_ok M' hi 9
    rw [e, app_chars] at this
    have := this (List.mem_append.mpr (.inr (by decide +kernel)))
    cases this
  · rw [app_chars, List.mem_append]
    rintro (z | z)
    · exact line10 M hi z
    · revert z
      decide +kernel
  · rw [str_len]
    have := lineL M hi
    have : ("\t0" : Str).length = 2 := by decide +kernel
    omega
theorem numS_far : ∀ j : Nat, j < 24 → ∀ k : Nat, k < 64 → numS (k : Int) = numS (j : Int) → k = j := by decide +kernel
theorem numS_clean2 : ∀ k : Nat, k < 64 → (32 ∉ (numS (k : Int)).cps.toList ∧ 10 ∉ (numS (k : Int)).cps.toList) ∧ (numS (k : Int)).length ≤ 2 := by decide +kernel
theorem bad7 (M : Nat → Nat → Bool) {i k : Nat} (hi : i < 24) (h1 : i ≤ k) (h2 : k < 64) : BadL i (lineS M i ++ " " ++ numS (k : Int)) := by
  obtain ⟨⟨c1, c2⟩, c3⟩ := numS_clean2 k h2
  exact bad_word M hi c1 (fun j hj e => by
    have := numS_far j (by omega) k h2 e
    omega) c2 (by omega)
theorem zero_num : ∀ k : Nat, k < 24 → ((32 ∉ (("0" : Str) ++ numS (k : Int)).cps.toList ∧ 10 ∉ (("0" : Str) ++ numS (k : Int)).cps.toList) ∧ (("0" : Str) ++ numS (k : Int)).length ≤ 3) ∧ ∀ j : Nat, j < 24 → (("0" : Str) ++ numS (k : Int)) ≠ numS (j : Int) := by decide +kernel
theorem bad8 (M : Nat → Nat → Bool) {i k : Nat} (hi : i < 24) (h2 : k < 24) : BadL i (lineS M i ++ " 0" ++ numS (k : Int)) := by
  obtain ⟨⟨⟨c1, c2⟩, c3⟩, c4⟩ := zero_num k h2
  have := bad_word M hi c1 (fun j hj e => c4 j (by omega) e) c2 (by omega)
  rw [app_assoc] at this
  have e : lineS M i ++ " 0" = lineS M i ++ " " ++ "0" := by
    rw [← app_assoc]
    congr 1
  rw [e]
  exact this
theorem odd_words : ∀ w ∈ (["+0", "-1", "x", "0x", "1_0", "0.", "(0)"] : List Str), ((32 ∉ w.cps.toList ∧ 10 ∉ w.cps.toList) ∧ w.length ≤ 3) ∧ ∀ j : Nat, j < 24 → w ≠ numS (j : Int) := by decide +kernel
theorem bad9 (M : Nat → Nat → Bool) {i : Nat} (hi : i < 24) {w : Str} (hw : w ∈ (["+0", "-1", "x", "0x", "1_0", "0.", "(0)"] : List Str)) : BadL i (lineS M i ++ " " ++ w) := by
  obtain ⟨⟨⟨c1, c2⟩, c3⟩, c4⟩ := odd_words w hw
  exact bad_word M hi c1 (fun j hj e => c4 j (by omega) e) c2 (by omega)
theorem bad10 (M : Nat → Nat → Bool) {i : Nat} (hi : i < 24) : BadL i (lineS M i ++ "  0") := by
  have := bad_words M hi (b := "") (vs := ["0"]) (by decide +kernel) (w := "") (by simp) (fun j hj e => by
    have := (numS_digits j (by omega)).1
    rw [← e] at this
    exact this (by decide +kernel)) (by decide +kernel) (by decide +kernel)
  rw [← app_assoc] at this
  have e : (" " : Str) ++ Txt.join " " ["", "0"] = "  0" := by decide +kernel
  rwa [e] at this
theorem join_three (a b c : Str) : Txt.join " " [a, b, c] = a ++ " " ++ b ++ " " ++ c := by rw [join_fold]; rfl
theorem bad_pair {i a b : Nat} (hi : i < 24) (ha : a < 24) (hb : b < 24) (hab : b ≤ a) (wb : Bool) : BadL i (wordS wb ++ " " ++ numS (a : Int) ++ " " ++ numS (b : Int)) := by
  refine ⟨fun M' e => ?_, ?_, ?_⟩
  · rw [← join_three] at e
    have := grows hi ha hb (wordS_clean wb).2 e
    omega
  · rw [app_chars, app_chars, app_chars, app_chars, List.mem_append, List.mem_append, List.mem_append, List.mem_append]
    rintro ((((z | z) | z) | z) | z)
    · exact (wordS_clean wb).1 z
    · exact blank_clean z
    · exact (numS_clean a ha).1 z
    · exact blank_clean z
    · exact (numS_clean b hb).1 z
  · rw [str_len, str_len, str_len, str_len, blank_len]
    have := numS_len a ha
    have := numS_len b hb
    have := wordS_len wb
    omega
theorem bad11 {i a : Nat} (hi : i < 24) (ha : a < 24) : BadL i ("lamp " ++ numS (a : Int) ++ " " ++ numS (a : Int)) := by
  have := bad_pair hi ha ha (Nat.le_refl _) false
  have e : wordS false ++ " " = "lamp " := by decide +kernel
  rwa [e] at this
theorem bad12 {i a b : Nat} (hi : i < 24) (ha : a < 24) (hab : b ≤ a) : BadL i ("shy " ++ numS (a : Int) ++ " " ++ numS (b : Int)) := by
  have := bad_pair hi ha (by omega) hab true
  have e : wordS true ++ " " = "shy " := by decide +kernel
  rwa [e] at this
theorem word_num : ∀ j : Nat, j < 24 → wordS true ≠ numS (j : Int) ∧ wordS false ≠ numS (j : Int) := by decide +kernel
theorem bad13 (M : Nat → Nat → Bool) {i : Nat} (hi : i < 24) : BadL i (lineS M i ++ " " ++ lineS M i) := by
  obtain ⟨ws, ew⟩ := line_is M i
  have e : lineS M i = Txt.join " " (wordS (!M i i) :: ws) := by
    unfold lineS
    rw [ew]
  have := bad_words M hi (b := wordS (!M i i)) (vs := ws) (fun w hw => (lineW_clean M hi w (by rw [ew]; exact hw)).2) (w := wordS (!M i i)) (by simp) (fun j hj => by
    have := word_num j (by omega)
    cases (!M i i)
    · exact this.2
    · exact this.1) (by rw [← e]; exact line10 M hi) (by rw [← e]; have := lineL M hi; omega)
  rw [← e] at this
  exact this
end Lp
/-! ## texts that are no yard's -/
namespace Lp
open PySem L2 Lamp
theorem joinS_fold (sep a : Str) (ws : List Str) : Txt.join sep (a :: ws) = ws.foldl (fun (acc p : Str) => acc ++ sep ++ p) a := by
  have key : ∀ (ws : List Str) (a : Str), ws.foldl (fun (acc : Array Nat) (p : Str) => acc ++ sep.cps ++ p.cps) a.cps = (ws.foldl (fun (acc p : Str) => acc ++ sep ++ p) a).cps := fun ws => by
    induction ws with
    | nil => intro a; rfl
    | cons w ws ih => intro a; exact ih (a ++ sep ++ w)
  unfold Txt.join Builtin.Str.glued
  simp only [List.drop_succ_cons, List.drop_zero, List.headD_cons]
  rw [key]
theorem joinS_snoc (sep a : Str) (ws : List Str) (b : Str) : Txt.join sep (a :: ws ++ [b]) = Txt.join sep (a :: ws) ++ sep ++ b := by
  rw [List.cons_append, joinS_fold, joinS_fold, List.foldl_append]
  rfl
def BadT (text : Str) : Prop := text.length ≤ 90000 ∧ ¬ ((Txt.split text ⟨#[10]⟩).length ≤ 24 ∧ textS (Txt.split text ⟨#[10]⟩).length (readM (Txt.split text ⟨#[10]⟩)) = text)
theorem badT_of {ls : List Str} (ne : ls ≠ []) (h10 : ∀ l ∈ ls, 10 ∉ l.cps.toList) (hl : ∀ l ∈ ls, l.length ≤ 400) (hn : ls.length ≤ 100) (bad : ls.length ≤ 24 → ∃ (i : Nat) (L : Str), ls[i]? = some L ∧ ∀ M, lineS M i ≠ L) : BadT (Txt.join "\n" ls) := by
  have sp : Txt.split (Txt.join "\n" ls) ⟨#[10]⟩ = ls := by
    rw [nl_is]
    exact split_join ne h10
  refine ⟨?_, ?_⟩
  · have e : Txt.join "\n" ls = Str.join ⟨#[10]⟩ ls := by
      rw [nl_is]
      exact StrLaws.glued_eq_join _ _
    rw [e]
    have h1 := join_len 10 ls
    have h2 := sum_le (l := ls) (b := 400) hl
    have : ls.length * 400 ≤ 100 * 400 := Nat.mul_le_mul_right _ hn
    omega
  · rw [sp]
    rintro ⟨h24, e⟩
    obtain ⟨i, L, hi, hL⟩ := bad h24
    have pos : 1 ≤ ls.length := List.length_pos_iff.mpr ne
    have e2 := split_text (readM ls) pos h24
    rw [e, sp] at e2
    have hlt := (List.getElem?_eq_some_iff.mp hi).1
    rw [e2] at hi
    unfold linesS at hi
    rw [List.getElem?_map, List.getElem?_range hlt] at hi
    injection hi with hi
    exact hL _ hi
theorem badT_line {n i : Nat} (M : Nat → Nat → Bool) (h2 : n ≤ 24) (hi : i < n) {L : Str} (hL : BadL i L) : BadT (Txt.join "\n" ((linesS n M).set i L)) := by
  have mem : ∀ l ∈ (linesS n M).set i L, 10 ∉ l.cps.toList ∧ l.length ≤ 400 := fun l hl => by
    rcases List.mem_or_eq_of_mem_set hl with h | h
    · obtain ⟨j, hj, rfl⟩ := List.mem_map.mp h
      have := List.mem_range.mp hj
      exact ⟨lineS_clean M (by omega), Nat.le_trans (lineS_len M (by omega)) (by decide)⟩
    · rw [h]
      exact ⟨hL.2.1, hL.2.2⟩
  have len : ((linesS n M).set i L).length = n := by rw [List.length_set, linesS_len]
  refine badT_of (fun z => ?_) (fun l hl => (mem l hl).1) (fun l hl => (mem l hl).2) (by omega) fun _ => ⟨i, L, ?_, hL.1⟩
  · rw [z] at len
    simp at len
    omega
  · rw [List.getElem?_set_self (by rw [linesS_len]; exact hi)]
theorem set_ok {n i : Nat} (M : Nat → Nat → Bool) (h2 : n ≤ 24) {L : Str} (hL : L.length ≤ 400) : (((linesS n M).set i L).map (·.length)).sum + ((linesS n M).set i L).length ≤ 1048576 := by
  have h := sum_le (l := (linesS n M).set i L) (b := 400) fun l hl => by
    rcases List.mem_or_eq_of_mem_set hl with h | h
    · obtain ⟨j, hj, rfl⟩ := List.mem_map.mp h
      have := List.mem_range.mp hj
      exact Nat.le_trans (lineS_len M (by omega)) (by decide)
    · rw [h]
      exact hL
  rw [List.length_set, linesS_len] at h ⊢
  have : n * 400 ≤ 24 * 400 := Nat.mul_le_mul_right _ h2
  omega
theorem line_at {n i : Nat} (M : Nat → Nat → Bool) (hi : i < n) : ((linesS n M).map V.str)[i]? = some (.str (lineS M i)) := by
  unfold linesS
  rw [List.getElem?_map, List.getElem?_map, List.getElem?_range hi]
  rfl
theorem lamps_many (m : Nat) : ((List.range m).filter (fun _ => true)).map (fun _ => V.str "lamp") = (List.replicate m ("lamp" : Str)).map V.str := by
  rw [filt_t]
  apply List.ext_getElem
  · simp
  · intro j h1 h2
    simp
theorem badT_14 {n : Nat} (M : Nat → Nat → Bool) (h1 : 1 ≤ n) (h2 : n ≤ 24) : BadT (textS n M ++ "\n") := by
  have e : textS n M ++ "\n" = Txt.join "\n" (linesS n M ++ [("" : Str)]) := by
    cases hl : linesS n M with
    | nil =>
      have := linesS_len n M
      rw [hl] at this
      simp at this
      omega
    | cons a ws =>
      rw [joinS_snoc, app_empty]
      unfold textS
      rw [hl]
  rw [e]
  have mem : ∀ l ∈ linesS n M ++ [("" : Str)], 10 ∉ l.cps.toList ∧ l.length ≤ 400 := fun l hl => by
    rcases List.mem_append.mp hl with h | h
    · obtain ⟨j, hj, rfl⟩ := List.mem_map.mp h
      have := List.mem_range.mp hj
      exact ⟨lineS_clean M (by omega), Nat.le_trans (lineS_len M (by omega)) (by decide)⟩
    · have : l = "" := by simpa using h
      rw [this]
      exact ⟨by decide +kernel, by decide +kernel⟩
  have len : (linesS n M ++ [("" : Str)]).length = n + 1 := by rw [List.length_append, linesS_len]; rfl
  refine badT_of (by simp) (fun l hl => (mem l hl).1) (fun l hl => (mem l hl).2) (by omega) fun h24 => ⟨n, "", ?_, fun M' z => ?_⟩
  · rw [List.getElem?_append_right (by rw [linesS_len]; exact Nat.le_refl n), linesS_len]
    simp
  · obtain ⟨c, R, eR, _⟩ := first_sign M' (i := n) (by omega)
    rw [z] at eR
    have : ("" : Str).cps.toList = [] := by decide +kernel
    rw [this] at eR
    cases eR
theorem badT_15 {m : Nat} (h1 : 25 ≤ m) (h2 : m ≤ 60) : BadT (Txt.join "\n" (List.replicate m "lamp")) := by
  refine badT_of (fun z => ?_) (fun l hl => ?_) (fun l hl => ?_) (by rw [List.length_replicate]; omega) fun h => absurd h (by rw [List.length_replicate]; omega)
  · have := congrArg List.length z
    rw [List.length_replicate] at this
    simp at this
    omega
  · rw [List.eq_of_mem_replicate hl]
    decide +kernel
  · rw [List.eq_of_mem_replicate hl]
    decide +kernel
theorem badT_16 : ∀ w ∈ (["", "\n", " ", "0", "lamp\n\nlamp"] : List Str), BadT w := by
  unfold BadT
  decide +kernel
end Lp

/-! ## law k17 -/
namespace Lp
open PySem L2 Lamp
abbrev s_others : Stmt := top 29
abbrev s_refused : Stmt := top 30
abbrev s_bad_line : Stmt := top 31
abbrev s_law : Stmt := top 32
structure G17 (K : PySem.W.Frag) (mg : Str → Option Value) (NN LE AL NL SH NP NY TD TM UT : Addr) : Prop where
  g_NoNote : mg "NoNote" = some (.ref NN)
  g_LampError : mg "LampError" = some (.ref LE)
  g_Alone : mg "Alone" = some (.ref AL)
  g_NoLamp : mg "NoLamp" = some (.ref NL)
  g_Shy : mg "Shy" = some (.ref SH)
  g_NoPress : mg "NoPress" = some (.ref NP)
  g_NoYard : mg "NoYard" = some (.ref NY)
  g_Tied : mg "Tied" = some (.ref TD)
  g_TooMany : mg "TooMany" = some (.ref TM)
  g_Untied : mg "Untied" = some (.ref UT)
  et : ExcT K NN
  ex : PySem.W.exmOne K (.ref NN) (.ref NN) = some true
  kLE : PySem.W.kitOne K (.ref NN) (.ref LE) = some true
  kVE : PySem.W.kitOne K (.ref NN) (.type "ValueError") = some true
  kAL : PySem.W.kitOne K (.ref NN) (.ref AL) = some false
  kNL : PySem.W.kitOne K (.ref NN) (.ref NL) = some false
  kSH : PySem.W.kitOne K (.ref NN) (.ref SH) = some false
  kNP : PySem.W.kitOne K (.ref NN) (.ref NP) = some false
  kNY : PySem.W.kitOne K (.ref NN) (.ref NY) = some false
  kTD : PySem.W.kitOne K (.ref NN) (.ref TD) = some false
  kTM : PySem.W.kitOne K (.ref NN) (.ref TM) = some false
  kUT : PySem.W.kitOne K (.ref NN) (.ref UT) = some false
section
variable {P : Program} {w : World} {K : PySem.W.Frag} {mg : Str → Option Value} {base : Heap} {C NY LE AL NL NN NP SH TD TM UT : Addr}
def spOthers (NN : Addr) (hv : Option Value) : Sp := fun vs H Q _ => ∃ ea : Addr, hv = some (.ref ea) ∧ vs = [.ref ea] ∧ H ea = some (excO ea (.ref NN)) ∧ ∀ H', Same H H' → Q (.bl false) H'
theorem sc_others : FnScope ["e", "kinds"] ["e"] (defScope s_others) := ⟨rfl, rfl, rfl, by decide +kernel, rfl, by decide +kernel, by decide +kernel⟩
theorem ok_others {f : Addr} {fd : FuncData} (F : Fun K "_law_others" "_law_others" s_others f fd) (T : LB mg) (G : G17 K mg NN LE AL NL SH NP NY TD TM UT) : FnOkT P w K mg base 1 f fd ["e"] (spOthers NN) := by
  refine F.okT sc_others (fun hv vs H Q E h => ?_) (fun cdv A outer s H vs Q E hr h => ?_)
  · obtain ⟨ea, _, rfl, _⟩ := h
    rfl
  · obtain ⟨ea, hA, rfl, he, k⟩ := h
    refine ⟨_, ((L2.pss_cons (ps_set (i := 1) sc_others.nd rfl (by first | exact Or.inl rfl | exact Or.inr rfl) (pe_lst (L2.pa_cons ((pe_callB (isiXK K) rfl T.b_isinstance bootB_isinstance (L2.pa_cons ((pv 0)) (L2.pa_cons ((pe_cls rfl G.g_Alone)) L2.pa_nil)))) (L2.pa_cons ((pe_callB (isiXK K) rfl T.b_isinstance bootB_isinstance (L2.pa_cons ((pv 0)) (L2.pa_cons ((pe_cls rfl G.g_NoLamp)) L2.pa_nil)))) (L2.pa_cons ((pe_callB (isiXK K) rfl T.b_isinstance bootB_isinstance (L2.pa_cons ((pv 0)) (L2.pa_cons ((pe_cls rfl G.g_NoYard)) L2.pa_nil)))) (L2.pa_cons ((pe_callB (isiXK K) rfl T.b_isinstance bootB_isinstance (L2.pa_cons ((pv 0)) (L2.pa_cons ((pe_cls rfl G.g_NoPress)) L2.pa_nil)))) L2.pa_nil)))))) (L2.pss_cons (ps_set (i := 1) sc_others.nd rfl (by first | exact Or.inl rfl | exact Or.inr rfl) (pe_op op_cat (pv 1) (pe_lst (L2.pa_cons ((pe_callB (isiXK K) rfl T.b_isinstance bootB_isinstance (L2.pa_cons ((pv 0)) (L2.pa_cons ((pe_cls rfl G.g_Shy)) L2.pa_nil)))) (L2.pa_cons ((pe_callB (isiXK K) rfl T.b_isinstance bootB_isinstance (L2.pa_cons ((pv 0)) (L2.pa_cons ((pe_cls rfl G.g_Tied)) L2.pa_nil)))) (L2.pa_cons ((pe_callB (isiXK K) rfl T.b_isinstance bootB_isinstance (L2.pa_cons ((pv 0)) (L2.pa_cons ((pe_cls rfl G.g_TooMany)) L2.pa_nil)))) (L2.pa_cons ((pe_callB (isiXK K) rfl T.b_isinstance bootB_isinstance (L2.pa_cons ((pv 0)) (L2.pa_cons ((pe_cls rfl G.g_Untied)) L2.pa_nil)))) L2.pa_nil))))))) (L2.pss_one (ps_ret (pe_callB (anyHK K hA) rfl T.b_any bootB_any (L2.pa_cons ((pv 1)) L2.pa_nil))))))), ?_⟩
    refine ⟨_, rfl, ea, NN, _, _, false, rfl, .inr ⟨_, rfl, rfl⟩, he, G.et, G.kAL, _, rfl, ea, NN, _, _, false, rfl, .inr ⟨_, rfl, rfl⟩, he, G.et, G.kNL, _, rfl, ea, NN, _, _, false, rfl, .inr ⟨_, rfl, rfl⟩, he, G.et, G.kNY, _, rfl, ea, NN, _, _, false, rfl, .inr ⟨_, rfl, rfl⟩, he, G.et, G.kNP, (by show 4 ≤ sizeLine; decide), fun l hl => ?_⟩
    have s1 : Same H (upd H l (.lst [.bl false, .bl false, .bl false, .bl false])) := Same.laid hl
    have he1 := s1 _ _ he
    refine ⟨_, rfl, _, rfl, ea, NN, _, _, false, rfl, .inr ⟨_, rfl, rfl⟩, he1, G.et, G.kSH, _, rfl, ea, NN, _, _, false, rfl, .inr ⟨_, rfl, rfl⟩, he1, G.et, G.kTD, _, rfl, ea, NN, _, _, false, rfl, .inr ⟨_, rfl, rfl⟩, he1, G.et, G.kTM, _, rfl, ea, NN, _, _, false, rfl, .inr ⟨_, rfl, rfl⟩, he1, G.et, G.kUT, (by show 4 ≤ sizeLine; decide), fun l2 hl2 => ?_⟩
    have n1 : l ≠ l2 := ne_of_none upd_same hl2
    refine ⟨l, l2, _, _, rfl, rfl, (by rw [upd_ne n1]; exact upd_same), upd_same, (by show 8 ≤ sizeLine; decide), fun l3 hl3 => ?_⟩
    have s3 := (s1.trans (Same.laid hl2)).trans (Same.laid (o := .lst ([.bl false, .bl false, .bl false, .bl false] ++ [.bl false, .bl false, .bl false, .bl false])) hl3)
    exact ⟨_, rfl, l3, [false, false, false, false, false, false, false, false], _, rfl, SqL.of upd_same, s3 _ _ he, k _ s3⟩
def spRefused17 : Sp := fun vs H Q _ => ∃ text : Str, vs = [.str text] ∧ BadT text ∧ ∀ H', Same H H' → Q (.bl true) H'
theorem sc_refused : FnScope ["text", "turn", "e"] ["text"] (defScope s_refused) := ⟨rfl, rfl, rfl, by decide +kernel, rfl, by decide +kernel, by decide +kernel⟩
theorem ok_refused {f : Addr} {fd : FuncData} (F : Fun K "_law_refused" "_law_refused" s_refused f fd) (T : LB mg) (G : G17 K mg NN LE AL NL SH NP NY TD TM UT) (hF_read : Has P w K mg base (CXE P w) 6 "read" ["text"] (spRead C NN))
    (hT_others : HasT P w K mg base 1 "_law_others" ["e"] (spOthers NN)) : FnOk P w K mg base CX0 8 f fd ["text"] spRefused17 := by
  refine F.ok sc_refused (fun vs H Q E h => ?_) (fun cdv A outer s H vs Q E hr h => ?_)
  · obtain ⟨text, rfl, _⟩ := h
    rfl
  · obtain ⟨text, rfl, bad, k⟩ := h
    refine ⟨_, ((L2.pss_cons (ps_for PassesOwn.never rfl (pi_range1 rfl T.b_range (L2.pa_cons ((pe_int)) L2.pa_nil)) (pg_name (i := 1) sc_refused.nd rfl (by first | exact Or.inl rfl | exact Or.inr rfl)) ((L2.pss_one (ps_tryT (i := 2) K sc_refused.nd rfl rfl rfl rfl rfl rfl G.g_NoNote (fun _ _ => ((L2.pss_cons (ps_expr (pe_callH hF_read (hr.mono (by decide)) rfl (passT) (L2.pa_cons ((pv 0)) L2.pa_nil))) (L2.pss_one (ps_ret (pe_bl)))))) (fun _ => ((L2.pss_one (ps_if (PW.pt (pw_or (pt_not (pt_val (pe_callB (isiXK K) rfl T.b_isinstance bootB_isinstance (L2.pa_cons ((pv 2)) (L2.pa_cons ((pe_cls rfl G.g_LampError)) L2.pa_nil))))) (pw_or (pt_not (pt_val (pe_callB (isiXK K) rfl T.b_isinstance bootB_isinstance (L2.pa_cons ((pv 2)) (L2.pa_cons ((pe_tyB rfl T.b_ValueError bootB_ValueError)) L2.pa_nil))))) (pw_or1 (pt_val (pe_callHT hT_others (hr.suite _ (by decide)) rfl (L2.pa_cons ((pv 2)) L2.pa_nil))))))) ((L2.pss_one (ps_ret (pe_bl)))) pss_nil)))))))) (L2.pss_one (ps_ret (pe_bl))))), ?_⟩
    refine ⟨2, rfl, by decide, by decide, for_range (lo := 0) (n := 2) (fun i σ H2 => Same H H2 ∧ ∃ v, σ = [some (.str text), v, none]) ⟨Same.refl _, none, rfl⟩ ?_ ?_⟩
    · rintro i σ H2 hi ⟨s2, v, rfl⟩
      refine ⟨fun σ cls _ H2 => cls = .ref NN ∧ Same H H2 ∧ ∃ v, σ = [some (.str text), some v, none], ⟨_, rfl, text, rfl, bad.1, fun ok => absurd ok bad.2, fun _ H3 s3 => ⟨rfl, s2.trans s3, _, rfl⟩⟩, ?_⟩
      rintro σ' cls H3 ⟨rfl, s3, v2, rfl⟩
      refine ⟨G.ex, fun ea hea => ?_⟩
      have s4 : Same H (upd H3 ea (excO ea (.ref NN))) := s3.trans (Same.laid hea)
      refine ⟨_, rfl, ea, NN, _, _, true, rfl, .inr ⟨_, rfl, rfl⟩, upd_same, G.et, G.kLE, _, rfl, iteF ?_⟩
      refine ⟨_, rfl, ea, NN, _, _, true, rfl, .inl ⟨_, rfl, rfl⟩, upd_same, G.et, G.kVE, _, rfl, iteF ?_⟩
      exact ⟨_, rfl, ea, rfl, rfl, upd_same, fun H5 s5 => ⟨_, rfl, iteF ⟨s4.trans s5, _, rfl⟩⟩⟩
    · rintro σ H2 ⟨s2, v, rfl⟩
      exact k H2 s2
def spBadLine : Sp := fun vs H Q _ => ∃ (M : Nat → Nat → Bool) (i : Nat) (g c : Int), vs = [.str (lineS M i), .int (i : Int), .int g, .int c] ∧ i < 24 ∧ 0 ≤ c ∧ ∀ (L : Str) (H' : Hp), BadL i L → Same H H' → Q (.str L) H'
theorem sc_bad_line : FnScope ["line", "at", "fault", "cell"] ["line", "at", "fault", "cell"] (defScope s_bad_line) := ⟨rfl, rfl, rfl, by decide +kernel, rfl, by decide +kernel, by decide +kernel⟩
theorem ok_bad_line {f : Addr} {fd : FuncData} (F : Fun K "_law_bad_line" "_law_bad_line" s_bad_line f fd) (T : LB mg) : FnOk P w K mg base CX0 1 f fd ["line", "at", "fault", "cell"] spBadLine := by
  refine F.ok sc_bad_line (fun vs H Q E h => ?_) (fun cdv A outer s H vs Q E hr h => ?_)
  · obtain ⟨M, i, g, c, rfl, _⟩ := h
    rfl
  · obtain ⟨M, i, g, c, rfl, hi, hc, k⟩ := h
    refine ⟨_, ((L2.pss_cons (ps_if (pt_cmpR op_eq (pv 2) (pe_int) (nomark _)) ((L2.pss_one (ps_ret (pe_op op_add_str (pe_str) (pe_slice sl_str (pv 0) (po_some (pe_int)) po_none))))) pss_nil) (L2.pss_cons (ps_if (pt_cmpR op_eq (pv 2) (pe_int) (nomark _)) ((L2.pss_one (ps_ret (pe_bm0 PySem.F.plainAttrs_str PySem.F.slot_str_upper PySem.F.type_str_upper mt_upper (pv 0))))) pss_nil) (L2.pss_cons (ps_if (pt_cmpR op_eq (pv 2) (pe_int) (nomark _)) ((L2.pss_one (ps_ret (pe_ifExp (pt_cmpR op_in_strS (pe_str) (pv 0) rfl) (pe_slice sl_str (pv 0) (po_some (pe_op op_add (pe_bmK K PySem.F.plainAttrs_str PySem.F.slot_str_find PySem.F.type_str_find mt_find (pv 0) (L2.pa_cons ((pe_str)) L2.pa_nil)) (pe_int))) po_none) (pe_str))))) pss_nil) (L2.pss_cons (ps_if (pt_cmpR op_eq (pv 2) (pe_int) (nomark _)) ((L2.pss_one (ps_ret (pe_op op_add_str (pe_op op_add_str (pe_slice sl_str (pv 0) po_none (po_some (pe_int))) (pe_str)) (pe_slice sl_str (pv 0) (po_some (pe_int)) po_none))))) pss_nil) (L2.pss_cons (ps_if (pt_cmpR op_eq (pv 2) (pe_int) (nomark _)) ((L2.pss_one (ps_ret (pe_op op_add_str (pv 0) (pe_str))))) pss_nil) (L2.pss_cons (ps_if (pt_cmpR op_eq (pv 2) (pe_int) (nomark _)) ((L2.pss_one (ps_ret (pe_op op_add_str (pe_str) (pv 0))))) pss_nil) (L2.pss_cons (ps_if (pt_cmpR op_eq (pv 2) (pe_int) (nomark _)) ((L2.pss_one (ps_ret (pe_op op_add_str (pv 0) (pe_str))))) pss_nil) (L2.pss_cons (ps_if (pt_cmpR op_eq (pv 2) (pe_int) (nomark _)) ((L2.pss_one (ps_ret (pe_op op_add_str (pe_op op_add_str (pv 0) (pe_str)) (pe_callTy call_str_int rfl T.b_str bootB_str (L2.pa_cons ((pe_op op_add (pv 1) (pe_op op_mod (pv 3) (pe_int)))) L2.pa_nil)))))) pss_nil) (L2.pss_cons (ps_if (pt_cmpR op_eq (pv 2) (pe_int) (nomark _)) ((L2.pss_one (ps_ret (pe_op op_add_str (pe_op op_add_str (pv 0) (pe_str)) (pe_callTy call_str_int rfl T.b_str bootB_str (L2.pa_cons ((pe_op op_mod (pv 3) (pe_int))) L2.pa_nil)))))) pss_nil) (L2.pss_cons (ps_if (pt_cmpR op_eq (pv 2) (pe_int) (nomark _)) ((L2.pss_one (ps_ret (pe_op op_add_str (pe_op op_add_str (pv 0) (pe_str)) (pe_ix (ixLK K) (pe_lst (L2.pa_cons ((pe_str)) (L2.pa_cons ((pe_str)) (L2.pa_cons ((pe_str)) (L2.pa_cons ((pe_str)) (L2.pa_cons ((pe_str)) (L2.pa_cons ((pe_str)) (L2.pa_cons ((pe_str)) L2.pa_nil)))))))) (pe_op op_mod (pv 3) (pe_int)) (fun _ _ => rfl)))))) pss_nil) (L2.pss_cons (ps_if (pt_cmpR op_eq (pv 2) (pe_int) (nomark _)) ((L2.pss_one (ps_ret (pe_op op_add_str (pv 0) (pe_str))))) pss_nil) (L2.pss_cons (ps_if (PW.pt (pw_and (pt_cmpR op_eq (pv 2) (pe_int) (nomark _)) (pw_and1 (pt_cmpR op_gt (pv 1) (pe_int) (nomark _))))) ((L2.pss_one (ps_ret (pe_op op_add_str (pe_op op_add_str (pe_op op_add_str (pe_str) (pe_callTy call_str_int rfl T.b_str bootB_str (L2.pa_cons ((pe_op op_mod (pv 3) (pv 1))) L2.pa_nil))) (pe_str)) (pe_callTy call_str_int rfl T.b_str bootB_str (L2.pa_cons ((pe_op op_mod (pv 3) (pv 1))) L2.pa_nil)))))) pss_nil) (L2.pss_cons (ps_if (PW.pt (pw_and (pt_cmpR op_eq (pv 2) (pe_int) (nomark _)) (pw_and1 (pt_cmpR op_gt (pv 1) (pe_int) (nomark _))))) ((L2.pss_one (ps_ret (pe_op op_add_str (pe_op op_add_str (pe_op op_add_str (pe_str) (pe_callTy call_str_int rfl T.b_str bootB_str (L2.pa_cons ((pe_op op_sub (pv 1) (pe_int))) L2.pa_nil))) (pe_str)) (pe_callTy call_str_int rfl T.b_str bootB_str (L2.pa_cons ((pe_op op_mod (pv 3) (pe_op op_sub (pv 1) (pe_int)))) L2.pa_nil)))))) pss_nil) (L2.pss_one (ps_ret (pe_op op_add_str (pe_op op_add_str (pv 0) (pe_str)) (pv 0)))))))))))))))))), ?_⟩
    have lL := lineL M hi
    have s0 := Same.refl H
    have sz : ∀ {n : Nat}, n ≤ 1000 → n ≤ sizeLine := fun h => by rw [sizeLine_eq]; omega
    have L_lamps : ("lamps" : Str).length = 5 := by decide +kernel
    have L_shy : ("shy " : Str).length = 4 := by decide +kernel
    have L_lamp : ("lamp " : Str).length = 5 := by decide +kernel
    have L_tab : ("\t0" : Str).length = 2 := by decide +kernel
    have L_0 : (" 0" : Str).length = 2 := by decide +kernel
    have L_00 : ("  0" : Str).length = 3 := by decide +kernel
    have lg : ∀ {x : Int}, 0 ≤ x → x < 1900 → x.natAbs.log2 < 1920 := fun {x} h0 h1 => Nat.lt_of_le_of_lt (Nat.log2_le_self _) (by omega)
    have le2 : ∀ x : Int, 0 ≤ x → x < 64 → (Str.ofString (toString x)).length ≤ 2 := fun x h0 h1 => by
      have := (numS_clean2 x.toNat (by omega)).2
      rw [show ((x.toNat : Nat) : Int) = x by omega] at this
      exact this
    have p40 : (0 : Int) < 40 := by decide
    have p24 : (0 : Int) < 24 := by decide
    have p7 : (0 : Int) < 7 := by decide
    have m40 := Int.emod_nonneg c (b := 40) (by decide)
    have l40 := Int.emod_lt_of_pos c (b := 40) (by decide)
    have m24 := Int.emod_nonneg c (b := 24) (by decide)
    have l24 := Int.emod_lt_of_pos c (b := 24) (by decide)
    have m7 := Int.emod_nonneg c (b := 7) (by decide)
    have l7 := Int.emod_lt_of_pos c (b := 7) (by decide)
    have k7 : Q (.str (lineS M i ++ " " ++ Str.ofString (toString ((i : Int) + c % 40)))) H := by
      have := k _ H (bad7 M hi (k := i + (c % 40).toNat) (by omega) (by omega)) s0
      unfold numS at this
      rw [show (((i + (c % 40).toNat : Nat)) : Int) = (i : Int) + c % 40 by omega] at this
      exact this
    have k8 : Q (.str (lineS M i ++ " 0" ++ Str.ofString (toString (c % 24)))) H := by
      have := k _ H (bad8 M hi (k := (c % 24).toNat) (by omega)) s0
      unfold numS at this
      rw [show (((c % 24).toNat : Nat) : Int) = c % 24 by omega] at this
      exact this
    obtain ⟨w, at7, w7, l3⟩ : ∃ w : Str, atI [V.str "+0", V.str "-1", V.str "x", V.str "0x", V.str "1_0", V.str "0.", V.str "(0)"] (c % 7) = some (.str w) ∧ w ∈ (["+0", "-1", "x", "0x", "1_0", "0.", "(0)"] : List Str) ∧ w.length ≤ 3 := by
      have hlt : (c % 7).toNat < (["+0", "-1", "x", "0x", "1_0", "0.", "(0)"] : List Str).length := by show (c % 7).toNat < 7; omega
      have hg := List.getElem?_eq_getElem hlt
      refine ⟨_, atI_of m7 ?_, List.getElem_mem hlt, (odd_words _ (List.getElem_mem hlt)).1.2⟩
      exact pick hlt
    refine ⟨_, rfl, rfl, _, rfl, ite2 (fun _ => ⟨_, rfl, _, rfl, _, rfl, by omega, _, _, rfl, rfl, sz (by rw [L_lamps]; have := cut_len (lineS M i) (some 4) none; omega), k _ _ (bad0 M hi _ _) s0⟩) (fun _ => ?_)⟩
    refine ⟨_, rfl, rfl, _, rfl, ite2 (fun _ => ⟨_, rfl, rfl, _, rfl, rfl, by omega, k _ _ (bad1 M hi) s0⟩) (fun _ => ?_)⟩
    refine ⟨_, rfl, rfl, _, rfl, ite2 (fun _ => ?_) (fun _ => ?_)⟩
    · have k2 := k _ H (bad2 M hi) s0
      unfold cutB at k2
      refine ⟨_, rfl, _, _, rfl, rfl, _, rfl, ite2 (fun h => ?_) (fun h => ?_)⟩
      · rw [if_pos h] at k2
        exact ⟨_, rfl, _, rfl, rfl, _, _, rfl, rfl, _, _, rfl, rfl, _, rfl, _, rfl, by omega, k2⟩
      · rw [if_neg h] at k2
        exact k2
    refine ⟨_, rfl, rfl, _, rfl, ite2 (fun _ => ⟨_, rfl, _, rfl, _, rfl, by omega, _, _, rfl, rfl, sz (by rw [blank_len]; have := cut_len (lineS M i) none (some 3); omega), _, rfl, _, rfl, _, rfl, by omega, _, _, rfl, rfl, sz (by rw [str_len, blank_len]; have := cut_len (lineS M i) none (some 3); have := cut_len (lineS M i) (some 3) none; omega), k _ _ (bad3 M hi) s0⟩) (fun _ => ?_)⟩
    refine ⟨_, rfl, rfl, _, rfl, ite2 (fun _ => ⟨_, rfl, _, _, rfl, rfl, sz (by simp only [str_len, blank_len, L_lamps, L_shy, L_lamp, L_tab, L_0, L_00]; omega), k _ _ (bad4 M hi) s0⟩) (fun _ => ?_)⟩
    refine ⟨_, rfl, rfl, _, rfl, ite2 (fun _ => ⟨_, rfl, _, _, rfl, rfl, sz (by simp only [str_len, blank_len, L_lamps, L_shy, L_lamp, L_tab, L_0, L_00]; omega), k _ _ (bad5 M hi) s0⟩) (fun _ => ?_)⟩
    refine ⟨_, rfl, rfl, _, rfl, ite2 (fun _ => ⟨_, rfl, _, _, rfl, rfl, sz (by simp only [str_len, blank_len, L_lamps, L_shy, L_lamp, L_tab, L_0, L_00]; omega), k _ _ (bad6 M hi) s0⟩) (fun _ => ?_)⟩
    refine ⟨_, rfl, rfl, _, rfl, ite2 (fun _ => ⟨_, rfl, _, _, rfl, rfl, sz (by simp only [str_len, blank_len, L_lamps, L_shy, L_lamp, L_tab, L_0, L_00]; omega), _, rfl, _, rfl, _, _, rfl, rfl, p40, _, _, rfl, rfl, _, rfl, lg (by omega) (by omega), _, _, rfl, rfl, (by have := le2 ((i : Int) + c % 40) (by omega) (by omega); exact sz (by simp only [str_len, blank_len, L_lamps, L_shy, L_lamp, L_tab, L_0, L_00]; omega)), k7⟩) (fun _ => ?_)⟩
    refine ⟨_, rfl, rfl, _, rfl, ite2 (fun _ => ⟨_, rfl, _, _, rfl, rfl, sz (by simp only [str_len, blank_len, L_lamps, L_shy, L_lamp, L_tab, L_0, L_00]; omega), _, rfl, _, _, rfl, rfl, p24, _, rfl, lg (by omega) (by omega), _, _, rfl, rfl, (by have := le2 (c % 24) (by omega) (by omega); exact sz (by simp only [str_len, blank_len, L_lamps, L_shy, L_lamp, L_tab, L_0, L_00]; omega)), k8⟩) (fun _ => ?_)⟩
    refine ⟨_, rfl, rfl, _, rfl, ite2 (fun _ => ⟨_, rfl, _, _, rfl, rfl, sz (by simp only [str_len, blank_len, L_lamps, L_shy, L_lamp, L_tab, L_0, L_00]; omega), sz (by decide), fun l hl => ⟨_, rfl, _, _, rfl, rfl, p7, l, _, _, _, rfl, rfl, SqL.of upd_same, at7, _, _, rfl, rfl, (by exact sz (by simp only [str_len, blank_len]; omega)), k _ _ (bad9 M hi w7) (Same.laid hl)⟩⟩) (fun _ => ?_)⟩
    refine ⟨_, rfl, rfl, _, rfl, ite2 (fun _ => ⟨_, rfl, _, _, rfl, rfl, sz (by simp only [str_len, blank_len, L_lamps, L_shy, L_lamp, L_tab, L_0, L_00]; omega), k _ _ (bad10 M hi) s0⟩) (fun _ => ?_)⟩
    refine ⟨_, rfl, rfl, _, rfl, ?_⟩
    by_cases g11 : g = 11
    · rw [decide_eq_true (by rw [g11])]
      by_cases d11 : 0 < i
      · refine iteT ⟨_, rfl, _, _, rfl, rfl, _, rfl, iteTr (decide_eq_true (by omega)) ?_⟩
        have ip : (0 : Int) < i := by omega
        have ma := Int.emod_nonneg c (b := (i : Int)) (by omega)
        have la := Int.emod_lt_of_pos c ip
        have k11 : Q (.str ("lamp " ++ Str.ofString (toString (c % (i : Int))) ++ " " ++ Str.ofString (toString (c % (i : Int))))) H := by
          have := k _ H (bad11 hi (a := (c % (i : Int)).toNat) (by omega)) s0
          unfold numS at this
          rw [show (((c % (i : Int)).toNat : Nat) : Int) = c % (i : Int) by omega] at this
          exact this
        have l2 := le2 (c % (i : Int)) (by omega) (by omega)
        exact ⟨_, rfl, _, rfl, _, _, rfl, rfl, ip, _, rfl, lg (by omega) (by omega), _, _, rfl, rfl, sz (by simp only [str_len, blank_len, L_lamps, L_shy, L_lamp, L_tab, L_0, L_00]; omega), _, _, rfl, rfl, sz (by simp only [str_len, blank_len, L_lamps, L_shy, L_lamp, L_tab, L_0, L_00]; omega), _, rfl, _, rfl, _, _, rfl, rfl, ip, _, rfl, lg (by omega) (by omega), _, _, rfl, rfl, sz (by simp only [str_len, blank_len, L_lamps, L_shy, L_lamp, L_tab, L_0, L_00]; omega), k11⟩
      · refine iteT ⟨_, rfl, _, _, rfl, rfl, _, rfl, iteFe (decide_eq_false (by omega)) ?_⟩
        refine ⟨_, rfl, rfl, _, rfl, ?_⟩
        by_cases g12 : g = 12
        · rw [decide_eq_true (by rw [g12])]
          by_cases d12 : 1 < i
          · refine iteT ⟨_, rfl, _, _, rfl, rfl, _, rfl, iteTr (decide_eq_true (by omega)) ?_⟩
            have ip : (0 : Int) < (i : Int) - 1 := by omega
            have ma := Int.emod_nonneg c (b := (i : Int) - 1) (by omega)
            have la := Int.emod_lt_of_pos c ip
            have k12 : Q (.str ("shy " ++ Str.ofString (toString ((i : Int) - 1)) ++ " " ++ Str.ofString (toString (c % ((i : Int) - 1))))) H := by
              have := k _ H (bad12 hi (a := i - 1) (b := (c % ((i : Int) - 1)).toNat) (by omega) (by omega)) s0
              unfold numS at this
              rw [show (((c % ((i : Int) - 1)).toNat : Nat) : Int) = c % ((i : Int) - 1) by omega, show ((i - 1 : Nat) : Int) = (i : Int) - 1 by omega] at this
              exact this
            have l1 := le2 ((i : Int) - 1) (by omega) (by omega)
            have l2 := le2 (c % ((i : Int) - 1)) (by omega) (by omega)
            exact ⟨_, rfl, _, _, rfl, rfl, _, rfl, lg (by omega) (by omega), _, _, rfl, rfl, sz (by simp only [str_len, blank_len, L_lamps, L_shy, L_lamp, L_tab, L_0, L_00]; omega), _, _, rfl, rfl, sz (by simp only [str_len, blank_len, L_lamps, L_shy, L_lamp, L_tab, L_0, L_00]; omega), _, rfl, _, rfl, _, _, rfl, rfl, _, _, rfl, rfl, ip, _, rfl, lg (by omega) (by omega), _, _, rfl, rfl, sz (by simp only [str_len, blank_len, L_lamps, L_shy, L_lamp, L_tab, L_0, L_00]; omega), k12⟩
          · refine iteT ⟨_, rfl, _, _, rfl, rfl, _, rfl, iteFe (decide_eq_false (by omega)) ?_⟩
            exact ⟨_, rfl, _, _, rfl, rfl, sz (by simp only [str_len, blank_len, L_lamps, L_shy, L_lamp, L_tab, L_0, L_00]; omega), _, rfl, _, _, rfl, rfl, sz (by simp only [str_len, blank_len, L_lamps, L_shy, L_lamp, L_tab, L_0, L_00]; omega), k _ _ (bad13 M hi) s0⟩
        · rw [decide_eq_false (fun z => g12 (by injection z))]
          refine iteF (iteF ?_)
          exact ⟨_, rfl, _, _, rfl, rfl, sz (by simp only [str_len, blank_len, L_lamps, L_shy, L_lamp, L_tab, L_0, L_00]; omega), _, rfl, _, _, rfl, rfl, sz (by simp only [str_len, blank_len, L_lamps, L_shy, L_lamp, L_tab, L_0, L_00]; omega), k _ _ (bad13 M hi) s0⟩
    · rw [decide_eq_false (fun z => g11 (by injection z))]
      refine iteF (iteF ?_)
      refine ⟨_, rfl, rfl, _, rfl, ?_⟩
      by_cases g12 : g = 12
      · rw [decide_eq_true (by rw [g12])]
        by_cases d12 : 1 < i
        · refine iteT ⟨_, rfl, _, _, rfl, rfl, _, rfl, iteTr (decide_eq_true (by omega)) ?_⟩
          have ip : (0 : Int) < (i : Int) - 1 := by omega
          have ma := Int.emod_nonneg c (b := (i : Int) - 1) (by omega)
          have la := Int.emod_lt_of_pos c ip
          have k12 : Q (.str ("shy " ++ Str.ofString (toString ((i : Int) - 1)) ++ " " ++ Str.ofString (toString (c % ((i : Int) - 1))))) H := by
            have := k _ H (bad12 hi (a := i - 1) (b := (c % ((i : Int) - 1)).toNat) (by omega) (by omega)) s0
            unfold numS at this
            rw [show (((c % ((i : Int) - 1)).toNat : Nat) : Int) = c % ((i : Int) - 1) by omega, show ((i - 1 : Nat) : Int) = (i : Int) - 1 by omega] at this
            exact this
          have l1 := le2 ((i : Int) - 1) (by omega) (by omega)
          have l2 := le2 (c % ((i : Int) - 1)) (by omega) (by omega)
          exact ⟨_, rfl, _, _, rfl, rfl, _, rfl, lg (by omega) (by omega), _, _, rfl, rfl, sz (by simp only [str_len, blank_len, L_lamps, L_shy, L_lamp, L_tab, L_0, L_00]; omega), _, _, rfl, rfl, sz (by simp only [str_len, blank_len, L_lamps, L_shy, L_lamp, L_tab, L_0, L_00]; omega), _, rfl, _, rfl, _, _, rfl, rfl, _, _, rfl, rfl, ip, _, rfl, lg (by omega) (by omega), _, _, rfl, rfl, sz (by simp only [str_len, blank_len, L_lamps, L_shy, L_lamp, L_tab, L_0, L_00]; omega), k12⟩
        · refine iteT ⟨_, rfl, _, _, rfl, rfl, _, rfl, iteFe (decide_eq_false (by omega)) ?_⟩
          exact ⟨_, rfl, _, _, rfl, rfl, sz (by simp only [str_len, blank_len, L_lamps, L_shy, L_lamp, L_tab, L_0, L_00]; omega), _, rfl, _, _, rfl, rfl, sz (by simp only [str_len, blank_len, L_lamps, L_shy, L_lamp, L_tab, L_0, L_00]; omega), k _ _ (bad13 M hi) s0⟩
      · rw [decide_eq_false (fun z => g12 (by injection z))]
        refine iteF (iteF ?_)
        exact ⟨_, rfl, _, _, rfl, rfl, sz (by simp only [str_len, blank_len, L_lamps, L_shy, L_lamp, L_tab, L_0, L_00]; omega), _, rfl, _, _, rfl, rfl, sz (by simp only [str_len, blank_len, L_lamps, L_shy, L_lamp, L_tab, L_0, L_00]; omega), k _ _ (bad13 M hi) s0⟩
theorem st_law (x0 : V) : start ["script", "many", "ties", "shy", "rows", "text", "cell", "fault", "at", "bad"] [x0] = [some x0, none, none, none, none, none, none, none, none, none] := rfl
theorem sc_law : FnScope ["script", "many", "ties", "shy", "rows", "text", "cell", "fault", "at", "bad"] ["script"] (defScope s_law) := ⟨rfl, rfl, rfl, by decide +kernel, rfl, by decide +kernel, by decide +kernel⟩
theorem ok_law {f : Addr} {fd : FuncData} (F : Fun K "law" "law" s_law f fd) (T : LB mg) (cl : Cls K C) (nM : NoAttr K C "many") (hF_cell_at : Has P w K mg base (CXE P w) 1 "_law_cell_at" ["script", "k"] (spCell K))
    (hF_drawn : Has P w K mg base (CXE P w) 2 "_law_drawn" ["script"] (spDrawn K)) (hF_text : Has P w K mg base (CXE P w) 3 "_law_text" ["many", "ties", "shy"] spText)
    (hF_read : Has P w K mg base (CXE P w) 6 "read" ["text"] (spRead C NN)) (hF_bad_line : Has P w K mg base (CXE P w) 1 "_law_bad_line" ["line", "at", "fault", "cell"] spBadLine) (hF_refused : Has P w K mg base (CXE P w) 8 "_law_refused" ["text"] spRefused17) :
    FnOk P w K mg base CX0 10 f fd ["script"] (spLaw K) := by
  refine F.ok sc_law (fun vs H Q E h => ?_) (fun cdv A outer s H vs Q E hr h => ?_)
  · obtain ⟨a, ns, rfl, _⟩ := h
    rfl
  · obtain ⟨a, ns, rfl, hs, hl, k⟩ := h
    refine ⟨_, ((L2.pss_cons (ps_asg (pe_callH hF_drawn (hr.mono (by decide)) rfl (passN) (L2.pa_cons ((pv 0)) L2.pa_nil)) (pg_tup rfl (pgs_cons (pg_name (i := 1) sc_law.nd rfl (by first | exact Or.inl rfl | exact Or.inr rfl)) (pgs_cons (pg_name (i := 2) sc_law.nd rfl (by first | exact Or.inl rfl | exact Or.inr rfl)) (pgs_cons (pg_name (i := 3) sc_law.nd rfl (by first | exact Or.inl rfl | exact Or.inr rfl)) (pgs_nil)))))) (L2.pss_cons (ps_set (i := 4) sc_law.nd rfl (by first | exact Or.inl rfl | exact Or.inr rfl) (pe_callH hF_text (hr.mono (by decide)) rfl (passN) (L2.pa_cons ((pv 1)) (L2.pa_cons ((pv 2)) (L2.pa_cons ((pv 3)) L2.pa_nil))))) (L2.pss_cons (ps_set (i := 5) sc_law.nd rfl (by first | exact Or.inl rfl | exact Or.inr rfl) (pe_bm PySem.F.plainAttrs_str PySem.F.slot_str_join PySem.F.type_str_join (mt_join K) (pe_str) (L2.pa_cons ((pv 4)) L2.pa_nil))) (L2.pss_cons (ps_set (i := 6) sc_law.nd rfl (by first | exact Or.inl rfl | exact Or.inr rfl) (pe_op op_mod (pe_callH hF_cell_at (hr.mono (by decide)) rfl (passN) (L2.pa_cons ((pv 0)) (L2.pa_cons ((pe_int)) L2.pa_nil))) (pe_int))) (L2.pss_cons (ps_set (i := 7) sc_law.nd rfl (by first | exact Or.inl rfl | exact Or.inr rfl) (pe_op op_mod (pe_callH hF_cell_at (hr.mono (by decide)) rfl (passN) (L2.pa_cons ((pv 0)) (L2.pa_cons ((pe_int)) L2.pa_nil))) (pe_int))) (L2.pss_cons (ps_set (i := 8) sc_law.nd rfl (by first | exact Or.inl rfl | exact Or.inr rfl) (pe_op op_mod (pe_op op_fdiv (pv 6) (pe_int)) (pv 1))) (L2.pss_cons (ps_asg (pe_ifExp (pt_cmpR op_lt (pv 7) (pe_int) (nomark _)) (pe_callH hF_bad_line (hr.mono (by decide)) rfl (passN) (L2.pa_cons ((pe_ix (ixLK K) (pv 4) (pv 8) (fun _ _ => rfl))) (L2.pa_cons ((pv 8)) (L2.pa_cons ((pv 7)) (L2.pa_cons ((pv 6)) L2.pa_nil))))) (pe_ix (ixLK K) (pv 4) (pv 8) (fun _ _ => rfl))) (pg_sub (pv 4) (pv 8) set_list)) (L2.pss_cons (ps_set (i := 9) sc_law.nd rfl (by first | exact Or.inl rfl | exact Or.inr rfl) (pe_bm PySem.F.plainAttrs_str PySem.F.slot_str_join PySem.F.type_str_join (mt_join K) (pe_str) (L2.pa_cons ((pv 4)) L2.pa_nil))) (L2.pss_cons (ps_if (pt_cmpR op_eq (pv 7) (pe_int) (nomark _)) ((L2.pss_one (ps_set (i := 9) sc_law.nd rfl (by first | exact Or.inl rfl | exact Or.inr rfl) (pe_op op_add_str (pv 5) (pe_str))))) pss_nil) (L2.pss_cons (ps_if (pt_cmpR op_eq (pv 7) (pe_int) (nomark _)) ((L2.pss_one (ps_set (i := 9) sc_law.nd rfl (by first | exact Or.inl rfl | exact Or.inr rfl) (pe_bm PySem.F.plainAttrs_str PySem.F.slot_str_join PySem.F.type_str_join (mt_join K) (pe_str) (L2.pa_cons ((pe_compN (js := []) rfl (by kernel_rfl) (pi_range1 rfl T.b_range (L2.pa_cons ((pe_op op_add (pe_int) (pe_op op_mod (pv 6) (pe_int)))) L2.pa_nil)) (fun _ _ _ _ _ => pf_nil) (fun _ _ _ _ _ => (pe_str)))) L2.pa_nil))))) pss_nil) (L2.pss_cons (ps_if (pt_cmpR op_eq (pv 7) (pe_int) (nomark _)) ((L2.pss_one (ps_set (i := 9) sc_law.nd rfl (by first | exact Or.inl rfl | exact Or.inr rfl) (pe_ix (ixLK K) (pe_lst (L2.pa_cons ((pe_str)) (L2.pa_cons ((pe_str)) (L2.pa_cons ((pe_str)) (L2.pa_cons ((pe_str)) (L2.pa_cons ((pe_str)) L2.pa_nil)))))) (pe_op op_mod (pv 6) (pe_int)) (fun _ _ => rfl))))) pss_nil) (L2.pss_one (ps_ret (pe_and (pe_callH hF_refused (hr.mono (by decide)) rfl (passN) (L2.pa_cons ((pv 9)) L2.pa_nil)) (pe_one (pe_cmpR op_eq (fldK K (pe_callH hF_read (hr.mono (by decide)) rfl (passN) (L2.pa_cons ((pv 5)) L2.pa_nil))) (pv 1) (nomark _)))))))))))))))))), ?_⟩
    -- drawn
    refine ⟨_, rfl, a, ns, rfl, hs, fun t lt ls zs n fs H1 s1 hn1 hn2 ht hT hz hS fltA fls => ?_⟩
    refine ⟨t, _, rfl, SqT.of ht, rfl, _, _, rfl, _, _, rfl, _, _, rfl, rfl, ?_⟩
    -- rows
    try dsimp only [st_law, List.set_cons_zero, List.set_cons_succ]
    refine ⟨_, rfl, _, rfl, _, rfl, lt, ls, zs, n, fs, rfl, hn2, hT, hz, hS, fun R H2 hR s2 h2 => ?_⟩
    obtain ⟨M, hM⟩ : ∃ M, M = mat (zs.map (·.2)) fs := ⟨_, rfl⟩
    have sym : ∀ i j, M i j = M j i := by rw [hM]; exact mat_sym _ _
    rw [← hM] at h2
    -- text
    try dsimp only [st_law, List.set_cons_zero, List.set_cons_succ]
    refine ⟨rfl, _, rfl, _, R, linesS n M, rfl, rfl, SqL.of h2, (by decide +kernel), linesS_ok _ hn2, ?_⟩
    -- cell, fault, at
    have s12 := s1.trans s2
    obtain ⟨c, hc⟩ : ∃ c, c = cellF ns 13 % 1000003 := ⟨_, rfl⟩
    have c0 : 0 ≤ c := by rw [hc]; exact Int.emod_nonneg _ (by decide)
    try dsimp only [st_law, List.set_cons_zero, List.set_cons_succ]
    refine ⟨_, rfl, a, ns, 13, rfl, by decide, s12.seq hs, _, _, rfl, rfl, (by show (0 : Int) < 1000003; decide), ?_⟩
    dsimp only [st_law, List.set_cons_zero, List.set_cons_succ]
    rw [← hc]
    obtain ⟨g, hg⟩ : ∃ g, g = cellF ns 12 % 17 := ⟨_, rfl⟩
    have g0 : 0 ≤ g := by rw [hg]; exact Int.emod_nonneg _ (by decide)
    have g1 : g < 17 := by rw [hg]; exact Int.emod_lt_of_pos _ (by decide)
    refine ⟨_, rfl, a, ns, 12, rfl, by decide, s12.seq hs, _, _, rfl, rfl, (by show (0 : Int) < 17; decide), ?_⟩
    dsimp only [st_law, List.set_cons_zero, List.set_cons_succ]
    rw [← hg]
    have np : (0 : Int) < n := by omega
    obtain ⟨i, hi⟩ : ∃ i : Nat, (i : Int) = c / 41 % (n : Int) := ⟨(c / 41 % (n : Int)).toNat, by have := Int.emod_nonneg (c / 41) (b := (n : Int)) (by omega); omega⟩
    have hin : i < n := by have := Int.emod_lt_of_pos (c / 41) np; omega
    refine ⟨_, rfl, _, _, rfl, rfl, divI rfl, _, rfl, _, _, rfl, rfl, np, ?_⟩
    dsimp only [st_law, List.set_cons_zero, List.set_cons_succ]
    rw [← hi]
    -- the end
    have fin : ∀ (b : Str) (Hz : Hp), BadT b → tRet (tAndV (tCallS spRefused17 [] (fun x => E0) (tCons (tVar 9) tNil)) (tOp rEq (tFld K (tCallS (spRead C NN) [] (fun x => E0) (tCons (tVar 5) tNil)) "many") (tVar 1))) { nx := fun x H' => Q V.non H', rt := Q }
        [some (V.ref a), some (V.int n), some (V.ref lt), some (V.ref ls), some (V.ref R), some (V.str (textS n M)), some (V.int c), some (V.int g), some (V.int i), some (V.str b)] Hz := fun b Hz hb => by
      refine ⟨_, rfl, b, rfl, hb, fun Hy sy => ⟨true, rfl, iteT ⟨_, rfl, textS n M, rfl, text_small _ hn2, fun _ p dx r qs Hx sx Yx fp fq => ?_, fun bad => absurd (read_cond hn1 hn2 sym) bad⟩⟩⟩
      have Yx := read_yard hn1 hn2 sym Yx
      refine ⟨p, C, dx, _, _, rfl, Yx.ob, cl, nM, yf_many _ _, _, rfl, rfl, ?_⟩
      rw [decide_eq_true rfl]
      exact k _
    have ixi : atI ((linesS n M).map V.str) (i : Int) = some (.str (lineS M i)) := atI_nat (line_at M hin)
    have ixn : ixN (((linesS n M).map V.str).length) (i : Int) = some i := by rw [List.length_map, linesS_len]; exact ixN_of (by omega) (by omega)
    refine ⟨_, rfl, _, _, rfl, rfl, _, rfl, ?_⟩
    by_cases h14 : g < 14
    · refine iteTr (decide_eq_true h14) ⟨_, rfl, _, rfl, R, _, _, _, rfl, rfl, SqL.of h2, ixi, _, rfl, _, rfl, _, rfl, M, i, g, c, rfl, by omega, c0, fun L H3 bL s3 => ?_⟩
      refine ⟨_, rfl, _, rfl, R, _, _, i, rfl, rfl, s3 _ _ h2, ixn, ?_⟩
      rw [← List.map_set]
      try dsimp only [st_law, List.set_cons_zero, List.set_cons_succ]
      refine ⟨rfl, _, rfl, _, R, (linesS n M).set i L, rfl, rfl, SqL.of upd_same, (by decide +kernel), set_ok M hn2 bL.2.2, ?_⟩
      try dsimp only [st_law, List.set_cons_zero, List.set_cons_succ]
      refine ⟨_, rfl, rfl, _, rfl, iteFe (decide_eq_false (fun z => by injection z; omega)) ?_⟩
      refine ⟨_, rfl, rfl, _, rfl, iteFe (decide_eq_false (fun z => by injection z; omega)) ?_⟩
      refine ⟨_, rfl, rfl, _, rfl, iteFe (decide_eq_false (fun z => by injection z; omega)) ?_⟩
      exact fin _ _ (badT_line M hn2 hin bL)
    · refine iteFe (decide_eq_false h14) ⟨_, rfl, _, rfl, R, _, _, _, rfl, rfl, SqL.of h2, ixi, ?_⟩
      refine ⟨_, rfl, _, rfl, R, _, _, i, rfl, rfl, h2, ixn, ?_⟩
      rw [← List.map_set]
      try dsimp only [st_law, List.set_cons_zero, List.set_cons_succ]
      refine ⟨rfl, _, rfl, _, R, (linesS n M).set i (lineS M i), rfl, rfl, SqL.of upd_same, (by decide +kernel), set_ok M hn2 (Nat.le_trans (lineS_len M (by omega)) (by decide)), ?_⟩
      try dsimp only [st_law, List.set_cons_zero, List.set_cons_succ]
      refine ⟨_, rfl, rfl, _, rfl, ?_⟩
      by_cases g14 : g = 14
      · refine iteTr (decide_eq_true (by rw [g14])) ⟨_, rfl, _, _, rfl, rfl, (by show (textS n M).length + _ ≤ _; have := textS_len M hn2; have e : ("\n" : Str).length = 1 := (by decide +kernel); rw [e, sizeLine_eq]; omega), ?_⟩
        try dsimp only [st_law, List.set_cons_zero, List.set_cons_succ]
        refine ⟨_, rfl, rfl, _, rfl, iteFe (decide_eq_false (fun z => by injection z; omega)) ?_⟩
        refine ⟨_, rfl, rfl, _, rfl, iteFe (decide_eq_false (fun z => by injection z; omega)) ?_⟩
        exact fin _ _ (badT_14 M hn1 hn2)
      refine iteFe (decide_eq_false (fun z => by injection z; omega)) ?_
      refine ⟨_, rfl, rfl, _, rfl, ?_⟩
      by_cases g15 : g = 15
      · obtain ⟨m, hm⟩ : ∃ m : Nat, (m : Int) = 25 + c % 20 := ⟨(25 + c % 20).toNat, by have := Int.emod_nonneg c (b := 20) (by decide); omega⟩
        have hm1 : 25 ≤ m := by have := Int.emod_nonneg c (b := 20) (by decide); omega
        have hm2 : m ≤ 60 := by have := Int.emod_lt_of_pos c (b := 20) (by decide); omega
        refine iteTr (decide_eq_true (by rw [g15])) ⟨rfl, _, rfl, _, _, rfl, rfl, posI rfl, _, _, rfl, rfl, m, (by rw [hm]), by omega, by omega, comp_range (n := m) (fun _ => true) (fun _ => V.str "lamp") (by omega) (fun j Hc k _ _ q => q) (fun j Hc k _ _ _ q => q) fun D hD => ?_⟩
        rw [lamps_many]
        refine ⟨_, D, List.replicate m "lamp", rfl, rfl, SqL.of upd_same, (by decide +kernel), ?_, ?_⟩
        · have : (List.replicate m ("lamp" : Str)).map (·.length) = List.replicate m 4 := by rw [List.map_replicate]; congr 1
          rw [this, List.sum_replicate_nat, List.length_replicate]
          omega
        try dsimp only [st_law, List.set_cons_zero, List.set_cons_succ]
        refine ⟨_, rfl, rfl, _, rfl, iteFe (decide_eq_false (fun z => by injection z; omega)) ?_⟩
        exact fin _ _ (badT_15 hm1 hm2)
      refine iteFe (decide_eq_false (fun z => by injection z; omega)) ?_
      refine ⟨_, rfl, rfl, _, rfl, iteTr (decide_eq_true (by rw [show g = 16 by omega])) ⟨(by show 5 ≤ sizeLine; decide), fun l hl => ?_⟩⟩
      have m5 := Int.emod_nonneg c (b := 5) (by decide)
      have l5 := Int.emod_lt_of_pos c (b := 5) (by decide)
      have hlt : (c % 5).toNat < (["", "\n", " ", "0", "lamp\n\nlamp"] : List Str).length := by show (c % 5).toNat < 5; omega
      refine ⟨_, rfl, _, _, rfl, rfl, posI rfl, l, _, _, _, rfl, rfl, SqL.of upd_same, atI_of m5 (pick hlt), ?_⟩
      try dsimp only [st_law, List.set_cons_zero, List.set_cons_succ]
      exact fin _ _ (badT_16 _ (List.getElem_mem hlt))
end
end Lp

/-! ## the glue -/
namespace Lp
open PySem L2 Lamp
theorem len_1 {α : Type} {l : List α} (h : l.length = 1) : ∃ x0, l = [x0] := by
  match l, h with
  | [x0], _ => exact ⟨x0, rfl⟩
theorem len_2 {α : Type} {l : List α} (h : l.length = 2) : ∃ x0 x1, l = [x0, x1] := by
  match l, h with
  | [x0, x1], _ => exact ⟨x0, x1, rfl⟩
theorem len_3 {α : Type} {l : List α} (h : l.length = 3) : ∃ x0 x1 x2, l = [x0, x1, x2] := by
  match l, h with
  | [x0, x1, x2], _ => exact ⟨x0, x1, x2, rfl⟩
theorem len_4 {α : Type} {l : List α} (h : l.length = 4) : ∃ x0 x1 x2 x3, l = [x0, x1, x2, x3] := by
  match l, h with
  | [x0, x1, x2, x3], _ => exact ⟨x0, x1, x2, x3, rfl⟩
theorem all_mk {l : PySem.W.OpenLaw} {w : World} {K : PySem.W.Frag} {h : Heap} {mg : Str → Option Value} {fa : Addr}
    {C : Addr}
    {NL : Addr}
    {AL : Addr}
    {NY : Addr}
    {TD : Addr}
    {UT : Addr}
    {LE : Addr}
    {NP : Addr}
    {TM : Addr}
    {SH : Addr}
    {NN : Addr}
    {tM : Tok}
    {cd_NoNote : ClassData}
    {f_check_lamp : Addr} {oc_check_lamp kV_check_lamp dc_check_lamp pm_check_lamp cd_check_lamp ct_check_lamp : Value} {od_check_lamp an_check_lamp : Option Addr} {sl_check_lamp : Array (Option Value)}
    {f_check_pair : Addr} {oc_check_pair kV_check_pair dc_check_pair pm_check_pair cd_check_pair ct_check_pair : Value} {od_check_pair an_check_pair : Option Addr} {sl_check_pair : Array (Option Value)}
    {f_untied_rows : Addr} {oc_untied_rows kV_untied_rows dc_untied_rows pm_untied_rows cd_untied_rows ct_untied_rows : Value} {od_untied_rows an_untied_rows : Option Addr} {sl_untied_rows : Array (Option Value)}
    {f_Y___init__ : Addr} {oc_Y___init__ kV_Y___init__ dc_Y___init__ pm_Y___init__ cd_Y___init__ ct_Y___init__ : Value} {od_Y___init__ an_Y___init__ : Option Addr} {sl_Y___init__ : Array (Option Value)}
    {f_Y_tie : Addr} {oc_Y_tie kV_Y_tie dc_Y_tie pm_Y_tie cd_Y_tie ct_Y_tie : Value} {od_Y_tie an_Y_tie : Option Addr} {sl_Y_tie : Array (Option Value)}
    {f_Y_put_tie : Addr} {oc_Y_put_tie kV_Y_put_tie dc_Y_put_tie pm_Y_put_tie cd_Y_put_tie ct_Y_put_tie : Value} {od_Y_put_tie an_Y_put_tie : Option Addr} {sl_Y_put_tie : Array (Option Value)}
    {f_Y_is_tied : Addr} {oc_Y_is_tied kV_Y_is_tied dc_Y_is_tied pm_Y_is_tied cd_Y_is_tied ct_Y_is_tied : Value} {od_Y_is_tied an_Y_is_tied : Option Addr} {sl_Y_is_tied : Array (Option Value)}
    {f_Y_set_shy : Addr} {oc_Y_set_shy kV_Y_set_shy dc_Y_set_shy pm_Y_set_shy cd_Y_set_shy ct_Y_set_shy : Value} {od_Y_set_shy an_Y_set_shy : Option Addr} {sl_Y_set_shy : Array (Option Value)}
    {Td_Y_set_shy : Addr} {ocT_Y_set_shy : Value} {odT_Y_set_shy : Option Addr} {nt_Y_set_shy : Nat} {slT_Y_set_shy : Array (Option Value)}
    {f_Y_is_shy : Addr} {oc_Y_is_shy kV_Y_is_shy dc_Y_is_shy pm_Y_is_shy cd_Y_is_shy ct_Y_is_shy : Value} {od_Y_is_shy an_Y_is_shy : Option Addr} {sl_Y_is_shy : Array (Option Value)}
    {f_shown_lamp : Addr} {oc_shown_lamp kV_shown_lamp dc_shown_lamp pm_shown_lamp cd_shown_lamp ct_shown_lamp : Value} {od_shown_lamp an_shown_lamp : Option Addr} {sl_shown_lamp : Array (Option Value)}
    {f_shown : Addr} {oc_shown kV_shown dc_shown pm_shown cd_shown ct_shown : Value} {od_shown an_shown : Option Addr} {sl_shown : Array (Option Value)}
    {f_take_lamp : Addr} {oc_take_lamp kV_take_lamp dc_take_lamp pm_take_lamp cd_take_lamp ct_take_lamp : Value} {od_take_lamp an_take_lamp : Option Addr} {sl_take_lamp : Array (Option Value)}
    {f_read : Addr} {oc_read kV_read dc_read pm_read cd_read ct_read : Value} {od_read an_read : Option Addr} {sl_read : Array (Option Value)}
    {f_cell_at : Addr} {oc_cell_at kV_cell_at dc_cell_at pm_cell_at cd_cell_at ct_cell_at : Value} {od_cell_at an_cell_at : Option Addr} {sl_cell_at : Array (Option Value)}
    {f_mix : Addr} {oc_mix kV_mix dc_mix pm_mix cd_mix ct_mix : Value} {od_mix an_mix : Option Addr} {sl_mix : Array (Option Value)}
    {f_many : Addr} {oc_many kV_many dc_many pm_many cd_many ct_many : Value} {od_many an_many : Option Addr} {sl_many : Array (Option Value)}
    {f_drawn : Addr} {oc_drawn kV_drawn dc_drawn pm_drawn cd_drawn ct_drawn : Value} {od_drawn an_drawn : Option Addr} {sl_drawn : Array (Option Value)}
    {f_text : Addr} {oc_text kV_text dc_text pm_text cd_text ct_text : Value} {od_text an_text : Option Addr} {sl_text : Array (Option Value)}
    {f_others : Addr} {oc_others kV_others dc_others pm_others cd_others ct_others : Value} {od_others an_others : Option Addr} {sl_others : Array (Option Value)}
    {f_refused : Addr} {oc_refused kV_refused dc_refused pm_refused cd_refused ct_refused : Value} {od_refused an_refused : Option Addr} {sl_refused : Array (Option Value)}
    {f_bad_line : Addr} {oc_bad_line kV_bad_line dc_bad_line pm_bad_line cd_bad_line ct_bad_line : Value} {od_bad_line an_bad_line : Option Addr} {sl_bad_line : Array (Option Value)}
    {f_law : Addr} {oc_law kV_law dc_law pm_law cd_law ct_law : Value} {od_law an_law : Option Addr} {sl_law : Array (Option Value)}
    (X : K.In h) (G : h.Ns mainGlobals mg) (hfa : mg "law" = some (.ref fa))
    (aC : PySem.W.nsIn K mainGlobals "Yard" = some (some (.ref C)))
    (g_NoLamp : PySem.W.nsIn K mainGlobals "NoLamp" = some (some (.ref NL)))
    (g_Alone : PySem.W.nsIn K mainGlobals "Alone" = some (some (.ref AL)))
    (g_NoYard : PySem.W.nsIn K mainGlobals "NoYard" = some (some (.ref NY)))
    (g_Tied : PySem.W.nsIn K mainGlobals "Tied" = some (some (.ref TD)))
    (g_Untied : PySem.W.nsIn K mainGlobals "Untied" = some (some (.ref UT)))
    (g_LampError : PySem.W.nsIn K mainGlobals "LampError" = some (some (.ref LE)))
    (g_NoPress : PySem.W.nsIn K mainGlobals "NoPress" = some (some (.ref NP)))
    (g_TooMany : PySem.W.nsIn K mainGlobals "TooMany" = some (some (.ref TM)))
    (g_Shy : PySem.W.nsIn K mainGlobals "Shy" = some (some (.ref SH)))
    (g_NoNote : PySem.W.nsIn K mainGlobals "NoNote" = some (some (.ref NN)))
    (x_NoLamp : PySem.W.excIn K NL bmV "ValueError.__new__" = true)
    (x_Alone : PySem.W.excIn K AL bmV "ValueError.__new__" = true)
    (x_NoYard : PySem.W.excIn K NY bmV "ValueError.__new__" = true)
    (x_Tied : PySem.W.excIn K TD bmV "ValueError.__new__" = true)
    (x_NoNote : PySem.W.excIn K NN bmV "ValueError.__new__" = true)
    (pg : PySem.W.plainGet K C Str.empty = true)
    (hd : PySem.W.hasDictIn K C = true)
    (po : PySem.W.plainOver K C = true)
    (sa : PySem.W.findIn K (.ref C) "__setattr__" = some (some (.builtin "object.__setattr__")))
    (mk : PySem.W.makesIn K C = true)
    (kc : PySem.W.keepIn K (.ref C) = true)
    (nM : PySem.W.findIn K (.ref C) "many" = some none)
    (nR : PySem.W.findIn K (.ref C) "rows" = some none)
    (aM : PySem.W.nsIn K mainGlobals "MOST_LAMPS" = some (some (.int 24 tM)))
    (z_len : PySem.W.nsIn K mainGlobals "len" = some none)
    (z_list : PySem.W.nsIn K mainGlobals "list" = some none)
    (z_bool : PySem.W.nsIn K mainGlobals "bool" = some none)
    (z_int : PySem.W.nsIn K mainGlobals "int" = some none)
    (z_isinstance : PySem.W.nsIn K mainGlobals "isinstance" = some none)
    (z_all : PySem.W.nsIn K mainGlobals "all" = some none)
    (z_any : PySem.W.nsIn K mainGlobals "any" = some none)
    (z_range : PySem.W.nsIn K mainGlobals "range" = some none)
    (z_enumerate : PySem.W.nsIn K mainGlobals "enumerate" = some none)
    (z_ValueError : PySem.W.nsIn K mainGlobals "ValueError" = some none)
    (z_reversed : PySem.W.nsIn K mainGlobals "reversed" = some none)
    (z_str : PySem.W.nsIn K mainGlobals "str" = some none)
    (z_tuple : PySem.W.nsIn K mainGlobals "tuple" = some none)
    (z_set : PySem.W.nsIn K mainGlobals "set" = some none)
    (z_sorted : PySem.W.nsIn K mainGlobals "sorted" = some none)
    (z_min : PySem.W.nsIn K mainGlobals "min" = some none)
    (eg : PySem.W.specialIn K (.builtin "object.__class__") "__get__" = some (some (.builtin "getset_descriptor.__get__")))
    (et : PySem.W.takesIn K (.builtin "object.__class__") = some true)
    (ep_NoNote : PySem.W.findIn K (.ref NN) "__getattribute__" = some (some (.builtin "BaseException.__getattribute__")))
    (eh_NoNote : PySem.W.findIn K (.ref NN) "__getattr__" = some none)
    (eb_NoNote : PySem.W.mroIn K NN (.type "BaseException") = some true)
    (ec_NoNote : PySem.W.clsIn K NN = some cd_NoNote)
    (ea_NoNote : PySem.W.findIn K (.ref NN) "__class__" = some (some (.builtin "object.__class__")))
    (em_NoNote : PySem.W.mroIn K NN (.type "object") = some true)
    (k_NoNote_LampError : PySem.W.kitOne K (.ref NN) (.ref LE) = some true)
    (k_NoNote_ValueError : PySem.W.kitOne K (.ref NN) (.type "ValueError") = some true)
    (k_NoNote_Alone : PySem.W.kitOne K (.ref NN) (.ref AL) = some false)
    (k_NoNote_NoLamp : PySem.W.kitOne K (.ref NN) (.ref NL) = some false)
    (k_NoNote_Shy : PySem.W.kitOne K (.ref NN) (.ref SH) = some false)
    (k_NoNote_NoPress : PySem.W.kitOne K (.ref NN) (.ref NP) = some false)
    (k_NoNote_NoYard : PySem.W.kitOne K (.ref NN) (.ref NY) = some false)
    (k_NoNote_Tied : PySem.W.kitOne K (.ref NN) (.ref TD) = some false)
    (k_NoNote_TooMany : PySem.W.kitOne K (.ref NN) (.ref TM) = some false)
    (k_NoNote_Untied : PySem.W.kitOne K (.ref NN) (.ref UT) = some false)
    (m_NoNote_NoNote : PySem.W.exmOne K (.ref NN) (.ref NN) = some true)
    (a_check_lamp : PySem.W.nsIn K mainGlobals "check_lamp" = some (some (.ref f_check_lamp)))
    (l_check_lamp : K.lookup f_check_lamp = some ⟨oc_check_lamp, od_check_lamp, .func (PySem.W.fnOf "check_lamp" "check_lamp" (defArgs s_check_lamp) (defBody s_check_lamp) (defScope s_check_lamp) .none kV_check_lamp dc_check_lamp pm_check_lamp an_check_lamp cd_check_lamp ct_check_lamp), sl_check_lamp⟩)
    (c_check_lamp : PySem.W.codeIn K cd_check_lamp "check_lamp" = true)
    (k_check_lamp : PySem.W.keepIn K (.ref f_check_lamp) = true)
    (a_check_pair : PySem.W.nsIn K mainGlobals "check_pair" = some (some (.ref f_check_pair)))
    (l_check_pair : K.lookup f_check_pair = some ⟨oc_check_pair, od_check_pair, .func (PySem.W.fnOf "check_pair" "check_pair" (defArgs s_check_pair) (defBody s_check_pair) (defScope s_check_pair) .none kV_check_pair dc_check_pair pm_check_pair an_check_pair cd_check_pair ct_check_pair), sl_check_pair⟩)
    (c_check_pair : PySem.W.codeIn K cd_check_pair "check_pair" = true)
    (k_check_pair : PySem.W.keepIn K (.ref f_check_pair) = true)
    (a_untied_rows : PySem.W.nsIn K mainGlobals "untied_rows" = some (some (.ref f_untied_rows)))
    (l_untied_rows : K.lookup f_untied_rows = some ⟨oc_untied_rows, od_untied_rows, .func (PySem.W.fnOf "untied_rows" "untied_rows" (defArgs s_untied_rows) (defBody s_untied_rows) (defScope s_untied_rows) .none kV_untied_rows dc_untied_rows pm_untied_rows an_untied_rows cd_untied_rows ct_untied_rows), sl_untied_rows⟩)
    (c_untied_rows : PySem.W.codeIn K cd_untied_rows "untied_rows" = true)
    (k_untied_rows : PySem.W.keepIn K (.ref f_untied_rows) = true)
    (a_Y___init__ : PySem.W.findIn K (.ref C) "__init__" = some (some (.ref f_Y___init__)))
    (i_Y___init__ : PySem.W.isFn K (.ref f_Y___init__) = true)
    (l_Y___init__ : K.lookup f_Y___init__ = some ⟨oc_Y___init__, od_Y___init__, .func (PySem.W.fnOf "__init__" "Yard.__init__" (defArgs s_init) (defBody s_init) (defScope s_init) .none kV_Y___init__ dc_Y___init__ pm_Y___init__ an_Y___init__ cd_Y___init__ ct_Y___init__), sl_Y___init__⟩)
    (c_Y___init__ : PySem.W.codeIn K cd_Y___init__ "Yard.__init__" = true)
    (k_Y___init__ : PySem.W.keepIn K (.ref f_Y___init__) = true)
    (a_Y_tie : PySem.W.findIn K (.ref C) "tie" = some (some (.ref f_Y_tie)))
    (i_Y_tie : PySem.W.isFn K (.ref f_Y_tie) = true)
    (l_Y_tie : K.lookup f_Y_tie = some ⟨oc_Y_tie, od_Y_tie, .func (PySem.W.fnOf "tie" "Yard.tie" (defArgs s_tie) (defBody s_tie) (defScope s_tie) .none kV_Y_tie dc_Y_tie pm_Y_tie an_Y_tie cd_Y_tie ct_Y_tie), sl_Y_tie⟩)
    (c_Y_tie : PySem.W.codeIn K cd_Y_tie "Yard.tie" = true)
    (k_Y_tie : PySem.W.keepIn K (.ref f_Y_tie) = true)
    (a_Y_put_tie : PySem.W.findIn K (.ref C) "put_tie" = some (some (.ref f_Y_put_tie)))
    (i_Y_put_tie : PySem.W.isFn K (.ref f_Y_put_tie) = true)
    (l_Y_put_tie : K.lookup f_Y_put_tie = some ⟨oc_Y_put_tie, od_Y_put_tie, .func (PySem.W.fnOf "put_tie" "Yard.put_tie" (defArgs s_put_tie) (defBody s_put_tie) (defScope s_put_tie) .none kV_Y_put_tie dc_Y_put_tie pm_Y_put_tie an_Y_put_tie cd_Y_put_tie ct_Y_put_tie), sl_Y_put_tie⟩)
    (c_Y_put_tie : PySem.W.codeIn K cd_Y_put_tie "Yard.put_tie" = true)
    (k_Y_put_tie : PySem.W.keepIn K (.ref f_Y_put_tie) = true)
    (a_Y_is_tied : PySem.W.findIn K (.ref C) "is_tied" = some (some (.ref f_Y_is_tied)))
    (i_Y_is_tied : PySem.W.isFn K (.ref f_Y_is_tied) = true)
    (l_Y_is_tied : K.lookup f_Y_is_tied = some ⟨oc_Y_is_tied, od_Y_is_tied, .func (PySem.W.fnOf "is_tied" "Yard.is_tied" (defArgs s_is_tied) (defBody s_is_tied) (defScope s_is_tied) .none kV_Y_is_tied dc_Y_is_tied pm_Y_is_tied an_Y_is_tied cd_Y_is_tied ct_Y_is_tied), sl_Y_is_tied⟩)
    (c_Y_is_tied : PySem.W.codeIn K cd_Y_is_tied "Yard.is_tied" = true)
    (k_Y_is_tied : PySem.W.keepIn K (.ref f_Y_is_tied) = true)
    (a_Y_set_shy : PySem.W.findIn K (.ref C) "set_shy" = some (some (.ref f_Y_set_shy)))
    (i_Y_set_shy : PySem.W.isFn K (.ref f_Y_set_shy) = true)
    (l_Y_set_shy : K.lookup f_Y_set_shy = some ⟨oc_Y_set_shy, od_Y_set_shy, .func (PySem.W.fnOf "set_shy" "Yard.set_shy" (defArgs s_set_shy) (defBody s_set_shy) (defScope s_set_shy) (.ref Td_Y_set_shy) kV_Y_set_shy dc_Y_set_shy pm_Y_set_shy an_Y_set_shy cd_Y_set_shy ct_Y_set_shy), sl_Y_set_shy⟩)
    (c_Y_set_shy : PySem.W.codeIn K cd_Y_set_shy "Yard.set_shy" = true)
    (k_Y_set_shy : PySem.W.keepIn K (.ref f_Y_set_shy) = true)
    (lT_Y_set_shy : K.lookup Td_Y_set_shy = some ⟨ocT_Y_set_shy, odT_Y_set_shy, .seq [Value.bool true].toArray nt_Y_set_shy, slT_Y_set_shy⟩)
    (a_Y_is_shy : PySem.W.findIn K (.ref C) "is_shy" = some (some (.ref f_Y_is_shy)))
    (i_Y_is_shy : PySem.W.isFn K (.ref f_Y_is_shy) = true)
    (l_Y_is_shy : K.lookup f_Y_is_shy = some ⟨oc_Y_is_shy, od_Y_is_shy, .func (PySem.W.fnOf "is_shy" "Yard.is_shy" (defArgs s_is_shy) (defBody s_is_shy) (defScope s_is_shy) .none kV_Y_is_shy dc_Y_is_shy pm_Y_is_shy an_Y_is_shy cd_Y_is_shy ct_Y_is_shy), sl_Y_is_shy⟩)
    (c_Y_is_shy : PySem.W.codeIn K cd_Y_is_shy "Yard.is_shy" = true)
    (k_Y_is_shy : PySem.W.keepIn K (.ref f_Y_is_shy) = true)
    (a_shown_lamp : PySem.W.nsIn K mainGlobals "shown_lamp" = some (some (.ref f_shown_lamp)))
    (l_shown_lamp : K.lookup f_shown_lamp = some ⟨oc_shown_lamp, od_shown_lamp, .func (PySem.W.fnOf "shown_lamp" "shown_lamp" (defArgs s_shown_lamp) (defBody s_shown_lamp) (defScope s_shown_lamp) .none kV_shown_lamp dc_shown_lamp pm_shown_lamp an_shown_lamp cd_shown_lamp ct_shown_lamp), sl_shown_lamp⟩)
    (c_shown_lamp : PySem.W.codeIn K cd_shown_lamp "shown_lamp" = true)
    (k_shown_lamp : PySem.W.keepIn K (.ref f_shown_lamp) = true)
    (a_shown : PySem.W.nsIn K mainGlobals "shown" = some (some (.ref f_shown)))
    (l_shown : K.lookup f_shown = some ⟨oc_shown, od_shown, .func (PySem.W.fnOf "shown" "shown" (defArgs s_shown) (defBody s_shown) (defScope s_shown) .none kV_shown dc_shown pm_shown an_shown cd_shown ct_shown), sl_shown⟩)
    (c_shown : PySem.W.codeIn K cd_shown "shown" = true)
    (k_shown : PySem.W.keepIn K (.ref f_shown) = true)
    (a_take_lamp : PySem.W.nsIn K mainGlobals "take_lamp" = some (some (.ref f_take_lamp)))
    (l_take_lamp : K.lookup f_take_lamp = some ⟨oc_take_lamp, od_take_lamp, .func (PySem.W.fnOf "take_lamp" "take_lamp" (defArgs s_take_lamp) (defBody s_take_lamp) (defScope s_take_lamp) .none kV_take_lamp dc_take_lamp pm_take_lamp an_take_lamp cd_take_lamp ct_take_lamp), sl_take_lamp⟩)
    (c_take_lamp : PySem.W.codeIn K cd_take_lamp "take_lamp" = true)
    (k_take_lamp : PySem.W.keepIn K (.ref f_take_lamp) = true)
    (a_read : PySem.W.nsIn K mainGlobals "read" = some (some (.ref f_read)))
    (l_read : K.lookup f_read = some ⟨oc_read, od_read, .func (PySem.W.fnOf "read" "read" (defArgs s_read) (defBody s_read) (defScope s_read) .none kV_read dc_read pm_read an_read cd_read ct_read), sl_read⟩)
    (c_read : PySem.W.codeIn K cd_read "read" = true)
    (k_read : PySem.W.keepIn K (.ref f_read) = true)
    (a_cell_at : PySem.W.nsIn K mainGlobals "_law_cell_at" = some (some (.ref f_cell_at)))
    (l_cell_at : K.lookup f_cell_at = some ⟨oc_cell_at, od_cell_at, .func (PySem.W.fnOf "_law_cell_at" "_law_cell_at" (defArgs s_cell) (defBody s_cell) (defScope s_cell) .none kV_cell_at dc_cell_at pm_cell_at an_cell_at cd_cell_at ct_cell_at), sl_cell_at⟩)
    (c_cell_at : PySem.W.codeIn K cd_cell_at "_law_cell_at" = true)
    (k_cell_at : PySem.W.keepIn K (.ref f_cell_at) = true)
    (a_mix : PySem.W.nsIn K mainGlobals "_law_mix" = some (some (.ref f_mix)))
    (l_mix : K.lookup f_mix = some ⟨oc_mix, od_mix, .func (PySem.W.fnOf "_law_mix" "_law_mix" (defArgs s_mix) (defBody s_mix) (defScope s_mix) .none kV_mix dc_mix pm_mix an_mix cd_mix ct_mix), sl_mix⟩)
    (c_mix : PySem.W.codeIn K cd_mix "_law_mix" = true)
    (k_mix : PySem.W.keepIn K (.ref f_mix) = true)
    (a_many : PySem.W.nsIn K mainGlobals "_law_many" = some (some (.ref f_many)))
    (l_many : K.lookup f_many = some ⟨oc_many, od_many, .func (PySem.W.fnOf "_law_many" "_law_many" (defArgs s_many) (defBody s_many) (defScope s_many) .none kV_many dc_many pm_many an_many cd_many ct_many), sl_many⟩)
    (c_many : PySem.W.codeIn K cd_many "_law_many" = true)
    (k_many : PySem.W.keepIn K (.ref f_many) = true)
    (a_drawn : PySem.W.nsIn K mainGlobals "_law_drawn" = some (some (.ref f_drawn)))
    (l_drawn : K.lookup f_drawn = some ⟨oc_drawn, od_drawn, .func (PySem.W.fnOf "_law_drawn" "_law_drawn" (defArgs s_drawn) (defBody s_drawn) (defScope s_drawn) .none kV_drawn dc_drawn pm_drawn an_drawn cd_drawn ct_drawn), sl_drawn⟩)
    (c_drawn : PySem.W.codeIn K cd_drawn "_law_drawn" = true)
    (k_drawn : PySem.W.keepIn K (.ref f_drawn) = true)
    (a_text : PySem.W.nsIn K mainGlobals "_law_text" = some (some (.ref f_text)))
    (l_text : K.lookup f_text = some ⟨oc_text, od_text, .func (PySem.W.fnOf "_law_text" "_law_text" (defArgs s_text) (defBody s_text) (defScope s_text) .none kV_text dc_text pm_text an_text cd_text ct_text), sl_text⟩)
    (c_text : PySem.W.codeIn K cd_text "_law_text" = true)
    (k_text : PySem.W.keepIn K (.ref f_text) = true)
    (a_others : PySem.W.nsIn K mainGlobals "_law_others" = some (some (.ref f_others)))
    (l_others : K.lookup f_others = some ⟨oc_others, od_others, .func (PySem.W.fnOf "_law_others" "_law_others" (defArgs s_others) (defBody s_others) (defScope s_others) .none kV_others dc_others pm_others an_others cd_others ct_others), sl_others⟩)
    (c_others : PySem.W.codeIn K cd_others "_law_others" = true)
    (k_others : PySem.W.keepIn K (.ref f_others) = true)
    (a_refused : PySem.W.nsIn K mainGlobals "_law_refused" = some (some (.ref f_refused)))
    (l_refused : K.lookup f_refused = some ⟨oc_refused, od_refused, .func (PySem.W.fnOf "_law_refused" "_law_refused" (defArgs s_refused) (defBody s_refused) (defScope s_refused) .none kV_refused dc_refused pm_refused an_refused cd_refused ct_refused), sl_refused⟩)
    (c_refused : PySem.W.codeIn K cd_refused "_law_refused" = true)
    (k_refused : PySem.W.keepIn K (.ref f_refused) = true)
    (a_bad_line : PySem.W.nsIn K mainGlobals "_law_bad_line" = some (some (.ref f_bad_line)))
    (l_bad_line : K.lookup f_bad_line = some ⟨oc_bad_line, od_bad_line, .func (PySem.W.fnOf "_law_bad_line" "_law_bad_line" (defArgs s_bad_line) (defBody s_bad_line) (defScope s_bad_line) .none kV_bad_line dc_bad_line pm_bad_line an_bad_line cd_bad_line ct_bad_line), sl_bad_line⟩)
    (c_bad_line : PySem.W.codeIn K cd_bad_line "_law_bad_line" = true)
    (k_bad_line : PySem.W.keepIn K (.ref f_bad_line) = true)
    (a_law : PySem.W.nsIn K mainGlobals "law" = some (some (.ref f_law)))
    (l_law : K.lookup f_law = some ⟨oc_law, od_law, .func (PySem.W.fnOf "law" "law" (defArgs s_law) (defBody s_law) (defScope s_law) .none kV_law dc_law pm_law an_law cd_law ct_law), sl_law⟩)
    (c_law : PySem.W.codeIn K cd_law "law" = true)
    (k_law : PySem.W.keepIn K (.ref f_law) = true)
    : ∃ fd : FuncData, (∀ (s : Shared) (v : Value), BindsTo s fd ⟨[v], []⟩ [("script", v)]) ∧ ∀ base : Heap, K.In base → base.Ns mainGlobals mg → FnOk l.prog w K mg base CX0 10 fa fd ["script"] (spLaw K) := by
  have e := hfa.symm.trans (PySem.W.mg_of X G a_law)
  cases e
  have T : LB mg := ⟨PySem.W.mg_none_of X G z_len, PySem.W.mg_none_of X G z_list, PySem.W.mg_none_of X G z_bool, PySem.W.mg_none_of X G z_int, PySem.W.mg_none_of X G z_isinstance, PySem.W.mg_none_of X G z_all, PySem.W.mg_none_of X G z_any, PySem.W.mg_none_of X G z_range, PySem.W.mg_none_of X G z_enumerate, PySem.W.mg_none_of X G z_ValueError, PySem.W.mg_none_of X G z_reversed, PySem.W.mg_none_of X G z_str, PySem.W.mg_none_of X G z_tuple, PySem.W.mg_none_of X G z_set, PySem.W.mg_none_of X G z_sorted, PySem.W.mg_none_of X G z_min⟩
  have Y0 : YT K mg C NL AL NY TD UT := ⟨⟨pg, hd, po, sa⟩, nM, nR, PySem.W.mg_of X G aC, PySem.W.mg_of X G g_NoLamp, x_NoLamp, PySem.W.mg_of X G g_Alone, x_Alone, PySem.W.mg_of X G g_NoYard, x_NoYard, PySem.W.mg_of X G g_Tied, x_Tied, PySem.W.mg_none_of X G z_range, ⟨tM, PySem.W.mg_of X G aM⟩⟩
  have E_NoNote : ExcT K NN := ⟨ep_NoNote, eh_NoNote, eb_NoNote, by rw [ec_NoNote]; rfl, ea_NoNote, eg, et, em_NoNote⟩
  have G17_ : G17 K mg NN LE AL NL SH NP NY TD TM UT := ⟨PySem.W.mg_of X G g_NoNote, PySem.W.mg_of X G g_LampError, PySem.W.mg_of X G g_Alone, PySem.W.mg_of X G g_NoLamp, PySem.W.mg_of X G g_Shy, PySem.W.mg_of X G g_NoPress, PySem.W.mg_of X G g_NoYard, PySem.W.mg_of X G g_Tied, PySem.W.mg_of X G g_TooMany, PySem.W.mg_of X G g_Untied, E_NoNote, m_NoNote_NoNote, k_NoNote_LampError, k_NoNote_ValueError, k_NoNote_Alone, k_NoNote_NoLamp, k_NoNote_Shy, k_NoNote_NoPress, k_NoNote_NoYard, k_NoNote_Tied, k_NoNote_TooMany, k_NoNote_Untied⟩
  have F_check_lamp := fun_mk (st := s_check_lamp) l_check_lamp c_check_lamp k_check_lamp
  have b_check_lamp := F_check_lamp.binds (ps := ["lamp", "many"]) fun _ _ _ _ _ _ us hl => by obtain ⟨x0, x1, rfl⟩ := len_2 hl; rfl
  have m_check_lamp := PySem.W.mg_of X G a_check_lamp
  have F_check_pair := fun_mk (st := s_check_pair) l_check_pair c_check_pair k_check_pair
  have b_check_pair := F_check_pair.binds (ps := ["one", "other", "many"]) fun _ _ _ _ _ _ us hl => by obtain ⟨x0, x1, x2, rfl⟩ := len_3 hl; rfl
  have m_check_pair := PySem.W.mg_of X G a_check_pair
  have F_untied_rows := fun_mk (st := s_untied_rows) l_untied_rows c_untied_rows k_untied_rows
  have b_untied_rows := F_untied_rows.binds (ps := ["many"]) fun _ _ _ _ _ _ us hl => by obtain ⟨x0, rfl⟩ := len_1 hl; rfl
  have m_untied_rows := PySem.W.mg_of X G a_untied_rows
  have F_Y___init__ := fun_mk (st := s_init) l_Y___init__ c_Y___init__ k_Y___init__
  have b_Y___init__ := F_Y___init__.binds (ps := ["self", "many"]) fun _ _ _ _ _ _ us hl => by obtain ⟨x0, x1, rfl⟩ := len_2 hl; rfl
  have M_Y___init__ : Meth K C "__init__" f_Y___init__ := ⟨a_Y___init__, i_Y___init__, k_Y___init__⟩
  have F_Y_tie := fun_mk (st := s_tie) l_Y_tie c_Y_tie k_Y_tie
  have b_Y_tie := F_Y_tie.binds (ps := ["self", "one", "other"]) fun _ _ _ _ _ _ us hl => by obtain ⟨x0, x1, x2, rfl⟩ := len_3 hl; rfl
  have M_Y_tie : Meth K C "tie" f_Y_tie := ⟨a_Y_tie, i_Y_tie, k_Y_tie⟩
  have F_Y_put_tie := fun_mk (st := s_put_tie) l_Y_put_tie c_Y_put_tie k_Y_put_tie
  have b_Y_put_tie := F_Y_put_tie.binds (ps := ["self", "one", "other", "answer"]) fun _ _ _ _ _ _ us hl => by obtain ⟨x0, x1, x2, x3, rfl⟩ := len_4 hl; rfl
  have M_Y_put_tie : Meth K C "put_tie" f_Y_put_tie := ⟨a_Y_put_tie, i_Y_put_tie, k_Y_put_tie⟩
  have F_Y_is_tied := fun_mk (st := s_is_tied) l_Y_is_tied c_Y_is_tied k_Y_is_tied
  have b_Y_is_tied := F_Y_is_tied.binds (ps := ["self", "one", "other"]) fun _ _ _ _ _ _ us hl => by obtain ⟨x0, x1, x2, rfl⟩ := len_3 hl; rfl
  have M_Y_is_tied : Meth K C "is_tied" f_Y_is_tied := ⟨a_Y_is_tied, i_Y_is_tied, k_Y_is_tied⟩
  have F_Y_set_shy := funD_mk (st := s_set_shy) (ds := [.bool true]) l_Y_set_shy c_Y_set_shy k_Y_set_shy lT_Y_set_shy
  have M_Y_set_shy : Meth K C "set_shy" f_Y_set_shy := ⟨a_Y_set_shy, i_Y_set_shy, k_Y_set_shy⟩
  have F_Y_is_shy := fun_mk (st := s_is_shy) l_Y_is_shy c_Y_is_shy k_Y_is_shy
  have b_Y_is_shy := F_Y_is_shy.binds (ps := ["self", "lamp"]) fun _ _ _ _ _ _ us hl => by obtain ⟨x0, x1, rfl⟩ := len_2 hl; rfl
  have M_Y_is_shy : Meth K C "is_shy" f_Y_is_shy := ⟨a_Y_is_shy, i_Y_is_shy, k_Y_is_shy⟩
  have F_shown_lamp := fun_mk (st := s_shown_lamp) l_shown_lamp c_shown_lamp k_shown_lamp
  have b_shown_lamp := F_shown_lamp.binds (ps := ["yard", "lamp"]) fun _ _ _ _ _ _ us hl => by obtain ⟨x0, x1, rfl⟩ := len_2 hl; rfl
  have m_shown_lamp := PySem.W.mg_of X G a_shown_lamp
  have F_shown := fun_mk (st := s_shown) l_shown c_shown k_shown
  have b_shown := F_shown.binds (ps := ["yard"]) fun _ _ _ _ _ _ us hl => by obtain ⟨x0, rfl⟩ := len_1 hl; rfl
  have m_shown := PySem.W.mg_of X G a_shown
  have F_take_lamp := fun_mk (st := s_take_lamp) l_take_lamp c_take_lamp k_take_lamp
  have b_take_lamp := F_take_lamp.binds (ps := ["yard", "lamp", "words"]) fun _ _ _ _ _ _ us hl => by obtain ⟨x0, x1, x2, rfl⟩ := len_3 hl; rfl
  have m_take_lamp := PySem.W.mg_of X G a_take_lamp
  have F_read := fun_mk (st := s_read) l_read c_read k_read
  have b_read := F_read.binds (ps := ["text"]) fun _ _ _ _ _ _ us hl => by obtain ⟨x0, rfl⟩ := len_1 hl; rfl
  have m_read := PySem.W.mg_of X G a_read
  have F_cell_at := fun_mk (st := s_cell) l_cell_at c_cell_at k_cell_at
  have b_cell_at := F_cell_at.binds (ps := ["script", "k"]) fun _ _ _ _ _ _ us hl => by obtain ⟨x0, x1, rfl⟩ := len_2 hl; rfl
  have m_cell_at := PySem.W.mg_of X G a_cell_at
  have F_mix := fun_mk (st := s_mix) l_mix c_mix k_mix
  have b_mix := F_mix.binds (ps := ["cell", "k"]) fun _ _ _ _ _ _ us hl => by obtain ⟨x0, x1, rfl⟩ := len_2 hl; rfl
  have m_mix := PySem.W.mg_of X G a_mix
  have F_many := fun_mk (st := s_many) l_many c_many k_many
  have b_many := F_many.binds (ps := ["cell"]) fun _ _ _ _ _ _ us hl => by obtain ⟨x0, rfl⟩ := len_1 hl; rfl
  have m_many := PySem.W.mg_of X G a_many
  have F_drawn := fun_mk (st := s_drawn) l_drawn c_drawn k_drawn
  have b_drawn := F_drawn.binds (ps := ["script"]) fun _ _ _ _ _ _ us hl => by obtain ⟨x0, rfl⟩ := len_1 hl; rfl
  have m_drawn := PySem.W.mg_of X G a_drawn
  have F_text := fun_mk (st := s_text) l_text c_text k_text
  have b_text := F_text.binds (ps := ["many", "ties", "shy"]) fun _ _ _ _ _ _ us hl => by obtain ⟨x0, x1, x2, rfl⟩ := len_3 hl; rfl
  have m_text := PySem.W.mg_of X G a_text
  have F_others := fun_mk (st := s_others) l_others c_others k_others
  have b_others := F_others.binds (ps := ["e"]) fun _ _ _ _ _ _ us hl => by obtain ⟨x0, rfl⟩ := len_1 hl; rfl
  have m_others := PySem.W.mg_of X G a_others
  have F_refused := fun_mk (st := s_refused) l_refused c_refused k_refused
  have b_refused := F_refused.binds (ps := ["text"]) fun _ _ _ _ _ _ us hl => by obtain ⟨x0, rfl⟩ := len_1 hl; rfl
  have m_refused := PySem.W.mg_of X G a_refused
  have F_bad_line := fun_mk (st := s_bad_line) l_bad_line c_bad_line k_bad_line
  have b_bad_line := F_bad_line.binds (ps := ["line", "at", "fault", "cell"]) fun _ _ _ _ _ _ us hl => by obtain ⟨x0, x1, x2, x3, rfl⟩ := len_4 hl; rfl
  have m_bad_line := PySem.W.mg_of X G a_bad_line
  have F_law := fun_mk (st := s_law) l_law c_law k_law
  refine ⟨PySem.W.fnOf "law" "law" (defArgs s_law) (defBody s_law) (defScope s_law) .none kV_law dc_law pm_law an_law cd_law ct_law, fun s v => .of_eq rfl, fun base _ _ => ?_⟩
  have G_check_lamp : FnOk l.prog w K mg base (CXE l.prog w) 1 f_check_lamp _ ["lamp", "many"] (spCheck NL) := ok_check_lamp F_check_lamp Y0
  have hF_check_lamp : Has l.prog w K mg base (CXE l.prog w) 1 "check_lamp" ["lamp", "many"] (spCheck NL) := Has.mk' (G_check_lamp) b_check_lamp m_check_lamp k_check_lamp
  have G_check_pair : FnOk l.prog w K mg base (CXE l.prog w) 2 f_check_pair _ ["one", "other", "many"] (spPair NL AL) := ok_check_pair F_check_pair Y0 G_check_lamp b_check_lamp m_check_lamp k_check_lamp
  have hF_check_pair : Has l.prog w K mg base (CXE l.prog w) 2 "check_pair" ["one", "other", "many"] (spPair NL AL) := Has.mk' (G_check_pair) b_check_pair m_check_pair k_check_pair
  have G_untied_rows : FnOk l.prog w K mg base CX0 1 f_untied_rows _ ["many"] (spRows) := ok_untied_rows F_untied_rows Y0
  have hF_untied_rows : Has l.prog w K mg base (CXE l.prog w) 1 "untied_rows" ["many"] (spRows) := Has.mk' (G_untied_rows.lift) b_untied_rows m_untied_rows k_untied_rows
  have h0F_untied_rows : Has l.prog w K mg base CX0 1 "untied_rows" ["many"] (spRows) := Has.mk' G_untied_rows b_untied_rows m_untied_rows k_untied_rows
  have G_Y___init__ : FnOk l.prog w K mg base (CXE l.prog w) 2 f_Y___init__ _ ["self", "many"] (spInit C NY) := ok_init F_Y___init__ Y0 G_untied_rows b_untied_rows m_untied_rows k_untied_rows
  have hC_Yard : HasC l.prog w K mg base (CXE l.prog w) 2 C "Yard" ["self", "many"] (spInit C NY) := ⟨⟨_, _, G_Y___init__, b_Y___init__, ⟨mk, a_Y___init__, i_Y___init__, kc⟩⟩, PySem.W.mg_of X G aC⟩
  have G_Y_is_tied : FnOk l.prog w K mg base (CXE l.prog w) 3 f_Y_is_tied _ ["self", "one", "other"] (spIsTied C NL AL) := ok_is_tied F_Y_is_tied Y0 G_check_pair b_check_pair m_check_pair k_check_pair
  have hM_is_tied : HasM l.prog w K mg base (CXE l.prog w) 3 C "is_tied" ["self", "one", "other"] [] (spIsTied C NL AL) := ⟨⟨_, _, _, G_Y_is_tied, b_Y_is_tied, .nil, M_Y_is_tied⟩, Y0.cl⟩
  have G_Y_is_shy : FnOk l.prog w K mg base (CXE l.prog w) 2 f_Y_is_shy _ ["self", "lamp"] (spIsShy C NL) := ok_is_shy F_Y_is_shy Y0 G_check_lamp b_check_lamp m_check_lamp k_check_lamp
  have hM_is_shy : HasM l.prog w K mg base (CXE l.prog w) 2 C "is_shy" ["self", "lamp"] [] (spIsShy C NL) := ⟨⟨_, _, _, G_Y_is_shy, b_Y_is_shy, .nil, M_Y_is_shy⟩, Y0.cl⟩
  have G_Y_put_tie : FnOk l.prog w K mg base CX0 1 f_Y_put_tie _ ["self", "one", "other", "answer"] (spPut C) := ok_put_tie F_Y_put_tie Y0
  have hM_put_tie : HasM l.prog w K mg base (CXE l.prog w) 1 C "put_tie" ["self", "one", "other", "answer"] [] (spPut C) := ⟨⟨_, _, _, G_Y_put_tie.lift, b_Y_put_tie, .nil, M_Y_put_tie⟩, Y0.cl⟩
  have G_Y_tie : FnOk l.prog w K mg base (CXE l.prog w) 4 f_Y_tie _ ["self", "one", "other"] (spTie C NL AL TD true) := ok_tie F_Y_tie Y0 G_Y_is_tied b_Y_is_tied M_Y_is_tied G_Y_put_tie b_Y_put_tie M_Y_put_tie
  have hM_tie : HasM l.prog w K mg base (CXE l.prog w) 4 C "tie" ["self", "one", "other"] [] (spTie C NL AL TD true) := ⟨⟨_, _, _, G_Y_tie, b_Y_tie, .nil, M_Y_tie⟩, Y0.cl⟩
  have G_Y_set_shy : FnOk l.prog w K mg base (CXE l.prog w) 2 f_Y_set_shy _ ["self", "lamp", "answer"] (spShy C NL) := ok_set_shy F_Y_set_shy Y0 G_check_lamp b_check_lamp m_check_lamp k_check_lamp
  have hM_set_shy2 : HasM l.prog w K mg base (CXE l.prog w) 2 C "set_shy" ["self", "lamp", "answer"] [.bl true] (spShy C NL) := ⟨⟨_, _, _, G_Y_set_shy, binds_shy2 F_Y_set_shy, .cons rfl .nil, M_Y_set_shy⟩, Y0.cl⟩
  have hM_set_shy3 : HasM l.prog w K mg base (CXE l.prog w) 2 C "set_shy" ["self", "lamp", "answer"] [] (spShy C NL) := ⟨⟨_, _, _, G_Y_set_shy, binds_shy3 F_Y_set_shy, .nil, M_Y_set_shy⟩, Y0.cl⟩
  have G_shown_lamp : FnOk l.prog w K mg base CX0 4 f_shown_lamp _ ["yard", "lamp"] (spShownLamp C) := ok_shown_lamp (NL := NL) (AL := AL) F_shown_lamp T hM_is_shy hM_is_tied
  have hF_shown_lamp : Has l.prog w K mg base (CXE l.prog w) 4 "shown_lamp" ["yard", "lamp"] (spShownLamp C) := Has.mk' (G_shown_lamp.lift) b_shown_lamp m_shown_lamp k_shown_lamp
  have h0F_shown_lamp : Has l.prog w K mg base CX0 4 "shown_lamp" ["yard", "lamp"] (spShownLamp C) := Has.mk' G_shown_lamp b_shown_lamp m_shown_lamp k_shown_lamp
  have G_shown : FnOk l.prog w K mg base CX0 5 f_shown _ ["yard"] (spShown C) := ok_shown F_shown T Y0.cl Y0.nM hF_shown_lamp
  have hF_shown : Has l.prog w K mg base (CXE l.prog w) 5 "shown" ["yard"] (spShown C) := Has.mk' (G_shown.lift) b_shown m_shown k_shown
  have h0F_shown : Has l.prog w K mg base CX0 5 "shown" ["yard"] (spShown C) := Has.mk' G_shown b_shown m_shown k_shown
  have G_take_lamp : FnOk l.prog w K mg base CX0 5 f_take_lamp _ ["yard", "lamp", "words"] (spTake C) := ok_take_lamp (NL := NL) (AL := AL) (TD := TD) F_take_lamp T hM_tie hM_set_shy3
  have hF_take_lamp : Has l.prog w K mg base (CXE l.prog w) 5 "take_lamp" ["yard", "lamp", "words"] (spTake C) := Has.mk' (G_take_lamp.lift) b_take_lamp m_take_lamp k_take_lamp
  have h0F_take_lamp : Has l.prog w K mg base CX0 5 "take_lamp" ["yard", "lamp", "words"] (spTake C) := Has.mk' G_take_lamp b_take_lamp m_take_lamp k_take_lamp
  have G_read : FnOk l.prog w K mg base (CXE l.prog w) 6 f_read _ ["text"] (spRead C NN) := ok_read (NY := NY) F_read T (PySem.W.mg_of X G g_NoNote) x_NoNote ⟨tM, PySem.W.mg_of X G aM⟩ hC_Yard hF_take_lamp hF_shown
  have hF_read : Has l.prog w K mg base (CXE l.prog w) 6 "read" ["text"] (spRead C NN) := Has.mk' (G_read) b_read m_read k_read
  have G_text : FnOk l.prog w K mg base CX0 3 f_text _ ["many", "ties", "shy"] (spText) := ok_text F_text T
  have hF_text : Has l.prog w K mg base (CXE l.prog w) 3 "_law_text" ["many", "ties", "shy"] (spText) := Has.mk' (G_text.lift) b_text m_text k_text
  have h0F_text : Has l.prog w K mg base CX0 3 "_law_text" ["many", "ties", "shy"] (spText) := Has.mk' G_text b_text m_text k_text
  have G_cell_at : FnOk l.prog w K mg base CX0 1 f_cell_at _ ["script", "k"] (spCell K) := ok_cell F_cell_at T
  have hF_cell_at : Has l.prog w K mg base (CXE l.prog w) 1 "_law_cell_at" ["script", "k"] (spCell K) := Has.mk' (G_cell_at.lift) b_cell_at m_cell_at k_cell_at
  have h0F_cell_at : Has l.prog w K mg base CX0 1 "_law_cell_at" ["script", "k"] (spCell K) := Has.mk' G_cell_at b_cell_at m_cell_at k_cell_at
  have G_mix : FnOk l.prog w K mg base CX0 1 f_mix _ ["cell", "k"] (spMix) := ok_mix F_mix
  have hF_mix : Has l.prog w K mg base (CXE l.prog w) 1 "_law_mix" ["cell", "k"] (spMix) := Has.mk' (G_mix.lift) b_mix m_mix k_mix
  have h0F_mix : Has l.prog w K mg base CX0 1 "_law_mix" ["cell", "k"] (spMix) := Has.mk' G_mix b_mix m_mix k_mix
  have G_many : FnOk l.prog w K mg base CX0 1 f_many _ ["cell"] (spMany) := ok_many F_many
  have hF_many : Has l.prog w K mg base (CXE l.prog w) 1 "_law_many" ["cell"] (spMany) := Has.mk' (G_many.lift) b_many m_many k_many
  have h0F_many : Has l.prog w K mg base CX0 1 "_law_many" ["cell"] (spMany) := Has.mk' G_many b_many m_many k_many
  have G_drawn : FnOk l.prog w K mg base CX0 2 f_drawn _ ["script"] (spDrawn K) := ok_drawn F_drawn T h0F_cell_at h0F_many h0F_mix
  have hF_drawn : Has l.prog w K mg base (CXE l.prog w) 2 "_law_drawn" ["script"] (spDrawn K) := Has.mk' (G_drawn.lift) b_drawn m_drawn k_drawn
  have h0F_drawn : Has l.prog w K mg base CX0 2 "_law_drawn" ["script"] (spDrawn K) := Has.mk' G_drawn b_drawn m_drawn k_drawn
  have G_others : FnOkT l.prog w K mg base 1 f_others _ ["e"] (spOthers NN) := ok_others F_others T G17_
  have hT_others : HasT l.prog w K mg base 1 "_law_others" ["e"] (spOthers NN) := HasT.mk' G_others b_others m_others k_others
  have G_refused : FnOk l.prog w K mg base CX0 8 f_refused _ ["text"] (spRefused17) := ok_refused F_refused T G17_ hF_read hT_others
  have hF_refused : Has l.prog w K mg base (CXE l.prog w) 8 "_law_refused" ["text"] (spRefused17) := Has.mk' (G_refused.lift) b_refused m_refused k_refused
  have h0F_refused : Has l.prog w K mg base CX0 8 "_law_refused" ["text"] (spRefused17) := Has.mk' G_refused b_refused m_refused k_refused
  have G_bad_line : FnOk l.prog w K mg base CX0 1 f_bad_line _ ["line", "at", "fault", "cell"] (spBadLine) := ok_bad_line F_bad_line T
  have hF_bad_line : Has l.prog w K mg base (CXE l.prog w) 1 "_law_bad_line" ["line", "at", "fault", "cell"] (spBadLine) := Has.mk' (G_bad_line.lift) b_bad_line m_bad_line k_bad_line
  have h0F_bad_line : Has l.prog w K mg base CX0 1 "_law_bad_line" ["line", "at", "fault", "cell"] (spBadLine) := Has.mk' G_bad_line b_bad_line m_bad_line k_bad_line
  exact ok_law F_law T Y0.cl Y0.nM hF_cell_at hF_drawn hF_text hF_read hF_bad_line hF_refused
theorem walk {l : PySem.W.OpenLaw} {q : Program} {loose : List Str} {XP : (Str → Option Value) → Heap → Prop} {YP : World → Heap → Prop} {d : DefRec} {K : Params → PySem.W.Frag} (hn : l.most = some 63) (hdf : d.params.defaults = [])
    (hY : ∀ (w : World) (h : Heap), YP w h → (K w.params).In h)
    (F : ∀ (w : World) (mg : Str → Option Value) (fa : Addr) (h : Heap), (K w.params).In h → h.Ns mainGlobals mg → mg d.name = some (.ref fa) →
      ∃ fd : FuncData, (∀ (s : Shared) (u : Value), BindsTo s fd ⟨[u], []⟩ [("script", u)]) ∧ ∀ base : Heap, (K w.params).In base → base.Ns mainGlobals mg → FnOk l.prog w (K w.params) mg base CX0 10 fa fd ["script"] (spLaw (K w.params))) :
    PySem.W.WalkO q loose XP YP l.row.toRowW d [] (fun f vs => PySem.call f vs) :=
  L2.walk_of (n := 63) (k := 10) (x := "script") (CX := fun _ => CX0) (sp := fun w => spLaw (K w.params)) hn (by decide) hdf ⟨rfl, by decide, by decide⟩ hY F (fun _ _ a ns hl _ hS => ⟨a, ns, rfl, hS, hl, fun _ => rfl⟩) fun _ _ _ _ _ z => z
end Lp
open PySem PySem.W PyProof.Rows
set_option maxRecDepth 100000 in
set_option maxHeartbeats 0 in
theorem PySem.Challenge.cw_lampyard_k17_unread_holds : PySem.Challenge.rw_lampyard_k17_unread.Holds := by
  w_on; o_law; k_head; (case hw => w_witness2)
  k_fill
  refine Lp.walk (l := PySem.Challenge.rw_lampyard_k17_unread) rfl rfl (fun w h Y => PySem.W.kIn_of Y) ?F
  case F =>
    intro w mg fa h KX G hmg
    refine' Lp.all_mk KX G hmg ?aC ?g_NoLamp ?g_Alone ?g_NoYard ?g_Tied ?g_Untied ?g_LampError ?g_NoPress ?g_TooMany ?g_Shy ?g_NoNote ?x_NoLamp ?x_Alone ?x_NoYard ?x_Tied ?x_NoNote ?pg ?hd ?po ?sa ?mk ?kc ?nM ?nR ?aM ?z_len ?z_list ?z_bool ?z_int ?z_isinstance ?z_all ?z_any ?z_range ?z_enumerate ?z_ValueError ?z_reversed ?z_str ?z_tuple ?z_set ?z_sorted ?z_min ?eg ?et ?ep_NoNote ?eh_NoNote ?eb_NoNote ?ec_NoNote ?ea_NoNote ?em_NoNote ?k_NoNote_LampError ?k_NoNote_ValueError ?k_NoNote_Alone ?k_NoNote_NoLamp ?k_NoNote_Shy ?k_NoNote_NoPress ?k_NoNote_NoYard ?k_NoNote_Tied ?k_NoNote_TooMany ?k_NoNote_Untied ?m_NoNote_NoNote ?a_check_lamp ?l_check_lamp ?c_check_lamp ?k_check_lamp ?a_check_pair ?l_check_pair ?c_check_pair ?k_check_pair ?a_untied_rows ?l_untied_rows ?c_untied_rows ?k_untied_rows ?a_Y___init__ ?i_Y___init__ ?l_Y___init__ ?c_Y___init__ ?k_Y___init__ ?a_Y_tie ?i_Y_tie ?l_Y_tie ?c_Y_tie ?k_Y_tie ?a_Y_put_tie ?i_Y_put_tie ?l_Y_put_tie ?c_Y_put_tie ?k_Y_put_tie ?a_Y_is_tied ?i_Y_is_tied ?l_Y_is_tied ?c_Y_is_tied ?k_Y_is_tied ?a_Y_set_shy ?i_Y_set_shy ?l_Y_set_shy ?c_Y_set_shy ?k_Y_set_shy ?lT_Y_set_shy ?a_Y_is_shy ?i_Y_is_shy ?l_Y_is_shy ?c_Y_is_shy ?k_Y_is_shy ?a_shown_lamp ?l_shown_lamp ?c_shown_lamp ?k_shown_lamp ?a_shown ?l_shown ?c_shown ?k_shown ?a_take_lamp ?l_take_lamp ?c_take_lamp ?k_take_lamp ?a_read ?l_read ?c_read ?k_read ?a_cell_at ?l_cell_at ?c_cell_at ?k_cell_at ?a_mix ?l_mix ?c_mix ?k_mix ?a_many ?l_many ?c_many ?k_many ?a_drawn ?l_drawn ?c_drawn ?k_drawn ?a_text ?l_text ?c_text ?k_text ?a_others ?l_others ?c_others ?k_others ?a_refused ?l_refused ?c_refused ?k_refused ?a_bad_line ?l_bad_line ?c_bad_line ?k_bad_line ?a_law ?l_law ?c_law ?k_law
    (case aC => k_is)
    (case g_NoLamp => k_is)
    (case g_Alone => k_is)
    (case g_NoYard => k_is)
    (case g_Tied => k_is)
    (case g_Untied => k_is)
    (case g_LampError => k_is)
    (case g_NoPress => k_is)
    (case g_TooMany => k_is)
    (case g_Shy => k_is)
    (case g_NoNote => k_is)
    (case x_NoLamp => k_exc)
    (case x_Alone => k_exc)
    (case x_NoYard => k_exc)
    (case x_Tied => k_exc)
    (case x_NoNote => k_exc)
    (case pg => k_is)
    (case hd => k_is)
    (case po => k_is)
    (case sa => k_is)
    (case mk => k_is)
    (case kc => k_is)
    (case nM => k_is)
    (case nR => k_is)
    (case aM => k_is)
    (case z_len => k_is)
    (case z_list => k_is)
    (case z_bool => k_is)
    (case z_int => k_is)
    (case z_isinstance => k_is)
    (case z_all => k_is)
    (case z_any => k_is)
    (case z_range => k_is)
    (case z_enumerate => k_is)
    (case z_ValueError => k_is)
    (case z_reversed => k_is)
    (case z_str => k_is)
    (case z_tuple => k_is)
    (case z_set => k_is)
    (case z_sorted => k_is)
    (case z_min => k_is)
    (case eg => k_is)
    (case et => k_is)
    (case ep_NoNote => k_is)
    (case eh_NoNote => k_is)
    (case eb_NoNote => k_is)
    (case ec_NoNote => k_is)
    (case ea_NoNote => k_is)
    (case em_NoNote => k_is)
    (case k_NoNote_LampError => kit_is)
    (case k_NoNote_ValueError => kit_is)
    (case k_NoNote_Alone => kit_is)
    (case k_NoNote_NoLamp => kit_is)
    (case k_NoNote_Shy => kit_is)
    (case k_NoNote_NoPress => kit_is)
    (case k_NoNote_NoYard => kit_is)
    (case k_NoNote_Tied => kit_is)
    (case k_NoNote_TooMany => kit_is)
    (case k_NoNote_Untied => kit_is)
    (case m_NoNote_NoNote => kts_exm)
    (case a_check_lamp => k_is)
    (case l_check_lamp => k_is)
    (case c_check_lamp => k_is)
    (case k_check_lamp => k_is)
    (case a_check_pair => k_is)
    (case l_check_pair => k_is)
    (case c_check_pair => k_is)
    (case k_check_pair => k_is)
    (case a_untied_rows => k_is)
    (case l_untied_rows => k_is)
    (case c_untied_rows => k_is)
    (case k_untied_rows => k_is)
    (case a_Y___init__ => k_is)
    (case i_Y___init__ => k_is)
    (case l_Y___init__ => k_is)
    (case c_Y___init__ => k_is)
    (case k_Y___init__ => k_is)
    (case a_Y_tie => k_is)
    (case i_Y_tie => k_is)
    (case l_Y_tie => k_is)
    (case c_Y_tie => k_is)
    (case k_Y_tie => k_is)
    (case a_Y_put_tie => k_is)
    (case i_Y_put_tie => k_is)
    (case l_Y_put_tie => k_is)
    (case c_Y_put_tie => k_is)
    (case k_Y_put_tie => k_is)
    (case a_Y_is_tied => k_is)
    (case i_Y_is_tied => k_is)
    (case l_Y_is_tied => k_is)
    (case c_Y_is_tied => k_is)
    (case k_Y_is_tied => k_is)
    (case a_Y_set_shy => k_is)
    (case i_Y_set_shy => k_is)
    (case l_Y_set_shy => k_is)
    (case c_Y_set_shy => k_is)
    (case k_Y_set_shy => k_is)
    (case lT_Y_set_shy => k_is)
    (case a_Y_is_shy => k_is)
    (case i_Y_is_shy => k_is)
    (case l_Y_is_shy => k_is)
    (case c_Y_is_shy => k_is)
    (case k_Y_is_shy => k_is)
    (case a_shown_lamp => k_is)
    (case l_shown_lamp => k_is)
    (case c_shown_lamp => k_is)
    (case k_shown_lamp => k_is)
    (case a_shown => k_is)
    (case l_shown => k_is)
    (case c_shown => k_is)
    (case k_shown => k_is)
    (case a_take_lamp => k_is)
    (case l_take_lamp => k_is)
    (case c_take_lamp => k_is)
    (case k_take_lamp => k_is)
    (case a_read => k_is)
    (case l_read => k_is)
    (case c_read => k_is)
    (case k_read => k_is)
    (case a_cell_at => k_is)
    (case l_cell_at => k_is)
    (case c_cell_at => k_is)
    (case k_cell_at => k_is)
    (case a_mix => k_is)
    (case l_mix => k_is)
    (case c_mix => k_is)
    (case k_mix => k_is)
    (case a_many => k_is)
    (case l_many => k_is)
    (case c_many => k_is)
    (case k_many => k_is)
    (case a_drawn => k_is)
    (case l_drawn => k_is)
    (case c_drawn => k_is)
    (case k_drawn => k_is)
    (case a_text => k_is)
    (case l_text => k_is)
    (case c_text => k_is)
    (case k_text => k_is)
    (case a_others => k_is)
    (case l_others => k_is)
    (case c_others => k_is)
    (case k_others => k_is)
    (case a_refused => k_is)
    (case l_refused => k_is)
    (case c_refused => k_is)
    (case k_refused => k_is)
    (case a_bad_line => k_is)
    (case l_bad_line => k_is)
    (case c_bad_line => k_is)
    (case k_bad_line => k_is)
    (case a_law => k_is)
    (case l_law => k_is)
    (case c_law => k_is)
    (case k_law => k_is)
