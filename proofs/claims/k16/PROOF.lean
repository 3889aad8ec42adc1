import PyProof.Rows.All
import Wide.All
import OpenK.AllK
import Wide.FinOn
import Lean
import PyProof.EqAt
import PyProof.EqKinds
import PyProof.TupleCall
import KE.IntTextText
import KE.KDictList
import KE.KIntText
import KE.KRevIter
import KE.KTryMore
import OpenK.KOwn
import PyProof.Cells
import PyProof.EnumMake
import PyProof.NeKinds
import PyProof.NsDelKeeps
import PyProof.Rows.CatchOwn
import PyProof.Rows.FStr
import PyProof.Rows.Range3
import PyProof.Rows.ReprOcc
import PyProof.Rows.SetFrom
import PyProof.Rows.SortShell
import PyProof.Rows.StrBin
import PyProof.Rows.StrItems
import PyProof.Rows.StrJoin2
import PyProof.Rows.StrSplitAre
import PyProof.RulesAs
import PyProof.SetRoads
import PyProof.SliceStr2
import PyProof.StrBlock
import PyProof.StrCalls2
import PyProof.StrCalls3
import PyProof.StrLawsChain
import PyProof.StrLawsIdx
import PyProof.StrLawsTight
import PyProof.StrOps2
import PyProof.StrWalks
import PyProof.SumWalk
import PyProof.WalkInts
import PyProof.WalksEnum
import PyProof.ZipIter
import PySem.Challenge.RW_waitwheel_k16_notes_refused
set_option Elab.async false
set_option linter.all false
set_option maxRecDepth 100000
/-! THE HAND LAYER, for ints, bools, texts, own classes, LISTS and tuples (index, slices, in, append, pop ..), calls, loops. Paste it whole ahead of your own text; what your proof does not reach may be deleted. -/
namespace L2
open PySem PySem.Spec PyProof.Rows

noncomputable abbrev Key := Sum Int Str
noncomputable def keyIs : Key → Value → Bool
  | .inl k, v => Value.isInt k v
  | .inr x, v => Value.isStrOf x v
noncomputable def keyH (w : World) : Key → Int
  | .inl k => hashInt k
  | .inr x => hashStr w x
theorem keyIs_shape : ∀ {k : Key} {v : Value}, keyIs k v = true → (∃ i t, k = Sum.inl i ∧ v = Value.int i t) ∨ (∃ x t, k = Sum.inr x ∧ v = Value.str x t)
  | .inl i, v, h => by
    obtain ⟨t, e⟩ := Value.isInt_shape (k := i) (v := v) h
    exact .inl ⟨i, t, rfl, e⟩
  | .inr x, v, h => by
    obtain ⟨t, e⟩ := Value.isStrOf_shape (x := x) (v := v) h
    exact .inr ⟨x, t, rfl, e⟩
theorem keyIs_int (i : Int) (t : Tok) : keyIs (.inl i) (.int i t) = true := by simp [keyIs, Value.isInt]
theorem keyIs_str (x : Str) (t : Tok) : keyIs (.inr x) (.str x t) = true := by simp [keyIs, Value.isStrOf]
theorem key_ll (a b : Int) : decide ((Sum.inl a : Key) = Sum.inl b) = (a == b) := by
  by_cases e : a = b
  · subst e; simp
  · have h : ¬ (Sum.inl a : Key) = Sum.inl b := fun q => e (Sum.inl.inj q)
    rw [decide_eq_false h]
    exact (beq_eq_false_iff_ne.mpr e).symm
theorem key_rr (a b : Str) : decide ((Sum.inr a : Key) = Sum.inr b) = decide (a = b) := by
  by_cases e : a = b
  · subst e; simp
  · have h : ¬ (Sum.inr a : Key) = Sum.inr b := fun q => e (Sum.inr.inj q)
    rw [decide_eq_false h, decide_eq_false e]
theorem key_lr (a : Int) (b : Str) : decide ((Sum.inl a : Key) = Sum.inr b) = false := decide_eq_false (fun q => nomatch q)
theorem key_rl (a : Str) (b : Int) : decide ((Sum.inr a : Key) = Sum.inl b) = false := decide_eq_false (fun q => nomatch q)

noncomputable def mixKind (prog : Program) (w : World) : PySem.KeyKind prog w Key where
  is := keyIs
  hash := keyH w
  inj := fun v a b ha hb => by
    rcases keyIs_shape ha with ⟨i, t, rfl, rfl⟩ | ⟨x, t, rfl, rfl⟩
    · rcases keyIs_shape hb with ⟨j, u, rfl, e⟩ | ⟨y, u, rfl, e⟩
      · injection e with e1 _; rw [e1]
      · exact nomatch e
    · rcases keyIs_shape hb with ⟨j, u, rfl, e⟩ | ⟨y, u, rfl, e⟩
      · exact nomatch e
      · injection e with e1 _; rw [e1]
  byValue := fun k v h => by
    rcases keyIs_shape h with ⟨i, t, rfl, rfl⟩ | ⟨x, t, rfl, rfl⟩ <;> rfl
  pyHash := fun hv h => by
    rcases keyIs_shape hv with ⟨i, t, rfl, rfl⟩ | ⟨x, t, rfl, rfl⟩
    · exact wpAny_pyHash_int h
    · exact wpAny_pyHash_str h
  eqBool := fun hu hv h => by
    rcases keyIs_shape hu with ⟨i, t, rfl, rfl⟩ | ⟨x, t, rfl, rfl⟩
    · rcases keyIs_shape hv with ⟨j, u, rfl, rfl⟩ | ⟨y, u, rfl, rfl⟩
      · rw [key_ll] at h; exact wpAny_eqBool_int h
      · rw [key_lr] at h; exact SeqAt.EqAt.int_str i t y u _ _ _ _ h
    · rcases keyIs_shape hv with ⟨j, u, rfl, rfl⟩ | ⟨y, u, rfl, rfl⟩
      · rw [key_rl] at h; exact SeqAt.EqAt.str_int x t j u _ _ _ _ h
      · rw [key_rr] at h; exact wpAny_eqBool_str h
  «strs» := fun k x t v h => by
    rcases keyIs_shape h with ⟨i, u, rfl, e⟩ | ⟨y, u, rfl, e⟩
    · exact nomatch e
    · injection e with e1 _
      subst e1
      cases v <;> rfl

theorem mixKind_int (prog : Program) (w : World) (i : Int) (t : Tok) : (mixKind prog w).is (.inl i) (.int i t) = true := keyIs_int i t
theorem mixKind_str (prog : Program) (w : World) (x : Str) (t : Tok) : (mixKind prog w).is (.inr x) (.str x t) = true := keyIs_str x t
end L2

namespace L2
open PySem PySem.Spec PyProof.Rows

inductive V where
  | non | bl (b : Bool) | int (i : Int) | str (x : Str) | byt (b : Array UInt8) | flt (b : UInt64) | ref (a : Addr) | ty (n : String)
  deriving DecidableEq

noncomputable def RelV : V → Value → Prop
  | .non, u => u = Value.none
  | .bl b, u => u = Value.bool b
  | .int i, u => ∃ t, u = Value.int i t
  | .str x, u => ∃ t, u = Value.str x t
  | .byt b, u => ∃ t, u = Value.bytes b t
  | .flt b, u => ∃ t, u = Value.float b t
  | .ref a, u => u = Value.ref a
  | .ty n, u => u = Value.type n

noncomputable abbrev Vals : List V → List Value → Prop := Paired RelV
theorem Vals.length {xs : List V} {us : List Value} (r : Vals xs us) : xs.length = us.length := Paired.length r
theorem Vals.get : ∀ {xs : List V} {us : List Value} {i : Nat} {x : V}, Vals xs us → xs[i]? = some x → ∃ u, us[i]? = some u ∧ RelV x u
  | _, _, _, _, .nil, e => by simp at e
  | _, _, 0, _, .cons r _, e => by simp at e; subst e; exact ⟨_, rfl, r⟩
  | _, _, i + 1, x, .cons _ t, e => by
    obtain ⟨u, h1, h2⟩ := Vals.get (i := i) (x := x) t (by simpa using e)
    exact ⟨u, by simpa using h1, h2⟩
theorem Vals.set {x : V} {u : Value} (r : RelV x u) : ∀ {xs : List V} {us : List Value} (i : Nat), Vals xs us → Vals (xs.set i x) (us.set i u)
  | _, _, _, .nil => .nil
  | _, _, 0, .cons _ t => .cons r t
  | _, _, i + 1, .cons q t => .cons q (Vals.set r i t)
theorem Vals.append : ∀ {xs ys : List V} {us ws : List Value}, Vals xs us → Vals ys ws → Vals (xs ++ ys) (us ++ ws)
  | _, _, _, _, .nil, s => s
  | _, _, _, _, .cons r t, s => .cons r (Vals.append t s)
theorem Vals.take : ∀ {xs : List V} {us : List Value} (n : Nat), Vals xs us → Vals (xs.take n) (us.take n)
  | _, _, 0, _ => .nil
  | _, _, _ + 1, .nil => .nil
  | _, _, n + 1, .cons r t => .cons r (Vals.take n t)
theorem Vals.drop : ∀ {xs : List V} {us : List Value} (n : Nat), Vals xs us → Vals (xs.drop n) (us.drop n)
  | _, _, 0, r => r
  | _, _, _ + 1, .nil => .nil
  | _, _, n + 1, .cons _ t => Vals.drop n t
noncomputable def RelO : Option V → Option Value → Prop
  | some v, some u => RelV v u
  | none, none => True
  | _, _ => False
noncomputable def KV {κ : Type} : List (κ × V) → List (κ × Value) → Prop := Paired fun (p : κ × V) (q : κ × Value) => p.1 = q.1 ∧ RelV p.2 q.2

noncomputable def kV : Key → V
  | .inl i => .int i
  | .inr x => .str x

inductive HO where
  /-- a list -/
  | lst (xs : List V)
  /-- a tuple (never changes) -/
  | tup (xs : List V)
  /-- a dict whose keys are ints and texts; one whose keys are tuples of ints and texts (the empty one is both) -/
  | dK (kvs : List (Key × V)) | dT (kvs : List (List Key × V))
  /-- a set of ints: its members, its size -/
  | set (S : Int → Bool) (n : Nat)
  /-- an instance of the class at C, its dict at dx, its attributes -/
  | ins (C dx : Addr) (fs : List (Str × V))
  /-- the dict of the instance at x -/
  | own (x : Addr)
  /-- the dict of an exception -/
  | xd (fs : List (Str × V))
  /-- a bound method, f of x -/
  | met (f x : Addr)
  /-- a range object lo, lo + 1, .. below hi -/
  | rng (lo hi : Int)
  /-- a thing that is known to the object (the script; a dict while a loop walks it): read, never written while it is so -/
  | frz (o : Obj) (u : HO)
  /-- a code object's table -/
  | tbl (ps : Array Value)
  /-- any other thing, by what is true of its one object (a def of one's own: SetO a S n := HO.ext fun h => ..) -/
  | ext (φ : Heap → Prop)

noncomputable abbrev Hp := Addr → Option HO
noncomputable def upd (H : Hp) (a : Addr) (o : HO) : Hp := fun b => if b = a then some o else H b
theorem upd_same {H : Hp} {a : Addr} {o : HO} : upd H a o a = some o := by unfold upd; rw [if_pos rfl]
theorem upd_ne {H : Hp} {a b : Addr} {o : HO} (h : b ≠ a) : upd H a o b = H b := by unfold upd; rw [if_neg h]
theorem ne_of {H : Hp} {a b : Addr} {o u : HO} (h : H a = some o) (h' : H b = some u) (d : o ≠ u) : a ≠ b := by
  intro e; subst e; rw [h] at h'; exact d (Option.some.inj h')
theorem ne_of_none {H : Hp} {a b : Addr} {o : HO} (h : H a = some o) (h' : H b = none) : a ≠ b := by
  intro e; subst e; rw [h] at h'; cases h'

section
variable (P : Program) (w : World)
noncomputable def ObjOk (H : Hp) (h : Heap) (a : Addr) : HO → Prop
  | .lst xs => xs.length ≤ sizeLine ∧ ∃ (its : List Value) (n : Nat), Vals xs its ∧ h.get? a = some { cls := .type "list", data := .seq its.toArray n }
  | .tup xs => xs.length ≤ sizeLine ∧ ∃ its : List Value, Vals xs its ∧ IsTup h a its.toArray
  | .dK kvs => kvs.length ≤ sizeLine ∧ (a == sysModules) = false ∧ ∃ vs, KV kvs vs ∧ h.DictOf (mixKind P w) a vs
  | .dT kvs => kvs.length ≤ sizeLine ∧ (a == sysModules) = false ∧ ∃ xs : List (List Key × Addr × Value),
      Paired (fun (p : List Key × V) (q : List Key × Addr × Value) => p.1 = q.1 ∧ H q.2.1 = some (.tup (p.1.map kV)) ∧ RelV p.2 q.2.2) kvs xs ∧
      ∃ o es ep, h.get? a = some o ∧ o.ExactDict ∧ o.data = .dict es ep ∧ es.toList = xs.map (entryOfKey (tupleKind (mixKind P w))) ∧ (xs.map (·.1)).Nodup
  | .set S n => h.SetOf (intKind P w) a S n
  | .ins C dx fs => H dx = some (.own a) ∧ fs.length ≤ 1000 ∧ dx ≠ a ∧ h.get? a = some (PySem.W.instObj C dx) ∧
      ∃ mA, h.Ns1 dx mA ∧ (∀ f, RelO (fs.lookup f) (mA f)) ∧ PySem.Within mA (fs.map (·.1))
  | .own _ => ∃ o, h.get? a = some o
  | .xd fs => ∃ mA, h.Ns1 a mA ∧ ∀ f, RelO (fs.lookup f) (mA f)
  | .rng lo hi => ∃ t u v, h.get? a = some { cls := .type "range", data := .fields #[.int lo t, .int hi u, .int 1 v] }
  | .frz o u => h.get? a = some o ∧ ObjOk H h a u
  | .tbl ps => h.get? a = some { cls := .none, data := .fields ps }
  | .met f x => h.get? a = some (PySem.W.methodObj (.ref f) (.ref x))
  | .ext φ => φ h ∧ (∃ o, h.get? a = some o) ∧ ∀ h1 h2 : Heap, φ h1 → (∀ o, h1.get? a = some o → h2.get? a = some o) → φ h2
noncomputable def HOk (H : Hp) (h : Heap) : Prop := ∀ a o, H a = some o → ObjOk P w H h a o
end

section
variable {P : Program} {w : World} {H H' : Hp} {h h' : Heap} {a : Addr} {o : HO}
theorem ObjOk.lt (x : ObjOk P w H h a o) : a < h.objs.size := by
  cases o with
  | lst xs => obtain ⟨_, _, _, _, e⟩ := x; exact Heap.lt_size e
  | tup xs => obtain ⟨_, _, _, p⟩ := x; exact p.lt
  | dK kvs => obtain ⟨_, _, _, _, o, _, _, e, _⟩ := x; exact Heap.lt_size e
  | dT kvs => obtain ⟨_, _, _, _, o, _, _, e, _⟩ := x; exact Heap.lt_size e
  | set S n => obtain ⟨o, _, _, _, e, _⟩ := x; exact Heap.lt_size e
  | ins C dx fs => obtain ⟨_, _, _, e, _⟩ := x; exact Heap.lt_size e
  | own y => obtain ⟨_, e⟩ := x; exact Heap.lt_size e
  | xd fs => obtain ⟨_, ⟨_, _, _, e, _⟩, _⟩ := x; exact Heap.lt_size e
  | rng lo hi => obtain ⟨_, _, _, e⟩ := x; exact Heap.lt_size e
  | frz ob u => obtain ⟨e, _⟩ := x; exact Heap.lt_size e
  | tbl ps => exact Heap.lt_size (show h.get? a = some _ from x)
  | met f y => exact Heap.lt_size (show h.get? a = some _ from x)
  | ext φ => obtain ⟨_, ⟨_, e⟩, _⟩ := x; exact Heap.lt_size e
theorem Paired.mapP {α β : Type} {F G : α → β → Prop} : ∀ {l₁ : List α} {l₂ : List β}, Paired F l₁ l₂ → (∀ a b, F a b → G a b) → Paired G l₁ l₂
  | _, _, .nil, _ => .nil
  | _, _, .cons r t, f => .cons (f _ _ r) (Paired.mapP t f)
theorem ObjOk.stay (x : ObjOk P w H h a o) (k : ∀ b u, (b = a ∨ H b = some (.own a)) → h.get? b = some u → h'.get? b = some u)
    (ho : ∀ b, H b = some (.own a) → H' b = some (.own a)) (ht : ∀ b xs, H b = some (.tup xs) → H' b = some (.tup xs)) : ObjOk P w H' h' a o := by
  induction o with
  | lst xs => obtain ⟨z, its, n, r, e⟩ := x; exact ⟨z, its, n, r, k _ _ (.inl rfl) e⟩
  | tup xs => obtain ⟨z, its, r, ob, e, c⟩ := x; exact ⟨z, its, r, ob, k _ _ (.inl rfl) e, c⟩
  | dK kvs => obtain ⟨z, y, vs, r, ob, es, ep, e, c⟩ := x; exact ⟨z, y, vs, r, ob, es, ep, k _ _ (.inl rfl) e, c⟩
  | dT kvs =>
    obtain ⟨z, y, xs, r, ob, es, ep, e, c⟩ := x
    exact ⟨z, y, xs, Paired.mapP r fun p q z => ⟨z.1, ht _ _ z.2.1, z.2.2⟩, ob, es, ep, k _ _ (.inl rfl) e, c⟩
  | set S n => obtain ⟨ob, es, ep, t, e, c⟩ := x; exact ⟨ob, es, ep, t, k _ _ (.inl rfl) e, c⟩
  | ins C dx fs =>
    obtain ⟨d, z, ne, e, mA, ⟨od, es, ep, e2, c⟩, r⟩ := x
    exact ⟨ho _ d, z, ne, k _ _ (.inl rfl) e, mA, ⟨od, es, ep, k _ _ (.inr d) e2, c⟩, r⟩
  | own y => obtain ⟨ob, e⟩ := x; exact ⟨ob, k _ _ (.inl rfl) e⟩
  | xd fs => obtain ⟨mA, ⟨od, es, ep, e, c⟩, r⟩ := x; exact ⟨mA, ⟨od, es, ep, k _ _ (.inl rfl) e, c⟩, r⟩
  | rng lo hi => obtain ⟨t, u, v, e⟩ := x; exact ⟨t, u, v, k _ _ (.inl rfl) e⟩
  | frz ob u ih => obtain ⟨e, q⟩ := x; exact ⟨k _ _ (.inl rfl) e, ih q⟩
  | tbl ps =>
    have e : h.get? a = some { cls := .none, data := .fields ps } := x
    show h'.get? a = some { cls := .none, data := .fields ps }
    exact k a _ (.inl rfl) e
  | met f y =>
    have e : h.get? a = some (PySem.W.methodObj (.ref f) (.ref y)) := x
    show h'.get? a = some (PySem.W.methodObj (.ref f) (.ref y))
    exact k a _ (.inl rfl) e
  | ext φ => obtain ⟨p, ⟨o, e⟩, st⟩ := x; exact ⟨st _ _ p fun o q => k _ _ (.inl rfl) q, ⟨o, k _ _ (.inl rfl) e⟩, st⟩
theorem HOk.lt (x : HOk P w H h) (e : H a = some o) : a < h.objs.size := (x a o e).lt
theorem HOk.fresh (x : HOk P w H h) (e : h.objs.size ≤ a) : H a = none := by
  cases q : H a with
  | none => rfl
  | some u => exact absurd (Nat.lt_of_lt_of_le (x.lt q) e) (Nat.lt_irrefl _)
theorem HOk.kept (x : HOk P w H h) (k : ∀ b u, h.get? b = some u → h'.get? b = some u) : HOk P w H h' := fun a o e =>
  (x a o e).stay (fun b u _ q => k b u q) (fun _ q => q) fun _ _ q => q
theorem HOk.laid (x : HOk P w H h) (k : ∀ b u, h.get? b = some u → h'.get? b = some u) (hp : h.objs.size ≤ a) (new : ObjOk P w (upd H a o) h' a o) : HOk P w (upd H a o) h' := fun b u e => by
  have hn := x.fresh hp
  by_cases hb : b = a
  · subst hb; rw [upd_same] at e; cases e; exact new
  · rw [upd_ne hb] at e
    exact (x b u e).stay (fun c v _ q => k c v q) (fun c q => by rw [upd_ne (ne_of_none q hn)]; exact q) fun c xs q => by rw [upd_ne (ne_of_none q hn)]; exact q
end

noncomputable def Rd (H : Hp) (a : Addr) (u : HO) : Prop := H a = some u ∨ ∃ o, H a = some (.frz o u)
theorem Rd.of {H : Hp} {a : Addr} {u : HO} (h : H a = some u) : Rd H a u := .inl h
theorem Rd.ok {P : Program} {w : World} {H : Hp} {h : Heap} {a : Addr} {u : HO} (r : Rd H a u) (x : HOk P w H h) : ObjOk P w H h a u := by
  rcases r with r | ⟨o, r⟩
  · exact x a u r
  · obtain ⟨_, q⟩ := x a _ r
    exact q
noncomputable def Mut : Option HO → Prop
  | some (.lst _) => True
  | some (.dK _) => True
  | some (.dT _) => True
  | some (.set _ _) => True
  | some (.ins _ _ _) => True
  | some (.ext _) => True
  | _ => False
section
variable {P : Program} {w : World} {H : Hp} {h h' : Heap} {x e : Addr} {o' : HO}
theorem HOk.write (ok : HOk P w H h) (mu : Mut (H x)) (he : e = x ∨ H e = some (.own x)) (k : ∀ b u, b ≠ e → h.get? b = some u → h'.get? b = some u) (heo : ∃ u, h'.get? e = some u)
    (new : ObjOk P w (upd H x o') h' x o') : HOk P w (upd H x o') h' := fun b u q => by
  have nown : ∀ c y, H c = some (.own y) → c ≠ x := fun c y r z => by subst z; rw [r] at mu; exact mu
  have ntup : ∀ c xs, H c = some (.tup xs) → c ≠ x := fun c xs r z => by subst z; rw [r] at mu; exact mu
  by_cases hb : b = x
  · subst hb; rw [upd_same] at q; cases q; exact new
  · rw [upd_ne hb] at q
    by_cases hbe : b = e
    · have q' : H b = some (.own x) := by
        rcases he with z | z
        · exact absurd (hbe.trans z) hb
        · rw [hbe]; exact z
      rw [q] at q'; cases q'
      obtain ⟨v, hv⟩ := heo
      exact ⟨v, by rw [hbe]; exact hv⟩
    · refine (ok b u q).stay (fun c v hc r => k c v ?_ r) (fun c r => by rw [upd_ne (nown c b r)]; exact r) fun c xs r => by rw [upd_ne (ntup c xs r)]; exact r
      rcases hc with rfl | hc
      · exact hbe
      · rintro rfl
        rcases he with z | z
        · exact nown c b hc z
        · rw [hc] at z; cases z; exact hb rfl
end

/-! ### kept unless tracked; of the frames at fs (the callers') the slots may change (an exception that passes writes there); of the records at ex (iterators) nothing is said -/
structure Un (fs ex : List Addr) (H H' : Hp) (h h' : Heap) : Prop where
  keep : ∀ b o, h.get? b = some o → H b = none → b ∉ fs → b ∉ ex → h'.get? b = some o
  slot : ∀ b o, h.get? b = some o → H b = none → b ∈ fs → b ∉ ex → ∃ sl, h'.get? b = some { o with slots := sl }
  free : ∀ b o, h.get? b = some o → H b = none → b ∉ ex → H' b = none
  there : ∀ b o, h.get? b = some o → b ∉ ex → ∃ o', h'.get? b = some o'
  tups : ∀ b xs, H b = some (.tup xs) → H' b = some (.tup xs)
  frzs : ∀ b o u, H b = some (.frz o u) → H' b = some (.frz o u)
  tbls : ∀ b ps, H b = some (.tbl ps) → ∃ more, H' b = some (.tbl (ps ++ more))
section
variable {fs fs' ex ex' : List Addr} {H H1 H2 : Hp} {h h1 h2 h' : Heap} {a x e : Addr} {o : HO}
theorem Un.any (u : Un fs ex H H1 h h1) {b : Addr} {ob : Obj} (q : h.get? b = some ob) (n : H b = none) (hx : b ∉ ex) : ∃ sl, h1.get? b = some { ob with slots := sl } := by
  by_cases hb : b ∈ fs
  · exact u.slot b ob q n hb hx
  · exact ⟨ob.slots, u.keep b ob q n hb hx⟩
theorem Un.trans (a : Un fs ex H H1 h h1) (b : Un fs ex H1 H2 h1 h2) : Un fs ex H H2 h h2 where
  keep := fun c ob q n hc hx => b.keep c ob (a.keep c ob q n hc hx) (a.free c ob q n hx) hc hx
  slot := fun c ob q n hc hx => by
    obtain ⟨sl, e1⟩ := a.slot c ob q n hc hx
    obtain ⟨sl', e2⟩ := b.slot c _ e1 (a.free c ob q n hx) hc hx
    exact ⟨sl', e2⟩
  free := fun c ob q n hx => by
    obtain ⟨o', e1⟩ := a.there c ob q hx
    exact b.free c o' e1 (a.free c ob q n hx) hx
  there := fun c ob q hx => by
    obtain ⟨o', e1⟩ := a.there c ob q hx
    exact b.there c o' e1 hx
  tups := fun c xs q => b.tups c xs (a.tups c xs q)
  frzs := fun c ob xs q => b.frzs c ob xs (a.frzs c ob xs q)
  tbls := fun c ps q => by
    obtain ⟨m1, e1⟩ := a.tbls c ps q
    obtain ⟨m2, e2⟩ := b.tbls c _ e1
    exact ⟨m1 ++ m2, by rw [e2, Array.append_assoc]⟩
theorem Un.kept (k : ∀ b u, h.get? b = some u → h'.get? b = some u) : Un fs ex H H h h' :=
  ⟨fun b ob q _ _ _ => k b ob q, fun b ob q _ _ _ => ⟨ob.slots, k b ob q⟩, fun _ _ _ n _ => n, fun b ob q _ => ⟨ob, k b ob q⟩, fun _ _ q => q, fun _ _ _ q => q, fun _ ps q => ⟨#[], by rw [q]; simp⟩⟩
theorem Un.refl : Un fs ex H H h h := Un.kept fun _ _ q => q
theorem Un.laid (k : ∀ b u, h.get? b = some u → h'.get? b = some u) (hp : h.objs.size ≤ a) (hn : H a = none) : Un fs ex H (upd H a o) h h' where
  keep := fun b u q _ _ _ => k b u q
  slot := fun b u q _ _ _ => ⟨u.slots, k b u q⟩
  free := fun b u q n _ => by rw [upd_ne (Nat.ne_of_lt (Nat.lt_of_lt_of_le (Heap.lt_size q) hp))]; exact n
  there := fun b u q _ => ⟨u, k b u q⟩
  tups := fun b xs q => by rw [upd_ne (ne_of_none q hn)]; exact q
  frzs := fun b u xs q => by rw [upd_ne (ne_of_none q hn)]; exact q
  tbls := fun b ps q => ⟨#[], by rw [upd_ne (ne_of_none q hn), q]; simp⟩
theorem Un.write (mu : Mut (H x)) (he : e = x ∨ H e = some (.own x)) (k : ∀ b u, b ≠ e → h.get? b = some u → h'.get? b = some u) (heo : ∃ u, h'.get? e = some u) : Un fs ex H (upd H x o) h h' := by
  have hx : ∀ b, H b = none → b ≠ x := fun b n z => by subst z; rw [n] at mu; exact mu
  have hb : ∀ b, H b = none → b ≠ e := fun b n z => by
    subst z
    rcases he with r | r
    · exact hx b n r
    · rw [n] at r; cases r
  have hm : ∀ b u, H b = some u → ¬ Mut (some u) → b ≠ x := fun b u q nm z => by subst z; rw [q] at mu; exact nm mu
  refine ⟨fun b u q n _ _ => k b u (hb b n) q, fun b u q n _ _ => ⟨u.slots, k b u (hb b n) q⟩, fun b u q n _ => by rw [upd_ne (hx b n)]; exact n, fun b u q _ => ?_,
    fun b xs q => by rw [upd_ne (hm b _ q fun z => z)]; exact q, fun b u xs q => by rw [upd_ne (hm b _ q fun z => z)]; exact q, fun b ps q => ⟨#[], by rw [upd_ne (hm b _ q fun z => z), q]; simp⟩⟩
  by_cases hbe : b = e
  · subst hbe; exact heo
  · exact ⟨u, k b u hbe q⟩
theorem Un.mono (u : Un fs ex H H1 h h1) (hs : ∀ b ∈ fs, b ∈ fs') (hx : ∀ b ∈ ex, b ∈ ex') : Un fs' ex' H H1 h h1 :=
  ⟨fun b ob q n hb he => u.keep b ob q n (fun z => hb (hs b z)) fun z => he (hx b z), fun _ _ q n _ he => u.any q n fun z => he (hx _ z), fun b ob q n he => u.free b ob q n fun z => he (hx b z), fun b ob q he => u.there b ob q fun z => he (hx b z), u.tups, u.frzs, u.tbls⟩
end

/-! ### the heap without what is tracked -/
noncomputable def trk (h : Heap) (H : Hp) : List Addr := (List.range h.objs.size).filter fun a => (H a).isSome
noncomputable def hidT (h : Heap) (H : Hp) : Heap := PySem.W.hideAll h (trk h H)
theorem hidT_size (h : Heap) (H : Hp) : (hidT h H).objs.size = h.objs.size := PySem.W.hideAll_size _ _
theorem hidT_get {h : Heap} {H : Hp} {b : Addr} {o : Obj} (e : h.get? b = some o) (n : H b = none) : (hidT h H).get? b = some o :=
  PySem.W.hideAll_get _ e fun hm => by
    have q : (H b).isSome = true := (List.mem_filter.mp hm).2
    rw [n] at q; simp at q
theorem of_hidT {h : Heap} {H : Hp} {b : Addr} {o : Obj} (e : (hidT h H).get? b = some o) : h.get? b = some o ∧ H b = none := by
  have e' : h.get? b = some o := PySem.W.of_hideAll (trk h H) e
  refine ⟨e', ?_⟩
  cases q : H b with
  | none => rfl
  | some x =>
    have hm : b ∈ trk h H := List.mem_filter.mpr ⟨List.mem_range.mpr (Heap.lt_size e'), by simp [q]⟩
    have z : (hidT h H).get? b = none := PySem.W.hideAll_none (trk h H) hm
    rw [z] at e; cases e

/-! ### OpenK's ledger, filled with every new object but one -/
noncomputable def allNews (g h : Heap) (L : Addr) : List (Addr × Obj) := (List.range h.objs.size).filterMap fun a => if a = L ∨ (g.get? a).isSome = true then none else (h.get? a).map fun o => (a, o)
noncomputable def rest (g h : Heap) (L d : Addr) : List (Addr × Obj) := (allNews g h L).filter fun p => decide (p.1 ≠ d)
end L2

namespace L2
open PySem PySem.Spec PyProof.Rows

structure Mod (K : PySem.W.Frag) (mg : Str → Option Value) (base : Heap) : Prop where
  kin : K.In base
  glob : base.Ns mainGlobals mg
  blt : ∃ mb, base.Ns builtinsNs mb ∧ ∀ x : Str, x ≠ "__name__" → mb x = bootBuiltins x
  nolimit : base.NoLimit

structure Cx where
  prog : Program
  w : World
  K : PySem.W.Frag
  mg : Str → Option Value
  base : Heap
  A : Around
  N : List Str
  s₀ : Shared
  H₀ : Hp
  env : Env
  outer : List Env
  stack : List Env
  ex : List Addr
  fn : Str → Bool
  calm : Bool
  pn : List (Addr × Obj)
  xe : Value → Shared → Prop
noncomputable def frs (l : List Env) : List Addr := l.filterMap (·.frame)
noncomputable abbrev Cx.fs (X : Cx) : List Addr := frs X.outer

noncomputable def Vis (sc : Scope) (x : Str) : Prop := sc.names.lookup x = some .local ∨ sc.names.lookup x = some .cell ∨ sc.names.lookup x = some .free
noncomputable def Loc (sc : Scope) (x : Str) : Prop := sc.names.lookup x = some .local ∨ sc.names.lookup x = some .cell
noncomputable def Look (env : Env) (h : Heap) (m : Str → Option Value) (x : Str) (u : Value) : Prop :=
  (env.kindOf x = some .local ∧ m x = some u) ∨ ((env.kindOf x = some .cell ∨ env.kindOf x = some .free) ∧ ∃ c, env.cells.lookup x = some c ∧ h.IsCell c (some u))

structure Cx.Ok (X : Cx) : Prop where
  mod : Mod X.K X.mg X.base
  kind : X.env.scope.kind = .function
  glob : X.env.globals = mainGlobals
  blt : X.env.builtins = builtinsNs
  above : X.s₀.heap.objs.size ≤ X.env.locals
  inj : ∀ x y c, X.env.cells.lookup x = some c → X.env.cells.lookup y = some c → x = y
  has : ∀ x, (X.env.kindOf x = some .cell ∨ X.env.kindOf x = some .free) → ∃ c, X.env.cells.lookup x = some c
  cab : ∀ x c, X.fn x = true → X.env.cells.lookup x = some c → X.s₀.heap.objs.size ≤ c
  hd : X.calm = true → X.A.handled = none
  frames : X.A.frames = some X.stack
  stk : X.stack = X.outer ∨ (X.stack = X.env :: X.outer ∧ X.env.frame = some X.env.locals)
  exf : ∀ b ∈ X.ex, b ≠ X.env.locals ∧ ∀ x c, X.env.cells.lookup x = some c → c ≠ b
  bs : ∀ b o, X.base.get? b = some o → X.s₀.heap.get? b = some o ∧ X.H₀ b = none
  bsz : X.base.objs.size ≤ X.s₀.heap.objs.size
  noex : ∀ b o, X.base.get? b = some o → b ∉ X.ex
  exfs : ∀ b ∈ X.ex, b ∉ X.fs
  funs : X.s₀.heap.FunFrames X.base X.outer
  frf : ∀ b ∈ X.fs, X.H₀ b = none

structure Inv (X : Cx) (pins : List (Addr × Obj)) (σ : List (Option V)) (H : Hp) (s : Shared) : Prop where
  ok : X.Ok
  os : s.os = X.s₀.os
  bare : AllBare s.gens
  base : Un X.fs X.ex X.H₀ H X.s₀.heap s.heap
  loc : ∃ m, s.heap.Ns X.env.locals m ∧ ∀ (i : Nat) (x : Str) (v : V), X.N[i]? = some x → σ[i]? = some (some v) → Vis X.env.scope x → ∃ u, RelV v u ∧ Look X.env s.heap m x u
  cell : ∀ x c, X.env.cells.lookup x = some c → ∃ v, s.heap.IsCell c v
  free : H X.env.locals = none
  freeC : ∀ x c, X.env.cells.lookup x = some c → H c = none
  pin : ∀ p ∈ X.pn ++ pins, s.heap.get? p.1 = some p.2 ∧ H p.1 = none ∧ p.1 ≠ X.env.locals ∧ p.1 ∉ X.fs ∧ ∀ v, p.2.data ≠ .cell v
  hok : HOk X.prog X.w H s.heap
  len : σ.length = X.N.length

section
variable {X : Cx} {pins : List (Addr × Obj)} {σ : List (Option V)} {H H' : Hp} {s : Shared} {h' : Heap}

theorem Cx.Ok.nofr (ok : X.Ok) {b : Addr} {o : Obj} (e : X.base.get? b = some o) : b ∉ X.fs := fun hb => by
  have := (ok.funs.mem hb).1
  rw [e] at this; cases this
theorem Inv.bs (I : Inv X pins σ H s) : ∀ b o, X.base.get? b = some o → s.heap.get? b = some o ∧ H b = none := fun b o e =>
  ⟨I.base.keep b o (I.ok.bs b o e).1 (I.ok.bs b o e).2 (I.ok.nofr e) (I.ok.noex b o e), I.base.free b o (I.ok.bs b o e).1 (I.ok.bs b o e).2 (I.ok.noex b o e)⟩
theorem Inv.bk (I : Inv X pins σ H s) : ∀ b o, X.base.get? b = some o → s.heap.get? b = some o := fun b o e => (I.bs b o e).1
theorem Inv.mod (I : Inv X pins σ H s) : Mod X.K X.mg X.base := I.ok.mod
theorem Inv.kIn (I : Inv X pins σ H s) : X.K.In s.heap := I.ok.mod.kin.keeps I.bk
theorem Inv.nolimit (I : Inv X pins σ H s) : s.heap.NoLimit := I.ok.mod.nolimit.keeps I.bk
theorem Inv.fr (I : Inv X pins σ H s) : ∃ m, Fr X.base X.env.locals s.heap m :=
  let ⟨m, hn, _⟩ := I.loc
  ⟨m, hn, I.bk, Nat.le_trans I.ok.bsz I.ok.above⟩
theorem Inv.lt (I : Inv X pins σ H s) : X.env.locals < s.heap.objs.size := let ⟨_, hn, _⟩ := I.loc; hn.lt
theorem Inv.sz (I : Inv X pins σ H s) : X.s₀.heap.objs.size ≤ s.heap.objs.size := Nat.le_trans I.ok.above (Nat.le_of_lt I.lt)
theorem Inv.nofs (I : Inv X pins σ H s) {a : Addr} (h : s.heap.objs.size ≤ a) : a ∉ X.fs := fun hb => by
  obtain ⟨_, o, ho, _⟩ := I.ok.funs.mem hb
  exact absurd (Nat.lt_of_lt_of_le (Heap.lt_size ho) (Nat.le_trans I.sz h)) (Nat.lt_irrefl _)
theorem Inv.cne (I : Inv X pins σ H s) : ∀ x c, X.env.cells.lookup x = some c → c ≠ X.env.locals := fun x c e z => by
  obtain ⟨v, o, ho, hd⟩ := I.cell x c e
  obtain ⟨m, ⟨o', es, ep, ho', hd', _⟩, _⟩ := I.loc
  rw [z, ho'] at ho; cases ho; rw [hd'] at hd; cases hd
theorem Inv.funs (I : Inv X pins σ H s) : s.heap.FunFrames X.base X.outer := by
  have all : ∀ (l : List Env), (∀ b ∈ frs l, b ∈ X.fs) → X.s₀.heap.FunFrames X.base l → s.heap.FunFrames X.base l := by
    intro l
    induction l with
    | nil => intro _ _; trivial
    | cons env r ih =>
      intro hs hl
      obtain ⟨hk, ⟨L, o, hf, hn, ho, hd⟩, hr⟩ := hl
      have hL : L ∈ X.fs := hs L (by unfold frs; rw [List.filterMap_cons, hf]; exact List.mem_cons_self)
      obtain ⟨sl, e⟩ := I.base.slot L o ho (I.ok.frf L hL) hL fun z => I.ok.exfs L z hL
      exact ⟨hk, ⟨L, _, hf, hn, e, hd⟩, ih (fun b hb => hs b (by unfold frs; rw [List.filterMap_cons, hf]; exact List.mem_cons_of_mem _ hb)) hr⟩
  exact all X.outer (fun _ hb => hb) I.ok.funs

theorem Inv.stack (I : Inv X pins σ H s) : s.heap.FunFrames X.base X.stack := by
  rcases I.ok.stk with e | ⟨e, hf⟩
  · rw [e]; exact I.funs
  · rw [e]
    obtain ⟨m, hn, _⟩ := I.loc
    refine .cons (by rw [I.ok.kind]; decide) hf hn ?_ I.funs
    exact Heap.get?_none_of_le (Nat.le_trans I.ok.bsz I.ok.above)
theorem Inv.stkSub (I : Inv X pins σ H s) : ∀ b ∈ frs X.stack, b ∈ X.env.locals :: X.fs := fun b hb => by
  rcases I.ok.stk with e | ⟨e, hf⟩
  · rw [e] at hb; exact List.mem_cons_of_mem _ hb
  · rw [e] at hb
    unfold frs at hb
    rw [List.filterMap_cons, hf] at hb
    exact hb
theorem Inv.stkFree (I : Inv X pins σ H s) : ∀ b ∈ frs X.stack, H b = none := fun b hb => by
  rcases List.mem_cons.mp (I.stkSub b hb) with e | hb
  · rw [e]; exact I.free
  · obtain ⟨_, o, ho, _⟩ := I.ok.funs.mem hb
    exact I.base.free b o ho (I.ok.frf b hb) fun z => I.ok.exfs b z hb

theorem Inv.step {g' : Array GenState} {t' : Nat} {d' : Drawn} {ch : List Addr} (I : Inv X pins σ H s)
    (hch : ∀ b ∈ ch, (b ∈ X.ex ∨ X.s₀.heap.objs.size ≤ b) ∧ b ≠ X.env.locals ∧ (∀ x c, X.env.cells.lookup x = some c → c ≠ b) ∧ ∀ p ∈ X.pn ++ pins, p.1 ≠ b)
    (keep : ∀ b o, b ≠ X.env.locals → b ∉ X.fs → b ∉ ch → s.heap.get? b = some o → H b = none → h'.get? b = some o)
    (slot : ∀ b o, b ≠ X.env.locals → b ∈ X.fs → b ∉ ch → s.heap.get? b = some o → H b = none → ∃ sl, h'.get? b = some { o with slots := sl }) (free : ∀ b o, b ∉ ch → s.heap.get? b = some o → H b = none → H' b = none)
    (there : ∀ b o, b ∉ ch → s.heap.get? b = some o → ∃ o', h'.get? b = some o')
    (tups : ∀ b xs, H b = some (.tup xs) → H' b = some (.tup xs)) (frzs : ∀ b o u, H b = some (.frz o u) → H' b = some (.frz o u)) (tbls : ∀ b ps, H b = some (.tbl ps) → ∃ more, H' b = some (.tbl (ps ++ more)))
    (ns : ∀ m, s.heap.Ns X.env.locals m → h'.Ns X.env.locals m) (hok : HOk X.prog X.w H' h') (hg : AllBare g') :
    Inv X pins σ H' { s with heap := h', gens := g', drawn := d', toks := t' } := by
  have neL : ∀ b o, X.s₀.heap.get? b = some o → b ≠ X.env.locals := fun b o e => Nat.ne_of_lt (Nat.lt_of_lt_of_le (Heap.lt_size e) I.ok.above)
  have neC : ∀ b o, X.s₀.heap.get? b = some o → b ∉ X.ex → b ∉ ch := fun b o e hx hb => by
    rcases (hch b hb).1 with z | z
    · exact hx z
    · exact absurd (Nat.lt_of_lt_of_le (Heap.lt_size e) z) (Nat.lt_irrefl _)
  have cellK : ∀ x c, X.env.cells.lookup x = some c → ∀ v, s.heap.IsCell c v → h'.IsCell c v := fun x c e v ⟨o, ho, hd⟩ => by
    have nch : c ∉ ch := fun z => (hch c z).2.2.1 x c e rfl
    by_cases hc : c ∈ X.fs
    · obtain ⟨sl, q⟩ := slot c o (I.cne x c e) hc nch ho (I.freeC x c e)
      exact ⟨_, q, hd⟩
    · exact ⟨o, keep c o (I.cne x c e) hc nch ho (I.freeC x c e), hd⟩
  refine ⟨I.ok, I.os, hg, ⟨fun b o e n hb hx => ?_, fun b o e n hb hx => ?_, fun b o e n hx => ?_, fun b o e hx => ?_, fun b xs e => tups b xs (I.base.tups b xs e), fun b o xs e => frzs b o xs (I.base.frzs b o xs e), fun b ps e => ?_⟩, ?_, fun x c e => ?_, ?_, fun x c e => ?_, fun p hp => ?_, hok, I.len⟩
  · exact keep b o (neL b o e) hb (neC b o e hx) (I.base.keep b o e n hb hx) (I.base.free b o e n hx)
  · obtain ⟨sl, e1⟩ := I.base.slot b o e n hb hx
    obtain ⟨sl', e2⟩ := slot b _ (neL b o e) hb (neC b o e hx) e1 (I.base.free b o e n hx)
    exact ⟨sl', e2⟩
  · obtain ⟨o', e1⟩ := I.base.there b o e hx
    exact free b o' (neC b o e hx) e1 (I.base.free b o e n hx)
  · obtain ⟨o', e1⟩ := I.base.there b o e hx
    exact there b o' (neC b o e hx) e1
  · obtain ⟨m1, e1⟩ := I.base.tbls b ps e
    obtain ⟨m2, e2⟩ := tbls b _ e1
    exact ⟨m1 ++ m2, by rw [e2, Array.append_assoc]⟩
  · obtain ⟨m, hn, hl⟩ := I.loc
    refine ⟨m, ns m hn, fun i x v e1 e2 e3 => ?_⟩
    obtain ⟨u, r, l⟩ := hl i x v e1 e2 e3
    refine ⟨u, r, ?_⟩
    rcases l with l | ⟨k, c, e, z⟩
    · exact .inl l
    · exact .inr ⟨k, c, e, cellK x c e _ z⟩
  · obtain ⟨v, z⟩ := I.cell x c e
    exact ⟨v, cellK x c e v z⟩
  · obtain ⟨m, ⟨o, _, _, ho, _⟩, _⟩ := I.loc
    exact free _ o (fun z => (hch _ z).2.1 rfl) ho I.free
  · obtain ⟨v, o, ho, hd⟩ := I.cell x c e
    exact free c o (fun z => (hch c z).2.2.1 x c e rfl) ho (I.freeC x c e)
  · obtain ⟨e, n, ne, nf, d⟩ := I.pin p hp
    have nch : p.1 ∉ ch := fun z => (hch p.1 z).2.2.2 p hp rfl
    exact ⟨keep p.1 p.2 ne nf nch e n, free p.1 p.2 nch e n, ne, nf, d⟩
theorem Inv.un {t' : Nat} (I : Inv X pins σ H s) (u : Un X.fs [] H H' s.heap h') (hok : HOk X.prog X.w H' h') : Inv X pins σ H' { s with heap := h', toks := t' } := by
  obtain ⟨m, ⟨o, es, ep, ho, r⟩, _⟩ := id I.loc
  obtain ⟨sl, hL⟩ := u.any ho I.free (by simp)
  exact I.step (g' := s.gens) (d' := s.drawn) (ch := []) (fun _ z => nomatch z) (fun b o _ hb _ e n => u.keep b o e n hb (by simp)) (fun b o _ hb _ e n => u.slot b o e n hb (by simp)) (fun b o _ e n => u.free b o e n (by simp)) (fun b o _ e => u.there b o e (by simp)) u.tups u.frzs u.tbls (fun m' hm => by
    obtain ⟨o', es', ep', ho', r'⟩ := hm
    rw [ho] at ho'; cases ho'
    exact ⟨_, es', ep', hL, r'⟩) hok I.bare
theorem Inv.call {g' : Array GenState} {t' : Nat} {d' : Drawn} {ch : List Addr} (I : Inv X pins σ H s) (u : Un (frs X.stack) ch H H' s.heap h') (hok : HOk X.prog X.w H' h') (hg : AllBare g')
    (hch : ∀ b ∈ ch, (b ∈ X.ex ∨ X.s₀.heap.objs.size ≤ b) ∧ b ≠ X.env.locals ∧ (∀ x c, X.env.cells.lookup x = some c → c ≠ b) ∧ ∀ p ∈ X.pn ++ pins, p.1 ≠ b) :
    Inv X pins σ H' { s with heap := h', gens := g', drawn := d', toks := t' } := by
  obtain ⟨m, ⟨o, es, ep, ho, r⟩, _⟩ := id I.loc
  obtain ⟨sl, hL⟩ := u.any ho I.free fun z => (hch _ z).2.1 rfl
  exact I.step (ch := ch) hch (fun b o hL hb hc e n => u.keep b o e n (fun z => (List.mem_cons.mp (I.stkSub b z)).elim hL hb) hc) (fun b o _ _ hc e n => u.any e n hc) (fun b o hc e n => u.free b o e n hc) (fun b o hc e => u.there b o e hc) u.tups u.frzs u.tbls (fun m' hm => by
    obtain ⟨o', es', ep', ho', r'⟩ := hm
    rw [ho] at ho'; cases ho'
    exact ⟨_, es', ep', hL, r'⟩) hok hg
theorem Inv.turned {t' : Nat} {it : Addr} (I : Inv X pins σ H s) (k : ∀ b o, b ≠ it → s.heap.get? b = some o → h'.get? b = some o) (hn : H it = none) (hL : it ≠ X.env.locals)
    (h1 : it ∈ X.ex ∨ X.s₀.heap.objs.size ≤ it) (h2 : ∀ x c, X.env.cells.lookup x = some c → c ≠ it) (h3 : ∀ p ∈ X.pn ++ pins, p.1 ≠ it) : Inv X pins σ H { s with heap := h', toks := t' } := by
  have nit : ∀ b u, H b = some u → b ≠ it := fun b u e z => by rw [z, hn] at e; cases e
  refine I.step (g' := s.gens) (d' := s.drawn) (ch := [it]) (fun b hb => ?_) (fun b o _ _ hc e _ => k b o (fun z => hc (by simp [z])) e) (fun b o _ _ hc e _ => ⟨o.slots, k b o (fun z => hc (by simp [z])) e⟩) (fun _ _ _ _ n => n)
    (fun b o hc e => ⟨o, k b o (fun z => hc (by simp [z])) e⟩) (fun _ _ e => e) (fun _ _ _ e => e) (fun b ps e => ⟨#[], by rw [e]; simp⟩) (fun m hm => ?_) (fun b u e => ?_) I.bare
  · have e : b = it := by simpa using hb
    subst e
    exact ⟨h1, hL, h2, h3⟩
  · obtain ⟨o, es, ep, ho, r⟩ := hm
    exact ⟨o, es, ep, k _ o (Ne.symm hL) ho, r⟩
  · refine (I.hok b u e).stay (fun c v hc q => k c v ?_ q) (fun _ q => q) fun _ _ q => q
    rcases hc with z | z
    · rw [z]; exact nit b u e
    · exact nit c _ z
theorem Inv.tok (I : Inv X pins σ H s) (t : Nat) : Inv X pins σ H { s with toks := t } := I.un (h' := s.heap) (t' := t) Un.refl I.hok
theorem Inv.kept {t' : Nat} (I : Inv X pins σ H s) (k : ∀ b u, s.heap.get? b = some u → h'.get? b = some u) : Inv X pins σ H { s with heap := h', toks := t' } := I.un (Un.kept k) (I.hok.kept k)
theorem Inv.laid {a : Addr} {o : HO} {t' : Nat} (I : Inv X pins σ H s) (k : ∀ b u, s.heap.get? b = some u → h'.get? b = some u) (hp : s.heap.objs.size ≤ a) (new : ObjOk X.prog X.w (upd H a o) h' a o) :
    Inv X pins σ (upd H a o) { s with heap := h', toks := t' } := I.un (Un.laid k hp (I.hok.fresh hp)) (I.hok.laid k hp new)
theorem Inv.write {x e : Addr} {o : HO} {t' : Nat} (I : Inv X pins σ H s) (mu : Mut (H x)) (he : e = x ∨ H e = some (.own x)) (k : ∀ b u, b ≠ e → s.heap.get? b = some u → h'.get? b = some u) (heo : ∃ u, h'.get? e = some u)
    (new : ObjOk X.prog X.w (upd H x o) h' x o) : Inv X pins σ (upd H x o) { s with heap := h', toks := t' } := I.un (Un.write mu he k heo) (I.hok.write mu he k heo new)
theorem Inv.pins_of {pins' : List (Addr × Obj)} (I : Inv X pins σ H s) (h : ∀ p ∈ pins', s.heap.get? p.1 = some p.2 ∧ H p.1 = none ∧ p.1 ≠ X.env.locals ∧ p.1 ∉ X.fs ∧ ∀ v, p.2.data ≠ .cell v) : Inv X pins' σ H s :=
  ⟨I.ok, I.os, I.bare, I.base, I.loc, I.cell, I.free, I.freeC, fun p hp => (List.mem_append.mp hp).elim (fun z => I.pin p (List.mem_append_left _ z)) (h p), I.hok, I.len⟩

theorem nodup_ix {N : List Str} (hN : N.Nodup) {i j : Nat} {x : Str} (a : N[i]? = some x) (b : N[j]? = some x) : i = j := by
  obtain ⟨h1, e1⟩ := List.getElem?_eq_some_iff.mp a
  obtain ⟨h2, e2⟩ := List.getElem?_eq_some_iff.mp b
  exact (List.getElem_inj hN).mp (e1.trans e2.symm)

theorem store_ok2 {M : Model} {A : Around} {E : Value → Shared → Prop} {i : Nat} {x : Str} {v : V} {u : Value} {Q : Unit → Shared → Prop} (I : Inv X pins σ H s) (hN : X.N.Nodup) (hi : X.N[i]? = some x) (hx : Loc X.env.scope x) (r : RelV v u)
    (h : ∀ s', Inv X pins (σ.set i (some v)) H s' → (∃ a, Heap.SameBut a s.heap s'.heap ∧ (a = X.env.locals ∨ X.env.cells.lookup x = some a)) → Q () s') (hf : X.fn x = true ∨ X.env.scope.names.lookup x = some .local := by first | exact .inl rfl | exact .inr rfl | assumption) : wpAny M A (storeName X.env x u) Q E s := by
  obtain ⟨m, hn, hl⟩ := id I.loc
  have hcls : (X.env.scope.kind == .class || (X.env.scope.kind == .module && X.env.locals != X.env.globals)) = false := by rw [I.ok.kind]; rfl
  have hiσ : i < σ.length := by rw [I.len]; exact (List.getElem?_eq_some_iff.mp hi).1
  have cne := I.cne
  have tracked : ∀ {a : Addr} {h' : Heap}, (∃ o, s.heap.get? a = some o ∧ H a = none) → Heap.SameBut a s.heap h' → HOk X.prog X.w H h' := fun {a h'} ha hs b ob e => by
    obtain ⟨_, _, hfree⟩ := ha
    refine (I.hok b ob e).stay (fun c w' hc q => (hs.2 c ?_).trans q) (fun _ q => q) fun _ _ q => q
    rintro rfl
    rcases hc with rfl | hc
    · rw [hfree] at e; cases e
    · rw [hfree] at hc; cases hc
  rcases hx with hk | hk
  · refine wpAny_storeName_local hk hn (fun h' hn' hs => ?_) hcls
    obtain ⟨oL, _, _, hoL, _⟩ := id hn
    refine h _ ⟨I.ok, I.os, I.bare, ⟨fun b o e n hb hx => ?_, fun b o e n hb hx => ?_, I.base.free, fun b o e hx => ?_, I.base.tups, I.base.frzs, I.base.tbls⟩, ⟨_, hn', fun j y v' e1 e2 e3 => ?_⟩, fun y c e => ?_, I.free, I.freeC, fun p hp => ?_, tracked ⟨oL, hoL, I.free⟩ hs, by simpa using I.len⟩ ⟨_, hs, .inl rfl⟩
    · exact (hs.2 b (Nat.ne_of_lt (Nat.lt_of_lt_of_le (Heap.lt_size e) I.ok.above))).trans (I.base.keep b o e n hb hx)
    · obtain ⟨sl, e1⟩ := I.base.slot b o e n hb hx
      exact ⟨sl, (hs.2 b (Nat.ne_of_lt (Nat.lt_of_lt_of_le (Heap.lt_size e) I.ok.above))).trans e1⟩
    · obtain ⟨o', e1⟩ := I.base.there b o e hx
      exact ⟨o', (hs.2 b (Nat.ne_of_lt (Nat.lt_of_lt_of_le (Heap.lt_size e) I.ok.above))).trans e1⟩
    · by_cases hj : j = i
      · subst hj
        rw [hi] at e1; cases e1
        rw [List.getElem?_set_self hiσ] at e2
        cases e2
        exact ⟨u, r, .inl ⟨hk, by simp⟩⟩
      · rw [List.getElem?_set_ne (Ne.symm hj)] at e2
        obtain ⟨u', r', q⟩ := hl j y v' e1 e2 e3
        refine ⟨u', r', ?_⟩
        rcases q with ⟨k, e⟩ | ⟨k, c, e, z⟩
        · refine .inl ⟨k, ?_⟩
          have : y ≠ x := fun e => hj (nodup_ix hN e1 (e ▸ hi))
          simp [this, e]
        · exact .inr ⟨k, c, e, z.sameBut hs (cne y c e)⟩
    · obtain ⟨w', z⟩ := I.cell y c e
      exact ⟨w', z.sameBut hs (cne y c e)⟩
    · obtain ⟨e, n, ne, nf, d⟩ := I.pin p hp
      exact ⟨(hs.2 p.1 ne).trans e, n, ne, nf, d⟩
  · have hfn : X.fn x = true := by
      rcases hf with z | z
      · exact z
      · rw [z] at hk; cases hk
    obtain ⟨c, hc⟩ := I.ok.has x (.inl hk)
    obtain ⟨w', z⟩ := I.cell x c hc
    refine wpAny_storeName_cell I.ok.kind hk hc z (fun h' hc' hs => ?_)
    obtain ⟨oc, hoc, hocd⟩ := id z
    refine h { s with heap := h' } ⟨I.ok, I.os, I.bare, ⟨fun b o e n hb hx => ?_, fun b o e n hb hx => ?_, I.base.free, fun b o e hx => ?_, I.base.tups, I.base.frzs, I.base.tbls⟩, ⟨m, hn.sameBut hs (Ne.symm (cne x c hc)), fun j y v' e1 e2 e3 => ?_⟩, fun y c' e => ?_, I.free, I.freeC, fun p hp => ?_, tracked ⟨oc, hoc, I.freeC x c hc⟩ hs, by simpa using I.len⟩ ⟨c, hs, .inr hc⟩
    · exact (hs.2 b (Nat.ne_of_lt (Nat.lt_of_lt_of_le (Heap.lt_size e) (I.ok.cab x c hfn hc)))).trans (I.base.keep b o e n hb hx)
    · obtain ⟨sl, e1⟩ := I.base.slot b o e n hb hx
      exact ⟨sl, (hs.2 b (Nat.ne_of_lt (Nat.lt_of_lt_of_le (Heap.lt_size e) (I.ok.cab x c hfn hc)))).trans e1⟩
    · obtain ⟨o', e1⟩ := I.base.there b o e hx
      exact ⟨o', (hs.2 b (Nat.ne_of_lt (Nat.lt_of_lt_of_le (Heap.lt_size e) (I.ok.cab x c hfn hc)))).trans e1⟩
    · by_cases hj : j = i
      · subst hj
        rw [hi] at e1; cases e1
        rw [List.getElem?_set_self hiσ] at e2
        cases e2
        exact ⟨u, r, .inr ⟨.inl hk, c, hc, hc'⟩⟩
      · rw [List.getElem?_set_ne (Ne.symm hj)] at e2
        obtain ⟨u', r', q⟩ := hl j y v' e1 e2 e3
        refine ⟨u', r', ?_⟩
        rcases q with q | ⟨k, c', e, z'⟩
        · exact .inl q
        · refine .inr ⟨k, c', e, z'.sameBut hs ?_⟩
          rintro rfl
          exact hj (nodup_ix hN e1 (I.ok.inj _ _ _ e hc ▸ hi))
    · by_cases hcc : c' = c
      · subst hcc; exact ⟨_, hc'⟩
      · obtain ⟨w2, z2⟩ := I.cell y c' e
        exact ⟨w2, z2.sameBut hs hcc⟩
    · obtain ⟨e, n, ne, nf, d⟩ := I.pin p hp
      refine ⟨(hs.2 p.1 ?_).trans e, n, ne, nf, d⟩
      intro q
      rw [q, hoc] at e
      have q' : oc = p.2 := Option.some.inj e
      exact d w' (by rw [← q']; exact hocd)
theorem store_ok {M : Model} {A : Around} {E : Value → Shared → Prop} {i : Nat} {x : Str} {v : V} {u : Value} {Q : Unit → Shared → Prop} (I : Inv X pins σ H s) (hN : X.N.Nodup) (hi : X.N[i]? = some x) (hx : Loc X.env.scope x) (r : RelV v u)
    (h : ∀ s', Inv X pins (σ.set i (some v)) H s' → Q () s') (hf : X.fn x = true ∨ X.env.scope.names.lookup x = some .local := by first | exact .inl rfl | exact .inr rfl | assumption) : wpAny M A (storeName X.env x u) Q E s :=
  store_ok2 I hN hi hx r (fun s' I' _ => h s' I') hf
theorem Inv.call' {s' : Shared} {ch : List Addr} (I : Inv X pins σ H s) (ho : s'.os = s.os) (u : Un (frs X.stack) ch H H' s.heap s'.heap) (hok : HOk X.prog X.w H' s'.heap) (hg : AllBare s'.gens)
    (hch : ∀ b ∈ ch, (b ∈ X.ex ∨ X.s₀.heap.objs.size ≤ b) ∧ b ≠ X.env.locals ∧ (∀ x c, X.env.cells.lookup x = some c → c ≠ b) ∧ ∀ p ∈ X.pn ++ pins, p.1 ≠ b) : Inv X pins σ H' s' := by
  obtain ⟨h', g', d', t', o'⟩ := s'
  have e : o' = s.os := ho
  subst e
  exact I.call (g' := g') (t' := t') (d' := d') u hok hg hch
end

/-! ### the judgements -/
noncomputable abbrev XK := Value → Option Addr → Hp → Prop
noncomputable abbrev St := List (Option V)
noncomputable abbrev VK := V → Hp → Prop
noncomputable abbrev TE := St → Hp → VK → Prop
noncomputable abbrev TT := St → Hp → (Bool → Hp → Prop) → Prop
noncomputable abbrev TA := St → Hp → (List V → Hp → Prop) → Prop
structure Ends where
  nx : St → Hp → Prop
  rt : VK
  bk : St → Hp → Prop := fun _ _ => False
  ct : St → Hp → Prop := fun _ _ => False
noncomputable abbrev TS := Ends → St → Hp → Prop

noncomputable def EP (X : Cx) (pins : List (Addr × Obj)) (σ : St) (Q : VK) (u : Value) (s' : Shared) : Prop := ∃ v H', Inv X pins σ H' s' ∧ RelV v u ∧ Q v H'
noncomputable def TP (X : Cx) (pins : List (Addr × Obj)) (σ : St) (Q : Bool → Hp → Prop) (b : Bool) (s' : Shared) : Prop := ∃ H', Inv X pins σ H' s' ∧ Q b H'
noncomputable def AP (X : Cx) (pins : List (Addr × Obj)) (σ : St) (Q : List V → Hp → Prop) (us : List Value) (s' : Shared) : Prop := ∃ vs H', Inv X pins σ H' s' ∧ Vals vs us ∧ Q vs H'
noncomputable def SP (X : Cx) (pins : List (Addr × Obj)) (D : Ends) (f : Flow) (s' : Shared) : Prop :=
  match f with
  | .next => ∃ σ' H', Inv X pins σ' H' s' ∧ D.nx σ' H'
  | .brk => ∃ σ' H', Inv X pins σ' H' s' ∧ D.bk σ' H'
  | .cont => ∃ σ' H', Inv X pins σ' H' s' ∧ D.ct σ' H'
  | .ret u => ∃ v σ' H', Inv X pins σ' H' s' ∧ RelV v u ∧ D.rt v H'

noncomputable def PE (X : Cx) (e : Expr) (t : TE) : Prop :=
  ∀ (pins : List (Addr × Obj)) (s : Shared) (σ : St) (H : Hp) (Q : VK), Inv X pins σ H s → t σ H Q → wpAny (model X.prog X.w) X.A (eval e X.env) (EP X pins σ Q) X.xe s
noncomputable def PT (X : Cx) (e : Expr) (t : TT) : Prop :=
  ∀ (pins : List (Addr × Obj)) (s : Shared) (σ : St) (H : Hp) (Q : Bool → Hp → Prop), Inv X pins σ H s → t σ H Q → wpAny (model X.prog X.w) X.A (isTrue e X.env (eval e X.env)) (TP X pins σ Q) X.xe s
noncomputable def PW (X : Cx) (e : Expr) (t : TT) : Prop :=
  ∀ (whole : Sem Value) (pins : List (Addr × Obj)) (s : Shared) (σ : St) (H : Hp) (Q : Bool → Hp → Prop), Inv X pins σ H s → t σ H Q → wpAny (model X.prog X.w) X.A (isTrue e X.env whole) (TP X pins σ Q) X.xe s
theorem PW.pt {X : Cx} {e : Expr} {t : TT} (h : PW X e t) : PT X e t := h _
noncomputable def PA (X : Cx) (es : List Expr) (t : TA) : Prop :=
  ∀ (pos : Pos) (pins : List (Addr × Obj)) (s : Shared) (σ : St) (H : Hp) (Q : List V → Hp → Prop), Inv X pins σ H s → t σ H Q → wpAny (model X.prog X.w) X.A (spliced (backTo pos (starEach es X.env))) (AP X pins σ Q) X.xe s
noncomputable def PS (X : Cx) (st : Stmt) (t : TS) : Prop :=
  ∀ (pins : List (Addr × Obj)) (s : Shared) (σ : St) (H : Hp) (D : Ends), Inv X pins σ H s → t D σ H → wpAny (model X.prog X.w) X.A (exec st X.env) (SP X pins D) X.xe s
noncomputable def PSs (X : Cx) (st : List Stmt) (t : TS) : Prop :=
  ∀ (pins : List (Addr × Obj)) (s : Shared) (σ : St) (H : Hp) (D : Ends), Inv X pins σ H s → t D σ H → wpAny (model X.prog X.w) X.A (execs st X.env) (SP X pins D) X.xe s
theorem thn {α : Type} {t : Sem α} {Q Q' : α → Shared → Prop} {M : Model} {A : Around} {E : Value → Shared → Prop} {s : Shared} (h : wpAny M A t Q E s) (hQ : ∀ a s, Q a s → Q' a s) : wpAny M A t Q' E s := wpAny_mono h hQ fun _ _ x => x
end L2

namespace L2
open PySem PySem.Spec PyProof.Rows
section
variable {X : Cx}

/-! ### names and constants -/
inductive I_tVar (i : Nat) (σ : St) (H : Hp) (Q : VK) : Prop
  | mk (v : V) (h : σ[i]? = some (some v)) (q : Q v H)
noncomputable def tVar (i : Nat) : TE := fun σ H Q => I_tVar i σ H Q
noncomputable def tC (v : V) : TE := fun _ H Q => Q v H
theorem pe_var {i : Nat} {x : Str} {pos : Pos} (hN : X.N[i]? = some x) (hv : Vis X.env.scope x) (hd : (x == ("__debug__" : Str)) = false := by decide) (hcd : (x == ("__classdict__" : Str)) = false := by decide) : PE X (.Name x pos) (tVar i) := by
  intro pins s σ H Q I h
  obtain ⟨v, e, h⟩ := h
  obtain ⟨m, hn, hl⟩ := I.loc
  obtain ⟨u, r, l⟩ := hl i x v hN e hv
  have fin : EP X pins σ Q u s := ⟨v, H, I, r, h⟩
  rcases l with ⟨hk, hm⟩ | ⟨hk, c, hc, hcell⟩
  · exact wpAny_Name (wpAny_loadName_local I.ok.kind hk hn hm fin) hd
  · rcases hk with hk | hk
    · exact wpAny_Name (wpAny_loadName_cell I.ok.kind hk hc hcell fin) hd
    · exact wpAny_Name (wpAny_loadName_free I.ok.kind hk hc hcell fin hcd) hd
theorem pe_int {i j pos} : PE X (.Constant (.int i) j pos) (tC (.int i)) := fun _ _ _ H _ I h => wpAny_Constant_int ⟨.int i, H, I.tok _, ⟨_, rfl⟩, h⟩
theorem pe_bl {b j pos} : PE X (.Constant (.bool b) j pos) (tC (.bl b)) := fun _ _ _ H _ I h => Constant_bool ⟨.bl b, H, I, rfl, h⟩
theorem pe_str {x j pos} : PE X (.Constant (.str x) j pos) (tC (.str x)) := fun _ _ _ H _ I h => Calls.Constant_str ⟨.str x, H, I.tok _, ⟨_, rfl⟩, h⟩

noncomputable def Gl (X : Cx) (x : Str) : Prop := X.env.kindOf x = some .globalImplicit
theorem ld_glob {E : Value → Shared → Prop} {pins : List (Addr × Obj)} {s : Shared} {σ : St} {H : Hp} {x : Str} {u : Value} {pos : Pos} {Q : Value → Shared → Prop} (I : Inv X pins σ H s) (hg : Gl X x) (hm : X.mg x = some u) (h : Q u s)
    (hd : (x == ("__debug__" : Str)) = false := by decide) : wpAny (model X.prog X.w) X.A (eval (.Name x pos) X.env) Q E s :=
  Calls.Name_function_global I.ok.kind hg (Calls.loadGlobal_global (by rw [I.ok.glob]; exact I.mod.glob.keeps I.bk) hm h) hd
theorem ld_blt {E : Value → Shared → Prop} {pins : List (Addr × Obj)} {s : Shared} {σ : St} {H : Hp} {x : Str} {u : Value} {pos : Pos} {Q : Value → Shared → Prop} (I : Inv X pins σ H s) (hg : Gl X x) (hm : X.mg x = none) (hv : bootBuiltins x = some u) (h : Q u s)
    (hn : x ≠ "__name__" := by decide) (hd : (x == ("__debug__" : Str)) = false := by decide) : wpAny (model X.prog X.w) X.A (eval (.Name x pos) X.env) Q E s := by
  obtain ⟨mb, h1, h2⟩ := I.mod.blt
  exact Calls.Name_function_global I.ok.kind hg (Calls.loadGlobal_builtin (by rw [I.ok.glob]; exact I.mod.glob.keeps I.bk) hm (by rw [I.ok.blt]; exact h1.keeps I.bk) ((h2 x hn).trans hv) h) hd
theorem pe_glob {x : Str} {v : V} {u : Value} {pos : Pos} (hg : Gl X x) (hm : X.mg x = some u) (r : RelV v u) (hd : (x == ("__debug__" : Str)) = false := by decide) : PE X (.Name x pos) (tC v) :=
  fun _ _ _ H _ I h => ld_glob I hg hm ⟨v, H, I, r, h⟩ hd
theorem pe_bltn {x : Str} {v : V} {u : Value} {pos : Pos} (hg : Gl X x) (hm : X.mg x = none) (hv : bootBuiltins x = some u) (r : RelV v u) (hn : x ≠ "__name__" := by decide) (hd : (x == ("__debug__" : Str)) = false := by decide) : PE X (.Name x pos) (tC v) :=
  fun _ _ _ H _ I h => ld_blt I hg hm hv ⟨v, H, I, r, h⟩ hn hd

/-! ### arithmetic -/
variable {a b : Expr} {ta tb : TE} {pos : Pos}
/-! ### comparisons -/
noncomputable def PC (X : Cx) (op : CmpOp) (a b : Expr) (t : TE) : Prop :=
  ∀ (pins : List (Addr × Obj)) (s : Shared) (σ : St) (H : Hp) (Q : VK), Inv X pins σ H s → t σ H Q →
    wpAny (model X.prog X.w) X.A (eval a X.env) (fun v s₁ => wpAny (model X.prog X.w) X.A (eval b X.env) (fun u s₂ => wpAny (model X.prog X.w) X.A (compareOp op v u) (EP X pins σ Q) X.xe s₂) X.xe s₁) X.xe s
theorem nobehind (b : Expr) {op : CmpOp} (h : op ≠ .In) (h2 : op ≠ .NotIn) : behindInMarks op b = false := by
  have e1 : (op == CmpOp.In) = false := by cases op <;> first | rfl | exact absurd rfl h
  have e2 : (op == CmpOp.NotIn) = false := by cases op <;> first | rfl | exact absurd rfl h2
  cases b <;> simp [behindInMarks, e1, e2]
inductive I_tB (x : V) (H : Hp) (Q : Bool → Hp → Prop) : Prop
  | mk (c : Bool) (h : x = .bl c) (q : Q c H)
noncomputable def tB (t : TE) : TT := fun σ H Q => t σ H fun x H1 => I_tB x H1 Q
theorem pt_cmp {op : CmpOp} {t : TE} (h : PC X op a b t) (h1 : behindInMarks op b = false := by first | exact nobehind _ (by decide) (by decide) | rfl) : PT X (.Compare a [op] [b] pos) (tB t) := by
  intro pins s σ H Q I hw
  refine wpAny_isTrue_Compare1 (thn (h pins s σ H _ I hw) fun v s1 h1 => thn h1 fun u s2 h2 => thn h2 fun c s3 ⟨x, H1, I1, r1, q1⟩ => ?_) h1
  obtain ⟨d, rfl, q⟩ := q1
  cases r1
  exact wpAny_truthy_bool ⟨H1, I1, q⟩
theorem pt_val {e : Expr} {t : TE} (h : PE X e t) (he : ∀ whole, isTrue e X.env whole = (do let v ← whole; standAt e.pos; holding [v] (truthy v)) := by intro _; rfl) : PT X e (tB t) := by
  intro pins s σ H Q I hw
  refine isTrue_plain (thn (h pins s σ H _ I hw) fun v s1 ⟨x, H1, I1, r1, q1⟩ => ?_) (he _)
  obtain ⟨d, rfl, q⟩ := q1
  cases r1
  exact wpAny_truthy_bool ⟨H1, I1, q⟩

/-! ### and, or, not -/
variable {tA tB' : TT} {rest : List Expr}
noncomputable def tAnd (t u : TT) : TT := fun σ H Q => t σ H fun c H1 => if c = true then u σ H1 Q else Q false H1
noncomputable def tOr (t u : TT) : TT := fun σ H Q => t σ H fun c H1 => if c = true then Q true H1 else u σ H1 Q
noncomputable def tNot (t : TT) : TT := fun σ H Q => t σ H fun c H1 => Q (!c) H1
theorem pw_or1 (ha : PT X a tA) : PW X (.BoolOp .Or [a] pos) tA := by
  intro wh pins s σ H Q I h
  refine isTrue_or (thn (ha pins s σ H Q I h) fun c s1 e => ?_)
  cases c with
  | false => exact isTrue_or_nil e
  | true => exact e
theorem pw_or (ha : PT X a tA) (hb : PW X (.BoolOp .Or (b :: rest) pos) tB') : PW X (.BoolOp .Or (a :: b :: rest) pos) (tOr tA tB') := by
  intro wh pins s σ H Q I h
  refine isTrue_or (thn (ha pins s σ H _ I h) fun c s1 ⟨H1, I1, q1⟩ => ?_)
  cases c with
  | true => exact ⟨H1, I1, q1⟩
  | false => exact hb wh pins s1 σ H1 Q I1 q1
theorem pt_not (ha : PT X a tA) : PT X (.UnaryOp .Not a pos) (tNot tA) := by
  intro pins s σ H Q I h
  exact isTrue_not (ha pins s σ H (fun c H1 => Q (!c) H1) I h)
noncomputable def tAndV (ta tb : TE) : TE := fun σ H Q => ta σ H fun x H1 => ∃ c, x = .bl c ∧ if c = true then tb σ H1 Q else Q (.bl false) H1
noncomputable def tOrV (ta tb : TE) : TE := fun σ H Q => ta σ H fun x H1 => ∃ c, x = .bl c ∧ if c = true then Q (.bl true) H1 else tb σ H1 Q
noncomputable def tNotV (ta : TE) : TE := fun σ H Q => ta σ H fun x H1 => ∃ c, x = .bl c ∧ Q (.bl (!c)) H1
theorem pe_one {op} {t : TE} (h : PE X a t) : PE X (.BoolOp op [a] pos) t := fun pins s σ H Q I hw => BoolOp_one (h pins s σ H Q I hw)
theorem pe_or (ha : PE X a ta) (hb : PE X (.BoolOp .Or (b :: rest) pos) tb) : PE X (.BoolOp .Or (a :: b :: rest) pos) (tOrV ta tb) := by
  intro pins s σ H Q I h
  refine BoolOp_or (thn (ha pins s σ H _ I h) fun v s1 ⟨x, H1, I1, r1, q1⟩ => ?_)
  obtain ⟨c, rfl, q1⟩ := q1
  cases r1
  refine wpAny_truthy_bool ?_
  cases c with
  | false => exact hb pins s1 σ H1 Q I1 q1
  | true => exact ⟨.bl true, H1, I1, rfl, q1⟩
noncomputable def tIf (t : TT) (ta tb : TE) : TE := fun σ H Q => t σ H fun c H1 => if c = true then ta σ H1 Q else tb σ H1 Q
theorem pe_ifExp {c : Expr} (hc : PT X c tA) (ha : PE X a ta) (hb : PE X b tb) : PE X (.IfExp c a b pos) (tIf tA ta tb) := by
  intro pins s σ H Q I h
  refine wpAny_IfExp (thn (hc pins s σ H _ I h) fun d s1 ⟨H1, I1, q1⟩ => ?_)
  cases d with
  | true => exact ha pins s1 σ H1 Q I1 q1
  | false => exact hb pins s1 σ H1 Q I1 q1
end
end L2

namespace L2
open PySem PySem.Spec PyProof.Rows

/-! ### a list, a tuple that is read: tracked, frozen, or an object of the module -/
noncomputable def SqL (K : PySem.W.Frag) (H : Hp) (a : Addr) (xs : List V) : Prop :=
  Rd H a (.lst xs) ∨
    ∃ (o : Obj) (its : Array Value) (n : Nat), K.lookup a = some o ∧ o.cls = .type "list" ∧ o.dict = none ∧ o.data = .seq its n ∧ its.size ≤ sizeLine ∧ Vals xs its.toList
noncomputable def SqT (K : PySem.W.Frag) (H : Hp) (a : Addr) (xs : List V) : Prop :=
  Rd H a (.tup xs) ∨
    ∃ (o : Obj) (its : Array Value) (n : Nat), K.lookup a = some o ∧ o.cls = .type "tuple" ∧ o.data = .seq its n ∧ its.size ≤ sizeLine ∧ Vals xs its.toList
noncomputable def absV : Value → Option V
  | .none => some .non
  | .bool b => some (.bl b)
  | .int i _ => some (.int i)
  | .str x _ => some (.str x)
  | .bytes b _ => some (.byt b)
  | .float b _ => some (.flt b)
  | .ref a => some (.ref a)
  | .type n => some (.ty n)
  | _ => none
theorem RelV.abs {x : V} {u : Value} (r : RelV x u) : absV u = some x := by
  cases x with
  | non => cases r; rfl
  | bl _ => cases r; rfl
  | int _ => obtain ⟨t, rfl⟩ := r; rfl
  | str _ => obtain ⟨t, rfl⟩ := r; rfl
  | byt _ => obtain ⟨t, rfl⟩ := r; rfl
  | flt _ => obtain ⟨t, rfl⟩ := r; rfl
  | ref _ => cases r; rfl
  | ty _ => cases r; rfl
theorem RelV.inj {x y : V} {u : Value} (r : RelV x u) (q : RelV y u) : x = y := Option.some.inj (r.abs.symm.trans q.abs)
theorem Vals.inj : ∀ {xs ys : List V} {us : List Value}, Vals xs us → Vals ys us → xs = ys
  | _, _, _, .nil, .nil => rfl
  | _, _, _, .cons r t, .cons r' t' => by rw [r.inj r', Vals.inj t t']
section
variable {X : Cx} {pins : List (Addr × Obj)} {σ : St} {H : Hp} {s : Shared} {a : Addr} {xs ys : List V}
theorem SqL.of {K : PySem.W.Frag} (h : H a = some (.lst xs)) : SqL K H a xs := .inl (.inl h)
theorem SqT.of {K : PySem.W.Frag} (h : H a = some (.tup xs)) : SqT K H a xs := .inl (.inl h)
theorem Inv.list (I : Inv X pins σ H s) (h : SqL X.K H a xs) : ∃ its : List Value, Vals xs its ∧ PlainL s.heap a its.toArray ∧ xs.length ≤ sizeLine := by
  rcases h with h | ⟨o, its, n, hk, hc, hd, hs, hz, r⟩
  · obtain ⟨z, its, n, r, e⟩ := h.ok I.hok
    exact ⟨its, r, ⟨_, n, e, rfl, rfl, rfl⟩, z⟩
  · refine ⟨its.toList, r, ⟨o, n, I.kIn a o hk, hc, hd, by simpa using hs⟩, ?_⟩
    have e := r.length
    simp only [Array.length_toList] at e
    omega
theorem Inv.tuple (I : Inv X pins σ H s) (h : SqT X.K H a xs) : ∃ its : List Value, Vals xs its ∧ IsTup s.heap a its.toArray ∧ xs.length ≤ sizeLine := by
  rcases h with h | ⟨o, its, n, hk, hc, hs, hz, r⟩
  · obtain ⟨z, its, r, p⟩ := h.ok I.hok
    exact ⟨its, r, p, z⟩
  · refine ⟨its.toList, r, ⟨o, I.kIn a o hk, hc, n, by simpa using hs⟩, ?_⟩
    have e := r.length
    simp only [Array.length_toList] at e
    omega
theorem Inv.list_inj (I : Inv X pins σ H s) (h : SqL X.K H a xs) (h' : SqL X.K H a ys) : xs = ys := by
  obtain ⟨its, r, ⟨o, n, e, _, _, d⟩, _⟩ := I.list h
  obtain ⟨its', r', ⟨o', n', e', _, _, d'⟩, _⟩ := I.list h'
  rw [e] at e'; cases e'
  rw [d] at d'
  injection d' with d1 _
  have : its = its' := by simpa using congrArg Array.toList d1
  subst this
  exact r.inj r'
theorem Inv.tuple_inj (I : Inv X pins σ H s) (h : SqT X.K H a xs) (h' : SqT X.K H a ys) : xs = ys := by
  obtain ⟨its, r, ⟨o, e, _, n, d⟩, _⟩ := I.tuple h
  obtain ⟨its', r', ⟨o', e', _, n', d'⟩, _⟩ := I.tuple h'
  rw [e] at e'; cases e'
  rw [d] at d'
  injection d' with d1 _
  have : its = its' := by simpa using congrArg Array.toList d1
  subst this
  exact r.inj r'
end

/-! ### another wish about exceptions -/
noncomputable abbrev Cx.wish (X : Cx) (E : Value → Shared → Prop) : Cx := { X with xe := E }
noncomputable abbrev Cx.nox (X : Cx) : Cx := X.wish fun _ _ => False
theorem Cx.Ok.wish {X : Cx} (ok : X.Ok) (E : Value → Shared → Prop) : (X.wish E).Ok :=
  ⟨ok.mod, ok.kind, ok.glob, ok.blt, ok.above, ok.inj, ok.has, ok.cab, ok.hd, ok.frames, ok.stk, ok.exf, ok.bs, ok.bsz, ok.noex, ok.exfs, ok.funs, ok.frf⟩
theorem Cx.Ok.unwish {X : Cx} {E : Value → Shared → Prop} (ok : (X.wish E).Ok) : X.Ok :=
  ⟨ok.mod, ok.kind, ok.glob, ok.blt, ok.above, ok.inj, ok.has, ok.cab, ok.hd, ok.frames, ok.stk, ok.exf, ok.bs, ok.bsz, ok.noex, ok.exfs, ok.funs, ok.frf⟩
section
variable {X : Cx} {pins : List (Addr × Obj)} {σ : St} {H : Hp} {s : Shared} {E : Value → Shared → Prop}
theorem Inv.wish (I : Inv X pins σ H s) (E : Value → Shared → Prop) : Inv (X.wish E) pins σ H s := ⟨I.ok.wish E, I.os, I.bare, I.base, I.loc, I.cell, I.free, I.freeC, I.pin, I.hok, I.len⟩
theorem Inv.unwish (I : Inv (X.wish E) pins σ H s) : Inv X pins σ H s := ⟨I.ok.unwish, I.os, I.bare, I.base, I.loc, I.cell, I.free, I.freeC, I.pin, I.hok, I.len⟩
theorem SP.unwish {D : Ends} {f : Flow} {s' : Shared} (h : SP (X.wish E) pins D f s') : SP X pins D f s' := by
  cases f with
  | next => obtain ⟨σ', H', I, q⟩ := h; exact ⟨σ', H', I.unwish, q⟩
  | brk => obtain ⟨σ', H', I, q⟩ := h; exact ⟨σ', H', I.unwish, q⟩
  | cont => obtain ⟨σ', H', I, q⟩ := h; exact ⟨σ', H', I.unwish, q⟩
  | ret u => obtain ⟨v, σ', H', I, r, q⟩ := h; exact ⟨v, σ', H', I.unwish, r, q⟩
theorem PE.nox {e : Expr} {t : TE} (h : PE X.nox e t) : PE X e t := fun pins s σ H Q I hw =>
  wpAny_mono (h pins s σ H Q (I.wish _) hw) (fun _ _ ⟨v, H', I', r, q⟩ => ⟨v, H', I'.unwish, r, q⟩) fun _ _ z => False.elim z
theorem PT.nox {e : Expr} {t : TT} (h : PT X.nox e t) : PT X e t := fun pins s σ H Q I hw =>
  wpAny_mono (h pins s σ H Q (I.wish _) hw) (fun _ _ ⟨H', I', q⟩ => ⟨H', I'.unwish, q⟩) fun _ _ z => False.elim z
theorem PSs.nox {st : List Stmt} {t : TS} (h : PSs X.nox st t) : PSs X st t := fun pins s σ H D I hw =>
  wpAny_mono (h pins s σ H D (I.wish _) hw) (fun _ _ q => q.unwish) fun _ _ z => False.elim z
end

/-! ### blocks and small statements -/
section
variable {X : Cx} {st : Stmt} {rest : List Stmt} {t u : TS} {e : Expr} {te : TE} {pos : Pos}
noncomputable def tNext : TS := fun D σ H => D.nx σ H
noncomputable def tSeq (t u : TS) : TS := fun D σ H => t { D with nx := u D } σ H
theorem pss_nil : PSs X [] tNext := fun _ _ σ H _ I h => wpAny_execs_nil ⟨σ, H, I, h⟩
theorem pss_cons (h1 : PS X st t) (h2 : PSs X rest u) : PSs X (st :: rest) (tSeq t u) := by
  intro pins s σ H D I h
  refine wpAny_execs_cons (thn (h1 pins s σ H { D with nx := u D } I h) fun f s1 q => ?_)
  cases f with
  | next =>
    obtain ⟨σ', H', I', q⟩ := q
    exact h2 pins s1 σ' H' D I' q
  | ret v => exact q
  | brk => exact q
  | cont => exact q
theorem pss_one (h1 : PS X st t) : PSs X [st] t := by
  intro pins s σ H D I h
  refine wpAny_execs_cons (thn (h1 pins s σ H D I h) fun f s1 q => ?_)
  cases f with
  | next => exact wpAny_execs_nil q
  | ret v => exact q
  | brk => exact q
  | cont => exact q
noncomputable def tBreak : TS := fun D σ H => D.bk σ H
noncomputable def tCont : TS := fun D σ H => D.ct σ H
theorem Inv.quiet {pins : List (Addr × Obj)} {σ : St} {H : Hp} {s : Shared} (I : Inv X pins σ H s) : interactive X.env = false := by simp [interactive, I.ok.kind]
noncomputable def tDrop (te : TE) : TS := fun D σ H => te σ H fun _ H1 => D.nx σ H1
theorem ps_expr (he : PE X e te) (hs : swapsWith e none pos.line X.env = pure false := by rfl) : PS X (.Expr e pos) (tDrop te) := by
  intro pins s σ H D I h
  exact wpAny_Expr_any (thn (he pins s σ H _ I h) fun v s1 ⟨x, H1, I1, r1, q1⟩ => ⟨σ, H1, I1, q1⟩) I.quiet hs
noncomputable def tRet (te : TE) : TS := fun D σ H => te σ H D.rt
theorem ps_ret (he : PE X e te) : PS X (.Return (some e) pos) (tRet te) := by
  intro pins s σ H D I h
  exact wpAny_Return_some (thn (he pins s σ H _ I h) fun v s1 ⟨x, H1, I1, r1, q1⟩ => ⟨x, σ, H1, I1, r1, q1⟩)
noncomputable def tRetN : TS := fun D _ H => D.rt .non H
noncomputable def tIfS (c : TT) (t u : TS) : TS := fun D σ H => c σ H fun b H1 => if b = true then t D σ H1 else u D σ H1
theorem ps_if {c : Expr} {a b : List Stmt} {tc : TT} (hc : PT X c tc) (ha : PSs X a t) (hb : PSs X b u) : PS X (.If c a b pos) (tIfS tc t u) := by
  intro pins s σ H D I h
  refine wpAny_If (thn (hc pins s σ H _ I h) fun d s1 ⟨H1, I1, q1⟩ => ?_)
  cases d with
  | true => exact ha pins s1 σ H1 D I1 q1
  | false => exact hb pins s1 σ H1 D I1 q1
noncomputable def tNever : TS := fun _ _ _ => False
theorem ps_never : PS X st tNever := fun _ _ _ _ _ _ h => h.elim
theorem pss_never {sts : List Stmt} : PSs X sts tNever := fun _ _ _ _ _ _ h => h.elim
end

/-! ### targets -/
noncomputable abbrev TG := V → St → Hp → (St → Hp → Prop) → Prop
noncomputable abbrev TGs := List V → St → Hp → (St → Hp → Prop) → Prop
noncomputable def PG (X : Cx) (target : Expr) (t : TG) : Prop :=
  ∀ (pins : List (Addr × Obj)) (s : Shared) (σ : St) (H : Hp) (v : V) (u : Value) (Q : St → Hp → Prop), Inv X pins σ H s → RelV v u → t v σ H Q →
    wpAny (model X.prog X.w) X.A (assign target X.env u) (fun _ s' => ∃ σ' H', Inv X pins σ' H' s' ∧ Q σ' H') X.xe s
noncomputable def PGs (X : Cx) (ts : List Expr) (t : TGs) : Prop :=
  ∀ (pins : List (Addr × Obj)) (s : Shared) (σ : St) (H : Hp) (vs : List V) (us : List Value) (Q : St → Hp → Prop), Inv X pins σ H s → Vals vs us → t vs σ H Q →
    wpAny (model X.prog X.w) X.A (assignInOrder ((assignEach ts X.env).map (·.2)) us) (fun _ s' => ∃ σ' H', Inv X pins σ' H' s' ∧ Q σ' H') X.xe s
noncomputable abbrev TSet := V → V → V → Hp → (Hp → Prop) → Prop
section
variable {X : Cx} {pos : Pos}
noncomputable def gName (i : Nat) : TG := fun v σ H Q => Q (σ.set i (some v)) H
theorem pg_name {i : Nat} {x : Str} (hN : X.N.Nodup) (hi : X.N[i]? = some x) (hx : Loc X.env.scope x) (hf : X.fn x = true ∨ X.env.scope.names.lookup x = some .local := by first | exact .inl rfl | exact .inr rfl | assumption) : PG X (.Name x pos) (gName i) := by
  intro pins s σ H v u Q I r h
  exact wpAny_assign_Name (store_ok I hN hi hx r (fun s' I' => ⟨_, H, I', h⟩) hf)
noncomputable def gNil : TGs := fun vs σ H Q => vs = [] ∧ Q σ H
inductive I_gCons (t : TG) (u : TGs) (vs : List V) (σ : St) (H : Hp) (Q : St → Hp → Prop) : Prop
  | mk (v : V) (r : List V) (h : vs = v :: r) (q : t v σ H fun σ' H' => u r σ' H' Q)
noncomputable def gCons (t : TG) (u : TGs) : TGs := fun vs σ H Q => I_gCons t u vs σ H Q
theorem pgs_nil : PGs X [] gNil := by
  intro pins s σ H vs us Q I r h
  obtain ⟨e, h⟩ := h
  subst e
  cases r
  exact assignInOrder_nil ⟨σ, H, I, h⟩
theorem pgs_cons {e : Expr} {es : List Expr} {t : TG} {u : TGs} (h1 : PG X e t) (h2 : PGs X es u)
    (hs : (assignEach (e :: es) X.env).map (·.2) = assign e X.env :: (assignEach es X.env).map (·.2) := by rfl) : PGs X (e :: es) (gCons t u) := by
  intro pins s σ H vs us Q I r h
  obtain ⟨v, vr, e1, h⟩ := h
  subst e1
  cases r with
  | cons r rr =>
    rw [hs]
    refine assignInOrder_cons (thn (h1 pins s σ H _ _ _ I r h) fun _ s1 ⟨σ1, H1, I1, q1⟩ => ?_)
    exact h2 pins s1 σ1 H1 _ _ Q I1 rr q1
inductive I_gTup (K : PySem.W.Frag) (n : Nat) (t : TGs) (v : V) (σ : St) (H : Hp) (Q : St → Hp → Prop) : Prop
  | mk (a : Addr) (xs : List V) (h1 : v = .ref a) (h2 : SqT K H a xs) (h3 : xs.length = n) (q : t xs σ H Q)
noncomputable def gTup (K : PySem.W.Frag) (n : Nat) (t : TGs) : TG := fun v σ H Q => I_gTup K n t v σ H Q
theorem pg_tup {es : List Expr} {k : Nat} {t : TGs} {n : Nat} (hc : X.calm = true) (h : PGs X es t)
    (hn : (assignEach es X.env).length = n := by rfl) (hst : (assignEach es X.env).findIdx? (·.1) = none := by rfl) : PG X (.Tuple es k pos) (gTup X.K n t) := by
  intro pins s σ H v u Q I r hw
  obtain ⟨a, xs, e1, hq, hl, hw⟩ := hw
  subst e1
  cases r
  obtain ⟨its, rv, ht, hz⟩ := I.tuple hq
  refine assign_Tuple_tuple (I.ok.hd hc) ht (by simp [hn, ← hl, rv.length]) hst fun h' hx => ?_
  have I1 : Inv X pins σ H { s with heap := h' } := I.kept (t' := s.toks) fun b o e => hx b o (Nat.ne_of_lt (Heap.lt_size e)) e
  exact h pins _ σ H xs _ Q I1 (by simpa using rv) hw
noncomputable def gSub (to ti : TE) (t : TSet) : TG := fun v σ H Q => to σ H fun o H1 => ti σ H1 fun i H2 => t o i v H2 fun H3 => Q σ H3
noncomputable def tAsg (te : TE) (g : TG) : TS := fun D σ H => te σ H fun x H1 => g x σ H1 D.nx
theorem ps_set {i : Nat} {x : Str} {e : Expr} {te : TE} {pos' : Pos} (hN : X.N.Nodup) (hi : X.N[i]? = some x) (hx : Loc X.env.scope x) (he : PE X e te) (hs : swapsWith e (some (.Name x pos')) pos.line X.env = pure false := by rfl) (hf : X.fn x = true ∨ X.env.scope.names.lookup x = some .local := by first | exact .inl rfl | exact .inr rfl | assumption) :
    PS X (.Assign [.Name x pos'] e pos) (tAsg te (gName i)) := by
  intro pins s σ H D I h
  refine wpAny_Assign_Name (thn (he pins s σ H _ I h) fun v s1 ⟨y, H1, I1, r1, q1⟩ => ?_) hs
  exact store_ok I1 hN hi hx r1 (fun s2 I2 => ⟨_, H1, I2, q1⟩) hf
end

/-! ### while -/
section
variable {X : Cx} {pos : Pos}
noncomputable def tWhile (c : TT) (tb : TS) : TS := fun D σ H => ∃ W : Nat → St → Hp → Prop, (∃ m, W m σ H) ∧ ∀ m σ H, W m σ H →
  c σ H fun b H1 => if b = true then ∃ N : St → Hp → Prop, (∀ σ' H', N σ' H' → ∃ m', m' < m ∧ W m' σ' H') ∧ tb { D with nx := N, ct := N, bk := D.nx } σ H1 else D.nx σ H1
end

/-! ### what a loop or a comprehension walks -/
structure It where
  go : Nat → Hp → Prop
  yld : Nat → Hp → V → Hp → Prop
  stop : Nat → Hp → Prop
noncomputable def FpOk (X : Cx) (pins : List (Addr × Obj)) (H : Hp) (b : Addr) : Prop :=
  H b = none ∧ b ≠ X.env.locals ∧ b ∉ X.fs ∧ (b ∈ X.ex ∨ X.s₀.heap.objs.size ≤ b) ∧ (∀ x c, X.env.cells.lookup x = some c → c ≠ b) ∧ ∀ p ∈ X.pn ++ pins, p.1 ≠ b
theorem Inv.fpOk {X : Cx} {pins : List (Addr × Obj)} {σ : St} {H H' : Hp} {s : Shared} {b : Addr} (I : Inv X pins σ H s) (hb : s.heap.objs.size ≤ b) (hn : H' b = none) : FpOk X pins H' b := by
  refine ⟨hn, Nat.ne_of_gt (Nat.lt_of_lt_of_le I.lt hb), I.nofs hb, .inr (Nat.le_trans I.sz hb), fun x c e z => ?_, fun p hp z => ?_⟩
  · obtain ⟨v, q⟩ := I.cell x c e
    exact absurd (Nat.lt_of_lt_of_le q.lt (by rw [z]; exact hb)) (Nat.lt_irrefl _)
  · exact absurd (Nat.lt_of_lt_of_le (Heap.lt_size (I.pin p hp).1) (by rw [z]; exact hb)) (Nat.lt_irrefl _)
structure Turn (P : Program) (w : World) (K : PySem.W.Frag) (tg : Expr) (J : It) (fp : List Addr) (it : Addr) (tn : Nat → Heap → Prop) : Prop where
  mem : it ∈ fp
  obj : ∀ i h, tn i h → ∀ b ∈ fp, ∃ o, h.get? b = some o ∧ ∀ v, o.data ≠ .cell v
  keep : ∀ i h h', tn i h → (∀ b ∈ fp, ∀ o, h.get? b = some o → h'.get? b = some o) → tn i h'
  item : ∀ (X : Cx), X.prog = P → X.w = w → X.K = K → X.calm = true → ∀ (i : Nat) (pins : List (Addr × Obj)) (s : Shared) (σ : St) (H : Hp) (E : Value → Shared → Prop), Inv X pins σ H s → (∀ b ∈ fp, FpOk X pins H b) → tn i s.heap → J.go i H →
    wpAny (model P w) X.A (pyNext (.ref it)) (fun r s1 => ∃ u, r = some u ∧
      wpAny (model P w) X.A (letOwnedTupleGo tg (.ref it) u) (fun _ s2 => ∃ x H', Inv X pins σ H' s2 ∧ RelV x u ∧ J.yld i H x H' ∧ tn (i + 1) s2.heap ∧ ∀ b ∈ fp, H' b = none) E s1) E s
  done : ∀ (X : Cx), X.prog = P → X.w = w → X.K = K → X.calm = true → ∀ (i : Nat) (pins : List (Addr × Obj)) (s : Shared) (σ : St) (H : Hp) (E : Value → Shared → Prop), Inv X pins σ H s → (∀ b ∈ fp, FpOk X pins H b) → tn i s.heap → J.stop i H →
    wpAny (model P w) X.A (pyNext (.ref it)) (fun r s1 => r = none ∧ Inv X pins σ H s1) E s
  self : ∀ (A : Around) (i : Nat) (s : Shared) (Q : Value → Shared → Prop) (E : Value → Shared → Prop), tn i s.heap → Q (.ref it) s → wpAny (model P w) A (pyIter (.ref it)) Q E s
noncomputable abbrev TI := St → Hp → (It → Hp → Prop) → Prop
noncomputable def PIE (X : Cx) (pins : List (Addr × Obj)) (σ : St) (tg : Expr) (R : It → Hp → Prop) (itv : Value) (s2 : Shared) : Prop :=
  ∃ (it : Addr) (fp : List Addr) (tn : Nat → Heap → Prop) (J : It) (H' : Hp), itv = .ref it ∧ Inv X pins σ H' s2 ∧ Turn X.prog X.w X.K tg J fp it tn ∧ tn 0 s2.heap ∧ (∀ b ∈ fp, FpOk X pins H' b) ∧ R J H'
noncomputable def PI (X : Cx) (tg iter : Expr) (wi : TI) : Prop :=
  ∀ (pins : List (Addr × Obj)) (s : Shared) (σ : St) (H : Hp) (R : It → Hp → Prop), Inv X pins σ H s → wi σ H R →
    wpAny (model X.prog X.w) X.A (eval iter X.env) (fun v s1 => wpAny (model X.prog X.w) X.A (pyIter v) (PIE X pins σ tg R) X.xe s1) X.xe s

theorem go_of {M : Model} {A : Around} {E : Value → Shared → Prop} {s : Shared} {tg : Expr} {it : Addr} {u : Value} {o : Obj} {n : String} {vs : Array Value} {Q : Unit → Shared → Prop} (ho : s.heap.get? it = some o) (hc : o.cls = .type n) (hd : o.data = .fields vs)
    (hn : ["enumerate", "zip", "dict_itemiterator", "dict_reverseitemiterator", "odict_iterator", "itertools.zip_longest", "itertools.pairwise"].contains n = false) (hQ : Q () s) : wpAny M A (letOwnedTupleGo tg (.ref it) u) Q E s := by
  unfold letOwnedTupleGo
  cases tg <;> first
    | exact wpAny_pure hQ
    | (cases u <;> first
        | exact wpAny_pure hQ
        | (refine wpAny_bind (wpAny_load ho ?_)
           rw [hc, hd]
           show wpAny M A (if (["enumerate", "zip", "dict_itemiterator", "dict_reverseitemiterator", "odict_iterator", "itertools.zip_longest", "itertools.pairwise"].contains n && vs[0]? == some (rawInt _)) = true then _ else _) Q E s
           rw [if_neg (by intro h; rw [hn, Bool.false_and] at h; cases h)]
           exact wpAny_pure hQ))

noncomputable def Itl (K : PySem.W.Frag) (a : Addr) : It :=
  ⟨fun i H => ∃ xs x, SqL K H a xs ∧ xs[i]? = some x, fun i H x H' => H' = H ∧ ∀ xs, SqL K H a xs → xs[i]? = some x, fun i H => ∃ xs, SqL K H a xs ∧ xs.length ≤ i⟩
noncomputable def Itt (K : PySem.W.Frag) (a : Addr) : It :=
  ⟨fun i H => ∃ xs x, SqT K H a xs ∧ xs[i]? = some x, fun i H x H' => H' = H ∧ ∀ xs, SqT K H a xs → xs[i]? = some x, fun i H => ∃ xs, SqT K H a xs ∧ xs.length ≤ i⟩
noncomputable def Itr (lo : Int) (n : Nat) : It := ⟨fun i _ => i < n, fun i H x H' => H' = H ∧ x = .int (lo + i), fun i _ => n ≤ i⟩
theorem turn_list {P : Program} {w : World} {K : PySem.W.Frag} {tg : Expr} (a it : Addr) : Turn P w K tg (Itl K a) [it] it (fun i h => h.IsListIter it a i) where
  mem := by simp
  obj := fun i h st b hb => by
    have e : b = it := by simpa using hb
    subst e
    obtain ⟨o, e, c, d⟩ := st
    exact ⟨o, e, fun v z => by rw [d] at z; cases z⟩
  keep := fun i h h' st k => st.at fun o e => k it (by simp) o e
  item := by
    intro X hP hw hK hc i pins s σ H E I hf st hg
    subst hP hw hK
    obtain ⟨xs, x, hq, hx⟩ := hg
    obtain ⟨its, rv, p, hz⟩ := I.list hq
    obtain ⟨u, hu, ru⟩ := rv.get hx
    obtain ⟨f0, f1, f2, f3, f4, f5⟩ := hf it (by simp)
    refine wpAny_pyNext_list_item st p.isList (x := u) (by simpa using hu) fun h' st' sb => ?_
    have I1 : Inv X pins σ H { s with heap := h' } := I.turned (t' := s.toks) (fun b o hb e => (sb.2 b hb).trans e) f0 f1 f3 f4 f5
    obtain ⟨o, e, c, d⟩ := id st'
    exact ⟨u, rfl, go_of (s := { s with heap := h' }) e c d (by decide) ⟨x, H, I1, ru, ⟨rfl, fun ys hy => by rw [I.list_inj hy hq]; exact hx⟩, st', fun b hb => (hf b hb).1⟩⟩
  done := by
    intro X hP hw hK hc i pins s σ H E I hf st hg
    subst hP hw hK
    obtain ⟨xs, hq, hx⟩ := hg
    obtain ⟨its, rv, p, hz⟩ := I.list hq
    obtain ⟨f0, f1, f2, f3, f4, f5⟩ := hf it (by simp)
    have hl := rv.length
    exact wpAny_pyNext_list_end (I.ok.hd hc) st p.isList (by simp; omega) fun h' eb => ⟨rfl, I.turned (t' := s.toks) (fun b o hb e => eb b o hb e) f0 f1 f3 f4 f5⟩
  self := fun _ _ _ _ _ st h => wpAny_pyIter_listiter st h
theorem turn_tuple {P : Program} {w : World} {K : PySem.W.Frag} {tg : Expr} (a it : Addr) : Turn P w K tg (Itt K a) [it] it (fun i h => h.IsTupleIter it a i) where
  mem := by simp
  obj := fun i h st b hb => by
    have e : b = it := by simpa using hb
    subst e
    obtain ⟨o, e, c, d⟩ := st
    exact ⟨o, e, fun v z => by rw [d] at z; cases z⟩
  keep := fun i h h' st k => st.at fun o e => k it (by simp) o e
  item := by
    intro X hP hw hK hc i pins s σ H E I hf st hg
    subst hP hw hK
    obtain ⟨xs, x, hq, hx⟩ := hg
    obtain ⟨its, rv, p, hz⟩ := I.tuple hq
    obtain ⟨u, hu, ru⟩ := rv.get hx
    obtain ⟨f0, f1, f2, f3, f4, f5⟩ := hf it (by simp)
    refine wpAny_pyNext_tuple_item st (show s.heap.IsTuple a its.toArray from p) (x := u) (by simpa using hu) fun h' st' sb => ?_
    have I1 : Inv X pins σ H { s with heap := h' } := I.turned (t' := s.toks) (fun b o hb e => (sb.2 b hb).trans e) f0 f1 f3 f4 f5
    obtain ⟨o, e, c, d⟩ := id st'
    exact ⟨u, rfl, go_of (s := { s with heap := h' }) e c d (by decide) ⟨x, H, I1, ru, ⟨rfl, fun ys hy => by rw [I.tuple_inj hy hq]; exact hx⟩, st', fun b hb => (hf b hb).1⟩⟩
  done := by
    intro X hP hw hK hc i pins s σ H E I hf st hg
    subst hP hw hK
    obtain ⟨xs, hq, hx⟩ := hg
    obtain ⟨its, rv, p, hz⟩ := I.tuple hq
    obtain ⟨f0, f1, f2, f3, f4, f5⟩ := hf it (by simp)
    have hl := rv.length
    exact wpAny_pyNext_tuple_end (I.ok.hd hc) st (show s.heap.IsTuple a its.toArray from p) (by simp; omega) fun h' eb => ⟨rfl, I.turned (t' := s.toks) (fun b o hb e => eb b o hb e) f0 f1 f3 f4 f5⟩
  self := fun _ _ _ _ _ st h => wpAny_pyIter_tupleiter st h
theorem turn_range {P : Program} {w : World} {K : PySem.W.Frag} {tg : Expr} (it : Addr) (lo : Int) (n : Nat) : Turn P w K tg (Itr lo n) [it] it (fun i h => IsRangeIter h it (lo + (i : Nat) * 1) ((n : Int) - (i : Nat)) 1) where
  mem := by simp
  obj := fun i h st b hb => by
    have e : b = it := by simpa using hb
    subst e
    exact ⟨_, st, fun v z => by
      have z' : Data.fields _ = Data.cell v := z
      cases z'⟩
  keep := fun i h h' st k => k it (by simp) _ st
  item := by
    intro X hP hw hK hc i pins s σ H E I hf st hg
    subst hP hw hK
    obtain ⟨f0, f1, f2, f3, f4, f5⟩ := hf it (by simp)
    have W := Walks.range (prog := X.prog) (w := X.w) (I.ok.hd hc) it lo 1 n
    refine W.item i s _ _ hg st fun v h' tk hv st' kk => ?_
    obtain ⟨t, rfl⟩ := hv
    have I1 : Inv X pins σ H { s with heap := h', toks := tk } := I.turned (fun b o hb e => kk b o (by simpa using hb) e) f0 f1 f3 f4 f5
    refine ⟨_, rfl, go_of (s := { s with heap := h', toks := tk }) (n := "range_iterator") st' rfl rfl (by decide) ⟨.int (lo + i), H, I1, ⟨t, ?_⟩, ⟨rfl, rfl⟩, st', fun b hb => (hf b hb).1⟩⟩
    rw [Int.mul_one]
  done := by
    intro X hP hw hK hc i pins s σ H E I hf st hg
    subst hP hw hK
    obtain ⟨f0, f1, f2, f3, f4, f5⟩ := hf it (by simp)
    exact wpAny_pyNext_range_end (I.ok.hd hc) st (by have : n ≤ i := hg; omega) fun h' eb => ⟨rfl, I.turned (t' := s.toks) (fun b o hb e => eb b o hb e) f0 f1 f3 f4 f5⟩
  self := fun _ _ _ _ _ st h => wpAny_pyIter_rangeiter st h
end L2

namespace L2
open PySem PySem.Spec PyProof.Rows
section
variable {X : Cx} {tg : Expr}
noncomputable def iList (K : PySem.W.Frag) (tl : TE) : TI := fun σ H R => tl σ H fun x H1 => ∃ a, x = .ref a ∧ (∃ xs, SqL K H1 a xs) ∧ R (Itl K a) H1
noncomputable def iTup (K : PySem.W.Frag) (tl : TE) : TI := fun σ H R => tl σ H fun x H1 => ∃ a, x = .ref a ∧ (∃ xs, SqT K H1 a xs) ∧ R (Itt K a) H1
theorem pi_list {l : Expr} {tl : TE} (hl : PE X l tl) : PI X tg l (iList X.K tl) := by
  intro pins s σ H R I h
  refine thn (hl pins s σ H _ I h) fun v s1 ⟨x, H1, I1, r1, q1⟩ => ?_
  obtain ⟨a, e, ⟨xs, hq⟩, q⟩ := q1
  subst e
  cases r1
  obtain ⟨its, rv, p, hz⟩ := I1.list hq
  refine wpAny_pyIter_list p.isList ?_
  refine ⟨s1.heap.objs.size, [s1.heap.objs.size], _, _, H1, rfl, I1.kept (t' := s1.toks) fun b o e => Heap.get?_push_of_some _ e, turn_list a _, ⟨_, Heap.get?_push_size _ rfl, rfl, rfl⟩, fun b hb => ?_, q⟩
  have e : b = s1.heap.objs.size := by simpa using hb
  subst e
  exact I1.fpOk (Nat.le_refl _) (I1.hok.fresh (Nat.le_refl _))
theorem pi_tup {l : Expr} {tl : TE} (hl : PE X l tl) : PI X tg l (iTup X.K tl) := by
  intro pins s σ H R I h
  refine thn (hl pins s σ H _ I h) fun v s1 ⟨x, H1, I1, r1, q1⟩ => ?_
  obtain ⟨a, e, ⟨xs, hq⟩, q⟩ := q1
  subst e
  cases r1
  obtain ⟨its, rv, p, hz⟩ := I1.tuple hq
  refine wpAny_pyIter_tuple (show s1.heap.IsTuple a its.toArray from p) ?_
  refine ⟨s1.heap.objs.size, [s1.heap.objs.size], _, _, H1, rfl, I1.kept (t' := s1.toks) fun b o e => Heap.get?_push_of_some _ e, turn_tuple a _, ⟨_, Heap.get?_push_size _ rfl, rfl, rfl⟩, fun b hb => ?_, q⟩
  have e : b = s1.heap.objs.size := by simpa using hb
  subst e
  exact I1.fpOk (Nat.le_refl _) (I1.hok.fresh (Nat.le_refl _))
theorem range_it {pins : List (Addr × Obj)} {σ : St} {H : Hp} {s : Shared} {R : It → Hp → Prop} {E : Value → Shared → Prop} {lo hi : Int} {t u v : Tok} {tk : Nat} (I : Inv X pins σ H s) (h1 : -(2 ^ 62) ≤ lo) (h2 : lo < 2 ^ 62) (h3 : -(2 ^ 62) ≤ hi) (h4 : hi < 2 ^ 62)
    (q : R (Itr lo (hi - lo).toNat) H) : wpAny (model X.prog X.w) X.A (pyIter (.ref s.heap.objs.size)) (PIE X pins σ tg R) E { s with heap := s.heap.push { cls := .type "range", data := .fields #[.int lo t, .int hi u, .int 1 v] }, toks := tk } := by
  refine wpAny_pyIter_range (IsRange.new ..) (small_one h1 h2 h3 h4) ?_
  have I1 : Inv X pins σ H { s with heap := s.heap.push { cls := .type "range", data := .fields #[.int lo t, .int hi u, .int 1 v] }, toks := tk } := I.kept fun b o e => Heap.get?_push_of_some _ e
  refine ⟨(s.heap.push { cls := .type "range", data := .fields #[.int lo t, .int hi u, .int 1 v] }).objs.size, [(s.heap.push { cls := .type "range", data := .fields #[.int lo t, .int hi u, .int 1 v] }).objs.size], _, _, H, rfl,
    I1.kept (t' := tk) fun b o e => Heap.get?_push_of_some _ e, turn_range _ lo (hi - lo).toNat, ?_, fun b hb => ?_, q⟩
  · have e1 : lo + ((0 : Nat) : Int) * 1 = lo := by simp
    have e2 : (((hi - lo).toNat : Nat) : Int) - ((0 : Nat) : Int) = Builtin.Range.rangeSize lo hi 1 := by rw [rangeSize_one]; split <;> omega
    show IsRangeIter _ _ (lo + ((0 : Nat) : Int) * 1) ((((hi - lo).toNat : Nat) : Int) - ((0 : Nat) : Int)) 1
    rw [e1, e2]
    exact Heap.get?_push_size _ rfl
  · have e : b = (s.heap.push { cls := .type "range", data := .fields #[.int lo t, .int hi u, .int 1 v] }).objs.size := by simpa using hb
    subst e
    exact I1.fpOk (Nat.le_refl _) (I1.hok.fresh (Nat.le_refl _))
noncomputable def iRng1 (ta : TA) : TI := fun σ H R => ta σ H fun vs H1 => ∃ j : Int, vs = [.int j] ∧ -(2 ^ 62) ≤ j ∧ j < 2 ^ 62 ∧ R (Itr 0 j.toNat) H1
noncomputable def iRng2 (ta : TA) : TI := fun σ H R => ta σ H fun vs H1 => ∃ i j : Int, vs = [.int i, .int j] ∧ (-(2 ^ 62) ≤ i ∧ i < 2 ^ 62 ∧ -(2 ^ 62) ≤ j ∧ j < 2 ^ 62) ∧ R (Itr i (j - i).toNat) H1
theorem pi_range1 {a : Expr} {ta : TA} {p pos : Pos} (hg : Gl X "range") (hm : X.mg "range" = none) (ha : PA X [a] ta) (hs : starEach [a] X.env = [(false, eval a X.env)] := by rfl) : PI X tg (.Call (.Name "range" p) [a] [] pos) (iRng1 ta) := by
  intro pins s σ H R I h
  refine Call_ (ld_blt I hg hm boot_range (PyProof.Rows.callWith_type1 (thn (ha pos pins s σ H _ I h) fun us s1 ⟨vs, H1, I1, r1, q1⟩ => ?_) hs rfl))
  obtain ⟨j, e, q1, q2, q⟩ := q1
  subst e
  cases r1 with
  | cons r rr =>
    cases rr
    obtain ⟨t, rfl⟩ := r
    exact call_range_1 (range_it I1 (by omega) (by omega) q1 q2 (by simpa using q))
/-! ### for -/
noncomputable def tFor (wi : TI) (g : TG) (tb : TS) : TS := fun D σ H => wi σ H fun J H1 => ∃ W : Nat → Nat → St → Hp → Prop, (∃ m, W 0 m σ H1) ∧ ∀ i m σ H, W i m σ H →
  (J.stop i H ∧ D.nx σ H) ∨ (J.go i H ∧ ∃ N : St → Hp → Prop, (∀ σ' H', N σ' H' → ∃ m', m' < m ∧ W (i + 1) m' σ' H') ∧ ∀ x H', J.yld i H x H' → g x σ H' fun σ2 H2 => tb { D with nx := N, ct := N, bk := D.nx } σ2 H2)
noncomputable def pinsAt (fp : List Addr) (h : Heap) : List (Addr × Obj) := fp.filterMap fun b => (h.get? b).map fun o => (b, o)
theorem mem_pinsAt {fp : List Addr} {h : Heap} {b : Addr} {o : Obj} (hb : b ∈ fp) (e : h.get? b = some o) : (b, o) ∈ pinsAt fp h := List.mem_filterMap.mpr ⟨b, hb, by rw [e]; rfl⟩
theorem of_pinsAt {fp : List Addr} {h : Heap} {p : Addr × Obj} (hp : p ∈ pinsAt fp h) : p.1 ∈ fp ∧ h.get? p.1 = some p.2 := by
  obtain ⟨b, hb, e⟩ := List.mem_filterMap.mp hp
  cases q : h.get? b with
  | none => rw [q] at e; cases e
  | some o =>
    rw [q] at e
    have e' : (b, o) = p := Option.some.inj e
    subst e'
    exact ⟨hb, q⟩
theorem Inv.pinned {pins : List (Addr × Obj)} {σ : St} {H : Hp} {s : Shared} {fp : List Addr} (I : Inv X pins σ H s) (hf : ∀ b ∈ fp, FpOk X pins H b) (ho : ∀ b ∈ fp, ∃ o, s.heap.get? b = some o ∧ ∀ v, o.data ≠ .cell v) : Inv X (pins ++ pinsAt fp s.heap) σ H s :=
  I.pins_of fun p hp => (List.mem_append.mp hp).elim (fun z => I.pin p (List.mem_append_right _ z)) fun z => by
    obtain ⟨hb, e⟩ := of_pinsAt z
    obtain ⟨f0, f1, f2, _⟩ := hf p.1 hb
    obtain ⟨o, e', d⟩ := ho p.1 hb
    rw [e] at e'; cases e'
    exact ⟨e, f0, f1, f2, d⟩
theorem Inv.unpinned {pins pl : List (Addr × Obj)} {σ : St} {H : Hp} {s : Shared} (I : Inv X (pins ++ pl) σ H s) : Inv X pins σ H s := I.pins_of fun p hp => I.pin p (List.mem_append_right _ (List.mem_append_left _ hp))
theorem ps_for {iter : Expr} {body : List Stmt} {wi : TI} {g : TG} {tb : TS} {pos : Pos} (hp : PassesOwn (model X.prog X.w) X.A X.env X.xe) (hc : X.calm = true) (hi : PI X tg iter wi) (hg : PG X tg g) (hb : PSs X body tb)
    (hs : ∀ x, foldedSetIterable iter X.env x = pure x := by intro _; rfl) : PS X (.For tg iter body [] pos) (tFor wi g tb) := by
  intro pins s σ H D I h
  refine wpAny_For (thn (hi pins s σ H _ I h) fun v s1 h1 => thn h1 fun itv s2 h2 => ?_) hs
  obtain ⟨it, fp, tn, J, H2, e, I2, T, st2, f2, W, ⟨m0, w0⟩, turn⟩ := h2
  subst e
  -- what stays true of the iterator's objects through the loop
  have stat : ∀ {H' : Hp}, (∀ b ∈ fp, H' b = none) → ∀ b ∈ fp, FpOk X pins H' b := fun hn b hb => ⟨hn b hb, (f2 b hb).2⟩
  refine codeAny_forLoop_any (fun n s' => ∃ i σ' H', Inv X pins σ' H' s' ∧ tn i s'.heap ∧ (∀ b ∈ fp, H' b = none) ∧ W i n σ' H') ?_ m0 ⟨0, σ, H2, I2, st2, fun b hb => (f2 b hb).1, w0⟩
  rintro n s3 ⟨i, σ3, H3, I3, st3, fr3, w3⟩
  rcases turn i n σ3 H3 w3 with ⟨stop, qn⟩ | ⟨go, N, hN, step⟩
  · refine wpAny_passesOwn hp (thn (T.done X rfl rfl rfl hc i pins s3 σ3 H3 X.xe I3 (stat fr3) st3 stop) fun r s4 ⟨hr, I4⟩ => ?_)
    subst hr
    exact wpAny_execs_nil ⟨σ3, H3, I4, qn⟩
  · refine wpAny_passesOwn hp (thn (T.item X rfl rfl rfl hc i pins s3 σ3 H3 X.xe I3 (stat fr3) st3 go) fun r s4 ⟨u, hr, h4⟩ => ?_)
    subst hr
    refine wpAny_passesOwn hp (thn h4 fun _ s5 ⟨x, H5, I5, r5, y5, st5, fr5⟩ => ?_)
    have I5' := I5.pinned (stat fr5) (T.obj _ _ st5)
    refine wpAny_passesOwn hp (thn (hg _ s5 σ3 H5 x u _ I5' r5 (step x H5 y5)) fun _ s6 ⟨σ6, H6, I6, q6⟩ => ?_)
    refine wpAny_passesOwn hp (thn (hb _ s6 σ6 H6 _ I6 q6) fun f s7 q7 => ?_)
    have again : ∀ {σ7 : St} {H7 : Hp}, Inv X (pins ++ pinsAt fp s5.heap) σ7 H7 s7 → N σ7 H7 → ∃ m, m < n ∧ ∃ i σ' H', Inv X pins σ' H' s7 ∧ tn i s7.heap ∧ (∀ b ∈ fp, H' b = none) ∧ W i m σ' H' := fun {σ7 H7} I7 n7 => by
      obtain ⟨m', hm, w7⟩ := hN σ7 H7 n7
      refine ⟨m', hm, i + 1, σ7, H7, I7.unpinned, T.keep _ _ _ st5 fun b hb o e => (I7.pin (b, o) (List.mem_append_right _ (List.mem_append_right _ (mem_pinsAt hb e)))).1, fun b hb => ?_, w7⟩
      obtain ⟨o, e, d⟩ := T.obj _ _ st5 b hb
      exact (I7.pin (b, o) (List.mem_append_right _ (List.mem_append_right _ (mem_pinsAt hb e)))).2.1
    cases f with
    | next => obtain ⟨σ7, H7, I7, n7⟩ := q7; exact again I7 n7
    | cont => obtain ⟨σ7, H7, I7, n7⟩ := q7; exact again I7 n7
    | brk => obtain ⟨σ7, H7, I7, q7⟩ := q7; exact ⟨σ7, H7, I7.unpinned, q7⟩
    | ret v => obtain ⟨x7, σ7, H7, I7, r7, q7⟩ := q7; exact ⟨x7, σ7, H7, I7.unpinned, r7, q7⟩
end

/-! ### the forms one uses -/
theorem for_list {K : PySem.W.Frag} {a : Addr} {xs : List V} {g : TG} {tb : TS} {D : Ends} {σ : St} {H : Hp} (Pv : Nat → St → Hp → Prop) (h0 : Pv 0 σ H) (hl : ∀ i σ H, i ≤ xs.length → Pv i σ H → SqL K H a xs)
    (hs : ∀ i x σ H, xs[i]? = some x → Pv i σ H → g x σ H fun σ2 H2 => tb { D with nx := Pv (i + 1), ct := Pv (i + 1), bk := D.nx } σ2 H2) (hd : ∀ σ H, Pv xs.length σ H → D.nx σ H) :
    ∃ W : Nat → Nat → St → Hp → Prop, (∃ m, W 0 m σ H) ∧ ∀ i m σ H, W i m σ H →
      ((Itl K a).stop i H ∧ D.nx σ H) ∨ ((Itl K a).go i H ∧ ∃ N : St → Hp → Prop, (∀ σ' H', N σ' H' → ∃ m', m' < m ∧ W (i + 1) m' σ' H') ∧ ∀ x H', (Itl K a).yld i H x H' → g x σ H' fun σ2 H2 => tb { D with nx := N, ct := N, bk := D.nx } σ2 H2) := by
  refine ⟨fun i m σ H => m = xs.length - i ∧ i ≤ xs.length ∧ Pv i σ H, ⟨xs.length, by simp, Nat.zero_le _, h0⟩, ?_⟩
  rintro i m σ H ⟨rfl, hi, p⟩
  have q := hl i σ H hi p
  by_cases hlt : i < xs.length
  · refine .inr ⟨⟨xs, xs[i], q, by simp [hlt]⟩, Pv (i + 1), fun σ' H' p' => ⟨xs.length - (i + 1), by omega, rfl, hlt, p'⟩, fun x H' y => ?_⟩
    obtain ⟨e, y⟩ := y
    subst e
    exact hs i x σ _ (y xs q) p
  · have e : i = xs.length := by omega
    subst e
    exact .inl ⟨⟨xs, q, Nat.le_refl _⟩, hd σ H p⟩
theorem for_range {lo : Int} {n : Nat} {g : TG} {tb : TS} {D : Ends} {σ : St} {H : Hp} (Pv : Nat → St → Hp → Prop) (h0 : Pv 0 σ H)
    (hs : ∀ i σ H, i < n → Pv i σ H → g (.int (lo + i)) σ H fun σ2 H2 => tb { D with nx := Pv (i + 1), ct := Pv (i + 1), bk := D.nx } σ2 H2) (hd : ∀ σ H, Pv n σ H → D.nx σ H) :
    ∃ W : Nat → Nat → St → Hp → Prop, (∃ m, W 0 m σ H) ∧ ∀ i m σ H, W i m σ H →
      ((Itr lo n).stop i H ∧ D.nx σ H) ∨ ((Itr lo n).go i H ∧ ∃ N : St → Hp → Prop, (∀ σ' H', N σ' H' → ∃ m', m' < m ∧ W (i + 1) m' σ' H') ∧ ∀ x H', (Itr lo n).yld i H x H' → g x σ H' fun σ2 H2 => tb { D with nx := N, ct := N, bk := D.nx } σ2 H2) := by
  refine ⟨fun i m σ H => m = n - i ∧ i ≤ n ∧ Pv i σ H, ⟨n, by simp, Nat.zero_le _, h0⟩, ?_⟩
  rintro i m σ H ⟨rfl, hi, p⟩
  by_cases hlt : i < n
  · refine .inr ⟨hlt, Pv (i + 1), fun σ' H' p' => ⟨n - (i + 1), by omega, rfl, hlt, p'⟩, fun x H' y => ?_⟩
    obtain ⟨e, y⟩ := y
    subst e y
    exact hs i σ _ hlt p
  · have e : i = n := by omega
    subst e
    exact .inl ⟨Nat.le_refl _, hd σ H p⟩
end L2

namespace L2
open PySem PySem.Spec PyProof.Rows

noncomputable abbrev R2 := V → V → Hp → VK → Prop
noncomputable def OpR (X : Cx) (f : Value → Value → Sem Value) (r : R2) : Prop :=
  ∀ (pins : List (Addr × Obj)) (s : Shared) (σ : St) (H : Hp) (x y : V) (v u : Value) (Q : VK), Inv X pins σ H s → RelV x v → RelV y u → r x y H Q →
    wpAny (model X.prog X.w) X.A (f v u) (EP X pins σ Q) X.xe s
noncomputable def UnR (X : Cx) (f : Value → Sem Value) (r : V → Hp → VK → Prop) : Prop :=
  ∀ (pins : List (Addr × Obj)) (s : Shared) (σ : St) (H : Hp) (x : V) (v : Value) (Q : VK), Inv X pins σ H s → RelV x v → r x H Q →
    wpAny (model X.prog X.w) X.A (f v) (EP X pins σ Q) X.xe s
noncomputable def CallR (X : Cx) (f : Value) (r : List V → Hp → VK → Prop) : Prop :=
  ∀ (pins : List (Addr × Obj)) (s : Shared) (σ : St) (H : Hp) (xs : List V) (us : List Value) (Q : VK), Inv X pins σ H s → Vals xs us → r xs H Q →
    wpAny (model X.prog X.w) X.A (call f us) (EP X pins σ Q) X.xe s
noncomputable def tOp (r : R2) (ta tb : TE) : TE := fun σ H Q => ta σ H fun x H1 => tb σ H1 fun y H2 => r x y H2 Q
noncomputable def tUn (r : V → Hp → VK → Prop) (ta : TE) : TE := fun σ H Q => ta σ H fun x H1 => r x H1 Q
inductive I_rI (C : Int → Int → Prop) (g : Int → Int → V) (x : V) (y : V) (H : Hp) (Q : VK) : Prop
  | mk (i j) (h1 : x = .int i) (h2 : y = .int j) (h3 : C i j) (h4 : Q (g i j) H)
noncomputable def rI (C : Int → Int → Prop) (g : Int → Int → V) : R2 := fun x y H Q => I_rI C g x y H Q
inductive I_rI0 (g : Int → Int → V) (x : V) (y : V) (H : Hp) (Q : VK) : Prop
  | mk (i j) (h1 : x = .int i) (h2 : y = .int j) (h3 : Q (g i j) H)
noncomputable def rI0 (g : Int → Int → V) : R2 := fun x y H Q => I_rI0 g x y H Q
noncomputable def rU (g : Int → V) : V → Hp → VK → Prop := fun x H Q => ∃ i, x = .int i ∧ Q (g i) H

section
variable {X : Cx} {a b c : Expr} {ta tb tc : TE} {pos : Pos}

theorem binT (ha : PE X a ta) (hb : PE X b tb) {pins : List (Addr × Obj)} {s : Shared} {σ : St} {H : Hp} {R : V → V → Hp → Prop} (I : Inv X pins σ H s)
    (h : ta σ H fun x H1 => tb σ H1 fun y H2 => R x y H2) {Q : Value → Shared → Prop} {f : Value → Value → Sem Value}
    (hf : ∀ v u s2 x y H2, Inv X pins σ H2 s2 → RelV x v → RelV y u → R x y H2 → wpAny (model X.prog X.w) X.A (f v u) Q X.xe s2) :
    wpAny (model X.prog X.w) X.A (eval a X.env) (fun v s₁ => wpAny (model X.prog X.w) X.A (eval b X.env) (fun u s₂ => wpAny (model X.prog X.w) X.A (f v u) Q X.xe s₂) X.xe s₁) X.xe s := by
  refine thn (ha pins s σ H _ I h) fun v s1 ⟨x, H1, I1, r1, q1⟩ => ?_
  refine thn (hb pins s1 σ H1 _ I1 q1) fun u s2 ⟨y, H2, I2, r2, q2⟩ => ?_
  exact hf v u s2 x y H2 I2 r1 r2 q2

theorem pe_op {op : Operator} {r : R2} (ho : OpR X (binaryOp op) r) (ha : PE X a ta) (hb : PE X b tb) : PE X (.BinOp a op b pos) (tOp r ta tb) := by
  intro pins s σ H Q I h
  exact wpAny_BinOp (binT ha hb I h fun v u s2 x y H2 I2 rx ry q => ho pins s2 σ H2 x y v u Q I2 rx ry q)
theorem pe_un {op : UnaryOp} {r : V → Hp → VK → Prop} (ho : UnR X (unaryOp op) r) (ha : PE X a ta) : PE X (.UnaryOp op a pos) (tUn r ta) := by
  intro pins s σ H Q I h
  exact UnaryOp_ (thn (ha pins s σ H _ I h) fun v s1 ⟨x, H1, I1, r1, q1⟩ => ho pins s1 σ H1 x v Q I1 r1 q1)
/-! ### ints -/
theorem opI {f : Value → Value → Sem Value} {C : Int → Int → Prop} {g : Int → Int → Int}
    (rule : ∀ (i j : Int) (t u : Tok) (s : Shared) (Q : Value → Shared → Prop) (E : Value → Shared → Prop), C i j → Q (.int (g i j) s.toks) { s with toks := s.toks + 1 } → wpAny (model X.prog X.w) X.A (f (.int i t) (.int j u)) Q E s) :
    OpR X f (rI C fun i j => .int (g i j)) := by
  intro pins s σ H x y v u Q I rx ry h
  obtain ⟨i, j, rfl, rfl, hc, q⟩ := h
  obtain ⟨t, rfl⟩ := rx
  obtain ⟨t', rfl⟩ := ry
  exact rule i j t t' s _ _ hc ⟨.int (g i j), H, I.tok _, ⟨_, rfl⟩, q⟩
theorem opI0 {f : Value → Value → Sem Value} {g : Int → Int → Int}
    (rule : ∀ (i j : Int) (t u : Tok) (s : Shared) (Q : Value → Shared → Prop) (E : Value → Shared → Prop), Q (.int (g i j) s.toks) { s with toks := s.toks + 1 } → wpAny (model X.prog X.w) X.A (f (.int i t) (.int j u)) Q E s) :
    OpR X f (rI0 fun i j => .int (g i j)) := by
  intro pins s σ H x y v u Q I rx ry h
  obtain ⟨i, j, rfl, rfl, q⟩ := h
  obtain ⟨t, rfl⟩ := rx
  obtain ⟨t', rfl⟩ := ry
  exact rule i j t t' s _ _ ⟨.int (g i j), H, I.tok _, ⟨_, rfl⟩, q⟩
theorem opB0 {f : Value → Value → Sem Value} {g : Int → Int → Bool}
    (rule : ∀ (i j : Int) (t u : Tok) (s : Shared) (Q : Value → Shared → Prop) (E : Value → Shared → Prop), Q (.bool (g i j)) s → wpAny (model X.prog X.w) X.A (f (.int i t) (.int j u)) Q E s) :
    OpR X f (rI0 fun i j => .bl (g i j)) := by
  intro pins s σ H x y v u Q I rx ry h
  obtain ⟨i, j, rfl, rfl, q⟩ := h
  obtain ⟨t, rfl⟩ := rx
  obtain ⟨t', rfl⟩ := ry
  exact rule i j t t' s _ _ ⟨.bl (g i j), H, I, rfl, q⟩

noncomputable def CDiv (i j : Int) : Prop := 0 < j ∧ j < 1073741824
noncomputable def CPow (i j : Int) : Prop := 0 ≤ j ∧ j ≤ 1000000 ∧ i.natAbs < 2 ^ 64
noncomputable def CMul (i j : Int) : Prop := (-(2 ^ 64) < i ∧ i < 2 ^ 64) ∨ (-(2 ^ 64) < j ∧ j < 2 ^ 64)
theorem CMul.ok {i j : Int} (h : CMul i j) : IntMulOk i j := by
  rcases h with ⟨h1, h2⟩ | ⟨h1, h2⟩
  · exact .of_left (intBits_le_64 h1 h2)
  · exact .of_right (intBits_le_64 h1 h2)
theorem op_add : OpR X (binaryOp .Add) (rI0 fun i j => .int (i + j)) := opI0 fun _ _ _ _ _ _ _ q => add_int q
theorem op_sub : OpR X (binaryOp .Sub) (rI0 fun i j => .int (i - j)) := opI0 fun _ _ _ _ _ _ _ q => sub_int q
theorem op_mul : OpR X (binaryOp .Mult) (rI CMul fun i j => .int (i * j)) := opI fun _ _ _ _ _ _ _ hc q => mul_int q hc.ok
theorem op_fdiv : OpR X (binaryOp .FloorDiv) (rI CDiv fun i j => .int (i / j)) := opI fun i j _ _ _ _ _ hc q => by
  have h1 : (0 : Int) < j := hc.1
  have h2 : j < 1073741824 := hc.2
  exact floordiv_int (by omega) (by rw [Int.fdiv_eq_ediv_of_nonneg i (by omega)]; exact q) (.inl (PyProof.noPylong_small (by omega)))
theorem op_mod : OpR X (binaryOp .Mod) (rI (fun _ j => 0 < j) fun i j => .int (i % j)) := opI fun i j _ _ _ _ _ hc q => by
  have h1 : (0 : Int) < j := hc
  exact mod_int' (by omega) (by rw [Int.fmod_eq_emod_of_nonneg i (by omega)]; exact q)
theorem op_pow : OpR X (binaryOp .Pow) (rI CPow fun i j => .int (i ^ j.toNat)) := opI fun _ _ _ _ _ _ _ hc q => pow_int_small hc.1 hc.2.1 hc.2.2 q
theorem unI {f : Value → Sem Value} {g : Int → Int}
    (rule : ∀ (i : Int) (t : Tok) (s : Shared) (Q : Value → Shared → Prop) (E : Value → Shared → Prop), Q (.int (g i) s.toks) { s with toks := s.toks + 1 } → wpAny (model X.prog X.w) X.A (f (.int i t)) Q E s) :
    UnR X f (rU fun i => .int (g i)) := by
  intro pins s σ H x v Q I rx h
  obtain ⟨i, rfl, q⟩ := h
  obtain ⟨t, rfl⟩ := rx
  exact rule i t s _ _ ⟨.int (g i), H, I.tok _, ⟨_, rfl⟩, q⟩
theorem un_neg : UnR X (unaryOp .USub) (rU fun i => .int (-i)) := unI fun _ _ _ _ _ q => neg_int q
/-! ### bools among ints: n += (a < b) -/
end

/-! ### comparisons -/
noncomputable def scal : V → V → Bool
  | .non, .non => true | .non, .int _ => true | .int _, .non => true | .non, .bl _ => true | .bl _, .non => true | .non, .str _ => true | .str _, .non => true
  | .int _, .int _ => true | .bl _, .bl _ => true | .str _, .str _ => true | .byt _, .byt _ => true
  | .int _, .str _ => true | .str _, .int _ => true | .bl _, .str _ => true | .str _, .bl _ => true
  | _, _ => false
inductive I_rEq (x y : V) (H : Hp) (Q : VK) : Prop
  | mk (h : scal x y = true) (q : Q (.bl (decide (x = y))) H)
noncomputable def rEq : R2 := fun x y H Q => I_rEq x y H Q
inductive I_rNe (x y : V) (H : Hp) (Q : VK) : Prop
  | mk (h : scal x y = true) (q : Q (.bl (!decide (x = y))) H)
noncomputable def rNe : R2 := fun x y H Q => I_rNe x y H Q

theorem dec_int {i j : Int} : decide (V.int i = V.int j) = (i == j) := by
  rw [Bool.eq_iff_iff]
  simp
theorem dec_bl {i j : Bool} : decide (V.bl i = V.bl j) = (i == j) := by
  rw [Bool.eq_iff_iff]
  simp
theorem dec_str {i j : Str} : decide (V.str i = V.str j) = (i == j) := by
  rw [Bool.eq_iff_iff]
  simp
theorem dec_byt {i j : Array UInt8} : decide (V.byt i = V.byt j) = (i.toList == j.toList) := by
  rw [Bool.eq_iff_iff]
  cases i
  cases j
  simp

section
variable {X : Cx} {a b c : Expr} {ta tb tc : TE} {pos : Pos}
theorem fin_bl {pins : List (Addr × Obj)} {σ : St} {H : Hp} {s : Shared} {Q : VK} {k k' : Bool} (I : Inv X pins σ H s) (q : Q (.bl k) H) (e : k = k') : EP X pins σ Q (.bool k') s := by
  subst e
  exact ⟨.bl k, H, I, rfl, q⟩
theorem op_eq : OpR X (compareOp .Eq) rEq := by
  intro pins s σ H x y v u Q I rx ry h
  obtain ⟨hs, q⟩ := h
  cases x with
  | non =>
    cases rx
    cases y with
    | non => cases ry; exact PySem.EqNone.eq_none_none (fin_bl I q (by simp))
    | bl j => cases ry; exact PySem.EqNone.eq_none_bool (fin_bl I q (by simp))
    | int j => obtain ⟨t', rfl⟩ := ry; exact PySem.EqNone.eq_none_int (fin_bl I q (by simp))
    | str j => obtain ⟨t', rfl⟩ := ry; exact PySem.EqNone.eq_none_str (fin_bl I q (by simp))
    | _ => exact absurd (show false = true from hs) Bool.false_ne_true
  | bl i =>
    cases rx
    cases y with
    | non => cases ry; exact PySem.EqNone.eq_bool_none (fin_bl I q (by simp))
    | bl j => cases ry; exact eq_bool (fin_bl I q dec_bl)
    | str j => obtain ⟨t', rfl⟩ := ry; exact PySem.EqMixed.eq_bool_str (fin_bl I q (by simp))
    | _ => exact absurd (show false = true from hs) Bool.false_ne_true
  | int i =>
    obtain ⟨t, rfl⟩ := rx
    cases y with
    | non => cases ry; exact PySem.EqNone.eq_int_none (fin_bl I q (by simp))
    | int j => obtain ⟨t', rfl⟩ := ry; exact eq_int (fin_bl I q dec_int)
    | str j => obtain ⟨t', rfl⟩ := ry; exact PySem.EqMixed.eq_int_str (fin_bl I q (by simp))
    | _ => exact absurd (show false = true from hs) Bool.false_ne_true
  | str i =>
    obtain ⟨t, rfl⟩ := rx
    cases y with
    | non => cases ry; exact PySem.EqNone.eq_str_none (fin_bl I q (by simp))
    | bl j => cases ry; exact PySem.EqMixed.eq_str_bool (fin_bl I q (by simp))
    | int j => obtain ⟨t', rfl⟩ := ry; exact PySem.EqMixed.eq_str_int (fin_bl I q (by simp))
    | str j => obtain ⟨t', rfl⟩ := ry; exact eq_str (fin_bl I q dec_str)
    | _ => exact absurd (show false = true from hs) Bool.false_ne_true
  | byt i =>
    obtain ⟨t, rfl⟩ := rx
    cases y with
    | byt j => obtain ⟨t', rfl⟩ := ry; exact PySem.W.eq_bytes (fin_bl I q dec_byt)
    | _ => exact absurd (show false = true from hs) Bool.false_ne_true
  | _ => cases y <;> exact absurd (show false = true from hs) Bool.false_ne_true
theorem op_ne : OpR X (compareOp .NotEq) rNe := by
  intro pins s σ H x y v u Q I rx ry h
  obtain ⟨hs, q⟩ := h
  cases x with
  | non =>
    cases rx
    cases y with
    | non => cases ry; exact PySem.EqNone.ne_none_none (fin_bl I q (by simp))
    | bl j => cases ry; exact PySem.EqNone.ne_none_bool (fin_bl I q (by simp))
    | int j => obtain ⟨t', rfl⟩ := ry; exact PySem.EqNone.ne_none_int (fin_bl I q (by simp))
    | str j => obtain ⟨t', rfl⟩ := ry; exact PySem.EqNone.ne_none_str (fin_bl I q (by simp))
    | _ => exact absurd (show false = true from hs) Bool.false_ne_true
  | bl i =>
    cases rx
    cases y with
    | non => cases ry; exact PySem.EqNone.ne_bool_none (fin_bl I q (by simp))
    | bl j => cases ry; exact ne_bool (fin_bl I q (congrArg not dec_bl))
    | str j => obtain ⟨t', rfl⟩ := ry; exact PySem.EqMixed.ne_bool_str (fin_bl I q (by simp))
    | _ => exact absurd (show false = true from hs) Bool.false_ne_true
  | int i =>
    obtain ⟨t, rfl⟩ := rx
    cases y with
    | non => cases ry; exact PySem.EqNone.ne_int_none (fin_bl I q (by simp))
    | int j => obtain ⟨t', rfl⟩ := ry; exact ne_int (fin_bl I q (congrArg not dec_int))
    | str j => obtain ⟨t', rfl⟩ := ry; exact PySem.EqMixed.ne_int_str (fin_bl I q (by simp))
    | _ => exact absurd (show false = true from hs) Bool.false_ne_true
  | str i =>
    obtain ⟨t, rfl⟩ := rx
    cases y with
    | non => cases ry; exact PySem.EqNone.ne_str_none (fin_bl I q (by simp))
    | bl j => cases ry; exact PySem.EqMixed.ne_str_bool (fin_bl I q (by simp))
    | int j => obtain ⟨t', rfl⟩ := ry; exact PySem.EqMixed.ne_str_int (fin_bl I q (by simp))
    | str j => obtain ⟨t', rfl⟩ := ry; exact ne_str (fin_bl I q (congrArg not dec_str))
    | _ => exact absurd (show false = true from hs) Bool.false_ne_true
  | byt i =>
    obtain ⟨t, rfl⟩ := rx
    cases y with
    | byt j => obtain ⟨t', rfl⟩ := ry; exact PySem.W.ne_bytes (fin_bl I q (congrArg not dec_byt))
    | _ => exact absurd (show false = true from hs) Bool.false_ne_true
  | _ => cases y <;> exact absurd (show false = true from hs) Bool.false_ne_true

theorem op_lt : OpR X (compareOp .Lt) (rI0 fun i j => .bl (decide (i < j))) := opB0 fun _ _ _ _ _ _ _ q => lt_int q
theorem op_gt : OpR X (compareOp .Gt) (rI0 fun i j => .bl (decide (j < i))) := opB0 fun _ _ _ _ _ _ _ q => gt_int q
theorem op_ge : OpR X (compareOp .GtE) (rI0 fun i j => .bl (decide (j ≤ i))) := opB0 fun _ _ _ _ _ _ _ q => ge_int q
theorem op_in_str : OpR X (compareOp .In) (fun x y H Q => ∃ i j, x = .str i ∧ y = .str j ∧ Q (.bl (!(Builtin.Str.occurrences j i 0 j.length 1).isEmpty)) H) := by
  intro pins s σ H x y v u Q I rx ry h
  obtain ⟨i, j, rfl, rfl, q⟩ := h
  obtain ⟨t, rfl⟩ := rx
  obtain ⟨t', rfl⟩ := ry
  exact in_str (fin_bl I q rfl)

theorem OpR.or {f : Value → Value → Sem Value} {r r' : R2} (h : OpR X f r) (h' : OpR X f r') : OpR X f (fun x y H Q => r x y H Q ∨ r' x y H Q) := by
  intro pins s σ H x y v u Q I rx ry q
  rcases q with q | q
  · exact h pins s σ H x y v u Q I rx ry q
  · exact h' pins s σ H x y v u Q I rx ry q

theorem nomark (b : Expr) {op : CmpOp} (h : op ≠ .In := by decide) (h2 : op ≠ .NotIn := by decide) : behindInMarks op b = false := by
  have e1 : (op == CmpOp.In) = false := by cases op <;> first | rfl | exact absurd rfl h
  have e2 : (op == CmpOp.NotIn) = false := by cases op <;> first | rfl | exact absurd rfl h2
  cases b <;> simp [behindInMarks, e1, e2]
theorem pe_cmpR {op : CmpOp} {r : R2} (ho : OpR X (compareOp op) r) (ha : PE X a ta) (hb : PE X b tb) (hm : behindInMarks op b = false) : PE X (.Compare a [op] [b] pos) (tOp r ta tb) := by
  intro pins s σ H Q I h
  exact wpAny_Compare1 (binT ha hb I h fun v u s2 x y H2 I2 rx ry q => ho pins s2 σ H2 x y v u Q I2 rx ry q) hm
inductive I_tTest (x : V) (H : Hp) (Q : Bool → Hp → Prop) : Prop
  | mk (k : Bool) (h : x = .bl k) (q : Q k H)
noncomputable def tTest (t : TE) : TT := fun σ H Q => t σ H fun x H' => I_tTest x H' Q
theorem pt_cmpR {op : CmpOp} {r : R2} (ho : OpR X (compareOp op) r) (ha : PE X a ta) (hb : PE X b tb) (hm : behindInMarks op b = false) : PT X (.Compare a [op] [b] pos) (tTest (tOp r ta tb)) := by
  intro pins s σ H Q I h
  refine wpAny_isTrue_Compare1 (thn (ha pins s σ H _ I h) fun v s1 ⟨x, H1, I1, r1, q1⟩ => thn (hb pins s1 σ H1 _ I1 q1) fun u s2 ⟨y, H2, I2, r2, q2⟩ =>
    thn (ho pins s2 σ H2 x y v u _ I2 r1 r2 q2) fun c s3 ⟨z, H3, I3, r3, k, e, q3⟩ => ?_) hm
  subst e
  cases r3
  exact wpAny_truthy_bool ⟨H3, I3, q3⟩
/-! ### truth -/
theorem line63 : (sizeLine : Nat) < 2 ^ 63 := by rw [sizeLine_eq]; decide
/-! ### strs and bytes -/
theorem op_add_str : OpR X (binaryOp .Add) (fun x y H Q => ∃ i j, x = .str i ∧ y = .str j ∧ i.length + j.length ≤ sizeLine ∧ Q (.str (i ++ j)) H) := by
  intro pins s σ H x y v u Q I rx ry h
  obtain ⟨i, j, rfl, rfl, hz, q⟩ := h
  obtain ⟨t, rfl⟩ := rx
  obtain ⟨t', rfl⟩ := ry
  exact add_str (fun t' tk => ⟨.str (i ++ j), H, I.tok _, ⟨_, rfl⟩, q⟩) hz
/-! ### scalar builtins, by CallR -/
theorem vals1 {x : V} {us : List Value} (r : Vals [x] us) : ∃ u, us = [u] ∧ RelV x u := by
  cases r with
  | cons r1 r2 => cases r2; exact ⟨_, rfl, r1⟩
theorem vals2 {x y : V} {us : List Value} (r : Vals [x, y] us) : ∃ u w', us = [u, w'] ∧ RelV x u ∧ RelV y w' := by
  cases r with
  | cons r1 r2 =>
    cases r2 with
    | cons r3 r4 => cases r4; exact ⟨_, _, rfl, r1, r3⟩
theorem call_str_int : CallR X (.type "str") (fun xs H Q => ∃ i, xs = [.int i] ∧ i.natAbs.log2 < 1920 ∧ Q (.str (toString i)) H) := by
  intro pins s σ H xs us Q I r h
  obtain ⟨i, rfl, hz, q⟩ := h
  obtain ⟨u, rfl, t, rfl⟩ := vals1 r
  exact PySem.P.str_of_int hz ⟨.str _, H, I.tok _, ⟨_, rfl⟩, q⟩
end
end L2

namespace L2
open PySem PySem.Spec PyProof.Rows

/-! ### an instance, its attributes a map -/
structure ObjM (h : Heap) (x dx C : Addr) (mA : Str → Option Value) : Prop where
  obj : h.get? x = some (PySem.W.instObj C dx)
  ns : h.Ns1 dx mA
  ne : dx ≠ x

theorem lookIn_ns {h : Heap} {dx : Addr} {mA : Str → Option Value} (n : h.Ns1 dx mA) : ∃ od, h.get? dx = some od ∧ ∀ name, PySem.W.lookIn name od = some (mA name) := by
  obtain ⟨o, es, ep, ho, hd, hk, _, hm⟩ := n
  refine ⟨o, ho, fun name => ?_⟩
  have e := hm name
  unfold nsFind findBy at e
  rw [← Array.find?_toList] at e
  unfold PySem.W.lookIn
  rw [hd]
  dsimp only
  split
  · rename_i y q
    rw [q] at e
    exact congrArg some e
  · rename_i q
    rw [q] at e
    have a : es.toList.any (·.refKey) = false := by
      rw [List.any_eq_false]
      intro y hy
      obtain ⟨z, t, hkey⟩ := hk y (Array.mem_toList_iff.mp hy)
      simp [DictEntry.refKey, hkey]
    have a' : ¬ es.toList.any (·.refKey) = true := by rw [a]; exact Bool.false_ne_true
    rw [if_neg a']
    exact congrArg some e

theorem ObjM.look {h : Heap} {x dx C : Addr} {mA : Str → Option Value} (I : ObjM h x dx C mA) : ∃ od, PySem.W.InstAt h x (PySem.W.instObj C dx) C (some od) ∧ ∀ name, PySem.W.lookIn name od = some (mA name) :=
  let ⟨od, ho, hl⟩ := lookIn_ns I.ns
  ⟨od, ⟨I.obj, rfl, rfl, ho⟩, hl⟩

section
variable {prog : Program} {w : World} {A : Around} {E : Value → Shared → Prop} {s : Shared} {K : PySem.W.Frag} {x dx C f : Addr} {mA : Str → Option Value} {name : Str} {v : Value}

theorem get_map {expr : Bool} {Q : Value → Shared → Prop} (X : K.In s.heap) (I : ObjM s.heap x dx C mA) (hg : PySem.W.plainGet K C name = true) (hh : PySem.W.hasDictIn K C = true)
    (ha : PySem.W.findIn K (.ref C) name = some none) (hv : mA name = some v) (hv' : PySem.W.handedIn v = true) (h : Q v { s with toks := s.toks + 1 }) :
    wpAny (model prog w) A (getAttr (.ref x) name expr) Q E s := by
  obtain ⟨od, J, hl⟩ := I.look
  exact PySem.W.get_value X J (PySem.W.plainGet_of hg).1 (PySem.W.findObj_own hh ha rfl (by rw [hl, hv])) hv' h

theorem set_map {ns : List Str} {Q : Unit → Shared → Prop} (X : K.In s.heap) (I : ObjM s.heap x dx C mA)
    (hs : PySem.W.findIn K (.ref C) "__setattr__" = some (some (.builtin "object.__setattr__"))) (hp : PySem.W.plainOver K C = true) (ht : PySem.W.takerIn K C name = some none) (hh : PySem.W.hasDictIn K C = true)
    (hw : PySem.Within mA ns) (hsz : ns.length ≤ sizeLine)
    (h : ∀ h', ObjM h' x dx C (fun y => if y = name then some v else mA y) → Heap.SameBut dx s.heap h' → Q () { s with heap := h', toks := s.toks + 2 }) :
    wpAny (model prog w) A (setAttr (.ref x) name v) Q E s := by
  obtain ⟨od, J, hl⟩ := I.look
  refine PySem.W.set_plain X J hs (PySem.W.osa_open (s := { s with toks := s.toks + 1 }) (r := none) X J hp ht fun b => ?_)
  obtain ⟨cd, hc, hd'⟩ := PySem.W.any_some hh
  have hx : s.heap.get? x = some ⟨.ref C, some dx, .plain, #[]⟩ := I.obj
  refine wpAny_bind (wpAny_pure (wpAny_bind (wpAny_bind (wpAny_loadPart hx (wpAny_bind (PySem.W.Looks.here (s := { s with toks := s.toks + 1 }) (PySem.W.looks_clsIn X hc) ?_))))))
  rw [hd']
  refine wpAny_pure (a := some dx) (wpAny_bind (wpAny_pure (wpAny_bind ?_)))
  refine wpAny_nsSet1 (s := { s with toks := s.toks + 1 }) I.ns fun h' hn2 hs2 => ?_
  obtain ⟨oD, esD, epD, hoD, hdD, hcD⟩ := hn2.count (PySem.Within.cons name v hw)
  refine wpAny_bind (wpAny_lookBehind hoD (by rw [hdD]; exact pastItsLine_dict (Nat.le_trans hcD (by rw [List.length_cons]; omega))) ?_)
  exact wpAny_pure (h _ ⟨(hs2.2 _ (Ne.symm I.ne)).trans I.obj, hn2, I.ne⟩ hs2)

theorem make_map {R : Result → Shared → Prop} {vs : List Value} {kw : List (Str × Value)} (X : K.In s.heap) (hm : PySem.W.makesIn K C = true)
    (hi : PySem.W.findIn K (.ref C) "__init__" = some (some (.ref f))) (hf : PySem.W.typeIn K (.ref f) = some (.type "function"))
    (h : codeAny (model prog w) (A.under (.builtin "type.__call__" ⟨.ref C :: vs, kw⟩)) (.call (.ref f) ⟨.ref (s.heap.objs.size + 1) :: vs, kw⟩) (PySem.W.InitBack (s.heap.objs.size + 1) R)
      { s with heap := (s.heap.push PySem.W.emptyDict).push (PySem.W.instObj C s.heap.objs.size) }) :
    codeAny (model prog w) A (.call (.ref C) ⟨vs, kw⟩) R s := by
  obtain ⟨hh, g, d, t, os⟩ := s
  exact PySem.W.make_core (PySem.W.makes_of X hm) (PySem.W.looks_findIn X hi) (fun self => PySem.W.bind_fn X self hf) (.inl rfl) h
end

/-! ### the attributes as a list of pairs -/
noncomputable def putF (f : Str) (v : V) : List (Str × V) → List (Str × V)
  | [] => [(f, v)]
  | (g, x) :: r => if g = f then (g, v) :: r else (g, x) :: putF f v r
theorem lookup_putF (f g : Str) (v : V) : ∀ fs : List (Str × V), (putF f v fs).lookup g = if g = f then some v else fs.lookup g
  | [] => by
    show List.lookup g [(f, v)] = _
    by_cases h : g = f
    · have hb : (g == f) = true := beq_iff_eq.mpr h
      simp only [List.lookup, hb, if_pos h]
    · have hb : (g == f) = false := beq_eq_false_iff_ne.mpr h
      simp only [List.lookup, hb, if_neg h]
  | (k, x) :: r => by
    have ih := lookup_putF f g v r
    rw [show putF f v ((k, x) :: r) = (if k = f then (k, v) :: r else (k, x) :: putF f v r) from rfl]
    by_cases hk : k = f
    · rw [if_pos hk]
      by_cases h : g = k
      · have hb : (g == k) = true := beq_iff_eq.mpr h
        simp only [List.lookup, hb, if_pos (h.trans hk)]
      · have hb : (g == k) = false := beq_eq_false_iff_ne.mpr h
        simp only [List.lookup, hb, if_neg (fun e : g = f => h (e.trans hk.symm))]
    · rw [if_neg hk]
      by_cases h : g = k
      · have hb : (g == k) = true := beq_iff_eq.mpr h
        simp only [List.lookup, hb, if_neg (fun e : g = f => hk (h.symm.trans e))]
      · have hb : (g == k) = false := beq_eq_false_iff_ne.mpr h
        simp only [List.lookup, hb]
        exact ih
theorem keys_putF (f : Str) (v : V) : ∀ fs : List (Str × V), f ∈ (putF f v fs).map (·.1) ∧ ∀ g, g ∈ fs.map (·.1) → g ∈ (putF f v fs).map (·.1)
  | [] => ⟨by simp [putF], fun g h => by simp at h⟩
  | (k, x) :: r => by
    obtain ⟨i1, i2⟩ := keys_putF f v r
    rw [show putF f v ((k, x) :: r) = (if k = f then (k, v) :: r else (k, x) :: putF f v r) from rfl]
    by_cases hk : k = f
    · rw [if_pos hk]
      subst hk
      exact ⟨by simp, fun g h => by simpa using h⟩
    · rw [if_neg hk]
      refine ⟨?_, fun g h => ?_⟩
      · rw [List.map_cons]
        exact List.mem_cons_of_mem _ i1
      · rw [List.map_cons] at h ⊢
        rcases List.mem_cons.mp h with e | e
        · exact List.mem_cons.mpr (.inl e)
        · exact List.mem_cons_of_mem _ (i2 g e)
theorem length_putF (f : Str) (v : V) : ∀ fs : List (Str × V), (putF f v fs).length ≤ fs.length + 1
  | [] => by simp [putF]
  | (k, x) :: r => by
    have ih := length_putF f v r
    rw [show putF f v ((k, x) :: r) = (if k = f then (k, v) :: r else (k, x) :: putF f v r) from rfl]
    by_cases hk : k = f
    · rw [if_pos hk, List.length_cons, List.length_cons]; omega
    · rw [if_neg hk, List.length_cons, List.length_cons]; omega

theorem RelO.some_of {v : V} {o : Option Value} (r : RelO (some v) o) : ∃ u, o = some u ∧ RelV v u := by
  cases o with
  | none => exact (show False from r).elim
  | some u => exact ⟨u, rfl, r⟩
theorem handed_of {v : V} {u : Value} (r : RelV v u) : PySem.W.handedIn u = true := by
  cases v with
  | non => cases (show u = Value.none from r); rfl
  | bl b => cases (show u = Value.bool b from r); rfl
  | int i => obtain ⟨t, e⟩ := (show ∃ t, u = Value.int i t from r); cases e; rfl
  | str x => obtain ⟨t, e⟩ := (show ∃ t, u = Value.str x t from r); cases e; rfl
  | byt b => obtain ⟨t, e⟩ := (show ∃ t, u = Value.bytes b t from r); cases e; rfl
  | flt b => obtain ⟨t, e⟩ := (show ∃ t, u = Value.float b t from r); cases e; rfl
  | ref a => cases (show u = Value.ref a from r); rfl
  | ty n => cases (show u = Value.type n from r); rfl

section
variable {P : Program} {w : World} {H H' : Hp} {h h' : Heap} {a C dx : Addr} {fs fs' : List (Str × V)}
theorem ins_get (hok : HOk P w H h) (e : H a = some (.ins C dx fs)) : ∃ mA, ObjM h a dx C mA ∧ (∀ f, RelO (fs.lookup f) (mA f)) ∧ PySem.Within mA (fs.map (·.1)) ∧ fs.length ≤ 1000 ∧ H dx = some (.own a) := by
  obtain ⟨d, z, ne, ob, mA, n, r, q⟩ := (show ObjOk P w H h a (.ins C dx fs) from hok a _ e)
  exact ⟨mA, ⟨ob, n, ne⟩, r, q, z, d⟩
end

/-! ### what of the text a class must have -/
structure Cls (K : PySem.W.Frag) (C : Addr) : Prop where
  pg : PySem.W.plainGet K C Str.empty = true
  hd : PySem.W.hasDictIn K C = true
  po : PySem.W.plainOver K C = true
  sa : PySem.W.findIn K (.ref C) "__setattr__" = some (some (.builtin "object.__setattr__"))
theorem Cls.get {K : PySem.W.Frag} {C : Addr} (c : Cls K C) (f : Str) : PySem.W.plainGet K C f = true := c.pg
noncomputable def NoAttr (K : PySem.W.Frag) (C : Addr) (f : Str) : Prop := PySem.W.findIn K (.ref C) f = some none
theorem NoAttr.taker {K : PySem.W.Frag} {C : Addr} {f : Str} (n : NoAttr K C f) : PySem.W.takerIn K C f = some none := by
  unfold PySem.W.takerIn
  rw [show PySem.W.findIn K (.ref C) f = some none from n]
  rfl
structure Con (K : PySem.W.Frag) (C : Addr) (f : Str) (v : V) (u : Value) : Prop where
  at_ : PySem.W.findIn K (.ref C) f = some (some u)
  rel : RelV v u
  get : PySem.W.specialIn K u "__get__" = some none
  cp : PySem.W.copiedNames.contains f = false
structure Meth (K : PySem.W.Frag) (C : Addr) (m : Str) (f : Addr) : Prop where
  at_ : PySem.W.findIn K (.ref C) m = some (some (.ref f))
  fn : PySem.W.isFn K (.ref f) = true
  kp : PySem.W.keepIn K (.ref f) = true

section
variable {X : Cx} {pins : List (Addr × Obj)} {σ : St} {H : Hp} {s : Shared} {a C dx : Addr} {fs : List (Str × V)} {f : Str} {v : V} {A : Around} {E : Value → Shared → Prop}

theorem getattr_ok {b : Bool} {Q : Value → Shared → Prop} (I : Inv X pins σ H s) (e : H a = some (.ins C dx fs)) (c : Cls X.K C) (n : NoAttr X.K C f) (l : fs.lookup f = some v)
    (h : ∀ u s', Inv X pins σ H s' → RelV v u → Q u s') : wpAny (model X.prog X.w) A (getAttr (.ref a) f b) Q E s := by
  obtain ⟨mA, O, r, _, _, _⟩ := ins_get I.hok e
  obtain ⟨u, hu, ru⟩ := RelO.some_of (v := v) (o := mA f) (by rw [← l]; exact r f)
  exact get_map I.kIn O (c.get f) c.hd n hu (handed_of ru) (h u _ (I.tok _) ru)

theorem setattr_ok {y : V} {u : Value} {Q : Unit → Shared → Prop} (I : Inv X pins σ H s) (e : H a = some (.ins C dx fs)) (c : Cls X.K C) (n : NoAttr X.K C f) (hl : fs.length < 1000) (ry : RelV y u)
    (h : ∀ s', Inv X pins σ (upd H a (.ins C dx (putF f y fs))) s' → Q () s') : wpAny (model X.prog X.w) A (setAttr (.ref a) f u) Q E s := by
  obtain ⟨mA, O, r, wi, _, ho⟩ := ins_get I.hok e
  have hz : (fs.map (·.1)).length ≤ sizeLine := by rw [List.length_map, sizeLine_eq]; omega
  refine set_map I.kIn O c.sa c.po n.taker c.hd wi hz fun h' O' sb => h _ ?_
  have hd : ∃ o, h'.get? dx = some o := let ⟨o, _, _, e', _⟩ := O'.ns; ⟨o, e'⟩
  refine I.write (x := a) (e := dx) (by rw [e]; exact True.intro) (.inr ho) (fun b q hb z => (sb.2 b hb).trans z) hd ?_
  refine ⟨by rw [upd_ne O.ne]; exact ho, ?_, O.ne, O'.obj, _, O'.ns, fun g => ?_, fun g hg => ?_⟩
  · have := length_putF f y fs; omega
  · show RelO ((putF f y fs).lookup g) (if g = f then some u else mA g)
    rw [lookup_putF]
    by_cases q : g = f
    · rw [if_pos q, if_pos q]; exact ry
    · rw [if_neg q, if_neg q]; exact r g
  · by_cases q : g = f
    · rw [q]; exact (keys_putF f y fs).1
    · refine (keys_putF f y fs).2 g (wi g fun z => hg ?_)
      show (if g = f then some u else mA g) = none
      rw [if_neg q]; exact z

theorem Inv.made (I : Inv X pins σ H s) : Inv X pins σ (upd (upd H s.heap.objs.size (.own (s.heap.objs.size + 1))) (s.heap.objs.size + 1) (.ins C s.heap.objs.size []))
    { s with heap := (s.heap.push PySem.W.emptyDict).push (PySem.W.instObj C s.heap.objs.size) } := by
  have e1 : (s.heap.push PySem.W.emptyDict).get? s.heap.objs.size = some PySem.W.emptyDict := Heap.get?_push_size s.heap rfl
  have e2 : ((s.heap.push PySem.W.emptyDict).push (PySem.W.instObj C s.heap.objs.size)).get? (s.heap.objs.size + 1) = some (PySem.W.instObj C s.heap.objs.size) := by
    have := Heap.get?_push_size (s.heap.push PySem.W.emptyDict) (o := PySem.W.instObj C s.heap.objs.size) rfl
    rwa [Heap.size_push] at this
  have e3 : (s.heap.push PySem.W.emptyDict).Ns s.heap.objs.size (fun _ => none) := ⟨PySem.W.emptyDict, #[], _, e1, rfl, (fun e he => absurd he (by simp)), fun _ => rfl⟩
  have I1 := I.laid (a := s.heap.objs.size) (o := .own (s.heap.objs.size + 1)) (h' := s.heap.push PySem.W.emptyDict) (t' := s.toks) (fun b u q => Heap.get?_push_of_some _ q) (Nat.le_refl _) ⟨_, e1⟩
  refine I1.laid (a := s.heap.objs.size + 1) (o := .ins C s.heap.objs.size []) (t' := s.toks) (fun b u q => Heap.get?_push_of_some _ q) (Nat.le_of_eq (Heap.size_push _ _)) ?_
  have ne : s.heap.objs.size ≠ s.heap.objs.size + 1 := Nat.ne_of_lt (Nat.lt_succ_self _)
  refine ⟨by rw [upd_ne ne, upd_same], Nat.zero_le _, ne, e2, fun _ => none, (Heap.Ns1.of_empty e3).at fun o q => Heap.get?_push_of_some _ q, fun _ => True.intro, fun y hy => absurd rfl hy⟩

theorem attr_of {prog : Program} {w : World} {env : Env} {e : Expr} {f : Str} {pos : Pos} {s : Shared} {Q : Value → Shared → Prop} (hb : attributeBase e f env (eval e env) = eval e env)
    (h : wpAny (model prog w) A (eval e env) (fun o s₁ => wpAny (model prog w) A (getAttr o f true) Q E s₁) E s) : wpAny (model prog w) A (eval (.Attribute e f pos) env) Q E s :=
  Attribute_any_ h (by rw [arm_eval_Attribute, hb])
end

/-! ### readings and rules -/
inductive I_tFld (K : PySem.W.Frag) (f : Str) (x : V) (H : Hp) (Q : VK) : Prop
  | mk (a C dx : Addr) (fs : List (Str × V)) (v : V) (h1 : x = .ref a) (h2 : H a = some (.ins C dx fs)) (h3 : Cls K C) (h4 : NoAttr K C f) (h5 : fs.lookup f = some v) (q : Q v H)
noncomputable def tFld (K : PySem.W.Frag) (ta : TE) (f : Str) : TE := fun σ H Q => ta σ H fun x H1 => I_tFld K f x H1 Q
noncomputable def sFld (K : PySem.W.Frag) (ta tv : TE) (f : Str) : TS := fun D σ H => tv σ H fun y H1 => ta σ H1 fun x H2 => ∃ a C dx fs, x = .ref a ∧ H2 a = some (.ins C dx fs) ∧ Cls K C ∧ NoAttr K C f ∧ fs.length < 1000 ∧
  D.nx σ (upd H2 a (.ins C dx (putF f y fs)))
section
variable {X : Cx} {o e value : Expr} {f : Str} {pos pos' tpos : Pos} {ta tv : TE}
theorem pe_fld (he : PE X e ta) (hb : attributeBase e f X.env (eval e X.env) = eval e X.env) : PE X (.Attribute e f pos) (tFld X.K ta f) := by
  intro pins s σ H Q I h
  refine attr_of hb (thn (he pins s σ H _ I h) fun u s1 ⟨x, H1, I1, rx, a, C, dx, fs, v, ex, ea, c, n, l, q⟩ => ?_)
  subst ex
  obtain rfl : u = Value.ref a := rx
  exact getattr_ok I1 ea c n l fun u' s2 I2 ru => ⟨v, H1, I2, ru, q⟩
theorem ps_fld (ha : PE X o ta) (hv : PE X value tv) (hs : swapsWith value (some (.Attribute o f pos')) pos.line X.env = pure false) : PS X (.Assign [.Attribute o f pos'] value pos) (sFld X.K ta tv f) := by
  intro pins s σ H D I h
  refine plainObj_wpAny_Assign_Attribute (thn (hv pins s σ H _ I h) fun u s1 ⟨y, H1, I1, ry, q⟩ => thn (ha pins s1 σ H1 _ I1 q) fun ov s2 ⟨x, H2, I2, rx, a, C, dx, fs, ex, ea, c, n, l, q2⟩ => ?_) hs
  subst ex
  obtain rfl : ov = Value.ref a := rx
  exact setattr_ok I2 ea c n l ry fun s3 I3 => ⟨σ, _, I3, q2⟩
end

/-! ### isinstance -/
section
variable {X : Cx} {pins : List (Addr × Obj)} {σ : St} {H : Hp} {s : Shared} {A : Around} {E : Value → Shared → Prop} {Q : Value → Shared → Prop} {c : Value} {b : Bool}
inductive TyOf (K : PySem.W.Frag) (H : Hp) : V → Value → Prop where
  | non : TyOf K H .non (.type "NoneType")
  | bl (x : Bool) : TyOf K H (.bl x) (.type "bool")
  | int (i : Int) : TyOf K H (.int i) (.type "int")
  | str (x : Str) : TyOf K H (.str x) (.type "str")
  | flt (x : UInt64) : TyOf K H (.flt x) (.type "float")
  | lst {a : Addr} {xs : List V} (e : H a = some (.lst xs)) : TyOf K H (.ref a) (.type "list")
  | frz {a : Addr} {o : Obj} {xs : List V} (e : H a = some (.frz o (.lst xs))) : TyOf K H (.ref a) (.type "list")
  | tup {a : Addr} {xs : List V} (e : H a = some (.tup xs)) : TyOf K H (.ref a) (.type "tuple")
  | dK {a : Addr} {kvs : List (Key × V)} (e : H a = some (.dK kvs)) : TyOf K H (.ref a) (.type "dict")
  | dT {a : Addr} {kvs : List (List Key × V)} (e : H a = some (.dT kvs)) : TyOf K H (.ref a) (.type "dict")
  | ins {a C dx : Addr} {fs : List (Str × V)} (e : H a = some (.ins C dx fs)) (cl : Cls K C) (ha : PySem.W.findIn K (.ref C) "__class__" = some (some (.builtin "object.__class__")))
      (hn : PySem.W.specialIn K (.builtin "object.__class__") "__get__" = some (some (.builtin "getset_descriptor.__get__"))) (htk : PySem.W.takesIn K (.builtin "object.__class__") = some true)
      (hm : PySem.W.mroIn K C (.type "object") = some true) : TyOf K H (.ref a) (.ref C)
end
end L2

namespace L2
open PySem PySem.Spec PyProof.Rows

/-! ### room -/
structure Room (k : Nat) (A : Around) : Prop where
  hd : A.handled = none
  dp : A.depth + 3 * k + 5 < recursionLimit
  un : A.units + 16 * k + 200 < cLine
theorem Room.mono {j k : Nat} {A : Around} (r : Room k A) (h : j ≤ k) : Room j A := ⟨r.hd, by have := r.dp; omega, by have := r.un; omega⟩
theorem Room.deeper {k : Nat} {A : Around} (r : Room (k + 1) A) (env : Env) : Room k (A.deeper env) :=
  ⟨r.hd, by have := r.dp; show A.depth + 1 + 3 * k + 5 < _; omega, by have := r.un; show A.units + 3 + 16 * k + 200 < _; omega⟩
theorem Room.in1 {k : Nat} {A : Around} (r : Room (k + 1) A) : Room k A.in1 :=
  ⟨r.hd, by have := r.dp; show A.depth + 3 * k + 5 < _; omega, by have := r.un; show A.units + 1 + 16 * k + 200 < _; omega⟩
theorem make_depth {A : Around} {C : Addr} {us : List Value} {kw : List (Str × Value)} : (A.under (.builtin "type.__call__" ⟨.ref C :: us, kw⟩)).depth = A.depth + 1 := by
  first | rfl | simp [Around.under, Code.weight, Code.isCreation, Code.isGuard, Code.isCaller, Code.frames, Code.isFrame, guardIds]
theorem make_units {A : Around} {C : Addr} {us : List Value} {kw : List (Str × Value)} : (A.under (.builtin "type.__call__" ⟨.ref C :: us, kw⟩)).units = A.units + 1 := by
  first | rfl | simp [Around.under, Code.cUnits, Code.frames, Code.isFrame]
theorem Room.make {k : Nat} {A : Around} (r : Room (k + 1) A) (C : Addr) (us : List Value) (kw : List (Str × Value)) : Room k (A.under (.builtin "type.__call__" ⟨.ref C :: us, kw⟩)) :=
  ⟨r.hd, by have := r.dp; rw [make_depth]; omega, by have := r.un; rw [make_units]; omega⟩
theorem Room.depth {k : Nat} {A : Around} (r : Room k A) : A.depth < recursionLimit := by have := r.dp; omega
theorem Room.units {k : Nat} {A : Around} (r : Room k A) : A.units + 64 < cLine := by have := r.un; omega
/-! ### argument lists and displays -/
noncomputable def tNil : TA := fun _ H Q => Q [] H
noncomputable def tCons (ta : TE) (tr : TA) : TA := fun σ H Q => ta σ H fun x H1 => tr σ H1 fun xs H2 => Q (x :: xs) H2
section
variable {X : Cx} {e : Expr} {es : List Expr} {te : TE} {t : TA} {pos : Pos}
theorem pa_nil : PA X [] tNil := fun _ _ _ _ H Q I h => Calls.spliced_nil ⟨[], H, I, .nil, h⟩
theorem pa_cons (ha : PE X e te) (hr : PA X es t) (hs : starEach (e :: es) X.env = (false, eval e X.env) :: starEach es X.env := by rfl) : PA X (e :: es) (tCons te t) := by
  intro pos pins s σ H Q I h
  rw [hs]
  show wpAny _ _ (spliced ((false, eval e X.env) :: backTo pos (starEach es X.env))) _ _ s
  refine Calls.spliced_cons (thn (ha pins s σ H _ I h) fun u s1 ⟨x, H1, I1, r1, q1⟩ => ?_)
  exact thn (hr pos pins s1 σ H1 _ I1 q1) fun us s2 ⟨xs, H2, I2, r2, q2⟩ => ⟨x :: xs, H2, I2, .cons r1 r2, q2⟩

noncomputable def tTup (t : TA) : TE := fun σ H Q => t σ H fun xs H1 => xs.length ≤ sizeLine ∧ ∀ p, H1 p = none → Q (.ref p) (upd H1 p (.tup xs))
noncomputable def tLst (t : TA) : TE := fun σ H Q => t σ H fun xs H1 => xs.length ≤ sizeLine ∧ ∀ p, H1 p = none → Q (.ref p) (upd H1 p (.lst xs))
theorem pe_tup {x1} (h : PA X es t) : PE X (.Tuple es x1 pos) (tTup t) := by
  intro pins s σ H Q I hq
  refine wpAny_Tuple_spliced (thn (h pos pins s σ H _ I hq) fun us s1 ⟨xs, H1, I1, r, z, q⟩ => ⟨by rw [← r.length]; exact z, ?_⟩)
  have hf : H1 s1.heap.objs.size = none := I1.hok.fresh (Nat.le_refl _)
  refine ⟨.ref s1.heap.objs.size, upd H1 s1.heap.objs.size (.tup xs), I1.laid (t' := s1.toks) (fun b u e => Heap.get?_push_of_some _ e) (Nat.le_refl _) ?_, rfl, q _ hf⟩
  exact ⟨z, us, r, ⟨_, Heap.get?_push_size _ rfl, rfl, _, rfl⟩⟩
theorem pe_lst (h : PA X es t) : PE X (.List es pos) (tLst t) := by
  intro pins s σ H Q I hq
  refine wpAny_List_spliced (thn (h pos pins s σ H _ I hq) fun us s1 ⟨xs, H1, I1, r, z, q⟩ => ⟨by rw [← r.length]; exact z, ?_⟩)
  have hf : H1 s1.heap.objs.size = none := I1.hok.fresh (Nat.le_refl _)
  refine ⟨.ref s1.heap.objs.size, upd H1 s1.heap.objs.size (.lst xs), I1.laid (t' := s1.toks) (fun b u e => Heap.get?_push_of_some _ e) (Nat.le_refl _) ?_, rfl, q _ hf⟩
  exact ⟨z, us, 0, r, Heap.get?_push_size _ rfl⟩
end

/-! ### what a def promises -/
noncomputable abbrev Sp := List V → Hp → VK → XK → Prop
noncomputable abbrev CXT := List Env → Hp → Shared → XK → Value → Shared → Prop

structure Env0 (P : Program) (w : World) (K : PySem.W.Frag) (mg : Str → Option Value) (base : Heap) (A : Around) (outer : List Env) (s : Shared) (H : Hp) : Prop where
  frames : A.frames = some outer
  mod : Mod K mg base
  bs : ∀ b o, base.get? b = some o → s.heap.get? b = some o ∧ H b = none
  bsz : base.objs.size ≤ s.heap.objs.size
  funs : s.heap.FunFrames base outer
  frf : ∀ b ∈ frs outer, H b = none
  hok : HOk P w H s.heap
  bare : AllBare s.gens
noncomputable def CE (outer : List Env) (P : Program) (w : World) (H : Hp) (s : Shared) (Q : VK) (u : Value) (s' : Shared) : Prop :=
  ∃ v H', s'.os = s.os ∧ AllBare s'.gens ∧ Un (frs outer) [] H H' s.heap s'.heap ∧ HOk P w H' s'.heap ∧ RelV v u ∧ Q v H'
noncomputable def CR (CX : CXT) (outer : List Env) (P : Program) (w : World) (H : Hp) (s : Shared) (Q : VK) (E : XK) (r : Result) (s' : Shared) : Prop :=
  match r with
  | .ok (.ret u) => CE outer P w H s Q u s'
  | .ok _ => False
  | .error e => CX outer H s E e s'
structure FnOk (P : Program) (w : World) (K : PySem.W.Frag) (mg : Str → Option Value) (base : Heap) (CX : CXT) (k : Nat) (f : Addr) (fd : FuncData) (ps : List Str) (sp : Sp) : Prop where
  len : ∀ vs H Q E, sp vs H Q E → vs.length = ps.length
  run : ∀ (A : Around) (outer : List Env) (s : Shared) (H : Hp) (args : Args) (us : List Value) (vs : List V) (Q : VK) (E : XK), Room k A → Env0 P w K mg base A outer s H → BindsTo s fd args (ps.zip us) → Vals vs us → sp vs H Q E →
    codeAny (model P w) A (.call (.ref f) args) (CR CX outer P w H s Q E) s
theorem FnOk.mono {P : Program} {w : World} {K : PySem.W.Frag} {mg : Str → Option Value} {base : Heap} {CX : CXT} {j k : Nat} {f : Addr} {fd : FuncData} {ps : List Str} {sp : Sp} (F : FnOk P w K mg base CX j f fd ps sp) (h : j ≤ k) :
    FnOk P w K mg base CX k f fd ps sp := ⟨F.len, fun A outer s H args us vs Q E hr => F.run A outer s H args us vs Q E (hr.mono h)⟩
theorem FnOk.imp {P : Program} {w : World} {K : PySem.W.Frag} {mg : Str → Option Value} {base : Heap} {CX : CXT} {k : Nat} {f : Addr} {fd : FuncData} {ps : List Str} {sp sp' : Sp} (F : FnOk P w K mg base CX k f fd ps sp)
    (h : ∀ vs H Q E, sp' vs H Q E → sp vs H Q E) : FnOk P w K mg base CX k f fd ps sp' :=
  ⟨fun vs H Q E q => F.len vs H Q E (h _ _ _ _ q), fun A outer s H args us vs Q E hr he hb hv hs => F.run A outer s H args us vs Q E hr he hb hv (h _ _ _ _ hs)⟩

theorem Env0.make {P : Program} {w : World} {K : PySem.W.Frag} {mg : Str → Option Value} {base : Heap} {A : Around} {outer : List Env} {s : Shared} {H : Hp} (e : Env0 P w K mg base A outer s H) (C : Addr) (us : List Value) (kw : List (Str × Value)) :
    Env0 P w K mg base (A.under (.builtin "type.__call__" ⟨.ref C :: us, kw⟩)) outer s H := ⟨by first | exact e.frames | (simpa [Around.under, Code.envs, Code.isFrame, pushEnvs] using e.frames), e.mod, e.bs, e.bsz, e.funs, e.frf, e.hok, e.bare⟩
theorem Env0.in1 {P : Program} {w : World} {K : PySem.W.Frag} {mg : Str → Option Value} {base : Heap} {A : Around} {outer : List Env} {s : Shared} {H : Hp} (e : Env0 P w K mg base A outer s H) :
    Env0 P w K mg base A.in1 outer s H := ⟨e.frames, e.mod, e.bs, e.bsz, e.funs, e.frf, e.hok, e.bare⟩

section
variable {X : Cx} {pins : List (Addr × Obj)} {σ : St} {H : Hp} {s s' : Shared}
theorem Inv.env0 (I : Inv X pins σ H s) : Env0 X.prog X.w X.K X.mg X.base X.A X.stack s H :=
  ⟨I.ok.frames, I.ok.mod, I.bs, Nat.le_trans I.ok.bsz I.sz, I.stack, I.stkFree, I.hok, I.bare⟩
theorem Inv.after {Q : VK} {u : Value} (I : Inv X pins σ H s) (h : CE X.stack X.prog X.w H s Q u s') : EP X pins σ Q u s' := by
  obtain ⟨v, H', os, bare, un, hok, r, q⟩ := h
  obtain ⟨hh, g, d, t, os'⟩ := s'
  obtain rfl : os' = s.os := os
  exact ⟨v, H', I.call (h' := hh) (g' := g) (d' := d) (t' := t) (ch := []) un hok bare (fun b z => absurd z (by simp)), r, q⟩
end

/-! ### calls -/
noncomputable def tCall (sp : Sp) (dvs : List V) (E : XK) (t : TA) : TE := fun σ H Q => t σ H fun vs H1 => sp (vs ++ dvs) H1 Q E
inductive I_tMeth (C : Addr) (m : Str) (sp : Sp) (dvs : List V) (E : XK) (t : TA) (σ : St) (Q : VK) (x : V) (H : Hp) : Prop
  | mk (a dx : Addr) (fs : List (Str × V)) (h1 : x = .ref a) (h2 : H a = some (.ins C dx fs)) (h3 : fs.lookup m = none) (q : t σ H fun vs H2 => sp (x :: (vs ++ dvs)) H2 Q E)
noncomputable def tMeth (C : Addr) (m : Str) (sp : Sp) (dvs : List V) (E : XK) (ta : TE) (t : TA) : TE := fun σ H Q => ta σ H fun x H1 => I_tMeth C m sp dvs E t σ Q x H1
noncomputable def tMake (C : Addr) (sp : Sp) (dvs : List V) (E : XK) (t : TA) : TE := fun σ H Q => t σ H fun vs H1 => ∀ x dx, H1 x = none → H1 dx = none → dx ≠ x →
  sp (.ref x :: (vs ++ dvs)) (upd (upd H1 dx (.own x)) x (.ins C dx [])) (fun v H2 => v = .non ∧ Q (.ref x) H2) E

noncomputable def Binds (K : PySem.W.Frag) (fd : FuncData) (ps : List Str) (ds : List Value) : Prop :=
  ∀ (s : Shared) (us : List Value), K.In s.heap → (us ++ ds).length = ps.length → BindsTo s fd ⟨us, []⟩ (ps.zip (us ++ ds))
theorem Binds.all {K : PySem.W.Frag} {fd : FuncData} {ps : List Str} (h : ∀ us : List Value, us.length = ps.length → bindArgs fd ⟨us, []⟩ = pure (ps.zip us)) : Binds K fd ps [] := fun s us _ hl => by
  rw [List.append_nil] at hl ⊢
  exact .of_eq (h us hl)

noncomputable def Passes (CX : CXT) (X : Cx) (E : XK) : Prop := ∀ (pins : List (Addr × Obj)) (σ : St) (H : Hp) (s : Shared) (e : Value) (s' : Shared), Inv X pins σ H s → CX X.stack H s E e s' → X.xe e s'

section
variable {X : Cx} {CX : CXT} {k : Nat} {f C : Addr} {fd : FuncData} {ps : List Str} {sp : Sp} {dvs : List V} {ds : List Value} {E : XK} {x m : Str} {p pos apos : Pos} {e o : Expr} {es : List Expr} {ta : TE} {t : TA}

theorem run_fn {pins : List (Addr × Obj)} {σ : St} {H : Hp} {s : Shared} {Q : VK} {us : List Value} {vs : List V} (F : FnOk X.prog X.w X.K X.mg X.base CX k f fd ps sp) (hr : Room k X.A) (hb : Binds X.K fd ps ds) (hd : Vals dvs ds) (hx : Passes CX X E)
    (I : Inv X pins σ H s) (r : Vals vs us) (h : sp (vs ++ dvs) H Q E) : wpAny (model X.prog X.w) X.A (call (.ref f) us) (EP X pins σ Q) X.xe s := by
  have r2 : Vals (vs ++ dvs) (us ++ ds) := r.append hd
  have hl : (us ++ ds).length = ps.length := by rw [← r2.length]; exact F.len _ _ _ _ h
  refine wpAny_call (codeAny_mono (F.run X.A X.stack s H ⟨us, []⟩ (us ++ ds) (vs ++ dvs) Q E hr I.env0 (hb s us I.kIn hl) r2 h) fun r s' hq => ?_)
  cases r with
  | error e => exact hx pins σ H s e s' I hq
  | ok fl =>
    cases fl with
    | ret u => exact I.after hq
    | next => exact False.elim hq
    | brk => exact False.elim hq
    | cont => exact False.elim hq

theorem pe_call (F : FnOk X.prog X.w X.K X.mg X.base CX k f fd ps sp) (hr : Room k X.A) (hg : Gl X x) (hm : X.mg x = some (.ref f)) (hk : PySem.W.keepIn X.K (.ref f) = true) (hb : Binds X.K fd ps ds) (hd : Vals dvs ds) (hx : Passes CX X E)
    (ha : PA X (e :: es) t) (hdb : (x == ("__debug__" : Str)) = false := by decide) (he : starEach (e :: es) X.env = (false, eval e X.env) :: starEach es X.env := by rfl) (hpl : (backTo pos (starEach es X.env)).any (·.1) = false := by rfl) :
    PE X (.Call (.Name x p) (e :: es) [] pos) (tCall sp dvs E t) := by
  intro pins s σ H Q I h
  refine wpAny_Call_Name_kw (ld_glob I hg hm ?_ hdb)
  refine PySem.W.callWith_K (h₀ := X.base) I.ok.mod.kin hk (thn (ha pos pins s σ H _ I h) fun us s1 ⟨vs, H1, I1, r, q⟩ => ⟨I1.kIn, ?_⟩) he hpl
  exact run_fn F hr hb hd hx I1 r q
structure Mk (K : PySem.W.Frag) (C f : Addr) : Prop where
  makes : PySem.W.makesIn K C = true
  init : PySem.W.findIn K (.ref C) "__init__" = some (some (.ref f))
  fn : PySem.W.isFn K (.ref f) = true
  kp : PySem.W.keepIn K (.ref C) = true

end

/-! ### keywords -/
section
variable {X : Cx} {CX : CXT} {k : Nat} {f C : Addr} {fd : FuncData} {ps ks : List Str} {sp : Sp} {E : XK} {x m : Str} {p pos apos kpos : Pos} {e o : Expr} {es : List Expr} {kws : List Keyword} {te ta : TE} {t tk : TA} {nm : Option Str}
structure KBinds (K : PySem.W.Frag) (fd : FuncData) (ps ks : List Str) (g : List Value → List Value → List Value) (gV : List V → List V → List V) : Prop where
  to : ∀ (s : Shared) (us ws : List Value), K.In s.heap → (g us ws).length = ps.length → BindsTo s fd ⟨us, ks.zip ws⟩ (ps.zip (g us ws))
  rel : ∀ {vs : List V} {us : List Value} {zs : List V} {ws : List Value}, Vals vs us → Vals zs ws → Vals (gV vs zs) (g us ws)
variable {g : List Value → List Value → List Value} {gV : List V → List V → List V}
end

/-! ### a def's body keeps its promise -/
structure FnScope (N P : List Str) (sc : Scope) : Prop where
  kind : sc.kind = .function
  co : sc.isCoroutine = false
  gen : sc.isGenerator = false
  nd : N.Nodup
  pre : N.take P.length = P
  par : ∀ x ∈ P, sc.names.lookup x = some .local ∨ sc.names.lookup x = some .cell
  nofree : ∀ y ∈ sc.names, y.2 ≠ .free

theorem bindL_out {kindOf : Str → Option NameKind} {x : Str} : ∀ {binds : List (Str × Value)} {m : Str → Option Value}, (∀ v, (x, v) ∉ binds) → bindL kindOf binds m x = m x
  | [], _, _ => rfl
  | (n, v) :: r, m, h => by
    unfold bindL
    rw [bindL_out fun w hw => h w (List.mem_cons_of_mem _ hw)]
    split
    · have : x ≠ n := by rintro rfl; exact h v List.mem_cons_self
      simp [this]
    · rfl
theorem bindC_out {kindOf : Str → Option NameKind} {x : Str} : ∀ {binds : List (Str × Value)} {m : Str → Option Value}, (∀ v, (x, v) ∉ binds) → bindC kindOf binds m x = m x
  | [], _, _ => rfl
  | (n, v) :: r, m, h => by
    unfold bindC
    rw [bindC_out fun w hw => h w (List.mem_cons_of_mem _ hw)]
    split
    · rfl
    · have : x ≠ n := by rintro rfl; exact h v List.mem_cons_self
      simp [this]
theorem bindL_get {kindOf : Str → Option NameKind} {x : Str} {v : Value} : ∀ {P : List Str} {vs : List Value} {i : Nat} {m : Str → Option Value}, P.Nodup → P[i]? = some x → vs[i]? = some v → kindOf x = some .local →
    bindL kindOf (P.zip vs) m x = some v
  | [], _, _, _, _, h, _, _ => by simp at h
  | _ :: _, [], _, _, _, _, h, _ => by simp at h
  | p :: P, w :: vs, 0, m, nd, h1, h2, hk => by
    simp at h1 h2; subst h1; subst h2
    show bindL kindOf ((p, w) :: P.zip vs) m p = _
    unfold bindL
    rw [bindL_out fun v hv => (List.nodup_cons.mp nd).1 (List.of_mem_zip hv).1, if_pos hk]
    simp
  | p :: P, w :: vs, i + 1, m, nd, h1, h2, hk => by
    show bindL kindOf ((p, w) :: P.zip vs) m x = _
    unfold bindL
    exact bindL_get (i := i) (List.nodup_cons.mp nd).2 (by simpa using h1) (by simpa using h2) hk
theorem bindC_get {kindOf : Str → Option NameKind} {x : Str} {v : Value} : ∀ {P : List Str} {vs : List Value} {i : Nat} {m : Str → Option Value}, P.Nodup → P[i]? = some x → vs[i]? = some v → kindOf x ≠ some .local →
    bindC kindOf (P.zip vs) m x = some v
  | [], _, _, _, _, h, _, _ => by simp at h
  | _ :: _, [], _, _, _, _, h, _ => by simp at h
  | p :: P, w :: vs, 0, m, nd, h1, h2, hk => by
    simp at h1 h2; subst h1; subst h2
    show bindC kindOf ((p, w) :: P.zip vs) m p = _
    unfold bindC
    rw [bindC_out fun v hv => (List.nodup_cons.mp nd).1 (List.of_mem_zip hv).1, if_neg hk]
    simp
  | p :: P, w :: vs, i + 1, m, nd, h1, h2, hk => by
    show bindC kindOf ((p, w) :: P.zip vs) m x = _
    unfold bindC
    exact bindC_get (i := i) (List.nodup_cons.mp nd).2 (by simpa using h1) (by simpa using h2) hk

noncomputable def start (N : List Str) (vs : List V) : St := vs.map some ++ List.replicate (N.length - vs.length) none

noncomputable def cxOf (CX : CXT) (P : Program) (w : World) (K : PySem.W.Frag) (mg : Str → Option Value) (base : Heap) (N : List Str) (qual : Str) (scope : Scope) (f : Addr) (cd : Value) (A : Around) (outer : List Env) (s : Shared) (H : Hp) (E : XK) : Cx where
  prog := P
  w := w
  K := K
  mg := mg
  base := base
  A := A.deeper (envOfC qual scope s.heap.objs.size f cd)
  N := N
  s₀ := s
  H₀ := H
  env := envOfC qual scope s.heap.objs.size f cd
  outer := outer
  stack := envOfC qual scope s.heap.objs.size f cd :: outer
  ex := []
  calm := true
  fn := fun _ => true
  pn := []
  xe := fun e s' => wpAny (model P w) (A.deeper (envOfC qual scope s.heap.objs.size f cd)) (leaving (envOfC qual scope s.heap.objs.size f cd) e) (fun _ s'' => CX outer H s E e s'') (fun e' s'' => CX outer H s E e' s'') s'

theorem cell_has {sc : Scope} {n : Nat} {x : Str} (h : sc.names.lookup x = some .cell) : ∃ c, (cellsFrom n sc.names []).lookup x = some c := by
  have q := PySem.W.cellsFrom_some sc.names n [] (.inl h)
  exact Option.isSome_iff_exists.mp q

theorem inv_start {CX : CXT} {P : Program} {w : World} {K : PySem.W.Frag} {mg : Str → Option Value} {base : Heap} {N ps : List Str} {qual : Str} {scope : Scope} {f : Addr} {cd : Value} {A : Around} {outer : List Env} {s s1 : Shared} {H : Hp} {E : XK} {us : List Value} {vs : List V}
    (S : FnScope N ps scope) (hd : A.handled = none) (e0 : Env0 P w K mg base A outer s H) (hl : vs.length = ps.length) (r : Vals vs us)
    (x : InCallC s s.heap.objs.size (bindL (envOfC qual scope s.heap.objs.size f cd).kindOf (ps.zip us) fun _ => none) (cellsFrom (s.heap.objs.size + 1) scope.names []) (bindC (envOfC qual scope s.heap.objs.size f cd).kindOf (ps.zip us) fun _ => none) s1) :
    Inv (cxOf CX P w K mg base N qual scope f cd A outer s H E) [] (start N vs) H s1 := by
  have hpl : ps.length ≤ N.length := by have := congrArg List.length S.pre; rw [List.length_take] at this; omega
  obtain ⟨h1, tk, rfl, hk⟩ := x.done
  have noA : ∀ b : Addr, b ∉ (cxOf CX P w K mg base N qual scope f cd A outer s H E).ex := fun b z => absurd (show b ∈ ([] : List Addr) from z) (by simp)
  refine ⟨⟨e0.mod, S.kind, rfl, rfl, Nat.le_refl _, fun y z c h1 h2 => ?_, fun y hy => ?_, fun y c _ h => ?_, fun _ => hd, Around.frames_deeper e0.frames, .inr ⟨rfl, rfl⟩, fun b z => absurd z (noA b), e0.bs, e0.bsz, fun b _ _ => noA b, fun b z => absurd z (noA b), e0.funs, e0.frf⟩,
    rfl, e0.bare, Un.kept hk, ⟨_, x.toInCall.ns, fun i y v h1 h2 h3 => ?_⟩, fun y c h => ⟨_, x.cell y c h⟩, e0.hok.fresh (Nat.le_refl _), fun y c h => ?_, fun p hp => absurd (show p ∈ ([] : List (Addr × Obj)) from hp) (by simp), e0.hok.kept hk, ?_⟩
  · exact name_of_addr x.apart (PySem.mem_of_lookup h1) (PySem.mem_of_lookup h2)
  · have hy : scope.names.lookup y = some .cell ∨ scope.names.lookup y = some .free := hy
    rcases hy with hy | hy
    · exact cell_has hy
    · exact absurd rfl (S.nofree _ (PySem.mem_of_lookup hy))
  · exact Nat.le_of_lt (x.above y c (PySem.mem_of_lookup h))
  · have hi : i < vs.length := by
      unfold start at h2
      by_cases hi : i < vs.length
      · exact hi
      · rw [List.getElem?_append_right (by simpa using hi)] at h2
        rw [List.getElem?_replicate] at h2
        split at h2 <;> cases h2
    have ha : vs[i]? = some v := by
      unfold start at h2
      rw [List.getElem?_append_left (by simpa using hi), List.getElem?_map] at h2
      cases e : vs[i]? with
      | none => rw [e] at h2; cases h2
      | some a => rw [e] at h2; cases h2; rfl
    obtain ⟨u, hu, rv⟩ := r.get ha
    have hp : ps[i]? = some y := by
      rw [← S.pre, List.getElem?_take_of_lt (by omega)]; exact h1
    have ndP : ps.Nodup := by rw [← S.pre]; exact S.nd.sublist (List.take_sublist _ _)
    refine ⟨u, rv, ?_⟩
    rcases S.par y (List.mem_of_getElem? hp) with k | k
    · exact .inl ⟨k, bindL_get ndP hp hu k⟩
    · obtain ⟨c, e⟩ := cell_has (n := s.heap.objs.size + 1) k
      refine .inr ⟨.inl k, c, e, ?_⟩
      have q := x.cell y c e
      rw [bindC_get ndP hp hu (by show scope.names.lookup y ≠ _; rw [k]; decide)] at q
      exact q
  · exact e0.hok.fresh (Nat.le_of_lt (x.above y c (PySem.mem_of_lookup h)))
  · unfold start
    show _ = N.length
    rw [List.length_append, List.length_map, List.length_replicate]
    omega

theorem fn_of {CX : CXT} {P : Program} {w : World} {K : PySem.W.Frag} {mg : Str → Option Value} {base : Heap} {k : Nat} {f : Addr} {name qual : Str} {params : Arguments} {body : List Stmt} {scope : Scope} {dV kV doc pm cdv ct oc : Value} {an od : Option Addr}
    {osl : Array (Option Value)} {N ps : List Str} {sp : Sp} (lk : K.lookup f = some ⟨oc, od, .func (PySem.W.fnOf name qual params body scope dV kV doc pm an cdv ct), osl⟩) (hcd : PySem.W.codeIn K cdv qual = true) (S : FnScope N ps scope)
    (len : ∀ vs H Q E, sp vs H Q E → vs.length = ps.length)
    (hbody : ∀ (A : Around) (outer : List Env) (s : Shared) (H : Hp) (vs : List V) (Q : VK) (E : XK), Room k (A.deeper (envOfC qual scope s.heap.objs.size f cdv)) → sp vs H Q E →
      ∃ t, PSs (cxOf CX P w K mg base N qual scope f cdv A outer s H E) body t ∧ t { nx := fun _ H' => Q .non H', rt := Q } (start N vs) H) :
    FnOk P w K mg base CX (k + 1) f (PySem.W.fnOf name qual params body scope dV kV doc pm an cdv ct) ps sp := by
  refine ⟨len, fun A outer s H args us vs Q E hr e0 hb r hsp => ?_⟩
  have hl := len _ _ _ _ hsp
  have KX : K.In s.heap := e0.mod.kin.keeps fun b o e => (e0.bs b o e).1
  have lim : s.heap.NoLimit := e0.mod.nolimit.keeps fun b o e => (e0.bs b o e).1
  have hkind : ∀ y ∈ ps.zip us, scope.names.lookup y.1 = some .local ∨ (scope.names.lookup y.1 = some .cell ∧ ((cellsFrom (s.heap.objs.size + 1) scope.names []).lookup y.1).isSome = true) := fun ⟨n, v⟩ hy => by
    rcases S.par n (List.of_mem_zip hy).1 with q | q
    · exact .inl q
    · exact .inr ⟨q, PySem.W.cellsFrom_some _ _ _ (.inl q)⟩
  refine codeAny_call_function hr.depth (KX _ _ lk) rfl S.co S.gen rfl (PySem.W.codeRec_of KX hcd) (hb _ _ _ _ ?_)
  refine wpAny_newFunctionEnv_cells S.kind hkind fun env he s1 x => ?_
  subst he
  refine ⟨lim.keeps x.toInCall.keep, codeAny_func ?_⟩
  obtain ⟨t, ht, hq⟩ := hbody A outer s H vs Q E (hr.deeper _) hsp
  have I : Inv (cxOf CX P w K mg base N qual scope f cdv A outer s H E) [] (start N vs) H s1 := inv_start S hr.hd e0 hl r x
  refine wpAny_mono (ht [] s1 (start N vs) H _ I hq) (fun fl s' hs => ?_) fun e s' hs => hs
  have fin : ∀ {σ' : St} {H' : Hp} {v : V} {u : Value}, Inv (cxOf CX P w K mg base N qual scope f cdv A outer s H E) [] σ' H' s' → RelV v u → Q v H' → CE outer P w H s Q u s' :=
    fun {σ' H' v u} J rv q => ⟨v, H', J.os, J.bare, J.base, J.hok, rv, q⟩
  cases fl with
  | ret u =>
    obtain ⟨v, σ', H', J, rv, q⟩ := hs
    exact fin J rv q
  | next =>
    obtain ⟨σ', H', J, q⟩ := hs
    exact fin (v := V.non) (u := Value.none) J rfl q
  | brk =>
    obtain ⟨_, _, _, q⟩ := hs
    exact False.elim q
  | cont =>
    obtain ⟨_, _, _, q⟩ := hs
    exact False.elim q
end L2

namespace L2
open PySem PySem.Spec PyProof.Rows
section
variable {X : Cx} {x : Str} {p pos : Pos} {e : Expr} {es : List Expr} {t : TA} {id T : String} {r : List V → Hp → VK → Prop}

noncomputable def tCB (r : List V → Hp → VK → Prop) (t : TA) : TE := fun σ H Q => t σ H fun vs H1 => r vs H1 Q
theorem pe_callB (hc : CallR X (.builtin id) r) (hg : Gl X x) (hm : X.mg x = none) (hv : bootBuiltins x = some (.builtin id)) (ha : PA X (e :: es) t) (hn : x ≠ "__name__" := by decide) (hdb : (x == ("__debug__" : Str)) = false := by decide)
    (he : starEach (e :: es) X.env = (false, eval e X.env) :: starEach es X.env := by rfl) (hpl : (backTo pos (starEach es X.env)).any (·.1) = false := by rfl) : PE X (.Call (.Name x p) (e :: es) [] pos) (tCB r t) := by
  intro pins s σ H Q I h
  refine wpAny_Call_Name_kw (ld_blt I hg hm hv ?_ hn hdb)
  exact PyProof.Rows.callWith_builtin1 (thn (ha pos pins s σ H _ I h) fun us s1 ⟨vs, H1, I1, r1, q1⟩ => hc pins s1 σ H1 vs us Q I1 r1 q1) he hpl
theorem pe_callTy (hc : CallR X (.type T) r) (hg : Gl X x) (hm : X.mg x = none) (hv : bootBuiltins x = some (.type T)) (ha : PA X (e :: es) t) (hn : x ≠ "__name__" := by decide) (hdb : (x == ("__debug__" : Str)) = false := by decide)
    (he : starEach (e :: es) X.env = (false, eval e X.env) :: starEach es X.env := by rfl) (hpl : (backTo pos (starEach es X.env)).any (·.1) = false := by rfl) : PE X (.Call (.Name x p) (e :: es) [] pos) (tCB r t) := by
  intro pins s σ H Q I h
  refine wpAny_Call_Name_kw (ld_blt I hg hm hv ?_ hn hdb)
  exact PyProof.Rows.callWith_type1 (thn (ha pos pins s σ H _ I h) fun us s1 ⟨vs, H1, I1, r1, q1⟩ => hc pins s1 σ H1 vs us Q I1 r1 q1) he hpl
end
end L2

namespace HT
open PySem PyProof.Rows

section
open PySem.SeqAt
open PySem.AutoSeq1 (wpAny_loadPart')
open PySem.MeetsSeq PySem.MeetsSeq2 PySem.MeetsSeq3

end

section
variable {prog : Program} {w : World} {A : Around} {E : Value → Shared → Prop} {s : Shared}

/-! ### t[a:b], not the whole -/
noncomputable def sIx (n d : Nat) : Option Int → Nat
  | none => d
  | some v => if v < 0 then (v + (n : Int)).toNat else min v.toNat n
theorem sIx_none (n d : Nat) : sIx n d none = d := rfl
theorem sIx_nat (n d k : Nat) : sIx n d (some (k : Int)) = min k n := by
  show (if (k : Int) < 0 then ((k : Int) + (n : Int)).toNat else min (k : Int).toNat n) = min k n
  rw [if_neg (by omega), Int.toNat_natCast]
end
end HT

namespace L2
open PySem PySem.Spec PyProof.Rows

/-! ### the parts of a slice -/
noncomputable abbrev TO := St → Hp → (Option Int → Hp → Prop) → Prop
noncomputable def PO (X : Cx) (e : Option Expr) (t : TO) : Prop :=
  ∀ (pins : List (Addr × Obj)) (s : Shared) (σ : St) (H : Hp) (Q : Option Int → Hp → Prop), Inv X pins σ H s → t σ H Q →
    wpAny (model X.prog X.w) X.A (evalPart e X.env) (fun u s' => ∃ o H', Inv X pins σ H' s' ∧ IsPart u o ∧ Q o H') X.xe s
noncomputable def tNoPart : TO := fun _ H Q => Q none H
noncomputable def tPart (t : TE) : TO := fun σ H Q => t σ H fun x H1 => ∃ i, x = .int i ∧ Q (some i) H1

section
variable {X : Cx} {e : Expr} {te : TE} {lo hi : Option Expr} {tl th : TO} {pos p2 : Pos}

theorem po_none : PO X none tNoPart := by
  intro pins s σ H Q I h
  rw [evalPart_none]
  exact wpAny_pure ⟨none, H, I, .none, h⟩
theorem po_some (h : PE X e te) : PO X (some e) (tPart te) := by
  intro pins s σ H Q I hw
  rw [evalPart_some]
  refine thn (h pins s σ H _ I hw) fun u s1 ⟨x, H1, I1, r1, q1⟩ => ?_
  obtain ⟨i, rfl, q⟩ := q1
  obtain ⟨t, rfl⟩ := r1
  exact ⟨some i, H1, I1, .int i t, q⟩

noncomputable def SlR (X : Cx) (r : V → Option Int → Option Int → Hp → VK → Prop) : Prop :=
  ∀ (pins : List (Addr × Obj)) (s : Shared) (σ : St) (H : Hp) (x : V) (v vl vu : Value) (lo hi : Option Int) (sl : Addr) (Q : VK), Inv X pins σ H s → RelV x v → s.heap.IsSliceOf sl vl vu .none → IsPart vl lo → IsPart vu hi → r x lo hi H Q →
    ∃ T id, typeLookup (.type T) "__getitem__" = pure (some (.builtin id)) ∧ s.TypeIs v T ∧ wpAny (model X.prog X.w) X.A (getItem v (.ref sl)) (EP X pins σ Q) X.xe s
theorem SlR.or {r r' : V → Option Int → Option Int → Hp → VK → Prop} (h : SlR X r) (h' : SlR X r') : SlR X (fun x lo hi H Q => r x lo hi H Q ∨ r' x lo hi H Q) := by
  intro pins s σ H x v vl vu lo hi sl Q I rx hs pl pu q
  rcases q with q | q
  · exact h pins s σ H x v vl vu lo hi sl Q I rx hs pl pu q
  · exact h' pins s σ H x v vl vu lo hi sl Q I rx hs pl pu q
noncomputable def tSl (r : V → Option Int → Option Int → Hp → VK → Prop) (te : TE) (tl th : TO) : TE := fun σ H Q => te σ H fun x H1 => tl σ H1 fun l H2 => th σ H2 fun u H3 => r x l u H3 Q
theorem pe_slice {r : V → Option Int → Option Int → Hp → VK → Prop} (hr : SlR X r) (he : PE X e te) (hl : PO X lo tl) (hu : PO X hi th) : PE X (.Subscript e (.Slice lo hi none p2) pos) (tSl r te tl th) := by
  intro pins s σ H Q I h
  refine Subscript_ (thn (he pins s σ H _ I h) fun v s1 ⟨x, H1, I1, r1, q1⟩ => ?_)
  refine wpAny_Slice (thn (hl pins s1 σ H1 _ I1 q1) fun vl s2 ⟨l, H2, I2, pl, q2⟩ => thn (hu pins s2 σ H2 _ I2 q2) fun vu s3 ⟨u, H3, I3, pu, q3⟩ => ?_)
  rw [evalPart_none]
  refine wpAny_pure ?_
  have I4 : Inv X pins σ H3 { s3 with heap := s3.heap.push { cls := .type "slice", data := .fields #[vl, vu, .none] } } := I3.kept (t' := s3.toks) fun b ob q => Heap.get?_push_of_some _ q
  obtain ⟨T, id, hT, ht, hg⟩ := hr pins { s3 with heap := s3.heap.push { cls := .type "slice", data := .fields #[vl, vu, .none] } } σ H3 x v vl vu l u s3.heap.objs.size Q I4 r1 (Heap.IsSliceOf.new ..) pl pu q3
  show wpAny (model X.prog X.w) X.A (subscriptTail e (.Slice lo hi none p2) v (.ref s3.heap.objs.size)) (EP X pins σ Q) X.xe { s3 with heap := s3.heap.push { cls := .type "slice", data := .fields #[vl, vu, .none] } }
  exact tail_any (ops := [.ref s3.heap.objs.size, v]) ht hT hg (by with_unfolding_all rfl)

noncomputable def cutV (xs : List V) (lo hi : Option Int) : List V := (xs.drop (HT.sIx xs.length 0 lo)).take (HT.sIx xs.length xs.length hi - HT.sIx xs.length 0 lo)
theorem cutV_length (xs : List V) (lo hi : Option Int) : (cutV xs lo hi).length ≤ xs.length := by
  unfold cutV
  rw [List.length_take, List.length_drop]
  omega
/-! ### t < u, t + u -/
end
end L2

namespace L2
open PySem PySem.Spec PyProof.Rows

/-! ### places -/
noncomputable def ixN (n : Nat) (i : Int) : Option Nat := if 0 ≤ i then (if i < n then some i.toNat else none) else if -(n : Int) ≤ i then some (i + n).toNat else none
noncomputable def atI {α : Type} (xs : List α) (i : Int) : Option α := (ixN xs.length i).bind fun j => xs[j]?
theorem ixN_seq {n : Nat} {i : Int} {j : Nat} (h : ixN n i = some j) : seqIndex? i n = some j ∧ j < n ∧ -(n : Int) ≤ i ∧ i < n := by
  unfold ixN at h
  by_cases h0 : 0 ≤ i
  · rw [if_pos h0] at h
    by_cases h1 : i < n
    · rw [if_pos h1] at h
      have e : i.toNat = j := Option.some.inj h
      exact ⟨by rw [seqIndex_of h0 h1, e], by omega, by omega, h1⟩
    · rw [if_neg h1] at h; cases h
  · rw [if_neg h0] at h
    by_cases h1 : -(n : Int) ≤ i
    · rw [if_pos h1] at h
      have e : (i + n).toNat = j := Option.some.inj h
      exact ⟨by rw [seqIndex_neg (by omega) h1, e], by omega, h1, by omega⟩
    · rw [if_neg h1] at h; cases h
theorem atI_get {α : Type} {xs : List α} {i : Int} {v : α} (h : atI xs i = some v) : ∃ j, seqIndex? i xs.length = some j ∧ xs[j]? = some v ∧ j < xs.length ∧ -(xs.length : Int) ≤ i ∧ i < xs.length := by
  unfold atI at h
  cases e : ixN xs.length i with
  | none => rw [e] at h; cases h
  | some j =>
    rw [e] at h
    obtain ⟨h1, h2, h3, h4⟩ := ixN_seq e
    exact ⟨j, h1, h, h2, h3, h4⟩
theorem atI_nat {α : Type} {xs : List α} {j : Nat} {v : α} (h : xs[j]? = some v) : atI xs (j : Int) = some v := by
  have hj : j < xs.length := (List.getElem?_eq_some_iff.mp h).1
  have e : ixN xs.length (j : Int) = some j := by
    unfold ixN
    rw [if_pos (by omega), if_pos (by omega)]; simp
  unfold atI; rw [e]; exact h
/-! ### what may be subscripted -/
noncomputable def PlainIx (b : Expr) : Prop := ∀ o i, subscripted b false o i = operate [o, i] (getItem o i)
noncomputable def IxR (X : Cx) (r : R2) : Prop :=
  ∀ (value slice : Expr) (pins : List (Addr × Obj)) (s : Shared) (σ : St) (H : Hp) (x y : V) (v u : Value) (Q : VK), Inv X pins σ H s → RelV x v → RelV y u → r x y H Q →
    subscripted slice false v u = operate [v, u] (getItem v u) → wpAny (model X.prog X.w) X.A (subscriptTail value slice v u) (EP X pins σ Q) X.xe s
noncomputable def MtR (X : Cx) (id : String) (r : V → List V → Hp → VK → Prop) : Prop :=
  ∀ (pins : List (Addr × Obj)) (s : Shared) (σ : St) (H : Hp) (x : V) (xs : List V) (v : Value) (us : List Value) (Q : VK), Inv X pins σ H s → RelV x v → Vals xs us → r x xs H Q →
    wpAny (model X.prog X.w) X.A (call (.builtin id) (v :: us)) (EP X pins σ Q) X.xe s
section
variable {X : Cx} {a b : Expr} {ta tb : TE} {pos : Pos}
theorem IxR.or {r r' : R2} (h : IxR X r) (h' : IxR X r') : IxR X (fun x y H Q => r x y H Q ∨ r' x y H Q) := by
  intro value slice pins s σ H x y v u Q I rx ry q hs
  rcases q with q | q
  · exact h value slice pins s σ H x y v u Q I rx ry q hs
  · exact h' value slice pins s σ H x y v u Q I rx ry q hs
theorem MtR.or {id : String} {r r' : V → List V → Hp → VK → Prop} (h : MtR X id r) (h' : MtR X id r') : MtR X id (fun x xs H Q => r x xs H Q ∨ r' x xs H Q) := by
  intro pins s σ H x xs v us Q I rx rs q
  rcases q with q | q
  · exact h pins s σ H x xs v us Q I rx rs q
  · exact h' pins s σ H x xs v us Q I rx rs q
theorem pe_ix {r : R2} (hr : IxR X r) (ha : PE X a ta) (hb : PE X b tb) (hs : PlainIx b) : PE X (.Subscript a b pos) (tOp r ta tb) := by
  intro pins s σ H Q I h
  exact Subscript_ (binT ha hb I h fun v u s2 x y H2 I2 rx ry q => hr a b pins s2 σ H2 x y v u Q I2 rx ry q (hs _ _))

inductive I_rIxL (K : PySem.W.Frag) (x : V) (y : V) (H : Hp) (Q : VK) : Prop
  | mk (p xs i v) (h1 : x = .ref p) (h2 : y = .int i) (h3 : SqL K H p xs) (h4 : atI xs i = some v) (h5 : Q v H)
noncomputable def rIxL (K : PySem.W.Frag) : R2 := fun x y H Q => I_rIxL K x y H Q
inductive I_rIxT (K : PySem.W.Frag) (x : V) (y : V) (H : Hp) (Q : VK) : Prop
  | mk (p xs i v) (h1 : x = .ref p) (h2 : y = .int i) (h3 : SqT K H p xs) (h4 : atI xs i = some v) (h5 : Q v H)
noncomputable def rIxT (K : PySem.W.Frag) : R2 := fun x y H Q => I_rIxT K x y H Q
noncomputable def rIxS : R2 := fun x y H Q => ∃ z i c, x = .str z ∧ y = .int i ∧ z.length ≤ sizeLine ∧ atI z.cps.toList i = some c ∧ Q (.str ⟨#[c]⟩) H
theorem ix_list : IxR X (rIxL X.K) := by
  intro value slice pins s σ H x y v u Q I rx ry h hs
  obtain ⟨p, xs, i, z, rfl, rfl, hq, he, q⟩ := h
  cases rx
  obtain ⟨t, rfl⟩ := ry
  obtain ⟨its, r, pl, hz⟩ := I.list hq
  obtain ⟨j, h1, h2, h3, h4, h5⟩ := atI_get he
  obtain ⟨w, ew, rw'⟩ := r.get h2
  have hl := r.length
  have hn := line63
  have fin : EP X pins σ Q w s := ⟨z, H, I, rw', q⟩
  by_cases h0 : 0 ≤ i
  · have hj : i.toNat = j := by
      rw [seqIndex_of h0 h5] at h1
      exact Option.some.inj h1
    exact item_listR pl.isList h0 (by omega) (by rw [hj]; simpa using ew) fin hs
  · have hj : (i + (its.toArray.size : Int)).toNat = j := by
      rw [seqIndex_neg (by omega) h4] at h1
      rw [List.size_toArray, ← hl]
      exact Option.some.inj h1
    exact subscriptTail_builtinR (x := w) pl.isList.typeIs slot_list_getitem.lookup
      (wpAny_getItem_list_neg (Q := fun r s' => r = w ∧ EP X pins σ Q r s') pl.isList (by omega) (by rw [List.size_toArray] <;> omega) (by omega) (by rw [hj]; simpa using ew) ⟨rfl, fin⟩) hs
theorem ix_tup : IxR X (rIxT X.K) := by
  intro value slice pins s σ H x y v u Q I rx ry h hs
  obtain ⟨p, xs, i, z, rfl, rfl, hq, he, q⟩ := h
  cases rx
  obtain ⟨t, rfl⟩ := ry
  obtain ⟨its, r, pl, hz⟩ := I.tuple hq
  obtain ⟨j, h1, h2, h3, h4, h5⟩ := atI_get he
  obtain ⟨w, ew, rw'⟩ := r.get h2
  have hl := r.length
  have hn := line63
  have fin : EP X pins σ Q w s := ⟨z, H, I, rw', q⟩
  exact subscriptTail_builtinR (x := w) pl.typeIs slot_tuple_getitem.lookup
    (getItem_tuple (j := j) (Q := fun r s' => r = w ∧ EP X pins σ Q r s') pl (by omega) (by omega) (by rw [List.size_toArray, ← hl]; exact h1) (by simpa using ew) ⟨rfl, fin⟩) hs
theorem ix_str : IxR X rIxS := by
  intro value slice pins s σ H x y v u Q I rx ry h hs
  obtain ⟨z, i, c, rfl, rfl, hz, he, q⟩ := h
  obtain ⟨t, rfl⟩ := rx
  obtain ⟨t', rfl⟩ := ry
  obtain ⟨j, h1, h2, h3, h4, h5⟩ := atI_get he
  have hl : z.cps.toList.length = z.length := by simp [Str.length]
  rw [hl] at h1 h4 h5
  have hn := line63
  exact tail_any (typeIs_str s z t) slot_str_getitem.lookup (getItem_str (c := c) (by
    have e1 : decide (i < -(2 ^ 63 : Int)) = false := decide_eq_false (by omega)
    have e2 : decide (i ≥ 2 ^ 63) = false := decide_eq_false (by omega)
    rw [e1, e2, Bool.or_false]) (by rw [h1]; simpa using h2) ⟨.str ⟨#[c]⟩, H, I.tok _, ⟨_, rfl⟩, q⟩) hs
/-! ### xs[i] = v, any sign -/
theorem Inv.lst {pins : List (Addr × Obj)} {σ : St} {H : Hp} {s : Shared} {p : Addr} {xs : List V} (I : Inv X pins σ H s) (h : H p = some (.lst xs)) :
    ∃ (its : List Value) (n : Nat), Vals xs its ∧ s.heap.get? p = some { cls := .type "list", data := .seq its.toArray n } ∧ xs.length ≤ sizeLine := by
  obtain ⟨z, its, n, r, e⟩ := I.hok p _ h
  exact ⟨its, n, r, e, z⟩
inductive I_rSetL  (o : V) (i : V) (v : V) (H : Hp) (Q : Hp → Prop) : Prop
  | mk (p xs k j) (h1 : o = .ref p) (h2 : i = .int k) (h3 : H p = some (.lst xs)) (h4 : ixN xs.length k = some j) (h5 : Q (upd H p (.lst (xs.set j v))))
noncomputable def rSetL : V → V → V → Hp → (Hp → Prop) → Prop := fun o i v H Q => I_rSetL  o i v H Q
/-! ### slices -/
theorem slice_bounds (lo hi : Option Int) (n : Nat) : (sliceBounds lo hi none n).1 = ((HT.sIx n 0 lo : Nat) : Int) ∧ (sliceBounds lo hi none n).2.1 = ((HT.sIx n n hi : Nat) : Int) ∧ (sliceBounds lo hi none n).2.2 = 1 := by
  refine ⟨?_, ?_, rfl⟩
  · cases lo with
    | none => simp [sliceBounds, HT.sIx]
    | some i =>
      simp only [sliceBounds, HT.sIx, Option.getD_none, show (1 : Int) > 0 by decide, if_true]
      by_cases h : i < 0
      · simp only [h, if_true] <;> omega
      · simp only [h, if_false] <;> omega
  · cases hi with
    | none => simp [sliceBounds, HT.sIx]
    | some i =>
      simp only [sliceBounds, HT.sIx, Option.getD_none, show (1 : Int) > 0 by decide, if_true]
      by_cases h : i < 0
      · simp only [h, if_true] <;> omega
      · simp only [h, if_false] <;> omega
theorem slicePick_cut (its : List Value) (lo hi : Option Int) : slicePick its.toArray lo hi none = ((its.drop (HT.sIx its.length 0 lo)).take (HT.sIx its.length its.length hi - HT.sIx its.length 0 lo)).toArray := by
  obtain ⟨h1, h2, h3⟩ := slice_bounds lo hi its.toArray.size
  unfold slicePick
  rw [h1, h2, h3]
  simp only [sliceRange_one, pick_run, List.size_toArray] <;> rfl
noncomputable def rSlL (K : PySem.W.Frag) : V → Option Int → Option Int → Hp → VK → Prop := fun x lo hi H Q => ∃ a xs, x = .ref a ∧ SqL K H a xs ∧ ∀ p, H p = none → Q (.ref p) (upd H p (.lst (cutV xs lo hi)))
theorem sl_list : SlR X (rSlL X.K) := by
  intro pins s σ H x v vl vu lo hi sl Q I rx hs pl pu h
  obtain ⟨a, xs, rfl, hx, q⟩ := h
  cases rx
  obtain ⟨its, r, ht, hz⟩ := I.list hx
  have hlen := r.length
  refine ⟨"list", _, slot_list_getitem.lookup, ht.isList.typeIs, ?_⟩
  refine wpAny_getItem_list_slice ht.isList hs pl pu .none (by simp) ?_ (by rw [List.size_toArray] <;> omega)
  rw [slicePick_cut, ← hlen]
  refine ⟨.ref s.heap.objs.size, _, I.laid (t' := s.toks) (o := .lst (cutV xs lo hi)) (fun b ob q => Heap.get?_push_of_some _ q) (Nat.le_refl _) ?_, rfl, q _ (I.hok.fresh (Nat.le_refl _))⟩
  exact ⟨Nat.le_trans (cutV_length xs lo hi) hz, _, 0, (r.drop (HT.sIx xs.length 0 lo)).take (HT.sIx xs.length xs.length hi - HT.sIx xs.length 0 lo), Heap.get?_push_size _ rfl⟩

/-! ### in, not in: flat items -/
noncomputable def flatV : V → Bool
  | .non => true
  | .bl _ => true
  | .int _ => true
  | .str _ => true
  | _ => false
noncomputable def eqV : V → V → Bool
  | .non, .non => true
  | .bl a, .bl b => a == b
  | .bl a, .int b => (if a then 1 else 0) == b
  | .int a, .bl b => a == (if b then 1 else 0)
  | .int a, .int b => a == b
  | .str a, .str b => a == b
  | _, _ => false
theorem eqAt_V {A : Around} {s : Shared} {y x : V} {u v : Value} (ry : RelV y u) (rx : RelV x v) (fy : flatV y = true) (fx : flatV x = true) : SeqAt.EqAt A s u v (eqV y x) := by
  cases y with
  | non =>
    cases ry
    cases x with
    | non => cases rx; exact SeqAt.EqAt.same _
    | bl b => cases rx; exact SeqAt.EqAt.none_bool b
    | int b => obtain ⟨t, rfl⟩ := rx; exact SeqAt.EqAt.none_int b t
    | str b => obtain ⟨t, rfl⟩ := rx; exact SeqAt.EqAt.none_str b t
    | _ => exact absurd (show false = true from fx) Bool.false_ne_true
  | bl a =>
    cases ry
    cases x with
    | non => cases rx; exact SeqAt.EqAt.bool_none a
    | bl b => cases rx; exact SeqAt.EqAt.bool_bool a b
    | int b => obtain ⟨t, rfl⟩ := rx; exact SeqAt.EqAt.bool_int a b t
    | str b => obtain ⟨t, rfl⟩ := rx; exact SeqAt.EqAt.bool_str a b t
    | _ => exact absurd (show false = true from fx) Bool.false_ne_true
  | int a =>
    obtain ⟨t', rfl⟩ := ry
    cases x with
    | non => cases rx; exact SeqAt.EqAt.int_none a t'
    | bl b => cases rx; exact SeqAt.EqAt.int_bool a t' b
    | int b => obtain ⟨t, rfl⟩ := rx; exact SeqAt.EqAt.int_int a t' b t
    | str b => obtain ⟨t, rfl⟩ := rx; exact SeqAt.EqAt.int_str a t' b t
    | _ => exact absurd (show false = true from fx) Bool.false_ne_true
  | str a =>
    obtain ⟨t', rfl⟩ := ry
    cases x with
    | non => cases rx; exact SeqAt.EqAt.str_none a t'
    | bl b => cases rx; exact SeqAt.EqAt.str_bool a t' b
    | int b => obtain ⟨t, rfl⟩ := rx; exact SeqAt.EqAt.str_int a t' b t
    | str b => obtain ⟨t, rfl⟩ := rx; exact SeqAt.EqAt.str_str a t' b t
    | _ => exact absurd (show false = true from fx) Bool.false_ne_true
  | _ => exact absurd (show false = true from fy) Bool.false_ne_true
noncomputable def inV (x : V) (xs : List V) : Bool := xs.any fun y => eqV y x
inductive I_rIn (K : PySem.W.Frag) (neg : Bool) (x : V) (y : V) (H : Hp) (Q : VK) : Prop
  | mk (p xs) (h1 : y = .ref p) (h2 : (SqL K H p xs ∨ SqT K H p xs)) (h3 : flatV x = true) (h4 : xs.all flatV = true) (h5 : Q (.bl (if neg then !inV x xs else inV x xs)) H)
noncomputable def rIn (K : PySem.W.Frag) (neg : Bool) : R2 := fun x y H Q => I_rIn K neg x y H Q
/-! ### len, list(x), tuple(x) of any list or tuple that is read -/
theorem call_len_seq : CallR X (.builtin "len") (fun xs H Q => ∃ p ys, xs = [.ref p] ∧ (SqL X.K H p ys ∨ SqT X.K H p ys) ∧ Q (.int ys.length) H) := by
  intro pins s σ H xs us Q I r h
  obtain ⟨p, ys, rfl, hq, q⟩ := h
  obtain ⟨u, rfl, rx⟩ := vals1 r
  cases rx
  have hn := line63
  rcases hq with hq | hq
  · obtain ⟨its, r', pl, hz⟩ := I.list hq
    have hlen := r'.length
    exact Calls.call_len_list pl.isList (by simp only [List.size_toArray] <;> omega) ⟨.int ys.length, H, I.tok _, ⟨s.toks + 1, by rw [List.size_toArray, hlen]⟩, q⟩
  · obtain ⟨its, r', pl, hz⟩ := I.tuple hq
    have hlen := r'.length
    exact len_tuple pl (by simp only [List.size_toArray] <;> omega) ⟨.int ys.length, H, I.tok _, ⟨s.toks + 1, by rw [List.size_toArray, hlen]⟩, q⟩
theorem call_len_str : CallR X (.builtin "len") (fun xs H Q => ∃ z, xs = [.str z] ∧ z.length ≤ sizeLine ∧ Q (.int z.length) H) := by
  intro pins s σ H xs us Q I r h
  obtain ⟨z, rfl, hz, q⟩ := h
  obtain ⟨u, rfl, t, rfl⟩ := vals1 r
  have hn := line63
  exact len_str (by omega) ⟨.int z.length, H, I.tok _, ⟨_, rfl⟩, q⟩
theorem CallR.or {f : Value} {r r' : List V → Hp → VK → Prop} (h : CallR X f r) (h' : CallR X f r') : CallR X f (fun xs H Q => r xs H Q ∨ r' xs H Q) := by
  intro pins s σ H xs us Q I rs q
  rcases q with q | q
  · exact h pins s σ H xs us Q I rs q
  · exact h' pins s σ H xs us Q I rs q
theorem call_list_of : CallR X (.type "list") (fun xs H Q => ∃ p ys, xs = [.ref p] ∧ (SqL X.K H p ys ∨ SqT X.K H p ys) ∧ ∀ l, H l = none → Q (.ref l) (upd H l (.lst ys))) := by
  intro pins s σ H xs us Q I r h
  obtain ⟨p, ys, rfl, hq, q⟩ := h
  obtain ⟨u, rfl, rx⟩ := vals1 r
  cases rx
  have fin : ∀ (its : List Value), Vals ys its → ys.length ≤ sizeLine → ∀ (h' : Heap) (c' : Nat), (∀ b o', s.heap.get? b = some o' → h'.get? b = some o') →
      h'.get? s.heap.objs.size = some { cls := .type "list", dict := none, data := .seq its.toArray c', slots := #[] } → EP X pins σ Q (.ref s.heap.objs.size) { s with heap := h' } := fun its r' hz h' c' kp e =>
    ⟨.ref s.heap.objs.size, _, I.laid (t' := s.toks) kp (Nat.le_refl _) (show ObjOk X.prog X.w _ h' _ (.lst ys) from ⟨hz, its, c', r', e⟩), rfl, q _ (I.hok.fresh (Nat.le_refl _))⟩
  rcases hq with hq | hq
  · obtain ⟨its, r', pl, hz⟩ := I.list hq
    have hlen := r'.length
    obtain ⟨o, ho, hc, n, hd⟩ := pl.isList
    exact call_list_seq p (.inl rfl) ho hc hd (fun h' c' kp e => fin its r' hz h' c' kp e) (by simp only [List.size_toArray] <;> omega)
  · obtain ⟨its, r', pl, hz⟩ := I.tuple hq
    have hlen := r'.length
    obtain ⟨o, ho, hc, n, hd⟩ := pl
    exact call_list_seq p (.inr rfl) ho hc hd (fun h' c' kp e => fin its r' hz h' c' kp e) (by simp only [List.size_toArray] <;> omega)
theorem call_tuple_of : CallR X (.type "tuple") (fun xs H Q => ∃ p ys, xs = [.ref p] ∧ ((SqL X.K H p ys ∧ ∀ l, H l = none → Q (.ref l) (upd H l (.tup ys))) ∨ (SqT X.K H p ys ∧ Q (.ref p) H))) := by
  intro pins s σ H xs us Q I r h
  obtain ⟨p, ys, rfl, h⟩ := h
  obtain ⟨u, rfl, rx⟩ := vals1 r
  cases rx
  rcases h with ⟨hq, q⟩ | ⟨hq, q⟩
  · obtain ⟨its, r', pl, hz⟩ := I.list hq
    have hlen := r'.length
    refine call_tuple_list pl.isList (fun h' kp => ?_) (by simp only [List.size_toArray] <;> omega)
    have I1 : Inv X pins σ H { s with heap := h' } := I.kept (t' := s.toks) kp
    have I2 : Inv X pins σ (upd H h'.objs.size (.tup ys)) { s with heap := h'.push { cls := .type "tuple", data := .seq its.toArray } } :=
      I1.laid (t' := s.toks) (fun b o e => Heap.get?_push_of_some _ e) (Nat.le_refl _) (show ObjOk X.prog X.w _ _ _ (.tup ys) from ⟨hz, its, r', IsTup.new _ _⟩)
    exact ⟨.ref h'.objs.size, _, I2, rfl, q _ (I1.hok.fresh (Nat.le_refl _))⟩
  · obtain ⟨its, r', pl, hz⟩ := I.tuple hq
    exact call_tuple_same pl ⟨.ref p, H, I, rfl, q⟩

/-! ### the call of a builtin's method: o.m(..) -/
noncomputable def tyV (K : PySem.W.Frag) (T : String) (x : V) (H : Hp) : Prop := match x with
  | .str _ => T = "str"
  | .int _ => T = "int"
  | .ref p => (T = "list" ∧ ∃ xs, SqL K H p xs) ∨ (T = "tuple" ∧ ∃ o, K.lookup p = some o ∧ o.cls = .type "tuple" ∧ o.dict = none) ∨
      (T = "dict" ∧ ((∃ kvs, H p = some (.dK kvs)) ∨ ∃ kvs, H p = some (.dT kvs))) ∨ (T = "set" ∧ ∃ S n, H p = some (.set S n))
  | _ => False
theorem tyV_is {pins : List (Addr × Obj)} {σ : St} {H : Hp} {s : Shared} {T : String} {x : V} {v : Value} (I : Inv X pins σ H s) (r : RelV x v) (ty : tyV X.K T x H) :
    s.TypeIs v T ∧ ∀ a, v = .ref a → ∃ ob, s.heap.get? a = some ob ∧ ob.dict = none := by
  cases x with
  | str z =>
    obtain ⟨t, rfl⟩ := r
    cases (show T = "str" from ty)
    exact ⟨typeIs_str s z t, fun _ e => nomatch e⟩
  | int i =>
    obtain ⟨t, rfl⟩ := r
    cases (show T = "int" from ty)
    exact ⟨typeIs_int s i t, fun _ e => nomatch e⟩
  | ref p =>
    cases r
    rcases ty with ⟨rfl, xs, hq⟩ | ⟨rfl, o, hk, hc, hd⟩ | ⟨rfl, hk⟩ | ⟨rfl, S, n, hk⟩
    · obtain ⟨its, _, pl, _⟩ := I.list hq
      refine ⟨pl.isList.typeIs, fun a e => ?_⟩
      cases e
      obtain ⟨o, n, e, c, hd, _⟩ := pl
      exact ⟨o, e, hd⟩
    · refine ⟨⟨o, I.kIn p o hk, hc⟩, fun a e => ?_⟩
      cases e
      exact ⟨o, I.kIn _ o hk, hd⟩
    · have z : ∃ o, s.heap.get? p = some o ∧ o.ExactDict := by
        rcases hk with ⟨kvs, hk⟩ | ⟨kvs, hk⟩
        · obtain ⟨_, _, _, _, o, _, _, e, ex, _⟩ := I.hok p _ hk
          exact ⟨o, e, ex⟩
        · obtain ⟨_, _, _, _, o, _, _, e, ex, _⟩ := I.hok p _ hk
          exact ⟨o, e, ex⟩
      obtain ⟨o, e, ex⟩ := z
      refine ⟨⟨o, e, ex.1⟩, fun a e2 => ?_⟩
      cases e2
      exact ⟨o, e, ex.2.1⟩
    · obtain ⟨o, _, _, _, e, ex, _⟩ := I.hok p _ hk
      refine ⟨⟨o, e, ex.1⟩, fun a e2 => ?_⟩
      cases e2
      exact ⟨o, e, ex.2.1⟩
  | _ => exact False.elim ty
noncomputable def tBM0 (K : PySem.W.Frag) (T : String) (r : V → List V → Hp → VK → Prop) (to : TE) : TE := fun σ H Q => to σ H fun x H1 => tyV K T x H1 ∧ r x [] H1 Q
noncomputable def tBM (K : PySem.W.Frag) (T : String) (r : V → List V → Hp → VK → Prop) (to : TE) (t : TA) : TE := fun σ H Q => to σ H fun x H1 => tyV K T x H1 ∧ t σ H1 fun xs H2 => r x xs H2 Q
variable {o e : Expr} {es : List Expr} {to : TE} {t : TA} {name : Str} {apos cpos : Pos} {T id : String} {r : V → List V → Hp → VK → Prop}
theorem pe_bm0 (pa : PlainAttrs T) (slot : Slot T name id) (hty : typeOf (.builtin id) = pure (.type "method_descriptor")) (hm : MtR X id r) (ho : PE X o to)
    (hbase : attributeBase o name X.env (eval o X.env) = eval o X.env := by rfl) (hline : (apos.endLine == cpos.line) = true := by rfl) : PE X (.Call (.Attribute o name apos) [] [] cpos) (tBM0 X.K T r to) := by
  intro pins s σ H Q I h
  refine wpAny_Call_method0_late hbase hline (thn (ho pins s σ H _ I h) fun v s1 ⟨x, H1, I1, r1, ty, q1⟩ => ?_)
  obtain ⟨h1, h2⟩ := tyV_is I1 r1 ty
  exact ⟨T, id, pa, slot, hty, h1, h2, Calls.callWith_builtin rfl (PySem.evalArgs_none (hm pins s1 σ H1 x [] v [] Q I1 r1 .nil q1))⟩
theorem pe_bm (pa : PlainAttrs T) (slot : Slot T name id) (hty : typeOf (.builtin id) = pure (.type "method_descriptor")) (hm : MtR X id r) (ho : PE X o to) (ha : PA X (e :: es) t)
    (hbase : attributeBase o name X.env (eval o X.env) = eval o X.env := by rfl)
    (hfew : ((backTo cpos (starEach (e :: es) X.env)).all (fun x => !x.1) && (backToKw cpos (keywordEach [] X.env)).all (fun x => x.1.isSome)
      && decide ((e :: es).length + ([] : List Keyword).length + (if ([] : List Keyword).isEmpty then 0 else 1) < 30)) = true := by rfl)
    (hline : (apos.endLine == cpos.line) = true := by rfl) (hs : starEach (e :: es) X.env = (false, eval e X.env) :: starEach es X.env := by rfl) (hplain : (backTo cpos (starEach es X.env)).any (·.1) = false := by rfl) :
    PE X (.Call (.Attribute o name apos) (e :: es) [] cpos) (tBM X.K T r to t) := by
  intro pins s σ H Q I h
  refine wpAny_Call_method_late hbase hfew hline rfl (thn (ho pins s σ H _ I h) fun v s1 ⟨x, H1, I1, r1, ty, q1⟩ => ?_)
  obtain ⟨h1, h2⟩ := tyV_is I1 r1 ty
  refine ⟨T, id, pa, slot, hty, h1, h2, ?_⟩
  have hA := ha cpos pins s1 σ H1 _ I1 q1
  rw [hs] at hA ⊢
  refine Calls.callWith_builtin (by show (false || (backTo cpos (starEach es X.env)).any (·.1)) = false; rw [hplain] <;> rfl) (Calls.evalArgs_plain ?_)
  exact thn hA fun us s2 ⟨vs, H2, I2, r2, q2⟩ => hm pins s2 σ H2 x vs v us Q I2 r1 r2 q2
/- xs.append(e), list.index on a module's tuple .. are MtR facts of 06m -/
end
end L2

namespace L2
open PySem PySem.Spec PyProof.Rows

noncomputable def MtM (X : Cx) (id : String) (r : V → List V → Hp → VK → Prop) : Prop :=
  ∀ (pins : List (Addr × Obj)) (s : Shared) (σ : St) (H : Hp) (x : V) (xs : List V) (v : Value) (us : List Value) (Q : VK), Inv X pins σ H s → RelV x v → Vals xs us → r x xs H Q →
    wpAny (model X.prog X.w) X.A (call (.builtin id) (v :: us)) (EP X pins σ Q) X.xe s

/-! ### lists of values -/
theorem Vals.one : ∀ {x : V} {us : List Value}, Vals [x] us → ∃ u, us = [u] ∧ RelV x u
  | _, _, .cons r .nil => ⟨_, rfl, r⟩
theorem Vals.two : ∀ {x y : V} {us : List Value}, Vals [x, y] us → ∃ u v, us = [u, v] ∧ RelV x u ∧ RelV y v
  | _, _, _, .cons r (.cons q .nil) => ⟨_, _, rfl, r, q⟩
theorem Vals.zero : ∀ {us : List Value}, Vals [] us → us = []
  | _, .nil => rfl
theorem Vals.dropLast {xs : List V} {us : List Value} (h : Vals xs us) : Vals xs.dropLast us.dropLast := by
  induction h with
  | nil => exact .nil
  | cons r t ih =>
    cases t with
    | nil => exact .nil
    | cons q t' => exact .cons r ih
theorem Vals.eraseIdx : ∀ {xs : List V} {us : List Value} (i : Nat), Vals xs us → Vals (xs.eraseIdx i) (us.eraseIdx i)
  | _, _, _, .nil => .nil
  | _, _, 0, .cons _ t => t
  | _, _, i + 1, .cons r t => .cons r (Vals.eraseIdx i t)
theorem Vals.reverse {xs : List V} {us : List Value} (h : Vals xs us) : Vals xs.reverse us.reverse := by
  induction h with
  | nil => exact .nil
  | cons r t ih => rw [List.reverse_cons, List.reverse_cons]; exact Vals.append ih (.cons r .nil)
theorem Vals.rep {xs : List V} {us : List Value} (h : Vals xs us) : ∀ k : Nat, Vals (List.replicate k xs).flatten (List.replicate k us).flatten
  | 0 => .nil
  | k + 1 => by
    rw [List.replicate_succ, List.replicate_succ, List.flatten_cons, List.flatten_cons]
    exact Vals.append h (Vals.rep h k)
theorem erase_last {α : Type} (l : List α) : l.eraseIdx (l.length - 1) = l.dropLast := by
  induction l with
  | nil => rfl
  | cons a r ih =>
    cases r with
    | nil => rfl
    | cons b r =>
      have e : (a :: b :: r).length - 1 = ((b :: r).length - 1) + 1 := by
        have h1 : (a :: b :: r).length = r.length + 2 := rfl
        have h2 : (b :: r).length = r.length + 1 := rfl
        omega
      rw [e, List.eraseIdx_cons_succ, ih]
      all_goals rfl
section
variable {X : Cx} {pins : List (Addr × Obj)} {σ : St} {H : Hp} {s : Shared} {l b : Addr} {xs ys zs : List V}

/-! ### the two steps: a tracked list is rewritten, a new list is laid -/
theorem Inv.lset {its its' : List Value} {n : Nat} {f : Array Value → Array Value} {t' : Nat} (I : Inv X pins σ H s) (hH : H l = some (.lst xs))
    (e : s.heap.get? l = some { cls := .type "list", data := .seq its.toArray n }) (hf : f its.toArray = its'.toArray) (hv : Vals ys its') (hz : ys.length ≤ sizeLine) :
    Inv X pins σ (upd H l (.lst ys)) { s with heap := s.heap.update l (Obj.mapSeq f), toks := t' } := by
  have q := PySem.IsL.update e f
  rw [hf] at q
  refine I.write (x := l) (e := l) (by rw [hH]; exact trivial) (.inl rfl) (fun b' u hb hu => (Heap.get?_update_other s.heap (Obj.mapSeq f) (Ne.symm hb)).trans hu) ⟨_, q⟩ ?_
  exact ⟨hz, its', _, hv, q⟩
theorem Inv.lnew {its : List Value} {t' : Nat} (I : Inv X pins σ H s) (hv : Vals ys its) (hz : ys.length ≤ sizeLine) :
    Inv X pins σ (upd H s.heap.objs.size (.lst ys)) { s with heap := s.heap.push { cls := .type "list", data := .seq its.toArray }, toks := t' } :=
  I.laid (fun _ _ q => Heap.get?_push_of_some _ q) (Nat.le_refl _) ⟨hz, its, 0, hv, Heap.get?_push_size _ rfl⟩
theorem Inv.fresh (I : Inv X pins σ H s) : H s.heap.objs.size = none := I.hok.fresh (Nat.le_refl _)
theorem Inv.lstM (I : Inv X pins σ H s) (hH : H l = some (.lst xs)) : xs.length ≤ sizeLine ∧ ∃ (its : List Value) (n : Nat), Vals xs its ∧ xs.length = its.length ∧ s.heap.get? l = some { cls := .type "list", data := .seq its.toArray n } := by
  obtain ⟨z, its, n, r, e⟩ := I.hok l _ hH
  exact ⟨z, its, n, r, r.length, e⟩

end

section
variable {X : Cx}

/-! ### methods -/
inductive I_rAppend  (x : V) (vs : List V) (H : Hp) (Q : VK) : Prop
  | mk (l xs y) (h1 : x = .ref l) (h2 : vs = [y]) (h3 : H l = some (.lst xs)) (h4 : xs.length < sizeLine) (h5 : Q .non (upd H l (.lst (xs ++ [y]))))
noncomputable def rAppend : V → List V → Hp → VK → Prop := fun x vs H Q => I_rAppend  x vs H Q
theorem mt_append : MtM X "list.append" rAppend := by
  intro pins s σ H x vs v us Q I rx rv h
  obtain ⟨l, xs, y, rfl, rfl, hH, hz, q⟩ := h
  cases rx
  obtain ⟨u, rfl, ru⟩ := rv.one
  obtain ⟨z, its, n, r, hl, e⟩ := I.lstM hH
  refine call_meets F.slot_list_append ⟨_, e, rfl⟩ F.entry_list_append (F.args_list_append_2 _ _) (PySem.list_append l its.toArray n u (by rw [List.size_toArray]; omega)) ⟨e, ?_⟩
  refine ⟨.non, _, I.lset (its' := its ++ [u]) hH e (by simp) (r.append (.cons ru .nil)) ?_, rfl, q⟩
  rw [List.length_append, List.length_singleton]
  omega

noncomputable def rPop : V → List V → Hp → VK → Prop := fun x vs H Q => ∃ l xs y, x = .ref l ∧ vs = [] ∧ H l = some (.lst xs) ∧ xs[xs.length - 1]? = some y ∧ Q y (upd H l (.lst xs.dropLast))
theorem mt_pop : MtM X "list.pop" rPop := by
  intro pins s σ H x vs v us Q I rx rv h
  obtain ⟨l, xs, y, rfl, rfl, hH, hy, q⟩ := h
  cases rx
  have hus := rv.zero
  subst hus
  obtain ⟨z, its, n, r, hl, e⟩ := I.lstM hH
  obtain ⟨u, hu, ru⟩ := r.get hy
  have hy' : its.toArray[its.toArray.size - 1]? = some u := by
    show its.toArray[its.length - 1]? = some u
    rw [← Array.getElem?_toList, ← hl]
    exact hu
  refine call_meets F.slot_list_pop ⟨_, e, rfl⟩ F.entry_list_pop (F.args_list_pop_1 _) (MeetsSeq.list_pop_last l its.toArray n u hy' (by rw [List.size_toArray]; omega)) ⟨e, ?_⟩
  refine ⟨y, _, I.lset (its' := its.dropLast) hH e ?_ r.dropLast ?_, ru, q⟩
  · show its.toArray.eraseIdxIfInBounds (its.toArray.size - 1) = its.dropLast.toArray
    rw [List.size_toArray, List.eraseIdxIfInBounds_toArray, erase_last]
  · rw [List.length_dropLast]
    omega

noncomputable def rPopAt : V → List V → Hp → VK → Prop := fun x vs H Q => ∃ l xs i k y, x = .ref l ∧ vs = [.int i] ∧ H l = some (.lst xs) ∧ -(2 ^ 63) ≤ i ∧ i < 2 ^ 63 ∧ seqIndex? i xs.length = some k ∧ xs[k]? = some y ∧ Q y (upd H l (.lst (xs.eraseIdx k)))
noncomputable def rClear : V → List V → Hp → VK → Prop := fun x vs H Q => ∃ l xs, x = .ref l ∧ vs = [] ∧ H l = some (.lst xs) ∧ Q .non (upd H l (.lst []))
/-! ### list + list, list += list, list * int -/
noncomputable def rCat : R2 := fun x y H Q => ∃ l b xs zs, x = .ref l ∧ y = .ref b ∧ H l = some (.lst xs) ∧ H b = some (.lst zs) ∧ xs.length + zs.length ≤ sizeLine ∧ ∀ p, H p = none → Q (.ref p) (upd H p (.lst (xs ++ zs)))
theorem op_cat : OpR X (binaryOp .Add) rCat := by
  intro pins s σ H x y v u Q I rx ry h
  obtain ⟨l, b, xs, zs, rfl, rfl, hH, hB, hz, q⟩ := h
  cases rx
  cases ry
  obtain ⟨z, its, n, r, hl, e⟩ := I.lstM hH
  obtain ⟨z2, its2, n2, r2, hl2, e2⟩ := I.lstM hB
  refine PySem.P.add_list e e2 ?_ (by rw [List.size_toArray, List.size_toArray]; omega)
  have ea : its.toArray ++ its2.toArray = (its ++ its2).toArray := by simp
  rw [ea]
  exact ⟨.ref _, _, I.lnew (t' := s.toks) (r.append r2) (by rw [List.length_append]; omega), rfl, q _ I.fresh⟩
noncomputable def rRep : R2 := fun x y H Q => ∃ l k xs, x = .ref l ∧ y = .int k ∧ H l = some (.lst xs) ∧ -(2 ^ 63) ≤ k ∧ k < 2 ^ 63 ∧ xs.length * k.toNat ≤ sizeLine ∧
  ∀ p, H p = none → Q (.ref p) (upd H p (.lst (List.replicate k.toNat xs).flatten))
/-! ### del xs[i] -/
end

/-! ### xs[a:b] = ys -/
section
variable {prog : Program} {w : World} {A : Around} {E : Value → Shared → Prop} {s : Shared}
end

section
variable {X : Cx}
end
end L2

namespace L2
open PySem PySem.Spec PyProof.Rows

/-! ### lists of pairs as tables -/
section
variable {κ : Type} [DecidableEq κ]
noncomputable def valV (kvs : List (κ × V)) (k : κ) : Option V := (kvs.find? fun kv => decide (kv.1 = k)).map (·.2)
noncomputable def putK (kvs : List (κ × V)) (k : κ) (v : V) : List (κ × V) :=
  if (kvs.any fun kv => decide (kv.1 = k)) = true then kvs.map (fun kv => if kv.1 = k then (kv.1, v) else kv) else kvs ++ [(k, v)]
noncomputable def dropK (kvs : List (κ × V)) (k : κ) : List (κ × V) := kvs.filter fun kv => decide (kv.1 ≠ k)

theorem valV_nil {k : κ} : valV ([] : List (κ × V)) k = none := rfl
theorem valV_pos {p : κ × V} {r : List (κ × V)} {k : κ} (e : p.1 = k) : valV (p :: r) k = some p.2 := by simp [valV, List.find?_cons, e]
theorem valV_neg {p : κ × V} {r : List (κ × V)} {k : κ} (e : ¬ p.1 = k) : valV (p :: r) k = valV r k := by simp [valV, List.find?_cons, e]
theorem valV_any (k : κ) : ∀ kvs : List (κ × V), (kvs.any fun kv => decide (kv.1 = k)) = (valV kvs k).isSome
  | [] => rfl
  | p :: r => by
    rw [List.any_cons]
    by_cases e : p.1 = k
    · simp only [valV_pos e, decide_eq_true e, Bool.true_or, Option.isSome_some]
    · rw [valV_neg e, decide_eq_false e, Bool.false_or]; exact valV_any k r
theorem valV_map (k j : κ) (y : V) : ∀ kvs : List (κ × V), valV (kvs.map fun kv => if kv.1 = k then (kv.1, y) else kv) j = (valV kvs j).map fun x => if j = k then y else x
  | [] => rfl
  | p :: r => by
    have ih := valV_map k j y r
    rw [List.map_cons]
    by_cases h : p.1 = k
    · rw [if_pos h]
      by_cases e : p.1 = j
      · rw [valV_pos (p := (p.1, y)) e, valV_pos e, Option.map_some, if_pos (e.symm.trans h)]
      · rw [valV_neg (p := (p.1, y)) e, valV_neg e, ih]
    · rw [if_neg h]
      by_cases e : p.1 = j
      · rw [valV_pos (p := p) e, valV_pos e, Option.map_some, if_neg (fun z => h (e.trans z))]
      · rw [valV_neg (p := p) e, valV_neg e, ih]
theorem valV_snoc (k j : κ) (y : V) : ∀ kvs : List (κ × V), valV kvs k = none → valV (kvs ++ [(k, y)]) j = if j = k then some y else valV kvs j
  | [], _ => by
    by_cases e : k = j
    · rw [if_pos e.symm]; exact valV_pos (p := (k, y)) e
    · rw [if_neg (fun z => e z.symm)]; exact valV_neg (p := (k, y)) e
  | p :: r, hn => by
    rw [List.cons_append]
    have hk : ¬ p.1 = k := fun z => by rw [valV_pos z] at hn; cases hn
    rw [valV_neg hk] at hn
    have ih := valV_snoc k j y r hn
    by_cases e : p.1 = j
    · rw [valV_pos e, valV_pos e, if_neg (fun z => hk (e.trans z))]
    · rw [valV_neg e, valV_neg e, ih]
theorem valV_put (kvs : List (κ × V)) (k j : κ) (y : V) : valV (putK kvs k y) j = if j = k then some y else valV kvs j := by
  unfold putK
  by_cases a : (kvs.any fun kv => decide (kv.1 = k)) = true
  · rw [if_pos a, valV_map]
    rw [valV_any] at a
    by_cases e : j = k
    · obtain ⟨x, hx⟩ := Option.isSome_iff_exists.mp a
      rw [if_pos e, e, hx, Option.map_some, if_pos rfl]
    · rw [if_neg e]
      cases valV kvs j with
      | none => rfl
      | some x => rw [Option.map_some, if_neg e]
  · rw [if_neg a]
    refine valV_snoc k j y kvs ?_
    rw [valV_any] at a
    cases q : valV kvs k with
    | none => rfl
    | some x => rw [q] at a; exact (a rfl).elim
theorem length_putK (kvs : List (κ × V)) (k : κ) (v : V) : (putK kvs k v).length ≤ kvs.length + 1 := by
  unfold putK
  split
  · rw [List.length_map]; omega
  · rw [List.length_append, List.length_cons, List.length_nil]; omega
theorem putK_new {kvs : List (κ × V)} {k : κ} (v : V) (h : valV kvs k = none) : putK kvs k v = kvs ++ [(k, v)] := by
  unfold putK
  rw [valV_any, h]
  exact if_neg (by decide)

theorem RelO.isSome_eq {o : Option V} {u : Option Value} (r : RelO o u) : o.isSome = u.isSome := by
  cases o with
  | none => cases u with
    | none => rfl
    | some _ => exact (show False from r).elim
  | some _ => cases u with
    | none => exact (show False from r).elim
    | some _ => rfl
theorem RelO.getD {o : Option V} {u : Option Value} {d : V} {d' : Value} (r : RelO o u) (rd : RelV d d') : RelV (o.getD d) (u.getD d') := by
  cases o with
  | none => cases u with
    | none => exact rd
    | some _ => exact (show False from r).elim
  | some _ => cases u with
    | none => exact (show False from r).elim
    | some _ => exact r

theorem KV.val {kvs : List (κ × V)} {vs : List (κ × Value)} (r : KV kvs vs) (k : κ) : RelO (valV kvs k) (valueAt vs k) := by
  unfold KV at r
  induction r with
  | nil => exact True.intro
  | @cons p q ps qs h t ih =>
    obtain ⟨h1, h2⟩ := h
    by_cases e : p.1 = k
    · have e' : q.1 = k := h1.symm.trans e
      have b : valueAt (q :: qs) k = some q.2 := by simp [valueAt, List.find?_cons, e']
      rw [valV_pos e, b]; exact h2
    · have e' : ¬ q.1 = k := fun z => e (h1.trans z)
      have b : valueAt (q :: qs) k = valueAt qs k := by simp [valueAt, List.find?_cons, e']
      rw [valV_neg e, b]; exact ih
theorem KV.any {kvs : List (κ × V)} {vs : List (κ × Value)} (r : KV kvs vs) (k : κ) : (kvs.any fun kv => decide (kv.1 = k)) = vs.any fun kv => decide (kv.1 = k) := by
  unfold KV at r
  induction r with
  | nil => rfl
  | cons h t ih => rw [List.any_cons, List.any_cons, ih, h.1]
theorem KV.repl {kvs : List (κ × V)} {vs : List (κ × Value)} (r : KV kvs vs) (k : κ) {y : V} {u : Value} (ry : RelV y u) :
    KV (kvs.map fun kv => if kv.1 = k then (kv.1, y) else kv) (vs.map fun kv => if kv.1 = k then (kv.1, u) else kv) := by
  unfold KV at r ⊢
  induction r with
  | nil => exact .nil
  | @cons p q ps qs h t ih =>
    rw [List.map_cons, List.map_cons]
    refine .cons ?_ ih
    obtain ⟨h1, h2⟩ := h
    by_cases e : p.1 = k
    · rw [if_pos e, if_pos (h1.symm.trans e)]; exact ⟨h1, ry⟩
    · rw [if_neg e, if_neg (fun z => e (h1.trans z))]; exact ⟨h1, h2⟩
theorem KV.put {kvs : List (κ × V)} {vs : List (κ × Value)} (r : KV kvs vs) (k : κ) {y : V} {u : Value} (ry : RelV y u) : KV (putK kvs k y) (stored vs k u) := by
  unfold putK stored
  rw [r.any k]
  by_cases e : (vs.any fun kv => decide (kv.1 = k)) = true
  · rw [if_pos e, if_pos e]; exact r.repl k ry
  · rw [if_neg e, if_neg e]; exact Paired.snoc r ⟨rfl, ry⟩
theorem KV.drop {kvs : List (κ × V)} {vs : List (κ × Value)} (r : KV kvs vs) (k : κ) : KV (dropK kvs k) (without vs k) := by
  unfold KV at r ⊢
  unfold dropK without
  induction r with
  | nil => exact .nil
  | @cons p q ps qs h t ih =>
    obtain ⟨h1, h2⟩ := h
    rw [List.filter_cons, List.filter_cons]
    by_cases e : p.1 = k
    · have a : ¬ decide (p.1 ≠ k) = true := by simp [e]
      have b : ¬ decide (q.1 ≠ k) = true := by simp [h1.symm.trans e]
      rw [if_neg a, if_neg b]; exact ih
    · have e' : ¬ q.1 = k := fun z => e (h1.trans z)
      have a : decide (p.1 ≠ k) = true := by simp [e]
      have b : decide (q.1 ≠ k) = true := by simp [e']
      rw [if_pos a, if_pos b]; exact .cons ⟨h1, h2⟩ ih
theorem KV.keys {kvs : List (κ × V)} {vs : List (κ × Value)} (r : KV kvs vs) : kvs.map (·.1) = vs.map (·.1) := by
  unfold KV at r
  induction r with
  | nil => rfl
  | cons h t ih => rw [List.map_cons, List.map_cons, ih, h.1]
theorem KV.length {kvs : List (κ × V)} {vs : List (κ × Value)} (r : KV kvs vs) : kvs.length = vs.length := Paired.length r
end


/-! ### a tracked dict, its keys ints and texts or tuples of these -/
theorem kV_is {P : Program} {w : World} {k : Key} {u : Value} (r : RelV (kV k) u) : (mixKind P w).is k u = true := by
  cases k with
  | inl i => obtain ⟨t, e⟩ := (show ∃ t, u = Value.int i t from r); subst e; exact mixKind_int P w i t
  | inr x => obtain ⟨t, e⟩ := (show ∃ t, u = Value.str x t from r); subst e; exact mixKind_str P w x t
theorem items_are {P : Program} {w : World} : ∀ {ks : List Key} {us : List Value}, Vals (ks.map kV) us → ItemsAre (mixKind P w) ks us
  | [], _, r => by rw [List.map_nil] at r; cases r; exact .nil
  | k :: ks, _, r => by
    rw [List.map_cons] at r
    cases r with
    | cons h t => exact .cons (kV_is h) (items_are t)

noncomputable abbrev KT (H : Hp) : List (List Key × V) → List (List Key × Addr × Value) → Prop := Paired fun p q => p.1 = q.1 ∧ H q.2.1 = some (.tup (p.1.map kV)) ∧ RelV p.2 q.2.2
theorem KT.val {H : Hp} {kvs : List (List Key × V)} {xs : List (List Key × Addr × Value)} (r : KT H kvs xs) (k : List Key) : RelO (valV kvs k) ((atKey xs k).map (·.2)) := by
  induction r with
  | nil => exact True.intro
  | @cons p q ps qs h t ih =>
    obtain ⟨h1, _, h2⟩ := h
    by_cases e : p.1 = k
    · have e' : q.1 = k := h1.symm.trans e
      have b : atKey (q :: qs) k = some q.2 := by simp [atKey, List.find?_cons, e']
      rw [valV_pos e, b]; exact h2
    · have e' : ¬ q.1 = k := fun z => e (h1.trans z)
      have b : atKey (q :: qs) k = atKey qs k := by simp [atKey, List.find?_cons, e']
      rw [valV_neg e, b]; exact ih
theorem KT.repl {H : Hp} {kvs : List (List Key × V)} {xs : List (List Key × Addr × Value)} (r : KT H kvs xs) (k : List Key) {y : V} {u : Value} (ry : RelV y u) :
    KT H (kvs.map fun kv => if kv.1 = k then (kv.1, y) else kv) (xs.map (putAt k u)) := by
  induction r with
  | nil => exact .nil
  | @cons p q ps qs h t ih =>
    rw [List.map_cons, List.map_cons]
    refine .cons ?_ ih
    obtain ⟨h1, h2, h3⟩ := h
    unfold putAt
    by_cases e : p.1 = k
    · rw [if_pos e, if_pos (h1.symm.trans e)]; exact ⟨h1, h2, ry⟩
    · rw [if_neg e, if_neg (fun z => e (h1.trans z))]; exact ⟨h1, h2, h3⟩
theorem KT.put {H : Hp} {kvs : List (List Key × V)} {xs : List (List Key × Addr × Value)} (r : KT H kvs xs) (k : List Key) {b : Addr} {y : V} {u : Value} (hb : H b = some (.tup (k.map kV))) (ry : RelV y u) :
    KT H (putK kvs k y) (storedH xs k b u) := by
  have e : (kvs.any fun kv => decide (kv.1 = k)) = (atKey xs k).isSome := by
    rw [valV_any, (r.val k).isSome_eq, Option.isSome_map]
  unfold putK storedH
  rw [e]
  by_cases q : (atKey xs k).isSome = true
  · rw [if_pos q, if_pos q]; exact r.repl k ry
  · rw [if_neg q, if_neg q]; exact Paired.snoc r ⟨rfl, hb, ry⟩
theorem KT.keeps {H H' : Hp} {kvs : List (List Key × V)} {xs : List (List Key × Addr × Value)} (r : KT H kvs xs) (ht : ∀ b ys, H b = some (.tup ys) → H' b = some (.tup ys)) : KT H' kvs xs :=
  Paired.mapP r fun _ _ z => ⟨z.1, ht _ _ z.2.1, z.2.2⟩

section
variable {P : Program} {w : World} {H : Hp} {h : Heap} {a : Addr}
theorem rd_of {u : HO} (ok : HOk P w H h) (e : Rd H a u) : ObjOk P w H h a u := e.ok ok
theorem dk_rd {kvs : List (Key × V)} (ok : HOk P w H h) (e : Rd H a (.dK kvs)) : kvs.length ≤ sizeLine ∧ (a == sysModules) = false ∧ ∃ vs, KV kvs vs ∧ h.DictOf (mixKind P w) a vs :=
  show ObjOk P w H h a (.dK kvs) from rd_of ok e
theorem dk_of {kvs : List (Key × V)} (ok : HOk P w H h) (e : H a = some (.dK kvs)) : kvs.length ≤ sizeLine ∧ (a == sysModules) = false ∧ ∃ vs, KV kvs vs ∧ h.DictOf (mixKind P w) a vs := dk_rd ok (.inl e)
theorem key_of {ks : List Key} (ok : HOk P w H h) (e : H a = some (.tup (ks.map kV))) : (tupleKind (mixKind P w)).is h ks a := by
  obtain ⟨_, its, r, o, h1, h2, n, h3⟩ := (show ObjOk P w H h a (.tup (ks.map kV)) from ok a _ e)
  exact ⟨o, its.toArray, n, h1, h2, h3, by simpa using items_are r⟩
theorem dt_rd {kvs : List (List Key × V)} (ok : HOk P w H h) (e : Rd H a (.dT kvs)) : kvs.length ≤ sizeLine ∧ (a == sysModules) = false ∧
    ∃ xs, KT H kvs xs ∧ h.DictOfH (tupleKind (mixKind P w)) a xs := by
  obtain ⟨z, y, xs, r, o, es, ep, h1, h2, h3, h4, h5⟩ := (show ObjOk P w H h a (.dT kvs) from rd_of ok e)
  refine ⟨z, y, xs, r, o, es, ep, h1, h2, h3, h4, fun x hx => ?_, h5⟩
  have all : ∀ {l : List (List Key × V)} {m : List (List Key × Addr × Value)}, KT H l m → ∀ x ∈ m, (tupleKind (mixKind P w)).is h x.1 x.2.1 := by
    intro l m q
    induction q with
    | nil => intro x hx; exact nomatch hx
    | @cons p q ps qs hq t ih =>
      intro x hx
      rcases List.mem_cons.mp hx with e | hx
      · subst e
        exact key_of ok (by rw [← hq.1]; exact hq.2.1)
      · exact ih x hx
  exact all r x hx
theorem dt_of {kvs : List (List Key × V)} (ok : HOk P w H h) (e : H a = some (.dT kvs)) : kvs.length ≤ sizeLine ∧ (a == sysModules) = false ∧
    ∃ xs, KT H kvs xs ∧ h.DictOfH (tupleKind (mixKind P w)) a xs := dt_rd ok (.inl e)
end

noncomputable def DGet (H : Hp) (a : Addr) (y : V) (r : Option V) : Prop :=
  (∃ kvs k, Rd H a (.dK kvs) ∧ y = kV k ∧ r = valV kvs k) ∨ ∃ kvs k b, Rd H a (.dT kvs) ∧ y = .ref b ∧ H b = some (.tup (k.map kV)) ∧ r = valV kvs k
noncomputable def DPut (H : Hp) (a : Addr) (y v : V) (H' : Hp) : Prop :=
  (∃ kvs k, H a = some (.dK kvs) ∧ y = kV k ∧ kvs.length < sizeLine ∧ H' = upd H a (.dK (putK kvs k v))) ∨
  ∃ kvs k b, H a = some (.dT kvs) ∧ y = .ref b ∧ H b = some (.tup (k.map kV)) ∧ kvs.length < sizeLine ∧ H' = upd H a (.dT (putK kvs k v))
theorem DGet.k {H : Hp} {a : Addr} {kvs : List (Key × V)} {k : Key} (e : H a = some (.dK kvs)) : DGet H a (kV k) (valV kvs k) := .inl ⟨kvs, k, .inl e, rfl, rfl⟩
theorem DGet.t {H : Hp} {a b : Addr} {kvs : List (List Key × V)} {k : List Key} (e : H a = some (.dT kvs)) (eb : H b = some (.tup (k.map kV))) : DGet H a (.ref b) (valV kvs k) := .inr ⟨kvs, k, b, .inl e, rfl, eb, rfl⟩
theorem DPut.k {H : Hp} {a : Addr} {kvs : List (Key × V)} {k : Key} {v : V} (e : H a = some (.dK kvs)) (hl : kvs.length < sizeLine) : DPut H a (kV k) v (upd H a (.dK (putK kvs k v))) := .inl ⟨kvs, k, e, rfl, hl, rfl⟩
theorem DPut.t {H : Hp} {a b : Addr} {kvs : List (List Key × V)} {k : List Key} {v : V} (e : H a = some (.dT kvs)) (eb : H b = some (.tup (k.map kV))) (hl : kvs.length < sizeLine) :
    DPut H a (.ref b) v (upd H a (.dT (putK kvs k v))) := .inr ⟨kvs, k, b, e, rfl, eb, hl, rfl⟩


section
variable {X : Cx} {pins : List (Addr × Obj)} {σ : St} {H : Hp} {s : Shared} {a : Addr} {y v : V} {u r : Value} {o : Option V} {A : Around} {E : Value → Shared → Prop}

theorem Inv.big (I : Inv X pins σ H s) : sysModules < s.heap.objs.size := by
  have h : mainGlobals < s.heap.objs.size := (I.mod.glob.keeps I.bk).lt
  exact Nat.lt_trans (by decide) h

theorem d_getItem {Q : Value → Shared → Prop} (hu : A.units + 1 < cLine) (I : Inv X pins σ H s) (g : DGet H a y (some v)) (ry : RelV y u) (h : ∀ w' s', Inv X pins σ H s' → RelV v w' → Q w' s') :
    wpAny (model X.prog X.w) A (getItem (.ref a) u) Q E s := by
  rcases g with ⟨kvs, k, e, ey, l⟩ | ⟨kvs, k, b, e, ey, eb, l⟩
  · subst ey
    obtain ⟨z, hd, vs, rel, dd⟩ := dk_rd I.hok e
    obtain ⟨w', hw, rw'⟩ := RelO.some_of (v := v) (o := valueAt vs k) (by rw [l]; exact rel.val k)
    exact wpAny_getItem_of (kV_is ry) dd.mapOf hw (h w' _ (I.tok _) rw')
  · subst ey
    cases (show u = Value.ref b from ry)
    obtain ⟨z, hd, xs, rel, dd⟩ := dt_rd I.hok e
    obtain ⟨w', hw, rw'⟩ := RelO.some_of (v := v) (o := (atKey xs k).map (·.2)) (by rw [l]; exact rel.val k)
    obtain ⟨p, hp, hp2⟩ := Option.map_eq_some_iff.mp hw
    refine wpAny_getItem_heap (tupleKind_room_in1 hu) (key_of I.hok eb) dd hp ?_
    rw [hp2]
    exact h w' _ (I.tok _) rw'
theorem d_in {Q : Value → Shared → Prop} (hu : A.units + 1 < cLine) (I : Inv X pins σ H s) (g : DGet H a y o) (ry : RelV y u) (h : ∀ s', Inv X pins σ H s' → Q (.bool o.isSome) s') :
    wpAny (model X.prog X.w) A (compareOp .In u (.ref a)) Q E s := by
  rcases g with ⟨kvs, k, e, ey, l⟩ | ⟨kvs, k, b, e, ey, eb, l⟩
  · subst ey
    obtain ⟨z, hd, vs, rel, dd⟩ := dk_rd I.hok e
    refine wpAny_in_of (kV_is ry) hd dd.mapOf ?_
    rw [← (rel.val k).isSome_eq, ← l]
    exact h _ (I.tok _)
  · subst ey
    cases (show u = Value.ref b from ry)
    obtain ⟨z, hd, xs, rel, dd⟩ := dt_rd I.hok e
    refine wpAny_in_heap (tupleKind_room_in1 hu) (key_of I.hok eb) hd dd ?_
    have q := (rel.val k).isSome_eq
    rw [Option.isSome_map] at q
    rw [← q, ← l]
    exact h _ (I.tok _)
theorem d_write {h' : Heap} {t' : Nat} {ob : HO} (I : Inv X pins σ H s) (mu : Mut (H a)) (hs : Heap.SameBut a s.heap h') (he : ∃ q, h'.get? a = some q) (new : ObjOk X.prog X.w (upd H a ob) h' a ob) :
    Inv X pins σ (upd H a ob) { s with heap := h', toks := t' } :=
  I.write (x := a) (e := a) mu (.inl rfl) (fun b q hb z => (hs.2 b hb).trans z) he new
theorem dk_new {P : Program} {w : World} {H' : Hp} {h' : Heap} {kvs : List (Key × V)} {vs : List (Key × Value)} (z : kvs.length ≤ sizeLine) (hd : (a == sysModules) = false) (rel : KV kvs vs) (dd : h'.DictOf (mixKind P w) a vs) :
    ObjOk P w H' h' a (.dK kvs) := ⟨z, hd, vs, rel, dd⟩
theorem d_setItem {H' : Hp} {Q : Unit → Shared → Prop} (hu : A.units + 1 < cLine) (I : Inv X pins σ H s) (g : DPut H a y v H') (ry : RelV y u) (rv : RelV v r) (h : ∀ s', Inv X pins σ H' s' → Q () s') :
    wpAny (model X.prog X.w) A (setItem (.ref a) u r) Q E s := by
  rcases g with ⟨kvs, k, e, ey, l, eH⟩ | ⟨kvs, k, b, e, ey, eb, l, eH⟩
  · subst ey eH
    obtain ⟨z, hd, vs, rel, dd⟩ := dk_of I.hok e
    have hz : vs.length ≤ sizeLine := by rw [← rel.length]; exact z
    have hl : (putK kvs k v).length ≤ sizeLine := by have := length_putK kvs k v; omega
    refine wpAny_setItem_pairs (hsz := hz) (kV_is ry) dd fun h' dd' hs => h _ ?_
    have he : ∃ q, h'.get? a = some q := let ⟨q, _, _, hq, _⟩ := dd'; ⟨q, hq⟩
    exact d_write I (by rw [e]; exact True.intro) hs he (dk_new hl hd (rel.put k rv) dd')
  · subst ey eH
    cases (show u = Value.ref b from ry)
    obtain ⟨z, hd, xs, rel, dd⟩ := dt_of I.hok e
    have hz : xs.length ≤ sizeLine := by rw [← Paired.length rel]; exact z
    have hl : (putK kvs k v).length ≤ sizeLine := by have := length_putK kvs k v; omega
    refine wpAny_setItem_heap (hsz := hz) (tupleKind_room_in1 hu) (key_of I.hok eb) dd fun h' dd' hs => h _ ?_
    obtain ⟨q, es, ep, hq, h2, h3, h4, _, h5⟩ := dd'
    refine d_write I (by rw [e]; exact True.intro) hs ⟨q, hq⟩ ⟨hl, hd, _, (rel.put k eb rv).keeps fun c ys ec => ?_, q, es, ep, hq, h2, h3, h4, h5⟩
    rw [upd_ne (ne_of ec e (fun z => nomatch z))]
    exact ec
end

section
variable {X : Cx} {pins : List (Addr × Obj)} {σ : St} {H : Hp} {s : Shared} {a : Addr} {kvs : List (Key × V)} {k : Key} {u : Value} {A : Around} {E : Value → Shared → Prop}
end


/-! ### readings and rules -/
noncomputable def NoSl (i : Expr) : Prop := ∀ ov iv, subscripted i false ov iv = operate [ov, iv] (getItem ov iv)
theorem subD_of {prog : Program} {w : World} {A : Around} {E : Value → Shared → Prop} {s : Shared} {env : Env} {value slice : Expr} {pos : Pos} {T id : String} {Q : Value → Shared → Prop}
    (hl : typeLookup (.type T) "__getitem__" = pure (some (.builtin id))) (hs : NoSl slice)
    (h : wpAny (model prog w) A (eval value env) (fun o s₁ => wpAny (model prog w) A (eval slice env) (fun i s₂ => s₂.TypeIs o T ∧ wpAny (model prog w) A (getItem o i) Q E s₂) E s₁) E s) :
    wpAny (model prog w) A (eval (.Subscript value slice pos) env) Q E s := by
  refine Subscript_ (wpAny_mono h (fun o s₁ h₁ => wpAny_mono h₁ (fun i s₂ h₂ => ?_) fun _ _ x => x) fun _ _ x => x)
  obtain ⟨hT, h₂⟩ := h₂
  unfold subscriptTail
  refine wpAny_bind ?_
  rw [getitemInPython_of_ne hT.not_modules]
  refine wpAny_bind (wpAny_specialOf hT hl ?_)
  have fin : wpAny (model prog w) A (subscripted slice false o i) (fun r s₃ => wpAny (model prog w) A (letTemporaryGo value o r >>= fun _ => pure r) Q E s₃) E s₂ := by
    rw [hs o i]
    exact wpAny_operating (wpAny_mono h₂ (fun r s₃ h₃ => wpAny_bind (wpAny_letTemporaryGo (wpAny_pure h₃))) fun _ _ x => x)
  first
    | exact wpAny_pure (wpAny_bind fin)
    | exact wpAny_bind (wpAny_pure (wpAny_bind fin))
    | exact wpAny_bind fin

theorem dict_typeIs {X : Cx} {pins : List (Addr × Obj)} {σ : St} {H : Hp} {s : Shared} {a : Addr} {y : V} {o : Option V} (I : Inv X pins σ H s) (g : DGet H a y o) : s.TypeIs (.ref a) "dict" := by
  rcases g with ⟨kvs, k, e, _, _⟩ | ⟨kvs, k, b, e, _, _, _⟩
  · obtain ⟨_, _, vs, _, dd⟩ := dk_rd I.hok e
    exact dd.typeIs
  · obtain ⟨_, _, xs, _, dd⟩ := dt_rd I.hok e
    exact dd.typeIs
inductive I_tDGet (x y : V) (H : Hp) (Q : VK) : Prop
  | mk (a : Addr) (v : V) (h1 : x = .ref a) (h2 : DGet H a y (some v)) (q : Q v H)
noncomputable def tDGet (td ty : TE) : TE := fun σ H Q => td σ H fun x H1 => ty σ H1 fun y H2 => I_tDGet x y H2 Q
noncomputable def tDIn (ty td : TE) : TE := fun σ H Q => ty σ H fun y H1 => td σ H1 fun x H2 => ∃ a o, x = .ref a ∧ DGet H2 a y o ∧ Q (.bl o.isSome) H2
inductive I_tDNotIn (x y : V) (H : Hp) (Q : VK) : Prop
  | mk (a : Addr) (o : Option V) (h1 : x = .ref a) (h2 : DGet H a y o) (q : Q (.bl (!o.isSome)) H)
noncomputable def tDNotIn (ty td : TE) : TE := fun σ H Q => ty σ H fun y H1 => td σ H1 fun x H2 => I_tDNotIn x y H2 Q
noncomputable def sDPut (td ty tv : TE) : TS := fun D σ H => tv σ H fun v H1 => td σ H1 fun x H2 => ty σ H2 fun y H3 => ∃ a H4, x = .ref a ∧ DPut H3 a y v H4 ∧ D.nx σ H4
section
variable {X : Cx} {o i e value : Expr} {pos pos' tpos : Pos} {td ty tv : TE}
theorem pe_dget (hu : X.A.units + 1 < cLine) (ho : PE X o td) (hi : PE X i ty) (hs : NoSl i) : PE X (.Subscript o i pos) (tDGet td ty) := by
  intro pins s σ H Q I h
  refine subD_of PySem.F.slot_dict_getitem.lookup hs (thn (ho pins s σ H _ I h) fun u s1 ⟨x, H1, I1, rx, q1⟩ => thn (hi pins s1 σ H1 _ I1 q1) fun iv s2 ⟨y, H2, I2, ry, a, v, ex, g, q2⟩ => ?_)
  subst ex
  obtain rfl : u = Value.ref a := rx
  exact ⟨dict_typeIs I2 g, d_getItem hu I2 g ry fun w' s3 I3 rw' => ⟨v, H2, I3, rw', q2⟩⟩
theorem pc_din (hu : X.A.units + 1 < cLine) (hi : PE X i ty) (ho : PE X o td) : PC X .In i o (tDIn ty td) := by
  intro pins s σ H Q I h
  refine thn (hi pins s σ H _ I h) fun iv s1 ⟨y, H1, I1, ry, q1⟩ => thn (ho pins s1 σ H1 _ I1 q1) fun u s2 ⟨x, H2, I2, rx, a, ov, ex, g, q2⟩ => ?_
  subst ex
  obtain rfl : u = Value.ref a := rx
  exact d_in hu I2 g ry fun s3 I3 => ⟨.bl ov.isSome, H2, I3, rfl, q2⟩
theorem ps_dput (hu : X.A.units + 1 < cLine) (ho : PE X o td) (hi : PE X i ty) (hv : PE X value tv) (hs : swapsWith value (some (.Subscript o i pos')) pos.line X.env = pure false) :
    PS X (.Assign [.Subscript o i pos'] value pos) (sDPut td ty tv) := by
  intro pins s σ H D I h
  refine wpAny_Assign_Subscript (thn (hv pins s σ H _ I h) fun r s1 ⟨v, H1, I1, rv, q1⟩ => thn (ho pins s1 σ H1 _ I1 q1) fun u s2 ⟨x, H2, I2, rx, q2⟩ => thn (hi pins s2 σ H2 _ I2 q2) fun iv s3 ⟨y, H3, I3, ry, a, H4, ex, g, q3⟩ => ?_) hs
  subst ex
  obtain rfl : u = Value.ref a := rx
  exact d_setItem hu I3 g ry rv fun s4 I4 => ⟨σ, H4, I4, q3⟩
end


/-! ### displays -/
theorem dt_empty {P : Program} {w : World} {H : Hp} (h : Heap) (hb : sysModules < h.objs.size) : ObjOk P w H (h.push { cls := .type "dict", data := .dict #[] }) h.objs.size (.dT []) :=
  ⟨Nat.zero_le _, beq_eq_false_iff_ne.mpr (Ne.symm (Nat.ne_of_lt hb)), [], .nil, _, #[], 0, Heap.get?_push_size _ rfl, ⟨rfl, rfl, rfl⟩, rfl, rfl, List.nodup_nil⟩
noncomputable def tDNewK : TE := fun _ H Q => ∀ p, H p = none → Q (.ref p) (upd H p (.dK []))
noncomputable def tDNewT : TE := fun _ H Q => ∀ p, H p = none → Q (.ref p) (upd H p (.dT []))
section
variable {X : Cx} {pos : Pos}
theorem pe_dnewT : PE X (.Dict [] [] pos) tDNewT := fun pins s σ H Q I h =>
  wpAny_Dict_empty ⟨.ref s.heap.objs.size, _, I.laid (a := s.heap.objs.size) (o := .dT []) (t' := s.toks) (fun _ _ q => Heap.get?_push_of_some _ q) (Nat.le_refl _) (dt_empty s.heap I.big), rfl, h _ (I.hok.fresh (Nat.le_refl _))⟩
end

/-! ### methods -/
structure M1 (X : Cx) (o : Expr) (m : Str) (apos : Pos) (e : Expr) (cpos : Pos) : Prop where
  base : attributeBase o m X.env (eval o X.env) = eval o X.env
  few : ((backTo cpos (starEach [e] X.env)).all (fun x => !x.1) && (backToKw cpos (keywordEach [] X.env)).all (fun x => x.1.isSome)
    && decide (([e] : List Expr).length + ([] : List Keyword).length + (if ([] : List Keyword).isEmpty then 0 else 1) < 30)) = true
  line : (apos.endLine == cpos.line) = true
  trees : backTo cpos (starEach [e] X.env) = [(false, eval e X.env)]
structure M2 (X : Cx) (o : Expr) (m : Str) (apos : Pos) (e f : Expr) (cpos : Pos) : Prop where
  base : attributeBase o m X.env (eval o X.env) = eval o X.env
  few : ((backTo cpos (starEach [e, f] X.env)).all (fun x => !x.1) && (backToKw cpos (keywordEach [] X.env)).all (fun x => x.1.isSome)
    && decide (([e, f] : List Expr).length + ([] : List Keyword).length + (if ([] : List Keyword).isEmpty then 0 else 1) < 30)) = true
  line : (apos.endLine == cpos.line) = true
  trees : backTo cpos (starEach [e, f] X.env) = [(false, eval e X.env), (false, eval f X.env)]

noncomputable def IsD (H : Hp) (a : Addr) : Prop := (∃ kvs, Rd H a (.dK kvs)) ∨ ∃ kvs, Rd H a (.dT kvs)
section
variable {X : Cx} {pins : List (Addr × Obj)} {σ : St} {H : Hp} {s : Shared} {a : Addr} {y d : V} {u r : Value} {o : Option V} {A : Around} {E : Value → Shared → Prop}
end

noncomputable def tDGet1 (td ty : TE) : TE := fun σ H Q => td σ H fun x H1 => ∃ a, x = .ref a ∧ IsD H1 a ∧ ty σ H1 fun y H2 => ∃ o, DGet H2 a y o ∧ Q (o.getD .non) H2
noncomputable def tDGet2 (td ty tx : TE) : TE := fun σ H Q => td σ H fun x H1 => ∃ a, x = .ref a ∧ IsD H1 a ∧ ty σ H1 fun y H2 => tx σ H2 fun z H3 => ∃ o, DGet H3 a y o ∧ Q (o.getD z) H3
section
variable {X : Cx} {o e f : Expr} {apos cpos : Pos} {td ty tx : TE}
end

/-! ### dict(d): a copy -/
section
variable {X : Cx} {pins : List (Addr × Obj)} {σ : St} {H : Hp} {s : Shared} {a : Addr} {kvs : List (Key × V)} {A : Around} {E : Value → Shared → Prop}
end


section
variable {X : Cx} {pins : List (Addr × Obj)} {σ : St} {H : Hp} {s : Shared} {a : Addr} {y : V} {u : Value} {A : Around} {E : Value → Shared → Prop}
end
end L2


namespace Att
open PySem PySem.W PySem.Calls PyProof.Rows

/-! ### the script -/
theorem ints_of_wellAll {P : Params} {h : Heap} : ∀ (ns : List Int) (vs : List Value), WellAll P h vs (ns.map WData.int) → IntsAre vs ns := by
  intro ns
  induction ns with
  | nil =>
    intro vs w
    rw [List.map_nil] at w
    cases w
    exact .nil
  | cons n ns ih =>
    intro vs w
    rw [List.map_cons] at w
    cases w with
    | cons a b =>
      cases a
      exact .cons _ _ (ih _ b)

theorem script_of {l : OpenLaw} {n : Nat} (hn : l.most = some n) {P : Params} {h : Heap} {args : List WData} {vals : List Value}
    (hpre : l.row.toRowW.claim.pre args = true) (hwl : WellAll P h vals args) :
    ∃ a vs ns, vals = [Value.ref a] ∧ args = [WData.list (ns.map WData.int)] ∧ h.get? a = some { cls := .type "list", data := .seq vs.toArray } ∧ IntsAre vs ns ∧ ns.length ≤ n := by
  have hsh : WShape.hasAll [] args [.list .int] = true := (pre_splitW hpre).1
  have hc : l.pre.holds [] { args := args } = true := (pre_splitW hpre).2
  obtain ⟨d, r, rfl, h1, h2⟩ := hasAllW_cons hsh
  obtain rfl := hasAllW_nil h2
  obtain ⟨xs, rfl, h3⟩ := hasW_list h1
  obtain ⟨ns, rfl⟩ := items_int h3
  have hlen : ns.length ≤ n := by
    unfold OpenLaw.pre at hc
    have h4 : (WTm.not (.lt (.lit (.int (n : Int))) (.len (.arg 0)))).holds [] { args := [.list (ns.map .int)] } = true := by
      have h4 := (holds_andW hc).1
      rw [hn] at h4
      exact h4
    have h5 := condW_of h4 (w_not (w_lt w_lit (w_len_list (w_arg rfl))))
    rw [List.length_map] at h5
    refine Nat.le_of_not_lt fun q => ?_
    have q' : (n : Int) < ((ns.length : Nat) : Int) := by omega
    first
      | (rw [decide_eq_true q'] at h5; exact absurd h5 (by decide))
      | (simp at h5; omega)
  cases hwl with
  | cons w1 w2 =>
    cases w2
    cases w1 with
    | list ho hall => exact ⟨_, _, ns, rfl, rfl, ho, ints_of_wellAll ns _ hall, hlen⟩

theorem post_true (l : OpenLaw) (args : List WData) : l.row.toRowW.claim.post args (.bool true) args = true :=
  postW_of (r := l.row.toRowW) (X := (true == true))
    (show WShape.has [] (.bool true) .bool = true by first | rfl | decide | simp [WShape.has, WShape.arms, WShape.armsAll])
    (show (WTm.eq .res (.lit (.bool true))).value [] { args := args, res := some (.bool true), after := args } = some (.bool (true == true)) from w_eq_bool (w_res rfl) w_lit) rfl

/-! ### the attachment: holds_open's last premise (the goal 'hc' behind k_head) from a wpAny of the law's body -/
theorem attach_call {l : OpenLaw} {n : Nat} {q : Program} {loose : List Str} {XP : (Str → Option Value) → Heap → Prop} {YP : World → Heap → Prop} {d : DefRec}
    (hn : l.most = some n) (hdf : d.params.defaults = [])
    (call : ∀ (w : World) (s₀ s₁ : Shared) (mg mb : Str → Option Value) (fa : Addr) (o : Obj) (pm cd doc : Value) (a : Addr) (vs : List Value) (ns : List Int),
      Ground q loose [] XP w s₀ mg mb s₁.heap → YP w s₁.heap →
      s₁.heap.get? fa = some o → o.data = .func (docDef d.name d.params d.body d.scope pm cd doc) → s₁.heap.CodeRec cd d.name → mg d.name = some (.ref fa) →
      s₁.heap.get? a = some { cls := .type "list", data := .seq vs.toArray } → IntsAre vs ns → ns.length ≤ n → s₁.gens = #[] →
      codeAny (model l.prog w) callerA (.call (.ref fa) ⟨[.ref a], []⟩) (fun r s' => r = .ok (.ret (.bool true)) ∧ OldK s₁.heap s'.heap ∧ s'.os = s₁.os ∧ AllBare s'.gens) s₁) :
    WalkO q loose XP YP l.row.toRowW d [] (fun f vs => PySem.call f vs) := by
  intro w s₀ s₁ mg mb G Y fa o pm cd doc dV kV ho hd hcd hD hmg hg args vals as hpre hlay hrd hwl hlo
  obtain rfl : dV = .none := Dflts.none hD hdf
  obtain rfl : kV = .none := Dflts.noKw hD
  obtain ⟨a, vs, ns, rfl, rfl, hobj, hints, hlen⟩ := script_of hn hpre hwl
  refine enter_call (codeAny_mono (call w s₀ s₁ mg mb fa o pm cd doc a vs ns G Y ho (fd_plain hd) hcd hmg hobj hints hlen hg) fun r s' hq => ?_)
  obtain ⟨rfl, h2, h3, h4⟩ := hq
  exact ⟨.inl ⟨.bool true, .bool true, [], rfl, fun _ => rfl, .bool true, post_true l _, fun _ => ⟨List.Pairwise.nil, fun _ hm => (nomatch hm)⟩⟩, h2, h3, h4⟩

/-! ### rules over ANY heap (no ledger) from facts about the written part K: the library's own take a ledger (News) for what they write -/
section
variable {prog : Program} {w : World} {A : Around} {E : Value → Shared → Prop} {s : Shared} {K : Frag}

/-! the whole heap as the ledger: makes every rule that writes through a ledger a rule over any heap -/
noncomputable def ledger (h : Heap) (L d : Addr) : List (Addr × Obj) := (List.range h.objs.size).filterMap fun a => if a = L ∨ a = d then none else (h.get? a).map fun o => (a, o)
end
end Att

namespace L2
open PySem PySem.Spec PyProof.Rows

theorem vals_ints : ∀ {vs : List Value} {ns : List Int}, IntsAre vs ns → Vals (ns.map V.int) vs
  | _, _, .nil => .nil
  | _, _, .cons n t h => .cons ⟨t, rfl⟩ (vals_ints h)

noncomputable def Only (H : Hp) : Prop := ∀ b, H b = none ∨ ∃ o xs, H b = some (.frz o (.lst xs))

theorem law_call {P : Program} {w : World} {K : PySem.W.Frag} {mg mb : Str → Option Value} {CX : CXT} {k : Nat} {fa a : Addr} {fd : FuncData} {x : Str} {sp : Sp} {s₁ : Shared} {vs : List Value} {ns : List Int}
    (KX : K.In s₁.heap) (hns : s₁.heap.Ns mainGlobals mg) (hb : s₁.heap.Ns builtinsNs mb) (hbb : ∀ x : Str, x ≠ "__name__" → mb x = bootBuiltins x) (hlim : s₁.heap.NoLimit) (hg : s₁.gens = #[])
    (ha : s₁.heap.get? a = some { cls := .type "list", data := .seq vs.toArray }) (hi : IntsAre vs ns) (hl : ns.length ≤ sizeLine) (hr : Room k callerA)
    (F : ∀ base : Heap, K.In base → base.Ns mainGlobals mg → FnOk P w K mg base CX k fa fd [x] sp) (hbind : ∀ (s : Shared) (u : Value), BindsTo s fd ⟨[u], []⟩ [(x, u)])
    (hsp : ∀ H : Hp, Only H → SqL K H a (ns.map V.int) → sp [.ref a] H (fun v _ => v = .bl true) fun _ _ _ => False)
    (hCX : ∀ H e s', CX [] H s₁ (fun _ _ _ => False) e s' → False) :
    codeAny (model P w) callerA (.call (.ref fa) ⟨[.ref a], []⟩) (fun r s' => r = .ok (.ret (.bool true)) ∧ OldK s₁.heap s'.heap ∧ s'.os = s₁.os ∧ AllBare s'.gens) s₁ := by
  have rv := vals_ints hi
  have lenV := hi.length
  -- from an abstract heap in which nothing but the script may be tracked
  have core : ∀ H : Hp, Only H → SqL K H a (ns.map V.int) → HOk P w H s₁.heap → (∀ b, H b ≠ none → b = a) → (H a ≠ none → K.lookup a = none) →
      codeAny (model P w) callerA (.call (.ref fa) ⟨[.ref a], []⟩) (fun r s' => r = .ok (.ret (.bool true)) ∧ OldK s₁.heap s'.heap ∧ s'.os = s₁.os ∧ AllBare s'.gens) s₁ := by
    intro H hO hS hok hA hK
    have base_of : ∀ {b : Addr} {o : Obj}, s₁.heap.get? b = some o → H b = none → (hidT s₁.heap H).get? b = some o := fun e n => hidT_get e n
    have noA : ∀ {b : Addr} {o : Obj} {es : Array DictEntry} {ep : Nat}, s₁.heap.get? b = some o → o.data = .dict es ep → H b = none := fun {b o es ep} e d => by
      cases q : H b with
      | none => rfl
      | some u =>
        have e' : b = a := hA b (by rw [q]; simp)
        subst e'
        rw [ha] at e; cases e
        have d' : Data.seq vs.toArray _ = Data.dict es ep := d
        cases d'
    have nsK : ∀ {b : Addr} {m : Str → Option Value}, s₁.heap.Ns b m → (hidT s₁.heap H).Ns b m := fun {b m} ⟨o, es, ep, e, d, r⟩ => ⟨o, es, ep, base_of e (noA e d), d, r⟩
    have hKb : K.In (hidT s₁.heap H) := fun b o e => base_of (KX b o e) (by
      cases q : H b with
      | none => rfl
      | some u =>
        have e' : b = a := hA b (by rw [q]; simp)
        subst e'
        rw [hK (by rw [q]; simp)] at e; cases e)
    have hM : Mod K mg (hidT s₁.heap H) := ⟨hKb, nsK hns, ⟨mb, nsK hb, hbb⟩, let ⟨mc, h1, h2⟩ := hlim; ⟨mc, nsK h1, h2⟩⟩
    have e0 : Env0 P w K mg (hidT s₁.heap H) callerA [] s₁ H := ⟨rfl, hM, fun b o e => of_hidT e, Nat.le_of_eq (hidT_size _ _), trivial, fun b hb => absurd (show b ∈ ([] : List Addr) from hb) (by simp), hok, .of_eq hg⟩
    refine codeAny_mono ((F _ hKb (nsK hns)).run callerA [] s₁ H ⟨[.ref a], []⟩ [.ref a] [.ref a] _ _ hr e0 (hbind s₁ (.ref a)) (.cons rfl .nil) (hsp H hO hS)) fun r s' h => ?_
    cases r with
    | error e => exact (hCX H e s' h).elim
    | ok fl =>
      cases fl with
      | next => exact False.elim h
      | brk => exact False.elim h
      | cont => exact False.elim h
      | ret u =>
        obtain ⟨v, H', os, bare, un, hok', r', q⟩ := h
        have q' : v = .bl true := q
        subst q'
        obtain rfl : u = Value.bool true := r'
        refine ⟨rfl, OldK.of_keep fun b o e => ?_, os, bare⟩
        cases q : H b with
        | none => exact un.keep b o e q (by intro z; exact absurd (show b ∈ ([] : List Addr) from z) (by simp)) (by simp)
        | some u =>
          rcases hO b with z | ⟨ob, xs, z⟩
          · rw [q] at z; cases z
          · have z2 := un.frzs b ob _ z
            obtain ⟨e1, _⟩ := hok b _ z
            obtain ⟨e2, _⟩ := hok' b _ z2
            rw [e] at e1; cases e1
            exact e2
  cases hk : K.lookup a with
  | some o =>
    -- the script is one of the module's own objects
    have e := KX a o hk
    rw [ha] at e
    cases e
    refine core (fun _ => none) (fun _ => .inl rfl) (.inr ⟨_, vs.toArray, _, hk, rfl, rfl, rfl, by rw [List.size_toArray, lenV]; exact hl, by simpa using rv⟩) (fun b u z => by have z' : (none : Option HO) = some u := z; cases z') (fun b z => absurd rfl z) fun z => absurd rfl z
  | none =>
    refine core (fun b => if b = a then some (.frz { cls := .type "list", data := .seq vs.toArray } (.lst (ns.map V.int))) else none) (fun b => ?_) (.inl (.inr ⟨{ cls := .type "list", data := .seq vs.toArray }, if_pos rfl⟩)) (fun b u z => ?_) (fun b z => ?_) fun _ => hk
    · by_cases hb : b = a
      · exact .inr ⟨_, _, if_pos hb⟩
      · exact .inl (if_neg hb)
    · by_cases hb : b = a
      · have z' := (if_pos hb).symm.trans z
        cases z'
        subst hb
        exact ⟨ha, by rw [List.length_map]; exact hl, vs, _, rv, ha⟩
      · have z' := (if_neg hb).symm.trans z
        cases z'
    · by_cases hb : b = a
      · exact hb
      · exact absurd (if_neg hb) z
end L2

namespace L2
open PySem PySem.Spec PyProof.Rows

theorem walk_of {l : PySem.W.OpenLaw} {n k : Nat} {q : Program} {loose : List Str} {XP : (Str → Option Value) → Heap → Prop} {YP : World → Heap → Prop} {d : DefRec} {K : Params → PySem.W.Frag} {CX : World → CXT} {sp : World → Sp} {x : Str}
    (hn : l.most = some n) (hn2 : n ≤ sizeLine) (hdf : d.params.defaults = []) (hr : Room k callerA)
    (hY : ∀ (w : World) (h : Heap), YP w h → (K w.params).In h)
    (F : ∀ (w : World) (mg : Str → Option Value) (fa : Addr) (h : Heap), (K w.params).In h → h.Ns mainGlobals mg → mg d.name = some (.ref fa) →
      ∃ fd : FuncData, (∀ (s : Shared) (u : Value), BindsTo s fd ⟨[u], []⟩ [(x, u)]) ∧
        ∀ base : Heap, (K w.params).In base → base.Ns mainGlobals mg → FnOk l.prog w (K w.params) mg base (CX w) k fa fd [x] (sp w))
    (hsp : ∀ (w : World) (H : Hp) (a : Addr) (ns : List Int), ns.length ≤ n → Only H → SqL (K w.params) H a (ns.map V.int) → sp w [.ref a] H (fun v _ => v = .bl true) fun _ _ _ => False)
    (hCX : ∀ (w : World) (H : Hp) (s : Shared) (e : Value) (s' : Shared), CX w [] H s (fun _ _ _ => False) e s' → False) :
    PySem.W.WalkO q loose XP YP l.row.toRowW d [] (fun f vs => PySem.call f vs) := by
  refine Att.attach_call hn hdf fun w s₀ s₁ mg mb fa o pm cd doc a vs ns G Y ho hd hcd hmg hobj hints hlen hg => ?_
  have KX := hY w _ Y
  obtain ⟨fd, hb, hF⟩ := F w mg fa _ KX G.T.g hmg
  exact law_call KX G.T.g G.T.b G.T.builtins G.T.nolimit hg hobj hints (Nat.le_trans hlen hn2) hr hF hb (fun H hO hS => hsp w H a ns hlen hO hS) fun H e s' => hCX w H s₁ e s'
end L2

namespace L2
open PySem PySem.Spec PyProof.Rows

/-! ### the text by places -/
noncomputable def inClass (s : Stmt) (j : Nat) : Stmt := match s with
  | .ClassDef _ _ _ body _ _ _ _ _ _ _ => body.getD j (.Pass ⟨0, 0, 0, 0⟩)
  | _ => .Pass ⟨0, 0, 0, 0⟩
noncomputable def defArgs (s : Stmt) : Arguments := match s with
  | .FunctionDef _ a _ _ _ _ _ _ _ _ => a
  | _ => { posonlyargs := [], args := [], vararg := none, kwonlyargs := [], kw_defaults := [], kwarg := none, defaults := [] }
noncomputable def defBody (s : Stmt) : List Stmt := match s with
  | .FunctionDef _ _ b _ _ _ _ _ _ _ => b
  | _ => []
noncomputable def defScope (s : Stmt) : Scope := match s with
  | .FunctionDef _ _ _ _ _ _ sc _ _ _ => sc
  | _ => { kind := .function, names := [], isGenerator := false, isCoroutine := false }

/-! ### no exception leaves a def -/
noncomputable abbrev CX0 : CXT := fun _ _ _ _ _ _ => False
noncomputable abbrev E0 : XK := fun _ _ _ => False
theorem pass0 {X : Cx} : Passes CX0 X E0 := fun _ _ _ _ _ _ _ h => h.elim

/-! ### a def (or method) of the text as it stands behind the top -/
structure Fun (K : PySem.W.Frag) (x qual : Str) (st : Stmt) (f : Addr) (fd : FuncData) : Prop where
  ex : ∃ (oc : Value) (od : Option Addr) (kV doc pm : Value) (an : Option Addr) (cdv ct : Value) (osl : Array (Option Value)),
    fd = PySem.W.fnOf x qual (defArgs st) (defBody st) (defScope st) .none kV doc pm an cdv ct ∧ K.lookup f = some ⟨oc, od, .func fd, osl⟩ ∧ PySem.W.codeIn K cdv qual = true
  kp : PySem.W.keepIn K (.ref f) = true
section
variable {P : Program} {w : World} {K : PySem.W.Frag} {mg : Str → Option Value} {base : Heap}
theorem Fun.ok {x qual : Str} {st : Stmt} {f : Addr} {fd : FuncData} {N ps : List Str} {k : Nat} {sp : Sp} (F : Fun K x qual st f fd) (S : FnScope N ps (defScope st)) (len : ∀ vs H Q E, sp vs H Q E → vs.length = ps.length)
    (hbody : ∀ (cdv : Value) (A : Around) (outer : List Env) (s : Shared) (H : Hp) (vs : List V) (Q : VK) (E : XK), Room k (A.deeper (envOfC qual (defScope st) s.heap.objs.size f cdv)) → sp vs H Q E →
      ∃ t, PSs (cxOf CX0 P w K mg base N qual (defScope st) f cdv A outer s H E).nox (defBody st) t ∧ t { nx := fun _ H' => Q .non H', rt := Q } (start N vs) H) : FnOk P w K mg base CX0 (k + 1) f fd ps sp := by
  obtain ⟨oc, od, kV, doc, pm, an, cdv, ct, osl, rfl, lk, hcd⟩ := F.ex
  refine fn_of lk hcd S len fun A outer s H vs Q E hr hsp => ?_
  obtain ⟨t, h, q⟩ := hbody cdv A outer s H vs Q E hr hsp
  exact ⟨t, h.nox, q⟩
theorem Fun.binds {x qual : Str} {st : Stmt} {f : Addr} {fd : FuncData} {ps : List Str} (F : Fun K x qual st f fd)
    (h : ∀ (kV doc pm : Value) (an : Option Addr) (cdv ct : Value) (us : List Value), us.length = ps.length → bindArgs (PySem.W.fnOf x qual (defArgs st) (defBody st) (defScope st) .none kV doc pm an cdv ct) ⟨us, []⟩ = pure (ps.zip us)) : Binds K fd ps [] := by
  obtain ⟨oc, od, kV, doc, pm, an, cdv, ct, osl, rfl, lk, hcd⟩ := F.ex
  exact .all (h kV doc pm an cdv ct)
theorem fun_mk {x qual : Str} {st : Stmt} {f : Addr} {oc : Value} {od an : Option Addr} {osl : Array (Option Value)} {kV doc pm cdv ct : Value} (l : K.lookup f = some ⟨oc, od, .func (PySem.W.fnOf x qual (defArgs st) (defBody st) (defScope st) .none kV doc pm an cdv ct), osl⟩)
    (c : PySem.W.codeIn K cdv qual = true) (k : PySem.W.keepIn K (.ref f) = true) : Fun K x qual st f (PySem.W.fnOf x qual (defArgs st) (defBody st) (defScope st) .none kV doc pm an cdv ct) := ⟨⟨oc, od, kV, doc, pm, an, cdv, ct, osl, rfl, l, c⟩, k⟩
end
theorem hu_of {A : Around} {k : Nat} (hr : Room k A) : A.units + 1 < cLine := Nat.lt_of_le_of_lt (Nat.add_le_add_left (by decide : 1 ≤ 64) _) hr.units
/-! ### expressions in short: the name that stands in the i-th slot -/
section
variable {X : Cx}
theorem pv (i : Nat) {x : Str} {pos : Pos} (hN : X.N[i]? = some x := by rfl) (hv : Vis X.env.scope x := by first | exact Or.inl rfl | exact Or.inr (Or.inl rfl) | exact Or.inr (Or.inr rfl)) (hd : (x == ("__debug__" : Str)) = false := by decide)
    (hcd : (x == ("__classdict__" : Str)) = false := by decide) : PE X (.Name x pos) (tVar i) := pe_var hN hv hd hcd
end

/-! ### tests -/
theorem iteF {A B : Prop} (h : B) : if false = true then A else B := by
  rw [if_neg Bool.false_ne_true]
  exact h
theorem iteT {A B : Prop} (h : A) : if true = true then A else B := by
  rw [if_pos rfl]
  exact h
theorem ite2 {c A B : Prop} [Decidable c] (h1 : c → A) (h2 : ¬ c → B) : if c then A else B := by
  by_cases h : c
  · rw [if_pos h]
    exact h1 h
  · rw [if_neg h]
    exact h2 h
/-! ### heaps -/
noncomputable def Same (H H' : Hp) : Prop := ∀ b o, H b = some o → H' b = some o
theorem Same.refl (H : Hp) : Same H H := fun _ _ h => h
theorem Same.trans {H H1 H2 : Hp} (a : Same H H1) (b : Same H1 H2) : Same H H2 := fun c o h => b c o (a c o h)
theorem Same.free {H H' : Hp} (e : Same H H') {l : Addr} (h : H' l = Option.none) : H l = Option.none := by
  cases q : H l with
  | none => rfl
  | some o =>
    rw [e l o q] at h
    cases h
theorem Same.seq {K : PySem.W.Frag} {H H' : Hp} {a : Addr} {xs : List V} (e : Same H H') (h : SqL K H a xs) : SqL K H' a xs := by
  rcases h with (h | ⟨o, h⟩) | h
  · exact .inl (.inl (e _ _ h))
  · exact .inl (.inr ⟨o, e _ _ h⟩)
  · exact .inr h

/-! ### a dict's pairs: keys that differ -/
section
variable {κ : Type} [DecidableEq κ]
theorem valV_not {kvs : List (κ × V)} {k : κ} (h : valV kvs k = none) : ¬ k ∈ kvs.map (·.1) := by
  intro m
  obtain ⟨p, hp, e⟩ := List.mem_map.mp m
  have q : (kvs.any fun kv => decide (kv.1 = k)) = true := List.any_eq_true.mpr ⟨p, hp, decide_eq_true e⟩
  rw [valV_any, h] at q
  exact absurd q (by simp)
theorem valV_in {kvs : List (κ × V)} {k : κ} {v : V} (h : valV kvs k = some v) : k ∈ kvs.map (·.1) := by
  have q : (kvs.any fun kv => decide (kv.1 = k)) = true := by
    rw [valV_any, h]
    all_goals rfl
  obtain ⟨p, hp, e⟩ := List.any_eq_true.mp q
  exact List.mem_map.mpr ⟨p, hp, of_decide_eq_true e⟩
end
end L2

set_option Elab.async false
set_option linter.all false
set_option maxRecDepth 100000
namespace Ww
open PySem PySem.W PyProof.Rows

/-! ### sorting by asking: the pure part -/
noncomputable def Sat (lt : Nat → Nat → Bool) (n : Nat) {α : Type} : KasT α → (α → Prop) → Prop
  | .ret a, P => P a
  | .ask i j k, P => i < n ∧ j < n ∧ Sat lt n (k (lt i j)) P
theorem sat_bind {lt : Nat → Nat → Bool} {n : Nat} {α β : Type} {f : α → KasT β} {P : β → Prop} : ∀ (t : KasT α), Sat lt n t (fun a => Sat lt n (f a) P) → Sat lt n (t.bind f) P
  | .ret _, h => h
  | .ask i j k, h => ⟨h.1, h.2.1, sat_bind (k (lt i j)) h.2.2⟩
theorem sat_mono {lt : Nat → Nat → Bool} {n : Nat} {α : Type} {P P' : α → Prop} (hp : ∀ a, P a → P' a) : ∀ (t : KasT α), Sat lt n t P → Sat lt n t P'
  | .ret a, h => hp a h
  | .ask i j k, h => ⟨h.1, h.2.1, sat_mono hp (k (lt i j)) h.2.2⟩

section
variable {O : KeyOrd} {key : Nat → O.α} {n : Nat}
noncomputable def lk (O : KeyOrd) (key : Nat → O.α) : Nat → Nat → Bool := fun i j => O.blt (key i) (key j)
noncomputable def KP (O : KeyOrd) (key : Nat → O.α) (p : Array Nat) (i : Nat) : O.α := key (p.getD i 0)
noncomputable def SortP (O : KeyOrd) (key : Nat → O.α) (p : Array Nat) (k : Nat) : Prop := ∀ i j, i ≤ j → j < k → O.kle (KP O key p i) (KP O key p j)
noncomputable def NonP (O : KeyOrd) (key : Nat → O.α) (p : Array Nat) (k : Nat) : Prop := ∀ i j, i ≤ j → j < k → O.kle (KP O key p j) (KP O key p i)
structure PB (n : Nat) (p : Array Nat) : Prop where
  perm : p.Perm (List.range n).toArray
theorem PB.size {p : Array Nat} (h : PB n p) : p.size = n := by rw [h.perm.size_eq]; simp
theorem PB.lt {p : Array Nat} (h : PB n p) (hn : 0 < n) (i : Nat) : p.getD i 0 < n := by
  by_cases hi : i < p.size
  · have e : p.getD i 0 = p[i] := by simp [Array.getD, hi]
    rw [e]
    have hm : p[i] ∈ (List.range n).toArray.toList := (Array.perm_iff_toList_perm.mp h.perm).mem_iff.mp (by simp)
    simpa using hm
  · have e : p.getD i 0 = 0 := by simp [Array.getD, hi]
    rw [e]; exact hn
theorem PB.of {p q : Array Nat} (h : PB n p) (hp : q.Perm p) : PB n q := ⟨hp.trans h.perm⟩
theorem KP_congr {p q : Array Nat} {i j : Nat} (h : p[i]? = q[j]?) : KP O key p i = KP O key q j := by
  unfold KP
  rw [Array.getD_eq_getD_getElem?, Array.getD_eq_getD_getElem?, h]
theorem KP_bubble {xs : Array Nat} {src d : Nat} (hs : src < xs.size) (hd : d ≤ src) (k : Nat) :
    KP O key (bubble xs src d) k = if k = src - d then KP O key xs src else if src - d < k ∧ k ≤ src then KP O key xs (k - 1) else KP O key xs k := by
  have e := getElem?_bubble hs d hd k
  by_cases h1 : k = src - d
  · rw [if_pos h1] at e ⊢; exact KP_congr e
  · rw [if_neg h1] at e ⊢
    by_cases h2 : src - d < k ∧ k ≤ src
    · rw [if_pos h2] at e ⊢; exact KP_congr e
    · rw [if_neg h2] at e ⊢; exact KP_congr e
theorem KP_mirror {xs : Array Nat} {i j : Nat} (hj : j ≤ xs.size) (k : Nat) :
    KP O key (kas_rev xs i j) k = if i ≤ k ∧ k < j then KP O key xs (i + j - 1 - k) else KP O key xs k := by
  have e := getElem?_mirror_all (i := i) hj k
  unfold kas_rev
  by_cases h1 : i ≤ k ∧ k < j
  · rw [if_pos h1] at e ⊢; exact KP_congr e
  · rw [if_neg h1] at e ⊢; exact KP_congr e
theorem KP_mirror_equal {xs : Array Nat} {i j : Nat} (hj : j ≤ xs.size) (heq : ∀ k, i ≤ k → k < j → KP O key xs k = KP O key xs (j - 1)) (k : Nat) :
    KP O key (kas_rev xs i j) k = KP O key xs k := by
  rw [KP_mirror hj]
  split
  · rw [heq _ (by omega) (by omega), heq k (by omega) (by omega)]
  · rfl
theorem rev_pb {p : Array Nat} (h : PB n p) (i j : Nat) : PB n (kas_rev p i j) := h.of (mirror_perm _ _ _ _)

theorem sat_asc {p : Array Nat} {P : Nat → Prop} (hB : PB n p) (hn0 : 0 < n) {nrem : Nat} (hn : nrem ≤ n) : ∀ (f a : Nat), 1 ≤ a → a + f = nrem → SortP O key p a →
    (∀ m, a ≤ m → m ≤ nrem → SortP O key p m → (m = nrem ∨ O.klt (KP O key p m) (KP O key p (m - 1))) → P m) → Sat (lk O key) n (kas_asc p f a) P
  | 0, a, h1, hf, hs, h => h a (Nat.le_refl _) (by omega) hs (.inl (by omega))
  | f + 1, a, h1, hf, hs, h => by
    show _ < n ∧ _ < n ∧ Sat _ _ (if lk O key _ _ = true then _ else _) _
    refine ⟨hB.lt hn0 _, hB.lt hn0 _, ?_⟩
    cases hless : lk O key (p.getD a 0) (p.getD (a - 1) 0) with
    | true =>
      try dsimp only
      rw [if_pos rfl]
      exact h a (Nat.le_refl _) (by omega) hs (.inr hless)
    | false =>
      try dsimp only
      rw [if_neg (by simp)]
      refine sat_asc hB hn0 hn f (a + 1) (by omega) (by omega) (fun i j hij hj => ?_) fun m h1 h2 h3 h4 => h m (by omega) h2 h3 h4
      by_cases hjx : j < a
      · exact hs i j hij hjx
      · have hj' : j = a := by omega
        subst hj'
        by_cases hi' : i = j
        · subst hi'; exact KeyOrd.kle_refl _
        · exact KeyOrd.kle_trans (hs i (j - 1) (by omega) (by omega)) hless

theorem sat_tail3 {p : Array Nat} {P : Nat × Array Nat → Prop} (hB : PB n p) (hn0 : 0 < n) {m nrem : Nat} (hn : nrem ≤ n) (h1 : 1 ≤ m) (hm : m ≤ nrem) (hs : NonP O key p m)
    (h : ∀ k q, PB n q → 1 ≤ k → k ≤ nrem → SortP O key q k → P (k, q)) : Sat (lk O key) n (kas_tail3 m nrem p) P := by
  have hsz : m ≤ p.size := by rw [hB.size]; omega
  refine sat_bind _ (sat_asc (rev_pb hB 0 m) hn0 hn (nrem - m) m h1 (by omega) ?_ fun k hk1 hk2 hsk _ => h k _ (rev_pb hB 0 m) (by omega) hk2 hsk)
  intro i j hij hj
  rw [KP_mirror hsz, KP_mirror hsz, if_pos (by omega), if_pos (by omega)]
  exact hs _ _ (by omega) (by omega)

theorem sat_desc {P : Array Nat × Nat × Nat → Prop} (hn0 : 0 < n) {nrem : Nat} (hn : nrem ≤ n) : ∀ (f : Nat) (p : Array Nat) (x q : Nat), PB n p → 1 ≤ x → x + f = nrem → NonP O key p x → q + 1 ≤ x →
    (∀ i, x - (q + 1) ≤ i → i < x → KP O key p i = KP O key p (x - 1)) →
    (∀ m q' p', PB n p' → x ≤ m → m ≤ nrem → NonP O key p' m → q' + 1 ≤ m → (∀ i, m - (q' + 1) ≤ i → i < m → KP O key p' i = KP O key p' (m - 1)) → P (p', m, q')) →
    Sat (lk O key) n (kas_desc f p x q) P
  | 0, p, x, q, hB, h1, hf, hs, hq, he, h => h x q p hB (Nat.le_refl _) (by omega) hs hq he
  | f + 1, p, x, q, hB, h1, hf, hs, hq, he, h => by
    show _ < n ∧ _ < n ∧ Sat _ _ (if lk O key _ _ = true then _ else _) _
    refine ⟨hB.lt hn0 _, hB.lt hn0 _, ?_⟩
    have hsz : x ≤ p.size := by rw [hB.size]; omega
    cases hless : lk O key (p.getD x 0) (p.getD (x - 1) 0) with
    | true =>
      try dsimp only
      rw [if_pos rfl]
      have step1 : ∀ ys : Array Nat, (∀ k, KP O key ys k = KP O key p k) → NonP O key ys (x + 1) := by
        intro ys hk i j hij hj
        rw [hk, hk]
        by_cases hjx : j < x
        · exact hs i j hij hjx
        · have hj' : j = x := by omega
          subst hj'
          by_cases hi' : i = j
          · subst hi'; exact KeyOrd.kle_refl _
          · exact KeyOrd.kle_trans (KeyOrd.kle_of_klt hless) (hs i (j - 1) (by omega) (by omega))
      by_cases hneq : q > 0
      · rw [if_pos hneq]
        exact sat_desc hn0 hn f _ (x + 1) 0 (rev_pb hB _ _) (by omega) (by omega) (step1 _ (KP_mirror_equal hsz he)) (by omega) (fun i h1 h2 => by congr 1; omega) fun m q' p' b1 b2 b3 b4 b5 b6 => h m q' p' b1 (by omega) b3 b4 b5 b6
      · rw [if_neg hneq]
        exact sat_desc hn0 hn f _ (x + 1) 0 hB (by omega) (by omega) (step1 _ fun _ => rfl) (by omega) (fun i h1 h2 => by congr 1; omega) fun m q' p' b1 b2 b3 b4 b5 b6 => h m q' p' b1 (by omega) b3 b4 b5 b6
    | false =>
      try dsimp only
      rw [if_neg (by simp)]
      refine ⟨hB.lt hn0 _, hB.lt hn0 _, ?_⟩
      cases hlarger : lk O key (p.getD (x - 1) 0) (p.getD x 0) with
      | true =>
        try dsimp only
        rw [if_pos rfl]
        exact h x q p hB (Nat.le_refl _) (by omega) hs hq he
      | false =>
        try dsimp only
        rw [if_neg (by simp)]
        have heqx : KP O key p x = KP O key p (x - 1) := KeyOrd.kle_antisymm hlarger hless
        refine sat_desc hn0 hn f p (x + 1) (q + 1) hB (by omega) (by omega) (fun i j hij hj => ?_) (by omega) (fun i h1 h2 => ?_) fun m q' p' b1 b2 b3 b4 b5 b6 => h m q' p' b1 (by omega) b3 b4 b5 b6
        · by_cases hjx : j < x
          · exact hs i j hij hjx
          · have hj' : j = x := by omega
            subst hj'
            by_cases hi' : i = j
            · subst hi'; exact KeyOrd.kle_refl _
            · rw [heqx]; exact hs i (j - 1) (by omega) (by omega)
        · rw [show x + 1 - 1 = x by omega]
          by_cases hix : i = x
          · subst hix; rfl
          · rw [heqx]; exact he i (by omega) (by omega)

theorem sat_descPart {p : Array Nat} {P : Nat × Array Nat → Prop} (hB : PB n p) (hn0 : 0 < n) {m nrem : Nat} (hn : nrem ≤ n) (hm : m + 1 ≤ nrem) (hs : NonP O key p (m + 1))
    (h : ∀ k q, PB n q → 1 ≤ k → k ≤ nrem → SortP O key q k → P (k, q)) : Sat (lk O key) n (kas_descPart m nrem p) P := by
  refine sat_bind _ (sat_desc hn0 hn (nrem - (m + 1)) p (m + 1) 0 hB (by omega) (by omega) hs (by omega) (fun i h1 h2 => by congr 1; omega) fun k q p' hB' hk1 hk2 hs' hq he => ?_)
  dsimp only
  have hsz : k ≤ p'.size := by rw [hB'.size]; omega
  by_cases hneq : q > 0
  · rw [if_pos hneq]
    refine sat_tail3 (rev_pb hB' _ _) hn0 hn (by omega) hk2 ?_ h
    intro i j hij hj
    rw [KP_mirror_equal hsz he, KP_mirror_equal hsz he]
    exact hs' i j hij hj
  · rw [if_neg hneq]
    exact sat_tail3 hB' hn0 hn (by omega) hk2 hs' h

theorem sat_count {p : Array Nat} {P : Nat × Array Nat → Prop} (hB : PB n p) (hn0 : 0 < n)
    (h : ∀ k q, PB n q → 1 ≤ k → k ≤ n → SortP O key q k → P (k, q)) : Sat (lk O key) n (kas_count n p) P := by
  refine sat_bind _ (sat_asc hB hn0 (Nat.le_refl n) (n - 1) 1 (Nat.le_refl _) (by omega) (fun i j hij hj => by have : i = j := (by omega); subst this; exact KeyOrd.kle_refl _) fun m hm1 hm2 hsm hor => ?_)
  by_cases hnn : m = n
  · rw [if_pos (by simpa using hnn)]
    exact h m p hB hm1 hm2 hsm
  · rw [if_neg (by simpa using hnn)]
    have hlt : O.klt (KP O key p m) (KP O key p (m - 1)) := hor.resolve_left hnn
    by_cases hgt : m > 1
    · rw [if_pos hgt]
      refine ⟨hB.lt hn0 _, hB.lt hn0 _, ?_⟩
      cases hrose : lk O key (p.getD 0 0) (p.getD (m - 1) 0) with
      | true =>
        try dsimp only
        rw [if_pos rfl]
        exact h m p hB hm1 hm2 hsm
      | false =>
        try dsimp only
        rw [if_neg (by simp)]
        have hsz : m ≤ p.size := by rw [hB.size]; omega
        have hall : ∀ k, 0 ≤ k → k < m → KP O key p k = KP O key p (m - 1) := by
          intro k _ hk
          have a1 := hsm 0 k (by omega) hk
          have a2 := hsm k (m - 1) (by omega) (by omega)
          exact KeyOrd.kle_antisymm a2 (KeyOrd.kle_trans hrose a1)
        refine sat_descPart (rev_pb hB 0 m) hn0 (Nat.le_refl n) (by omega) ?_ h
        intro i j hij hj
        rw [KP_mirror_equal hsz hall, KP_mirror_equal hsz hall]
        by_cases hjn : j < m
        · rw [hall i (by omega) (by omega), hall j (by omega) hjn]; exact KeyOrd.kle_refl _
        · have hj' : j = m := by omega
          subst hj'
          by_cases hi' : i = j
          · subst hi'; exact KeyOrd.kle_refl _
          · rw [hall i (by omega) (by omega)]; exact KeyOrd.kle_of_klt hlt
    · rw [if_neg hgt]
      have hn1' : m = 1 := by omega
      subst hn1'
      refine sat_descPart hB hn0 (Nat.le_refl n) (by omega) ?_ h
      intro i j hij hj
      by_cases hi' : i = j
      · subst hi'; exact KeyOrd.kle_refl _
      · have hi0 : i = 0 := by omega
        have hj1 : j = 1 := by omega
        subst hi0; subst hj1
        exact KeyOrd.kle_of_klt hlt

theorem sat_place {p : Array Nat} {P : Nat → Prop} (hB : PB n p) (hn0 : 0 < n) {k : Nat} (hk : k < n) (hs : SortP O key p k)
    (h : ∀ l, l ≤ k → (∀ i, i < l → O.kle (KP O key p i) (KP O key p k)) → (∀ i, l ≤ i → i < k → O.klt (KP O key p k) (KP O key p i)) → P l) :
    ∀ (f l r : Nat), l ≤ r → r ≤ k → r - l ≤ f → (∀ i, i < l → O.kle (KP O key p i) (KP O key p k)) → (∀ i, r ≤ i → i < k → O.klt (KP O key p k) (KP O key p i)) → Sat (lk O key) n (kas_place p k f l r) P
  | 0, l, r, hlr, hrk, hf, hlo, hhi => by
    have : l = r := by omega
    subst this
    exact h l hrk hlo hhi
  | f + 1, l, r, hlr, hrk, hf, hlo, hhi => by
    show Sat _ _ (if l ≥ r then _ else _) _
    by_cases hge : l ≥ r
    · rw [if_pos hge]
      have : l = r := by omega
      subst this
      exact h l hrk hlo hhi
    · rw [if_neg hge]
      refine ⟨hB.lt hn0 _, hB.lt hn0 _, ?_⟩
      cases hless : lk O key (p.getD k 0) (p.getD ((l + r) / 2) 0) with
      | true =>
        try dsimp only
        rw [if_pos rfl]
        refine sat_place hB hn0 hk hs h f l ((l + r) / 2) (by omega) (by omega) (by omega) hlo fun i h1 h2 => ?_
        exact KeyOrd.klt_of_klt_of_kle hless (hs _ _ h1 h2)
      | false =>
        try dsimp only
        rw [if_neg (by simp)]
        refine sat_place hB hn0 hk hs h f ((l + r) / 2 + 1) r (by omega) (by omega) (by omega) (fun i h1 => ?_) hhi
        exact KeyOrd.kle_trans (hs i ((l + r) / 2) (by omega) (by omega)) (show O.kle _ _ from hless)

theorem sat_bin {P : Array Nat → Prop} (hn0 : 0 < n) (h : ∀ q, PB n q → SortP O key q n → P q) : ∀ (f : Nat) (p : Array Nat) (k : Nat), PB n p → k + f = n → SortP O key p k → Sat (lk O key) n (kas_bin f p k) P
  | 0, p, k, hB, hf, hs => h p hB (by have : k = n := by omega
                                      rw [← this]; exact hs)
  | f + 1, p, k, hB, hf, hs => by
    have hks : k < p.size := by rw [hB.size]; omega
    refine sat_bind _ (sat_place hB hn0 (by omega) hs (fun l hlk hlo hhi => ?_) k 0 k (by omega) (Nat.le_refl _) (by omega) (fun i hi => by omega) fun i h1 h2 => by omega)
    refine sat_bin hn0 h f _ (k + 1) (hB.of (bubble_perm _ _ _)) (by omega) fun i j hij hj => ?_
    rw [KP_bubble hks (by omega), KP_bubble hks (by omega), show k - (k - l) = l by omega]
    repeat' split
    all_goals first
      | (exfalso; omega)
      | exact KeyOrd.kle_refl _
      | exact hlo _ (by omega)
      | exact KeyOrd.kle_of_klt (hhi _ (by omega) (by omega))
      | exact hs _ _ (by omega) (by omega)

theorem sat_sort (hn0 : 0 < n) : Sat (lk O key) n (kas_sort n) (fun q => PB n q ∧ SortP O key q n) := by
  refine sat_bind _ (sat_count ⟨Array.Perm.refl _⟩ hn0 fun k q hB hk1 hk2 hs => ?_)
  dsimp only
  by_cases hlt : k < n
  · rw [if_pos hlt]
    have e : max k 1 = k := by omega
    rw [e]
    exact sat_bin hn0 (fun q hB hs => ⟨hB, hs⟩) (n - k) q k hB (by omega) hs
  · rw [if_neg hlt]
    have : k = n := by omega
    subst this
    exact ⟨hB, hs⟩
end

theorem sat_wp {lt : Nat → Nat → Bool} {n : Nat} {α : Type} {cmp : Nat → Nat → (Bool → Shared → Prop) → Shared → Prop} {Q : α → Shared → Prop} {s : Shared}
    (hc : ∀ i j C, i < n → j < n → C (lt i j) s → cmp i j C s) : ∀ (t : KasT α), Sat lt n t (fun a => Q a s) → t.kasWp cmp Q s
  | .ret a, h => h
  | .ask i j k, h => hc i j _ h.1 h.2.1 (sat_wp hc (k (lt i j)) h.2.2)
end Ww

set_option Elab.async false
set_option linter.all false
set_option maxRecDepth 100000
namespace Ww
open PySem PySem.W PyProof.Rows L2

section
variable {prog : Program} {w : World} {A : Around} {E : Value → Shared → Prop} {s : Shared}
theorem list_sort_asked {O : KeyOrd} {key : Nat → O.α} {κ : SortKind} {a : Addr} {vs : List Value} {n : Nat} {P : PySem.Fin → Shared → Prop} (ho : s.heap.get? a = some (seqObj "list" vs.toArray n)) (h64 : vs.length < 64)
    (hk : 2 ≤ vs.length → ∀ h1 : Heap, (∀ b o, b ≠ a → s.heap.get? b = some o → h1.get? b = some o) → ∀ (Q : SortKind → Shared → Prop), Q κ { s with heap := h1 } → wpAny (model prog w) A (keyKind' vs.toArray) Q E { s with heap := h1 })
    (hc : ∀ h1 : Heap, (∀ b o, b ≠ a → s.heap.get? b = some o → h1.get? b = some o) → ∀ i j C, i < vs.length → j < vs.length → C (lk O key i j) { s with heap := h1 } → kas_ask prog w A κ vs i j C { s with heap := h1 })
    (h : ∀ p : Array Nat, PB vs.length p → SortP O key p vs.length → P (.done (.ret .none)) { s with heap := sortedHeap s.heap a vs (p.toList.map fun i => vs.getD i Value.none).toArray }) :
    wpAny (model prog w) A (Builtin.«list.sort» ⟨[.ref a], []⟩) P E s := by
  rw [list_sort_plain]
  have ha : a < s.heap.objs.size := Heap.lt_size ho
  refine wpAny_bind (listItems_at ho rfl ?_)
  refine wpAny_bind (listUpdate_at ho rfl ?_ (by rw [List.size_toArray, sizeLine_eq]; omega) (Nat.zero_le _))
  obtain ⟨e1, ho1⟩ : ∃ e1, (s.heap.update a (Obj.mapSeq fun _ => #[])).get? a = some (seqObj "list" #[] e1) := ⟨_, get?_update_seq ho (fun _ => #[])⟩
  refine wpAny_bind (seqEpoch_at ho1 rfl ?_)
  refine wpAny_bind (wpAny_newTuple ?_ (by show vs.length ≤ _; rw [sizeLine_eq]; omega))
  refine wpAny_bind (wpAny_newList ?_ (Nat.zero_le _))
  refine wpAny_holding ?_
  have ho6 : (((s.heap.update a (Obj.mapSeq fun _ => #[])).push (seqObj "tuple" vs.toArray 0)).push (seqObj "list" #[] 0)).get? a = some (seqObj "list" #[] e1) := by
    rw [Heap.get?_push_ne _ _ _ (by rw [size_push', Heap.size_update]; exact Nat.ne_of_lt (Nat.lt_succ_of_lt ha)), Heap.get?_push_ne _ _ _ (by rw [Heap.size_update]; exact Nat.ne_of_lt ha)]
    exact ho1
  have keep : ∀ b o, b ≠ a → s.heap.get? b = some o → (((s.heap.update a (Obj.mapSeq fun _ => #[])).push (seqObj "tuple" vs.toArray 0)).push (seqObj "list" #[] 0)).get? b = some o := fun b o hb e =>
    Heap.get?_push_of_some _ (Heap.get?_push_of_some _ (by rw [Heap.get?_update_ne _ _ _ _ hb]; exact e))
  show wpAny (model prog w) A _ P E { s with heap := ((s.heap.update a (Obj.mapSeq fun _ => #[])).push (seqObj "tuple" vs.toArray 0)).push (seqObj "list" #[] 0) }
  dsimp only
  have hsz : vs.toArray.size = vs.length := by simp
  by_cases h2 : vs.toArray.size < 2
  · rw [if_pos h2, if_pos h2]
    refine wpAny_bind (wpAny_pure ?_)
    rw [StateT.run_pure]
    refine wpAny_bind (wpAny_pure ?_)
    dsimp only
    refine wpAny_bind (seqEpoch_at ho6 rfl ?_)
    refine wpAny_bind (listUpdate_at ho6 rfl ?_ (hsz2 := by rw [Array.size_map]; show (pairsOf vs).size ≤ _; rw [pairsOf_size, sizeLine_eq]; omega))
    simp only [bne_self_eq_false, Bool.false_eq_true, if_false]
    have fin := h (List.range vs.length).toArray ⟨Array.Perm.refl _⟩ (fun i j hij hj => by have : i = j := (by omega); subst this; exact KeyOrd.kle_refl _)
    have e : (((List.range vs.length).toArray.toList.map fun i => vs.getD i Value.none).toArray) = (arrOf (SortSt.mk' general' (vs.toArray.zip vs.toArray) #[] 7 none)).map (·.2) := by
      show _ = (vs.toArray.zip vs.toArray).map (·.2)
      apply Array.toList_inj.mp
      simp only [Array.toList_map, Array.toList_zip]
      apply List.ext_getElem
      · simp
      · intro i h1 h2
        have hi : i < vs.length := by simpa using h1
        simp [hi]
    rw [e] at fin
    exact wpAny_pure fin
  · rw [if_neg h2, if_neg h2]
    have h2' : 2 ≤ vs.length := by omega
    refine wpAny_bind (hk h2' _ keep _ ?_)
    have sat := sat_sort (O := O) (key := key) (n := vs.length) (by omega)
    have wp := sat_wp (cmp := kas_ask prog w A κ vs) (Q := fun p s' => s' = { s with heap := ((s.heap.update a (Obj.mapSeq fun _ => #[])).push (seqObj "tuple" vs.toArray 0)).push (seqObj "list" #[] 0) } ∧ PB vs.length p ∧ SortP O key p vs.length)
      (s := { s with heap := ((s.heap.update a (Obj.mapSeq fun _ => #[])).push (seqObj "tuple" vs.toArray 0)).push (seqObj "list" #[] 0) }) (hc _ keep) _ (sat_mono (fun p hp => ⟨rfl, hp⟩) _ sat)
    refine wpAny_bind (wpAny_mono (kat_run (Q := fun st' s' => ∃ p : Array Nat, p.size = vs.length ∧ arrOf st' = p.map (kas_item (vs.toArray.zip vs.toArray)) ∧ failedOf st' = none ∧ s' = { s with heap := ((s.heap.update a (Obj.mapSeq fun _ => #[])).push (seqObj "tuple" vs.toArray 0)).push (seqObj "list" #[] 0) } ∧ PB vs.length p ∧ SortP O key p vs.length)
      rfl h2' h64 (fun p' st' s' a1 a2 a3 a4 => ⟨p', a1, a2, a3, a4⟩) wp) ?_ fun _ _ e => e)
    rintro ⟨⟨⟩, st'⟩ s' ⟨p, hp, har, hf, rfl, hB, hS⟩
    dsimp only
    have hout := kat_snds rfl har
    refine wpAny_bind (seqEpoch_at ho6 rfl ?_)
    refine wpAny_bind (listUpdate_at ho6 rfl ?_ (hsz2 := by rw [hout, List.size_toArray, List.length_map, Array.length_toList, hp, sizeLine_eq]; omega))
    rw [hf]
    simp only [bne_self_eq_false, Bool.false_eq_true, if_false]
    rw [hout]
    exact wpAny_pure (h p hB hS)

theorem sorted_asked {O : KeyOrd} {key : Nat → O.α} {κ : SortKind} {l : Addr} {vs : List Value} {Q : Value → Shared → Prop} (hl : s.heap.IsList l vs.toArray) (h64 : vs.length < 64)
    (hk : 2 ≤ vs.length → ∀ (A : Around) (E : Value → Shared → Prop) (h1 : Heap), (∀ b o, s.heap.get? b = some o → h1.get? b = some o) → ∀ (Q : SortKind → Shared → Prop), Q κ { s with heap := h1 } → wpAny (model prog w) A (keyKind' vs.toArray) Q E { s with heap := h1 })
    (hc : ∀ (A : Around) (h1 : Heap), (∀ b o, s.heap.get? b = some o → h1.get? b = some o) → ∀ i j C, i < vs.length → j < vs.length → C (lk O key i j) { s with heap := h1 } → kas_ask prog w A κ vs i j C { s with heap := h1 })
    (h : ∀ p : Array Nat, PB vs.length p → SortP O key p vs.length → Q (.ref (s.heap.objs.size + 1)) { s with heap := sortedAll s.heap vs (p.toList.map fun i => vs.getD i Value.none).toArray }) :
    wpAny (model prog w) A (call (.builtin "sorted") [.ref l]) Q E s := by
  refine Calls.call_function_entry kind_sorted plain_sorted entry_sorted (args_sorted1 _) ?_
  unfold Builtin.«sorted»
  refine wpAny_bind (m := checkCount "sorted" 1 1 _) (wpAny_pure ?_)
  refine wpAny_bind (collect_list hl ?_ (by rw [sizeLine_eq]; omega))
  refine wpAny_bind (wpAny_newList ?_ (by rw [sizeLine_eq]; omega))
  have hsz : ((s.heap.push (seqObj "list" #[] 0)).update s.heap.objs.size (Obj.mapSeq (· ++ vs.toArray))).objs.size = s.heap.objs.size + 1 := by
    rw [Heap.size_update, size_push']
  have hoL : (((s.heap.push (seqObj "list" #[] 0)).update s.heap.objs.size (Obj.mapSeq (· ++ vs.toArray))).push (seqObj "list" vs.toArray 0)).get? (s.heap.objs.size + 1) = some (seqObj "list" vs.toArray 0) := by
    rw [← hsz]; exact Heap.get?_push_size _ rfl
  have keep : ∀ b o, s.heap.get? b = some o → (((s.heap.push (seqObj "list" #[] 0)).update s.heap.objs.size (Obj.mapSeq (· ++ vs.toArray))).push (seqObj "list" vs.toArray 0)).get? b = some o := fun b o q => by
    have hlt : b < s.heap.objs.size := Heap.lt_size q
    rw [Heap.get?_push_ne _ _ _ (by rw [hsz]; exact Nat.ne_of_lt (Nat.lt_succ_of_lt hlt)), Heap.get?_update_ne _ _ _ _ (Nat.ne_of_lt hlt), Heap.get?_push_ne _ _ _ (Nat.ne_of_lt hlt)]
    exact q
  have old : ∀ b o, s.heap.get? b = some o → b ≠ s.heap.objs.size + 1 := fun b o q => Nat.ne_of_lt (Nat.lt_succ_of_lt (Heap.lt_size q))
  show wpAny _ _ _ _ _ { s with heap := ((s.heap.push (seqObj "list" #[] 0)).update s.heap.objs.size (Obj.mapSeq (· ++ vs.toArray))).push (seqObj "list" vs.toArray 0) }
  rw [hsz]
  refine wpAny_bind (wpAny_holding (wpAny_call_entry slot_list_sort ⟨_, hoL, rfl⟩ entry_list_sort (list_sort_asked (O := O) (key := key) (κ := κ) hoL h64 (fun h2 h1 k Q q => hk h2 _ _ h1 (fun b o e => k b o (old b o e) (keep b o e)) Q q)
    (fun h1 k i j C hi hj q => hc _ h1 (fun b o e => k b o (old b o e) (keep b o e)) i j C hi hj q) fun p a1 a2 => ⟨_, rfl, ?_⟩) (args_list_sort _)))
  exact wpAny_pure ⟨_, rfl, h p a1 a2⟩
end

/-! ### lists of ints in the order of tuples -/
noncomputable def lexI : List Int → List Int → Bool
  | [], [] => false
  | [], _ :: _ => true
  | _ :: _, [] => false
  | x :: xs, y :: ys => if x = y then lexI xs ys else decide (x < y)
theorem lexI_irrefl : ∀ a, lexI a a = false
  | [] => rfl
  | x :: xs => by unfold lexI; rw [if_pos rfl]; exact lexI_irrefl xs
theorem lexI_trans : ∀ a b c, lexI a b = true → lexI b c = true → lexI a c = true
  | [], [], _, h, _ => by cases h
  | [], _ :: _, [], _, h => by cases h
  | [], _ :: _, _ :: _, _, _ => rfl
  | _ :: _, [], _, h, _ => by cases h
  | _ :: _, _ :: _, [], _, h => by cases h
  | x :: xs, y :: ys, z :: zs, h1, h2 => by
    unfold lexI at h1 h2 ⊢
    by_cases e1 : x = y
    · rw [if_pos e1] at h1
      subst e1
      by_cases e2 : x = z
      · rw [if_pos e2] at h2 ⊢; exact lexI_trans xs ys zs h1 h2
      · rw [if_neg e2] at h2 ⊢; exact h2
    · rw [if_neg e1] at h1
      have l1 := of_decide_eq_true h1
      by_cases e2 : y = z
      · subst e2
        rw [if_neg e1]; exact h1
      · rw [if_neg e2] at h2
        have l2 := of_decide_eq_true h2
        rw [if_neg (by omega)]
        exact decide_eq_true (by omega)
theorem lexI_neg : ∀ a b c, lexI a c = true → lexI a b = true ∨ lexI b c = true
  | [], _, [], h => by cases h
  | [], [], _ :: _, _ => .inr rfl
  | [], _ :: _, _ :: _, _ => .inl rfl
  | _ :: _, _, [], h => by cases h
  | _ :: _, [], _ :: _, _ => .inr rfl
  | x :: xs, y :: ys, z :: zs, h => by
    unfold lexI at h ⊢
    by_cases e1 : x = y
    · subst e1
      rw [if_pos rfl]
      by_cases e2 : x = z
      · rw [if_pos e2] at h ⊢; exact lexI_neg xs ys zs h
      · rw [if_neg e2] at h ⊢; exact .inr h
    · rw [if_neg e1]
      by_cases e2 : x < y
      · exact .inl (decide_eq_true e2)
      · by_cases e3 : x = z
        · rw [if_neg (by omega)]; exact .inr (decide_eq_true (by omega))
        · rw [if_neg e3] at h
          have := of_decide_eq_true h
          rw [if_neg (by omega)]; exact .inr (decide_eq_true (by omega))
theorem lexI_total : ∀ a b, lexI a b = false → lexI b a = false → a = b
  | [], [], _, _ => rfl
  | [], _ :: _, h, _ => by cases h
  | _ :: _, [], _, h => by cases h
  | x :: xs, y :: ys, h1, h2 => by
    unfold lexI at h1 h2
    by_cases e : x = y
    · subst e
      rw [if_pos rfl] at h1 h2
      rw [lexI_total xs ys h1 h2]
    · rw [if_neg e] at h1
      rw [if_neg (Ne.symm e)] at h2
      have := of_decide_eq_false h1
      have := of_decide_eq_false h2
      omega
noncomputable def lexO : KeyOrd := ⟨List Int, lexI, lexI_irrefl, lexI_trans, lexI_neg, lexI_total⟩

section
variable {prog : Program} {w : World} {A : Around} {E : Value → Shared → Prop} {s : Shared}
theorem lex_ask : ∀ (xs ys : List Int) (us vs : List Value) (fin : Bool) (i : Nat) {C : Bool → Shared → Prop}, Vals (xs.map V.int) us → Vals (ys.map V.int) vs → fin = decide (us.length < vs.length) →
    C (lexI xs ys) s → KatLex prog w A true fin C (us.zip vs) i s
  | [], [], _, _, fin, i, C, .nil, .nil, hf, h => by
    have : fin = false := by rw [hf]; rfl
    subst this; exact h
  | [], y :: ys, _, _, fin, i, C, .nil, .cons r t, hf, h => by
    have : fin = true := by rw [hf]; simp
    subst this; exact h
  | x :: xs, [], _, _, fin, i, C, .cons r t, .nil, hf, h => by
    have : fin = false := by rw [hf]; simp
    subst this
    show C false s
    exact h
  | x :: xs, y :: ys, _, _, fin, i, C, .cons r t, .cons r' t', hf, h => by
    obtain ⟨k, rfl⟩ := r
    obtain ⟨k', rfl⟩ := r'
    refine kat_cons (wpAny_eqBool_int ?_)
    by_cases e : x = y
    · subst e
      rw [beq_self_eq_true]
      refine kat_yes (lex_ask xs ys _ _ fin (i + 1) t t' (by rw [hf]; simp) ?_)
      have e2 : lexI (x :: xs) (x :: ys) = lexI xs ys := by conv => lhs; unfold lexI; rw [if_pos rfl]
      rw [e2] at h; exact h
    · rw [beq_eq_false_iff_ne.mpr e]
      have e2 : lexI (x :: xs) (y :: ys) = decide (x < y) := by conv => lhs; unfold lexI; rw [if_neg e]
      rw [e2] at h
      refine kat_no ?_
      by_cases hi : i = 0
      · subst hi
        exact oneLt_int h
      · have : (true && i == 0) = false := by simp [hi]
        rw [this]
        exact kat_one _ _ (lt_int h)
end
end Ww

set_option Elab.async false
set_option linter.all false
set_option maxRecDepth 100000
namespace Ww
open PySem PySem.W PyProof.Rows L2

noncomputable abbrev TupsAt (H : Hp) (as : List Addr) (ks : List (List Int)) : Prop := Paired (fun a (k : List Int) => H a = some (.tup (k.map V.int))) as ks
theorem TupsAt.get {H : Hp} : ∀ {as : List Addr} {ks : List (List Int)}, TupsAt H as ks → ∀ i, i < as.length → H (as.getD i 0) = some (.tup ((ks.getD i []).map V.int))
  | _, _, .nil, _, h => by simp at h
  | _, _, .cons r t, 0, _ => r
  | _, _, .cons r t, i + 1, h => by
    have := TupsAt.get t i (by simpa using h)
    simpa using this
theorem TupsAt.len {H : Hp} {as : List Addr} {ks : List (List Int)} (h : TupsAt H as ks) : as.length = ks.length := Paired.length h
theorem TupsAt.mono {H H' : Hp} {as : List Addr} {ks : List (List Int)} (h : TupsAt H as ks) (k : ∀ a xs, H a = some (.tup xs) → H' a = some (.tup xs)) : TupsAt H' as ks :=
  Paired.mapP h fun _ _ e => k _ _ e
theorem TupsAt.same {H H' : Hp} {as : List Addr} {ks : List (List Int)} (h : TupsAt H as ks) (k : Same H H') : TupsAt H' as ks := h.mono fun a xs e => k _ _ e
theorem refs_of : ∀ {as : List Addr} {vs : List Value}, Vals (as.map V.ref) vs → vs = as.map Value.ref
  | [], _, h => by cases h; rfl
  | a :: as, _, h => by
    rw [List.map_cons] at h
    cases h with
    | cons r t =>
      obtain rfl := (show _ = Value.ref a from r)
      rw [refs_of t]; rfl

theorem tup_at {P : Program} {w : World} {H : Hp} {h : Heap} {a : Addr} {k : List Int} (ok : HOk P w H h) (e : H a = some (.tup (k.map V.int))) :
    ∃ o us n, h.get? a = some o ∧ o.cls = .type "tuple" ∧ o.data = .seq us n ∧ Vals (k.map V.int) us.toList := by
  obtain ⟨_, its, r, o, h1, h2, n, h3⟩ := (show ObjOk P w H h a (.tup (k.map V.int)) from ok a _ e)
  exact ⟨o, its.toArray, n, h1, h2, h3, by simpa using r⟩

theorem katTups_of {P : Program} {w : World} {H : Hp} {h : Heap} (ok : HOk P w H h) : ∀ {as : List Addr} {ks : List (List Int)}, TupsAt H as ks → (∀ k ∈ ks, k ≠ []) →
    ∃ fs, KatTups h (as.map Value.ref) fs ∧ fs.length = as.length ∧ ∀ v ∈ fs, ∃ i t, v = Value.int i t
  | [], [], _, _ => ⟨[], .nil, rfl, fun _ z => nomatch z⟩
  | [], _ :: _, h, _ => by cases h
  | _ :: _, [], h, _ => by cases h
  | a :: as, k :: ks, hp, hn => by
    cases hp with
    | cons r t =>
      obtain ⟨fs, h1, h2, h3⟩ := katTups_of ok t fun k hk => hn k (List.mem_cons_of_mem _ hk)
      obtain ⟨o, us, n, e1, e2, e3, e4⟩ := tup_at ok r
      cases k with
      | nil => exact absurd rfl (hn [] List.mem_cons_self)
      | cons x xs =>
        have r4 : ∃ u us', us.toList = u :: us' ∧ ∃ t, u = Value.int x t := by
          rw [List.map_cons] at e4
          cases q : us.toList with
          | nil => rw [q] at e4; cases e4
          | cons u us' =>
            rw [q] at e4
            cases e4 with
            | cons r _ => exact ⟨u, us', rfl, r⟩
        obtain ⟨u, us', q, t', rfl⟩ := r4
        refine ⟨Value.int x t' :: fs, KatTups.cons e1 e2 e3 ?_ h1, by simp [h2], fun v hv => ?_⟩
        · rw [← Array.getElem?_toList, q]; rfl
        · rcases List.mem_cons.mp hv with rfl | hv
          · exact ⟨x, t', rfl⟩
          · exact h3 v hv

theorem paired_of_get {H : Hp} : ∀ (as : List Addr) (ks : List (List Int)), as.length = ks.length → (∀ i, i < as.length → H (as.getD i 0) = some (.tup ((ks.getD i []).map V.int))) → TupsAt H as ks
  | [], [], _, _ => .nil
  | [], _ :: _, h, _ => by simp at h
  | _ :: _, [], h, _ => by simp at h
  | a :: as, k :: ks, h, g => .cons (by simpa using g 0 (by simp)) (paired_of_get as ks (by simpa using h) fun i hi => by simpa using g (i + 1) (by simpa using hi))

theorem zip_sorted {as : List Addr} {ks : List (List Int)} (hl : as.length = ks.length) {p : Array Nat} (hp : PB as.length p) :
    ((p.toList.map fun i => as.getD i 0).zip (p.toList.map fun i => ks.getD i [])).Perm (as.zip ks) := by
  have e1 : (p.toList.map fun i => as.getD i 0).zip (p.toList.map fun i => ks.getD i []) = p.toList.map fun i => (as.getD i 0, ks.getD i []) := by
    rw [List.zip_map', ]
  have e2 : as.zip ks = (List.range as.length).map fun i => (as.getD i 0, ks.getD i []) := by
    apply List.ext_getElem
    · simp [hl]
    · intro i h1 h2
      have hi : i < as.length := by simpa using h2
      have hi2 : i < ks.length := by omega
      simp [hi, hi2]
  rw [e1, e2]
  have := (Array.perm_iff_toList_perm.mp hp.perm)
  exact (by simpa using this : p.toList.Perm (List.range as.length)).map _

section
variable {X : Cx}
theorem call_sortedT : CallR X (.builtin "sorted") (fun xs H Q => ∃ p as ks, xs = [.ref p] ∧ SqL X.K H p (as.map V.ref) ∧ TupsAt H as ks ∧ (∀ k ∈ ks, k ≠ []) ∧ as.length < 64 ∧
    ∀ l as' ks', H l = none → TupsAt H as' ks' → (as'.zip ks').Perm (as.zip ks) → ks'.Pairwise (fun a b => lexI b a = false) → Q (.ref l) (upd H l (.lst (as'.map V.ref)))) := by
  intro pins s σ H xs us Q I r h
  obtain ⟨p, as, ks, rfl, hS, hT, hne, h64, q⟩ := h
  obtain ⟨u, rfl, ru⟩ := vals1 r
  obtain rfl := (show u = Value.ref p from ru)
  obtain ⟨its, rv, ⟨o, n, e1, e2, e3, e4⟩, hz⟩ := I.list hS
  obtain rfl := refs_of rv
  have hl : s.heap.IsList p (as.map Value.ref).toArray := ⟨o, e1, e2, n, e4⟩
  have len : (as.map Value.ref).length = as.length := List.length_map ..
  refine sorted_asked (O := lexO) (key := fun i => (ks.getD i [] : List Int)) (κ := tuples' true) hl (by rw [len]; exact h64) (fun h2 A E h1 k Q q => ?_) (fun A h1 k i j C hi hj q => ?_) fun pm hB hS' => ?_
  · have ok1 := I.hok.kept k
    obtain ⟨fs, t1, t2, t3⟩ := katTups_of ok1 hT hne
    refine kat_kind (s := { s with heap := h1 }) (T := .type "int") t1 (by rw [t2]; rw [len] at h2; omega) (fun v hv => ?_) rfl q
    obtain ⟨i, t, rfl⟩ := t3 v hv
    exact Looks.of_pure rfl
  · have ok1 := I.hok.kept k
    rw [len] at hi hj
    obtain ⟨o1, u1, n1, a1, a2, a3, a4⟩ := tup_at ok1 (hT.get i hi)
    obtain ⟨o2, u2, n2, b1, b2, b3, b4⟩ := tup_at ok1 (hT.get j hj)
    have g1 : (as.map Value.ref).getD i Value.none = Value.ref (as.getD i 0) := by simp [hi]
    have g2 : (as.map Value.ref).getD j Value.none = Value.ref (as.getD j 0) := by simp [hj]
    show wpAny (model X.prog X.w) A (keyLt' (tuples' true) ((as.map Value.ref).getD i Value.none) ((as.map Value.ref).getD j Value.none)) C _ _
    rw [g1, g2]
    refine kat_lt a1 a3 b1 b3 ?_
    refine lex_ask _ _ u1.toList u2.toList _ 0 a4 b4 (by simp) q
  · rw [len] at hB hS'
    obtain ⟨e, he⟩ := sortedAll_at s.heap (as.map Value.ref) (pm.toList.map fun i => (as.map Value.ref).getD i Value.none).toArray
    have hmem : ∀ i ∈ pm.toList, i < as.length := fun i hi => by
      have := (Array.perm_iff_toList_perm.mp hB.perm).mem_iff.mp hi
      simpa using this
    have out : (pm.toList.map fun i => (as.map Value.ref).getD i Value.none) = (pm.toList.map fun i => as.getD i 0).map Value.ref := by
      rw [List.map_map]
      refine List.map_congr_left fun i hi => ?_
      have := hmem i hi
      simp [this]
    rw [out] at he ⊢
    have hf : H (s.heap.objs.size + 1) = none := I.hok.fresh (Nat.le_succ _)
    have plen : pm.toList.length = as.length := by rw [Array.length_toList]; exact hB.size
    have vals : ∀ l : List Addr, Vals (l.map V.ref) (l.map Value.ref) := fun l => by
      induction l with
      | nil => exact .nil
      | cons a l ih => exact .cons rfl ih
    refine ⟨.ref _, upd H (s.heap.objs.size + 1) (.lst ((pm.toList.map fun i => as.getD i 0).map V.ref)), I.laid (t' := s.toks) (fun b u e => sortedAll_old e) (Nat.le_succ _) ?_, rfl, ?_⟩
    · refine ⟨?_, _, e, vals _, he⟩
      rw [List.length_map, List.length_map, plen, sizeLine_eq]; omega
    · refine q _ _ (pm.toList.map fun i => ks.getD i []) hf ?_ (zip_sorted hT.len hB) ?_
      · refine paired_of_get _ _ (by simp) fun i hi => ?_
        have hi' : i < pm.toList.length := by simpa using hi
        have := hT.get _ (hmem _ (List.getElem_mem hi'))
        have hi3 : i < pm.size := by simpa using hi'
        simpa [hi', hi3] using this
      · rw [List.pairwise_iff_getElem]
        intro i j hi hj hij
        have hj' : j < as.length := by rw [List.length_map, plen] at hj; exact hj
        have hi' : i < as.length := by omega
        have hs := hS' i j (Nat.le_of_lt hij) hj'
        have hi3 : i < pm.size := by rw [hB.size]; exact hi'
        have hj3 : j < pm.size := by rw [hB.size]; exact hj'
        have hs' : lexI (ks.getD (pm.getD j 0) []) (ks.getD (pm.getD i 0) []) = false := hs
        simpa [Array.getD, hi3, hj3] using hs'
end
end Ww

set_option Elab.async false
set_option linter.all false
set_option maxRecDepth 100000
namespace Ww
open PySem PySem.W PyProof.Rows L2

/-! ### list comprehensions -/
section
variable {env : Env}
theorem closure_go : ∀ (names : List (Str × NameKind)) (acc : List (Str × Addr)), (∀ y ∈ names, y.2 = .free → ∃ c, env.cells.lookup y.1 = some c) → (∀ x c, acc.lookup x = some c → env.cells.lookup x = some c) →
    ∃ cl, (forIn names acc fun x __s => if (x.snd == NameKind.free) = true then do
              let __do_lift ← cellOf env x.fst
              pure (ForInStep.yield ((x.fst, __do_lift) :: __s))
            else pure (ForInStep.yield __s)) = (pure cl : Sem (List (Str × Addr))) ∧ (∀ x c, cl.lookup x = some c → env.cells.lookup x = some c) ∧ (∀ y ∈ names, y.2 = .free → ∃ c, cl.lookup y.1 = some c) ∧ (∀ x c, acc.lookup x = some c → ∃ c, cl.lookup x = some c)
  | [], acc, _, h => ⟨acc, by rw [List.forIn_nil], h, (fun _ z => nomatch z), fun x c e => ⟨c, e⟩⟩
  | (n, k) :: r, acc, hf, h => by
    rw [List.forIn_cons]
    by_cases hk : k = .free
    · subst hk
      obtain ⟨c, hc⟩ := hf (n, .free) List.mem_cons_self rfl
      have h' : ∀ x c', ((n, c) :: acc).lookup x = some c' → env.cells.lookup x = some c' := fun x c' e => by
        rw [List.lookup_cons] at e
        by_cases hx : x = n
        · subst hx
          rw [beq_self_eq_true] at e
          cases e; exact hc
        · rw [beq_eq_false_iff_ne.mpr hx] at e
          exact h x c' e
      obtain ⟨cl, e1, e2, e3, e4⟩ := closure_go r ((n, c) :: acc) (fun y hy => hf y (List.mem_cons_of_mem _ hy)) h'
      have hn : ∃ c', ((n, c) :: acc).lookup n = some c' := ⟨c, by rw [List.lookup_cons, beq_self_eq_true]⟩
      refine ⟨cl, ?_, e2, fun y hy q => ?_, fun x c' e => ?_⟩
      · have : cellOf env n = pure c := by unfold cellOf; rw [hc]
        simp only [beq_self_eq_true, if_true, this]
        show (forIn r ((n, c) :: acc) _ : Sem (List (Str × Addr))) = _
        exact e1
      · rcases List.mem_cons.mp hy with rfl | hy
        · obtain ⟨c', hn⟩ := hn
          exact e4 n c' hn
        · exact e3 y hy q
      · by_cases hx : x = n
        · subst hx
          obtain ⟨c', hn⟩ := hn
          exact e4 x c' hn
        · exact e4 x c' (by rw [List.lookup_cons, beq_eq_false_iff_ne.mpr hx]; exact e)
    · obtain ⟨cl, e1, e2, e3, e4⟩ := closure_go r acc (fun y hy => hf y (List.mem_cons_of_mem _ hy)) h
      refine ⟨cl, ?_, e2, fun y hy q => ?_, e4⟩
      · have hb : (k == NameKind.free) = false := by simpa using hk
        simp only [hb, Bool.false_eq_true, if_false]
        show (forIn r acc _ : Sem (List (Str × Addr))) = _
        exact e1
      · rcases List.mem_cons.mp hy with rfl | hy
        · exact absurd q hk
        · exact e3 y hy q
theorem closure_of {scope : Scope} (hf : ∀ y ∈ scope.names, y.2 = .free → ∃ c, env.cells.lookup y.1 = some c) :
    ∃ cl, closureFor scope env = pure cl ∧ (∀ x c, cl.lookup x = some c → env.cells.lookup x = some c) ∧ (∀ y ∈ scope.names, y.2 = .free → ∃ c, cl.lookup y.1 = some c) := by
  obtain ⟨cl, e1, e2, e3, _⟩ := closure_go scope.names [] hf (fun _ _ e => nomatch e)
  refine ⟨cl, ?_, e2, e3⟩
  simp only [closureFor]
  rw [e1]
  rfl
end

section
variable {prog : Program} {w : World} {A : Around} {E : Value → Shared → Prop} {R : Result → Shared → Prop} {s : Shared}
theorem compLoop_own {elt target iter : Expr} {ifs : List Expr} {scope : Scope} {pos : Pos} {it acc : Value} {env : Env} (I : Nat → Shared → Prop)
    (turn : ∀ n s, I n s → wpAny (model prog w) A (pyNext it) (fun r s₁ => match r with
      | none => R (.ok .next) s₁
      | some v => wpAny (model prog w) A (letOwnedTupleGo target it v) (fun _ s₁ => wpAny (model prog w) A (assign target env v) (fun _ s₂ =>
          wpAny (model prog w) A (forIn ifs true fun c r => if r = true then do let ok ← isTrue c env (eval c env); pure (ForInStep.yield ok) else pure (ForInStep.yield r)) (fun ok s₃ =>
            if ok = true then wpAny (model prog w) A (eval elt env) (fun x s₄ =>
              wpAny (model prog w) A (call (.builtin "list.append") [acc, x]) (fun _ s₅ => ∃ m, m < n ∧ I m s₅) (fun _ _ => False) s₄) (fun _ _ => False) s₃
            else ∃ m, m < n ∧ I m s₃) (fun _ _ => False) s₂) (fun _ _ => False) s₁) (fun _ _ => False) s₁) (fun _ _ => False) s)
    (n : Nat) (h : I n s) :
    codeAny (model prog w) A (.compLoop (.ListComp elt [⟨target, iter, ifs, 0⟩] scope pos) 0 it acc env) R s := by
  refine codeAny_loop rfl I (fun n s hI => ?_) n h
  show wpAny _ A ((compTurn (.ListComp elt [⟨target, iter, ifs, 0⟩] scope pos) 0 it acc env).onRaise (fun x => do noteFrame x env; theTreesLotGoes x)) _ _ s
  refine wpAny_noted ?_
  rw [compTurn_list]
  refine wpAny_bind (wpAny_standAt (wpAny_bind (wpAny_mono (turn n s hI) (fun r s₁ h₁ => ?_) fun _ _ h' => h'.elim)))
  cases r with
  | none => exact wpAny_pure h₁
  | some v =>
    refine wpAny_bind (wpAny_mono h₁ (fun _ s₁ h₁ => ?_) fun _ _ h' => h'.elim)
    refine wpAny_bind (wpAny_mono h₁ (fun _ s₂ h₂ => wpAny_bind (wpAny_mono h₂ (fun ok s₃ h₃ => ?_) fun _ _ h' => h'.elim)) fun _ _ h' => h'.elim)
    cases ok with
    | false => exact wpAny_pure ⟨rfl, h₃⟩
    | true =>
      exact wpAny_bind (wpAny_bind (wpAny_mono h₃ (fun x s₄ h₄ => wpAny_bind (wpAny_mono h₄ (fun _ s₅ h₅ => wpAny_pure (wpAny_pure ⟨rfl, h₅⟩)) fun _ _ h' => h'.elim)) fun _ _ h' => h'.elim))
end

noncomputable def capSt (cap : List (Option Nat)) (σ : L2.St) : L2.St := cap.map fun o => match o with
  | none => none
  | some j => (σ[j]?).getD none
structure CompScope (sc scope : Scope) (N N' : List Str) (cap : List (Option Nat)) : Prop where
  kind : scope.kind = .function
  nocell : ∀ y ∈ scope.names, y.2 ≠ .cell
  names : ∀ y ∈ scope.names, y.2 = .local → scope.names.lookup y.1 = some .local
  free : ∀ y ∈ scope.names, y.2 = .free → sc.names.lookup y.1 = some .cell ∨ sc.names.lookup y.1 = some .free
  capd : ∀ (i : Nat) (x : Str) (j : Nat), N'[i]? = some x → cap[i]? = some (some j) → N[j]? = some x ∧ scope.names.lookup x = some .free
  len : cap.length = N'.length
noncomputable def compOk (sc scope : Scope) (N N' : List Str) (cap : List (Option Nat)) : Bool :=
  (scope.kind == .function) && scope.names.all (fun y => !(y.2 == .cell)) && scope.names.all (fun y => !(y.2 == .local) || (scope.names.lookup y.1 == some .local)) &&
  scope.names.all (fun y => !(y.2 == .free) || (sc.names.lookup y.1 == some .cell) || (sc.names.lookup y.1 == some .free)) &&
  ((N'.zip cap).all fun p => match p.2 with | none => true | some j => (N[j]? == some p.1) && (scope.names.lookup p.1 == some .free)) && (cap.length == N'.length)
theorem CompScope.of {sc scope : Scope} {N N' : List Str} {cap : List (Option Nat)} (h : compOk sc scope N N' cap = true) : CompScope sc scope N N' cap := by
  unfold compOk at h
  simp only [Bool.and_eq_true, List.all_eq_true, beq_iff_eq, Bool.or_eq_true, Bool.not_eq_true', beq_eq_false_iff_ne] at h
  obtain ⟨⟨⟨⟨⟨h1, h2⟩, h3⟩, h4⟩, h5⟩, h6⟩ := h
  refine ⟨h1, h2, fun y hy e => ?_, fun y hy e => ?_, fun i x j e1 e2 => ?_, h6⟩
  · rcases h3 y hy with z | z
    · exact absurd e z
    · exact z
  · rcases h4 y hy with (z | z) | z
    · exact absurd e z
    · exact .inl z
    · exact .inr z
  · have hm : (x, some j) ∈ N'.zip cap := by
      have hi : i < N'.length := (List.getElem?_eq_some_iff.mp e1).1
      have hi2 : i < cap.length := (List.getElem?_eq_some_iff.mp e2).1
      have : (N'.zip cap)[i]? = some (x, some j) := by
        rw [List.getElem?_zip_eq_some]
        exact ⟨e1, e2⟩
      exact List.mem_of_getElem? this
    have := h5 _ hm
    simpa using this

theorem lookup_relabel_free {env : Env} : ∀ {names : List (Str × NameKind)} {x : Str}, names.lookup x = some .free →
    (names.map fun (n, k) => if (k == NameKind.free && env.scope.kind == .function && env.kindOf n == some .cell) then (n, NameKind.cell) else (n, k)).lookup x = some .cell ∨
    (names.map fun (n, k) => if (k == NameKind.free && env.scope.kind == .function && env.kindOf n == some .cell) then (n, NameKind.cell) else (n, k)).lookup x = some .free
  | [], _, h => by simp at h
  | (n, k) :: r, x, h => by
    have ih := @lookup_relabel_free env r x
    show List.lookup x ((if (k == NameKind.free && env.scope.kind == .function && env.kindOf n == some .cell) = true then (n, NameKind.cell) else (n, k)) :: _) = _ ∨ List.lookup x ((if (k == NameKind.free && env.scope.kind == .function && env.kindOf n == some .cell) = true then (n, NameKind.cell) else (n, k)) :: _) = _
    cases hx : x == n with
    | true =>
      simp only [List.lookup_cons, hx] at h
      cases h
      by_cases hc : (NameKind.free == NameKind.free && env.scope.kind == .function && env.kindOf n == some .cell) = true
      · rw [if_pos hc]; left; simp [List.lookup_cons, hx]
      · rw [if_neg hc]; right; simp [List.lookup_cons, hx]
    | false =>
      simp only [List.lookup_cons, hx] at h
      by_cases hc : (k == NameKind.free && env.scope.kind == .function && env.kindOf n == some .cell) = true
      · rw [if_pos hc]; simp only [List.lookup_cons, hx]; exact ih h
      · rw [if_neg hc]; simp only [List.lookup_cons, hx]; exact ih h
theorem lookup_relabel_back {env : Env} : ∀ {names : List (Str × NameKind)} {x : Str} {k' : NameKind},
    (names.map fun (n, k) => if (k == NameKind.free && env.scope.kind == .function && env.kindOf n == some .cell) then (n, NameKind.cell) else (n, k)).lookup x = some k' →
    ∃ k, (x, k) ∈ names ∧ (k' = k ∨ k = .free)
  | [], _, _, h => by simp at h
  | (n, k) :: r, x, k', h => by
    have h : List.lookup x ((if (k == NameKind.free && env.scope.kind == .function && env.kindOf n == some .cell) = true then (n, NameKind.cell) else (n, k)) :: (r.map fun (n, k) => if (k == NameKind.free && env.scope.kind == .function && env.kindOf n == some .cell) then (n, NameKind.cell) else (n, k))) = some k' := h
    cases hx : x == n with
    | true =>
      have hxn : x = n := eq_of_beq hx
      subst hxn
      refine ⟨k, List.mem_cons_self, ?_⟩
      by_cases hc : (k == NameKind.free && env.scope.kind == .function && env.kindOf x == some .cell) = true
      · simp only [Bool.and_eq_true, beq_iff_eq] at hc
        exact .inr hc.1.1
      · rw [if_neg hc] at h
        simp only [List.lookup_cons, beq_self_eq_true] at h
        cases h; exact .inl rfl
    | false =>
      have h2 : (r.map fun (n, k) => if (k == NameKind.free && env.scope.kind == .function && env.kindOf n == some .cell) then (n, NameKind.cell) else (n, k)).lookup x = some k' := by
        by_cases hc : (k == NameKind.free && env.scope.kind == .function && env.kindOf n == some .cell) = true
        · rw [if_pos hc] at h; simpa only [List.lookup_cons, hx] using h
        · rw [if_neg hc] at h; simpa only [List.lookup_cons, hx] using h
      obtain ⟨k2, h3, h4⟩ := lookup_relabel_back h2
      exact ⟨k2, List.mem_cons_of_mem _ h3, h4⟩

noncomputable def tComp (wi : TI) (cap : List (Option Nat)) (g : TG) (tt : TT) (te : TE) : TE := fun σ H Q => wi σ H fun J H1 => ∀ acc, H1 acc = none →
  ∃ W : Nat → Nat → List V → L2.St → Hp → Prop, (∃ m, W 0 m [] (capSt cap σ) (upd H1 acc (.lst []))) ∧ ∀ i m ys σ' H', W i m ys σ' H' → H' acc = some (.lst ys) ∧ ys.length < sizeLine ∧
    ((J.stop i H' ∧ Q (.ref acc) H') ∨ (J.go i H' ∧ ∀ x H'', J.yld i H' x H'' → g x σ' H'' fun σ2 H2 => tt σ2 H2 fun b H3 =>
      if b = true then te σ2 H3 fun y H4 => H4 acc = some (.lst ys) ∧ ∃ m', m' < m ∧ W (i + 1) m' (ys ++ [y]) σ2 (upd H4 acc (.lst (ys ++ [y]))) else ∃ m', m' < m ∧ W (i + 1) m' ys σ2 H3))
noncomputable def PTs (X : Cx) (ifs : List Expr) (t : TT) : Prop :=
  ∀ (pins : List (Addr × Obj)) (s : Shared) (σ : L2.St) (H : Hp) (Q : Bool → Hp → Prop), Inv X pins σ H s → t σ H Q →
    wpAny (model X.prog X.w) X.A (forIn ifs true fun c r => if r = true then do let ok ← isTrue c X.env (eval c X.env); pure (ForInStep.yield ok) else pure (ForInStep.yield r)) (TP X pins σ Q) X.xe s
noncomputable def tTrue : TT := fun _ H Q => Q true H
theorem pts_nil {X : Cx} : PTs X [] tTrue := fun _ _ _ H _ I h => wpAny_tests_nil ⟨H, I, h⟩
theorem pts_one {X : Cx} {c : Expr} {t : TT} (h : PT X c t) : PTs X [c] t := fun pins s σ H Q I q => wpAny_tests_one (h pins s σ H Q I q)

section
variable {X : Cx} {pins : List (Addr × Obj)} {σ : L2.St} {H : Hp} {s : Shared}
theorem capSt_get {cap : List (Option Nat)} {σ : L2.St} {i : Nat} {v : V} (h : (capSt cap σ)[i]? = some (some v)) : ∃ j, cap[i]? = some (some j) ∧ σ[j]? = some (some v) := by
  unfold capSt at h
  rw [List.getElem?_map] at h
  cases e : cap[i]? with
  | none => rw [e] at h; cases h
  | some o =>
    rw [e] at h
    cases o with
    | none => cases h
    | some j =>
      refine ⟨j, rfl, ?_⟩
      have h' : (σ[j]?).getD none = some v := Option.some.inj h
      cases q : σ[j]? with
      | none => rw [q] at h'; cases h'
      | some z => rw [q] at h'; exact congrArg some h'

end
end Ww

set_option Elab.async false
set_option linter.all false
set_option maxRecDepth 100000
namespace Ww
open PySem PySem.W PyProof.Rows L2
section
variable {X : Cx} {pins : List (Addr × Obj)} {σ : L2.St} {H : Hp} {s : Shared}
noncomputable def CompDone (X : Cx) (pins : List (Addr × Obj)) (σ : L2.St) (Q : VK) (acc : Value) (C : Addr) (r : Result) (s' : Shared) : Prop :=
  (∃ f, r = .ok f) ∧ ∃ H', Inv X pins σ H' s' ∧ FpOk X pins H' C ∧ (∃ m, s'.heap.Ns C m) ∧ ∃ l, acc = .ref l ∧ Q (.ref l) H'

end

section
variable {X : Cx} {elt tg iter : Expr} {ifs : List Expr} {scope : Scope} {pos : Pos} {N' : List Str} {cap : List (Option Nat)} {wi : TI} {g : TG} {tt : TT} {te : TE}
end
end Ww

set_option Elab.async false
set_option linter.all false
set_option maxRecDepth 100000
namespace Ww
open PySem PySem.W PyProof.Rows L2

/-! ### a dict's keys walked, whatever they are -/
noncomputable def RawD (h : Heap) (d : Addr) (es : Array DictEntry) (ep : Nat) : Prop := ∃ o, h.get? d = some o ∧ o.ExactDict ∧ o.data = .dict es ep
theorem RawD.typeIs {s : Shared} {d : Addr} {es : Array DictEntry} {ep : Nat} (x : RawD s.heap d es ep) : s.TypeIs (.ref d) "dict" := let ⟨o, ho, hc, _⟩ := x; ⟨o, ho, hc.1⟩
theorem RawD.at' {h h' : Heap} {d : Addr} {es : Array DictEntry} {ep : Nat} (x : RawD h d es ep) (e : ∀ o, h.get? d = some o → h'.get? d = some o) : RawD h' d es ep := let ⟨o, ho, r⟩ := x; ⟨o, e _ ho, r⟩
theorem RawD.lt {h : Heap} {d : Addr} {es : Array DictEntry} {ep : Nat} (x : RawD h d es ep) : d < h.objs.size := let ⟨_, ho, _⟩ := x; Heap.lt_size ho
section
variable {prog : Program} {w : World} {A : Around} {E : Value → Shared → Prop} {s : Shared}
theorem rawd_iter {d : Addr} {es : Array DictEntry} {ep : Nat} {Q : Value → Shared → Prop} (hd : (d == sysModules) = false) (hm : RawD s.heap d es ep)
    (hQ : Q (.ref s.heap.objs.size) { s with heap := s.heap.push { cls := .type "dict_keyiterator", data := .fields #[.ref d, .int 0 0, .int es.size 0, .int ep 0] } }) :
    wpAny (model prog w) A (pyIter (.ref d)) Q E s := by
  obtain ⟨o, ho, hc, hdat⟩ := id hm
  have hT : s.TypeIs (.ref d) "dict" := hm.typeIs
  refine wpAny_pyIter_slot hT PySem.F.slot_dict_iter (wpAny_call_entry PySem.F.slot_dict_iter hT PySem.F.entry_dict_iter ?_ (PySem.F.args_dict_iter_1 _))
  unfold Builtin.«dict.__iter__»
  refine wpAny_bind ?_
  unfold Builtin.Dict.dictSlotNone
  refine wpAny_bind (wpAny_notOrdered_dict hT ?_)
  show wpAny _ _ (pure (Value.ref d)) _ _ s
  refine wpAny_pure ?_
  show wpAny _ _ (Builtin.Dict.showsAll d >>= _) _ _ s
  unfold Builtin.Dict.showsAll
  rw [if_neg (by rw [hd]; exact Bool.false_ne_true)]
  refine wpAny_bind (wpAny_pure ?_)
  refine wpAny_bind (wpAny_dictEntries ho hdat ?_)
  refine wpAny_bind (wpAny_dictEpoch ho hdat ?_)
  refine wpAny_bind (wpAny_newObj_type (wpAny_pure ⟨_, rfl, "dict_keyiterator", _, ⟨_, Heap.get?_push_size _ rfl, rfl⟩, PySem.F.slot_dict_keyiterator_next.lookup, ?_⟩))
  simpa [rawInt] using hQ
theorem rawd_item {it d : Addr} {i ep : Nat} {es : Array DictEntry} {Q : Option Value → Shared → Prop} (hit : s.heap.IsKeyIter it d i es.size ep)
    (hm : RawD s.heap d es ep) (hlt' : i < es.size)
    (hQ : ∀ h', h'.IsKeyIter it d (i + 1) es.size ep → Heap.SameBut it s.heap h' → Q (some es[i].key) { s with heap := h' }) :
    wpAny (model prog w) A (pyNext (.ref it)) Q E s := by
  obtain ⟨o, ho, hc, hd⟩ := id hit
  obtain ⟨od, hod, hcd, hdd⟩ := id hm
  unfold pyNext
  refine wpAny_bind (wpAny_attempt (wpAny_callSpecial?_slot (name := Str.ofString "__next__") hit.typeIs PySem.F.slot_dict_keyiterator_next
    (wpAny_call_entry PySem.F.slot_dict_keyiterator_next hit.typeIs PySem.F.entry_dict_keyiterator_next ?_ (PySem.F.args_dict_keyiterator_next_1 _))))
  refine wpAny_bind (wpAny_pure ?_)
  refine wpAny_bind ?_
  refine wpAny_bind ?_
  first | refine wpAny_bind (wpAny_typeNameOfWhole_keyiter hit.typeIs (wpAny_pure ?_)) | refine wpAny_bind (wpAny_typeNameOf_keyiter hit.typeIs (wpAny_pure ?_))
  refine wpAny_bind (wpAny_fieldsOf ho hd ?_)
  have hown : Builtin.Dict_items.ownsTuple "dict_keyiterator" = false := by decide
  simp only [hown, Bool.false_eq_true, if_false]
  show wpAny _ _ (if (Value.ref d == Value.none) = true then _ else _) _ _ s
  rw [if_neg (show ¬ ((Value.ref d == Value.none) = true) from Bool.false_ne_true)]
  refine wpAny_bind (wpAny_pure ?_)
  refine wpAny_bind (wpAny_dictEntries hod hdd ?_)
  rw [if_neg (by simp)]
  refine wpAny_bind (wpAny_pure ?_)
  refine wpAny_bind (wpAny_dictEpoch hod hdd ?_)
  rw [if_neg (by simp)]
  refine wpAny_pure ?_
  simp only [show ¬ ((i : Int) < 0) from by omega, if_false, Int.toNat_natCast, Array.getElem?_eq_getElem hlt']
  refine wpAny_bind ?_
  first | refine wpAny_bind (wpAny_typeNameOfWhole_keyiter hit.typeIs (wpAny_pure ?_)) | refine wpAny_bind (wpAny_typeNameOf_keyiter hit.typeIs (wpAny_pure ?_))
  refine wpAny_bind (wpAny_isOneOf_keyiter hit.typeIs ?_)
  show wpAny _ _ (setField (.ref it) 1 (rawInt ((i : Int) + 1)) >>= _) _ _ s
  refine wpAny_bind (wpAny_setField ho hd (by simp) ?_)
  have hit' : (s.heap.update it (Obj.mapFields (·.setIfInBounds 1 (rawInt ((i : Int) + 1))))).IsKeyIter it d (i + 1) es.size ep :=
    ⟨_, Heap.get?_update_self _ ho (Obj.isFreed_of_fields (Obj.data_mapFields hd _)), (Obj.cls_mapFields ..).trans hc, by rw [Obj.data_mapFields hd]; simp [rawInt]⟩
  refine wpAny_bind (wpAny_holding ?_)
  refine wpAny_bind (wpAny_isOneOf_keyiter (s := { s with heap := s.heap.update it (Obj.mapFields (·.setIfInBounds 1 (rawInt ((i : Int) + 1)))) }) hit'.typeIs ?_)
  show wpAny _ _ (pure es[i].key) _ _ _
  exact wpAny_pure (wpAny_pure ⟨_, rfl, wpAny_pure (hQ _ hit' (Heap.SameBut.update ..))⟩)
theorem rawd_end {it d : Addr} {ep : Nat} {es : Array DictEntry} {Q : Option Value → Shared → Prop} (hh : A.handled = none) (hit : s.heap.IsKeyIter it d es.size es.size ep)
    (hm : RawD s.heap d es ep) (hQ : ∀ h', Heap.ExtBut it s.heap h' → Q none { s with heap := h' }) : wpAny (model prog w) A (pyNext (.ref it)) Q E s := by
  obtain ⟨o, ho, hc, hd⟩ := id hit
  obtain ⟨od, hod, hcd, hdd⟩ := id hm
  unfold pyNext
  refine wpAny_bind (wpAny_attempt (wpAny_callSpecial?_slot (name := Str.ofString "__next__") hit.typeIs PySem.F.slot_dict_keyiterator_next
    (wpAny_call_entry PySem.F.slot_dict_keyiterator_next hit.typeIs PySem.F.entry_dict_keyiterator_next ?_ (PySem.F.args_dict_keyiterator_next_1 _))))
  refine wpAny_bind (wpAny_pure ?_)
  refine wpAny_bind ?_
  refine wpAny_bind ?_
  first | refine wpAny_bind (wpAny_typeNameOfWhole_keyiter hit.typeIs (wpAny_pure ?_)) | refine wpAny_bind (wpAny_typeNameOf_keyiter hit.typeIs (wpAny_pure ?_))
  refine wpAny_bind (wpAny_fieldsOf ho hd ?_)
  have hown : Builtin.Dict_items.ownsTuple "dict_keyiterator" = false := by decide
  simp only [hown, Bool.false_eq_true, if_false]
  show wpAny _ _ (if (Value.ref d == Value.none) = true then _ else _) _ _ s
  rw [if_neg (show ¬ ((Value.ref d == Value.none) = true) from Bool.false_ne_true)]
  refine wpAny_bind (wpAny_pure ?_)
  refine wpAny_bind (wpAny_dictEntries hod hdd ?_)
  rw [if_neg (by simp)]
  refine wpAny_bind (wpAny_pure ?_)
  refine wpAny_bind (wpAny_dictEpoch hod hdd ?_)
  rw [if_neg (by simp)]
  refine wpAny_pure ?_
  simp only [show ¬ ((es.size : Int) < 0) from by omega, if_false, Int.toNat_natCast, Array.getElem?_eq_none (Nat.le_refl es.size)]
  refine wpAny_bind ?_
  first | refine wpAny_bind (wpAny_typeNameOfWhole_keyiter hit.typeIs (wpAny_pure ?_)) | refine wpAny_bind (wpAny_typeNameOf_keyiter hit.typeIs (wpAny_pure ?_))
  show wpAny _ _ (setField (.ref it) 0 .none >>= _) _ _ s
  refine wpAny_bind (wpAny_setField ho hd (by simp) ?_)
  show wpAny _ _ (newExc (.type "StopIteration") [] >>= _) _ _ _
  refine wpAny_bind ?_
  simp only [newExc, newTuple]
  refine wpAny_bind (wpAny_newObj_type ?_ (by size_fits))
  refine wpAny_bind (m := firstArgMember _ _) (wpAny_of_eq (a := Value.none) (by first | rfl | (simp only [firstArgMember]; rfl)) ?_)
  refine wpAny_newObj_type ?_ (by size_fits)
  simp only [raiseNew]
  refine wpAny_bind (wpAny_handled ?_)
  rw [show A.in1.handled = none from hh]
  refine wpAny_bind (wpAny_pure (wpAny_throw ?_))
  refine wpAny_bind (wpAny_isInstance (T := "StopIteration") (b := true) ⟨_, Heap.get?_push_size _ rfl, rfl⟩ isSubtype_stop ?_)
  exact wpAny_pure (hQ _ (((Heap.SameBut.update ..).extBut.push _).push _))
theorem rawd_walks (hh : A.handled = none) (I d : Addr) (hne : d ≠ I) (es : Array DictEntry) (ep : Nat) :
    Walks prog w A I [I, d] [I] es.size (fun i v => ∃ (h : i < es.size), v = es[i].key) (fun i h => h.IsKeyIter I d i es.size ep ∧ RawD h d es ep) where
  sub := fun b hb => by simp at hb; simp [hb]
  frame := fun _ _ _ st hk => ⟨st.1.at fun o e => hk I (by simp) o e, st.2.at' fun o e => hk d (by simp) o e⟩
  item := fun i s Q E hi st hQ => by
    refine rawd_item st.1 st.2 hi fun h' hit' hs' => ?_
    exact hQ _ h' s.toks ⟨hi, rfl⟩ ⟨hit', st.2.at' fun o e => (hs'.2 d hne).trans e⟩ fun b o hb e => hs'.extBut b o (fun h => hb (by simp [h])) e
  done := fun s Q E st hQ => rawd_end hh st.1 st.2 fun h' he' => hQ h' s.toks fun b o hb e => he' b o (fun h => hb (by simp [h])) e
  self := fun _ _ _ _ st hQ => wpAny_pyIter_keyiter st.1 hQ
theorem rawd_src {d : Addr} {es : Array DictEntry} {ep : Nat} (lo : (d == sysModules) = false) : KdlSrc prog w "dict" d d es.size (fun i v => ∃ (h : i < es.size), v = es[i].key) (fun h => RawD h d es ep) where
  type := fun _ hm => hm.typeIs
  there := fun _ hm => ⟨hm.lt, hm.lt⟩
  keep := fun _ _ hm hk => hm.at' fun o e => hk d (.inl rfl) o e
  notList := by decide
  notTuple := by decide
  hint := fun _ _ _ _ hm hq => kdl_hint_dict hm.typeIs hq
  iter := fun _ _ hh hm => ⟨_, _, (fun _ _ hq => rawd_iter lo hm hq), rawd_walks hh _ d (Nat.ne_of_lt hm.lt) es ep, ⟨⟨_, Heap.get?_push_size _ rfl, rfl, rfl⟩, hm.at' fun o e => Heap.get?_push_of_some _ e⟩⟩
end

noncomputable abbrev KeysAt (H : Hp) (as : List Addr) (ks : List (List Key)) : Prop := Paired (fun a (k : List Key) => H a = some (.tup (k.map kV))) as ks
theorem keysAt_of {H : Hp} : ∀ {kvs : List (List Key × V)} {xs : List (List Key × Addr × Value)}, KT H kvs xs → KeysAt H (xs.map (·.2.1)) (kvs.map (·.1))
  | _, _, .nil => .nil
  | _, _, .cons r t => .cons (by
    obtain ⟨h1, h2, _⟩ := r
    exact h2) (keysAt_of t)
theorem vals_refs : ∀ l : List Addr, Vals (l.map V.ref) (l.map Value.ref)
  | [] => .nil
  | _ :: l => .cons rfl (vals_refs l)
noncomputable def rListD : List V → Hp → VK → Prop := fun xs H Q => ∃ d kvs, xs = [.ref d] ∧ H d = some (.dT kvs) ∧ ∀ l as, H l = none → KeysAt H as (kvs.map (·.1)) → Q (.ref l) (upd H l (.lst (as.map V.ref)))
section
variable {X : Cx}
theorem call_list_dT (hc : X.calm = true) : CallR X (.type "list") rListD := by
  intro pins s σ H xs us Q I r h
  obtain ⟨d, kvs, rfl, hd, q⟩ := h
  obtain ⟨u, rfl, ru⟩ := vals1 r
  obtain rfl := (show u = Value.ref d from ru)
  obtain ⟨z, lo, xs, rk, o, es, ep, h1, h2, h3, h4, h5⟩ := (show ObjOk X.prog X.w H s.heap d (.dT kvs) from I.hok d _ hd)
  have raw : RawD s.heap d es ep := ⟨o, h1, h2, h3⟩
  have hsz : es.size = xs.length := by rw [← Array.length_toList, h4, List.length_map]
  have hlen : xs.length = kvs.length := (Paired.length rk).symm
  refine kdl_call (rawd_src lo) (I.ok.hd hc) raw (by rw [hsz, hlen]; exact z) fun h' tk acc' c' hk hS hacc => ?_
  have hacc' : acc'.toList = (xs.map (·.2.1)).map Value.ref := by
    apply List.ext_getElem
    · rw [Array.length_toList, hacc.1, hsz, List.length_map, List.length_map]
    · intro i i1 i2
      have hi : i < es.size := by rw [hsz]; simpa using i2
      obtain ⟨_, e⟩ := hacc.2 i acc'[i] (by simp at i1; simp [i1])
      have e1 : es.toList[i]'(by simpa using hi) = es[i] := by simp
      have e2 : es[i] = entryOfKey (tupleKind (mixKind X.prog X.w)) (xs[i]'(by rw [← hsz]; exact hi)) := by
        rw [← e1]
        simp only [h4, List.getElem_map]
      rw [e2] at e
      simp only [Array.getElem_toList, List.getElem_map]
      exact e
  have hf : H s.heap.objs.size = none := I.hok.fresh (Nat.le_refl _)
  refine ⟨.ref _, upd H s.heap.objs.size (.lst ((xs.map (·.2.1)).map V.ref)), I.laid (t' := tk) hk (Nat.le_refl _) ?_, rfl, q _ _ hf (keysAt_of rk)⟩
  refine ⟨by rw [List.length_map, List.length_map, hlen]; exact z, (xs.map (·.2.1)).map Value.ref, c', vals_refs _, ?_⟩
  rw [hS, ← hacc']

theorem bools_are : ∀ {bs : List Bool} {us : List Value}, Vals (bs.map V.bl) us → us = bs.map Value.bool
  | [], _, h => by cases h; rfl
  | b :: bs, _, h => by
    rw [List.map_cons] at h
    cases h with
    | cons r t =>
      obtain rfl := (show _ = Value.bool b from r)
      rw [bools_are t]; rfl
theorem call_allB (hc : X.calm = true) : CallR X (.builtin "all") (fun xs H Q => ∃ (p : Addr) (bs : List Bool), xs = [.ref p] ∧ SqL X.K H p (bs.map V.bl) ∧ Q (.bl (bs.all id)) H) := by
  intro pins s σ H xs us Q I r h
  obtain ⟨p, bs, rfl, hS, q⟩ := h
  obtain ⟨u, rfl, ru⟩ := vals1 r
  obtain rfl := (show u = Value.ref p from ru)
  obtain ⟨its, rv, pl, hz⟩ := I.list hS
  obtain rfl := bools_are rv
  have hl := pl.isList
  have hlt : p < s.heap.objs.size := by obtain ⟨_, e, _⟩ := hl; exact Heap.lt_size e
  refine call_all_walk (wpAny_pyIter_list hl ?_)
  refine ⟨s.heap.objs.size, [s.heap.objs.size, p], [s.heap.objs.size], (bs.map Value.bool).toArray.size, _, _, fun i => (bs[i]?).getD true, rfl, Walks.list (A := X.A.in1) (I.ok.hd hc) _ p (Nat.ne_of_lt hlt) (bs.map Value.bool).toArray,
    ⟨⟨_, Heap.get?_push_size _ rfl, rfl, rfl⟩, hl.push _⟩, fun i v s' Q' E' hP hQ => ?_, fun h' tk hk => ?_⟩
  · have hP' : (bs.map Value.bool)[i]? = some v := by simpa using hP
    rw [List.getElem?_map] at hP'
    cases e : bs[i]? with
    | none => rw [e] at hP'; cases hP'
    | some b =>
      rw [e] at hP'
      cases hP'
      simp only [e, Option.getD_some] at hQ
      exact wpAny_truthy_bool hQ
  · have e : ((List.range (bs.map Value.bool).toArray.size).all fun i => (bs[i]?).getD true) = bs.all id := by
      rw [List.size_toArray, List.length_map]
      rw [Bool.eq_iff_iff, List.all_eq_true, List.all_eq_true]
      constructor
      · intro h b hb
        obtain ⟨i, hi, rfl⟩ := List.getElem_of_mem hb
        have := h i (List.mem_range.mpr hi)
        simpa [hi] using this
      · intro h i hi
        have hi' := List.mem_range.mp hi
        simpa [hi'] using h _ (List.getElem_mem hi')
    rw [e]
    refine ⟨.bl _, H, I.kept (t' := tk) fun b x e => hk b x (fun hm => ?_) (Heap.get?_push_of_some _ e), rfl, q⟩
    rw [List.mem_singleton.mp hm] at e
    exact Nat.lt_irrefl _ (Heap.lt_size e)
end
end Ww

set_option Elab.async false
set_option linter.all false
set_option maxRecDepth 100000
namespace Ww
open PySem PySem.W PyProof.Rows L2

/-! ### comparisons of lists -/
noncomputable abbrev ListsAt (K : Frag) (H : Hp) (as : List Addr) (xss : List (List V)) : Prop := Paired (fun a (xs : List V) => SqL K H a xs) as xss
theorem ListsAt.mem {K : Frag} {H : Hp} : ∀ {as : List Addr} {xss : List (List V)}, ListsAt K H as xss → ∀ a ∈ as, ∃ xs, SqL K H a xs
  | _, _, .nil, _, h => nomatch h
  | _, _, .cons r t, a, h => by
    rcases List.mem_cons.mp h with rfl | h
    · exact ⟨_, r⟩
    · exact ListsAt.mem t a h
section
variable {X : Cx}
open Classical in
theorem any_empty {pins : List (Addr × Obj)} {σ : L2.St} {H : Hp} {s : Shared} (I : Inv X pins σ H s) : ∀ {as : List Addr} {xss : List (List V)}, ListsAt X.K H as xss →
    (as.map Value.ref).any (fun v => match v with | .ref a => decide (SqL X.K H a []) | _ => false) = xss.any (·.isEmpty)
  | _, _, .nil => rfl
  | _, _, .cons (a := a) (b := xs) r t => by
    rw [List.map_cons, List.any_cons, List.any_cons, any_empty I t]
    congr 1
    cases xs with
    | nil => exact decide_eq_true r
    | cons x xs => exact decide_eq_false fun h => nomatch I.list_inj h r
theorem op_in_empty (hu : X.A.units + 1 < cLine) : OpR X (compareOp .In) (fun x y H Q => ∃ e p as xss, x = .ref e ∧ y = .ref p ∧ SqL X.K H e [] ∧ SqL X.K H p (as.map V.ref) ∧ ListsAt X.K H as xss ∧ Q (.bl (xss.any (·.isEmpty))) H) := by
  intro pins s σ H x y v u Q I rx ry h
  obtain ⟨e, p, as, xss, rfl, rfl, he, hp, hl, q⟩ := h
  obtain rfl := (show v = Value.ref e from rx)
  obtain rfl := (show u = Value.ref p from ry)
  obtain ⟨its, rv, pl, hz⟩ := I.list hp
  obtain rfl := refs_of rv
  obtain ⟨ie, re, ple, _⟩ := I.list he
  cases re
  classical
  refine SeqAt.in_listAt (fun v => match v with | .ref a => decide (SqL X.K H a []) | _ => false) pl.isList (fun w hw => ?_) ⟨.bl _, H, I, rfl, ?_⟩
  · have hw' : w ∈ as.map Value.ref := by simpa using hw
    obtain ⟨a, ha, rfl⟩ := List.mem_map.mp hw'
    obtain ⟨xs, hx⟩ := ListsAt.mem hl a ha
    show SeqAt.EqAt X.A.in1 s (.ref a) (.ref e) (decide (SqL X.K H a []))
    by_cases hae : a = e
    · subst hae
      rw [decide_eq_true he]
      exact SeqAt.EqAt.same _
    · obtain ⟨ix, rx, plx, _⟩ := I.list hx
      refine SeqAt.EqAt.of_refs hae ?_
      cases xs with
      | nil =>
        cases rx
        rw [decide_eq_true hx]
        exact SeqAt.RcAt.lists (e := fun _ => true) plx.isList ple.isList rfl hu (fun j h1 _ => absurd h1 (by simp))
      | cons x0 xs =>
        have : ¬ SqL X.K H a [] := fun z => nomatch I.list_inj z hx
        rw [decide_eq_false this]
        refine SeqAt.RcAt.lists_lengths plx.isList ple.isList ?_ hu
        have := rx.length
        cases ix with
        | nil => simp at this
        | cons _ _ => simp
  · have e2 := any_empty I hl
    rw [show (as.map Value.ref).toArray.any (fun v => match v with | .ref a => decide (SqL X.K H a []) | _ => false) = (as.map Value.ref).any (fun v => match v with | .ref a => decide (SqL X.K H a []) | _ => false) by simp, e2]
    exact q
theorem eq_flat : ∀ {xs ys : List V} {us vs : List Value}, Vals xs us → Vals ys vs → xs.all flatV = true → ys.all flatV = true → ∀ (A : Around) (s : Shared) (j : Nat) (h1 : j < us.length) (h2 : j < vs.length), SeqAt.EqAt A s us[j] vs[j] (eqV (xs.getD j .non) (ys.getD j .non))
  | _, _, _, _, .nil, _, _, _, _, _, _, h, _ => by simp at h
  | _, _, _, _, .cons _ _, .nil, _, _, _, _, _, _, h => by simp at h
  | _, _, _, _, .cons r t, .cons r' t', f, f', A, s, 0, _, _ => by
    rw [List.all_cons, Bool.and_eq_true] at f f'
    exact eqAt_V r r' f.1 f'.1
  | _, _, _, _, .cons r t, .cons r' t', f, f', A, s, j + 1, h1, h2 => by
    rw [List.all_cons, Bool.and_eq_true] at f f'
    have := eq_flat t t' f.2 f'.2 A s j (by simpa using h1) (by simpa using h2)
    simpa using this
theorem op_eq_flat (hu : X.A.units < cLine) : OpR X (compareOp .Eq) (fun x y H Q => ∃ p p' xs ys, x = .ref p ∧ y = .ref p' ∧ SqL X.K H p xs ∧ SqL X.K H p' ys ∧ xs.all flatV = true ∧ ys.all flatV = true ∧
    Q (.bl (decide (xs.length = ys.length) && (List.range xs.length).all fun j => eqV (xs.getD j .non) (ys.getD j .non))) H) := by
  intro pins s σ H x y v u Q I rx ry h
  obtain ⟨p, p', xs, ys, rfl, rfl, h1, h2, f1, f2, q⟩ := h
  obtain rfl := (show v = Value.ref p from rx)
  obtain rfl := (show u = Value.ref p' from ry)
  obtain ⟨i1, r1, pl1, _⟩ := I.list h1
  obtain ⟨i2, r2, pl2, _⟩ := I.list h2
  have l1 := r1.length
  have l2 := r2.length
  by_cases hl : xs.length = ys.length
  · rw [decide_eq_true hl, Bool.true_and] at q
    refine SeqAt.eq_listAt (e := fun j => eqV (xs.getD j .non) (ys.getD j .non)) pl1.isList pl2.isList (by rw [List.size_toArray, List.size_toArray]; omega) hu (fun j h1 h2 => ?_) ⟨.bl _, H, I, rfl, ?_⟩
    · have := eq_flat r1 r2 f1 f2 X.A.in1 s j (by simpa using h1) (by simpa using h2)
      simpa using this
    · rw [List.size_toArray, ← l1]; exact q
  · rw [decide_eq_false hl, Bool.false_and] at q
    refine SeqAt.eq_list_lengthsAt pl1.isList pl2.isList ?_ hu ⟨.bl _, H, I, rfl, q⟩
    simp only [List.size_toArray, bne_iff_ne, ne_eq]
    omega
noncomputable def clsV : V → Value
  | .ty n => .type n
  | .ref a => .ref a
  | _ => .none
theorem pe_ty {x : Str} {n : String} {pos : Pos} (hg : Gl X x) (hm : X.mg x = none) (hv : bootBuiltins x = some (.type n)) (hn : x ≠ "__name__" := by decide) (hd : (x == ("__debug__" : Str)) = false := by decide) : PE X (.Name x pos) (tC (.ty n)) :=
  pe_bltn hg hm hv rfl hn hd
theorem OpR.or {f : Value → Value → Sem Value} {r r' : R2} (h : OpR X f r) (h' : OpR X f r') : OpR X f (fun x y H Q => r x y H Q ∨ r' x y H Q) := by
  intro pins s σ H x y v u Q I rx ry q
  rcases q with q | q
  · exact h pins s σ H x y v u Q I rx ry q
  · exact h' pins s σ H x y v u Q I rx ry q
end

/-! ### defs, methods, classes in one word each -/
structure DefOk (P : Program) (w : World) (K : Frag) (mg : Str → Option Value) (base : Heap) (CX : CXT) (k : Nat) (x : Str) (ps : List Str) (sp : Sp) : Prop where
  ex : ∃ f fd, FnOk P w K mg base CX k f fd ps sp ∧ mg x = some (.ref f) ∧ keepIn K (.ref f) = true ∧ Binds K fd ps []
structure MethOk (P : Program) (w : World) (K : Frag) (mg : Str → Option Value) (base : Heap) (CX : CXT) (k : Nat) (C : Addr) (m : Str) (ps : List Str) (sp : Sp) : Prop where
  ex : ∃ f fd, FnOk P w K mg base CX k f fd ps sp ∧ Meth K C m f ∧ Cls K C ∧ Binds K fd ps []
structure ClassOk (P : Program) (w : World) (K : Frag) (mg : Str → Option Value) (base : Heap) (CX : CXT) (k : Nat) (C : Addr) (x : Str) (ps : List Str) (sp : Sp) : Prop where
  ex : ∃ f fd, FnOk P w K mg base CX k f fd ps sp ∧ Mk K C f ∧ mg x = some (.ref C) ∧ Binds K fd ps []
section
variable {X : Cx} {CX : CXT} {k k' : Nat} {C : Addr} {x m : Str} {ps : List Str} {sp : Sp} {E : XK} {p pos apos : Pos} {e o : Expr} {es : List Expr} {ta : TE} {t : TA}
theorem pe_def (D : DefOk X.prog X.w X.K X.mg X.base CX k x ps sp) (hx : Passes CX X E) (hr : Room k' X.A) (hk : k ≤ k') (hg : Gl X x) (ha : PA X (e :: es) t) (hdb : (x == ("__debug__" : Str)) = false := by decide)
    (he : starEach (e :: es) X.env = (false, eval e X.env) :: starEach es X.env := by rfl) (hpl : (backTo pos (starEach es X.env)).any (·.1) = false := by rfl) :
    PE X (.Call (.Name x p) (e :: es) [] pos) (tCall sp [] E t) := by
  obtain ⟨f, fd, F, h1, h2, h3⟩ := D.ex
  exact pe_call F (hr.mono hk) hg h1 h2 h3 .nil hx ha hdb he hpl
end

/-! ### heaps -/
theorem _root_.L2.Same.new {H : Hp} {p : Addr} {o : HO} (h : H p = none) : Same H (upd H p o) := fun b u e => by rw [upd_ne (ne_of_none e h)]; exact e
theorem _root_.L2.Same.tups {H H' : Hp} (S : Same H H') {as : List Addr} {ks : List (List Int)} (h : TupsAt H as ks) : TupsAt H' as ks := h.same S
theorem _root_.L2.Same.lists {K : Frag} {H H' : Hp} (S : Same H H') {as : List Addr} {xss : List (List V)} (h : ListsAt K H as xss) : ListsAt K H' as xss := Paired.mapP h fun _ _ e => S.seq e
noncomputable def SameX (l : Addr) (H H' : Hp) : Prop := ∀ b o, b ≠ l → H b = some o → H' b = some o
theorem SameX.upd {H : Hp} {l : Addr} {o : HO} : SameX l H (upd H l o) := fun b u h e => by rw [upd_ne h]; exact e
end Ww

set_option Elab.async false
set_option linter.all false
set_option maxRecDepth 100000
namespace Ww
open PySem PySem.W PyProof.Rows L2
theorem bb_len : bootBuiltins "len" = some (.builtin "len") := by decide +kernel
theorem bb_sorted : bootBuiltins "sorted" = some (.builtin "sorted") := by decide +kernel
theorem bb_isinstance : bootBuiltins "isinstance" = some (.builtin "isinstance") := by decide +kernel
theorem bb_all : bootBuiltins "all" = some (.builtin "all") := by decide +kernel
theorem bb_list : bootBuiltins "list" = some (.type "list") := by decide +kernel
theorem bb_tuple : bootBuiltins "tuple" = some (.type "tuple") := by decide +kernel
theorem bb_int : bootBuiltins "int" = some (.type "int") := by decide +kernel
theorem pe_gint {X : Cx} {x : Str} {i : Int} {t : Tok} {pos : Pos} (hg : Gl X x) (hm : X.mg x = some (.int i t)) (hd : (x == ("__debug__" : Str)) = false := by decide) : PE X (.Name x pos) (tC (.int i)) := pe_glob hg hm ⟨t, rfl⟩ hd
theorem pg_name' {X : Cx} {pos : Pos} {x : Str} (i : Nat) (hN : X.N.Nodup) (hi : X.N[i]? = some x) (hx : X.env.scope.names.lookup x = some .local) : PG X (.Name x pos) (gName i) := pg_name hN hi (.inl hx) (.inr hx)
theorem pgs_cons' {X : Cx} {e : Expr} {es : List Expr} {t : TG} {u : TGs} (h1 : PG X e t) (h2 : PGs X es u) (hs : (assignEach (e :: es) X.env).map (·.2) = assign e X.env :: (assignEach es X.env).map (·.2)) : PGs X (e :: es) (gCons t u) := pgs_cons h1 h2 hs
theorem pg_tup' {X : Cx} {pos : Pos} {es : List Expr} {k : Nat} {t : TGs} {K : Frag} (n : Nat) (hK : X.K = K) (hc : X.calm = true) (h : PGs X es t) (hn : (assignEach es X.env).length = n) (hst : (assignEach es X.env).findIdx? (·.1) = none) : PG X (.Tuple es k pos) (gTup K n t) := hK ▸ pg_tup hc h hn hst
theorem ix_listK {X : Cx} {K : Frag} (hK : X.K = K) : IxR X (rIxL K) := hK ▸ ix_list
theorem ix_tupK {X : Cx} {K : Frag} (hK : X.K = K) : IxR X (rIxT K) := hK ▸ ix_tup
inductive I_len (K : Frag) (xs : List V) (H : Hp) (Q : VK) : Prop
  | mk (p : Addr) (ys : List V) (h1 : xs = [.ref p]) (h2 : SqL K H p ys ∨ SqT K H p ys) (q : Q (.int ys.length) H)
theorem call_lenK {X : Cx} {K : Frag} (hK : X.K = K) : CallR X (.builtin "len") (fun xs H Q => I_len K xs H Q) := by
  subst hK
  intro pins s σ H xs us Q I r h
  obtain ⟨p, ys, e1, e2, q⟩ := h
  exact call_len_seq pins s σ H xs us Q I r ⟨p, ys, e1, e2, q⟩
theorem call_list_ofK {X : Cx} {K : Frag} (hK : X.K = K) : CallR X (.type "list") (fun xs H Q => ∃ p ys, xs = [.ref p] ∧ (SqL K H p ys ∨ SqT K H p ys) ∧ ∀ l, H l = none → Q (.ref l) (upd H l (.lst ys))) := hK ▸ call_list_of
theorem pe_fldK {X : Cx} {K : Frag} {e : Expr} {f : Str} {pos : Pos} {ta : TE} (hK : X.K = K) (he : PE X e ta) (hb : attributeBase e f X.env (eval e X.env) = eval e X.env) : PE X (.Attribute e f pos) (tFld K ta f) := hK ▸ pe_fld he hb
theorem pi_listK {X : Cx} {K : Frag} {tg l : Expr} {tl : TE} (hK : X.K = K) (hl : PE X l tl) : PI X tg l (iList K tl) := hK ▸ pi_list hl
theorem sl_listK {X : Cx} {K : Frag} (hK : X.K = K) : SlR X (rSlL K) := hK ▸ sl_list
structure NB (mg : Str → Option Value) : Prop where
  b_len : mg "len" = none
  b_range : mg "range" = none
  b_list : mg "list" = none
  b_sorted : mg "sorted" = none
  b_isinstance : mg "isinstance" = none
  b_all : mg "all" = none
  b_bool : mg "bool" = none
  b_int : mg "int" = none
  b_tuple : mg "tuple" = none
  b_enumerate : mg "enumerate" = none
  b_reversed : mg "reversed" = none
theorem def_ok {P : Program} {w : World} {K : Frag} {mg : Str → Option Value} {base : Heap} {k : Nat} {x qual : Str} {st : Stmt} {f : Addr} {fd : FuncData} {ps : List Str} {sp : Sp} (F : L2.Fun K x qual st f fd) (hm : mg x = some (.ref f)) (hb : Binds K fd ps [])
    (h : FnOk P w K mg base CX0 k f fd ps sp) : DefOk P w K mg base CX0 k x ps sp := ⟨⟨f, fd, h, hm, F.kp, hb⟩⟩
end Ww

set_option Elab.async false
set_option linter.all false
namespace Ww
open PySem PySem.W PyProof.Rows L2

/-! ### reaching -/
inductive Reach (adj : List (List Nat)) (k : Nat) : Nat → Prop
  | refl : Reach adj k k
  | step {i j : Nat} : Reach adj k i → j ∈ adj.getD i [] → Reach adj k j
structure RInv (adj : List (List Nat)) (k : Nat) (ex : Nat → Prop) (bs : List Bool) (ws : List Nat) : Prop where
  len : bs.length = adj.length
  st : bs.getD k false = true
  snd : ∀ i, bs.getD i false = true → Reach adj k i
  wt : ∀ w ∈ ws, bs.getD w false = true ∧ w < adj.length
  cls : ∀ i, bs.getD i false = true → i ∈ ws ∨ ex i ∨ ∀ j ∈ adj.getD i [], bs.getD j false = true
theorem getD_set {α : Type} (bs : List α) (j i : Nat) (v d : α) (h : j < bs.length) : (bs.set j v).getD i d = if i = j then v else bs.getD i d := by
  by_cases e : i = j
  · subst e; simp [h]
  · simp [List.getElem?_set, e, Ne.symm e]
theorem RInv.start {adj : List (List Nat)} {k : Nat} (hk : k < adj.length) : RInv adj k (fun _ => False) ((List.replicate adj.length false).set k true) [k] := by
  have hl : k < (List.replicate adj.length false).length := by simpa using hk
  have rep : ∀ i, (List.replicate adj.length false).getD i false = false := fun i => by
    rw [List.getD_eq_getElem?_getD, List.getElem?_replicate]; split <;> rfl
  refine ⟨by simp, by rw [getD_set _ _ _ _ _ hl, if_pos rfl], fun i h => ?_, fun w hw => ?_, fun i h => ?_⟩
  · rw [getD_set _ _ _ _ _ hl] at h
    by_cases e : i = k
    · subst e; exact .refl
    · rw [if_neg e, rep] at h; cases h
  · rw [List.mem_singleton.mp hw]
    exact ⟨by rw [getD_set _ _ _ _ _ hl, if_pos rfl], hk⟩
  · rw [getD_set _ _ _ _ _ hl] at h
    by_cases e : i = k
    · subst e; left; simp
    · rw [if_neg e, rep] at h; cases h
theorem RInv.pop {adj : List (List Nat)} {k d : Nat} {bs : List Bool} {ws : List Nat} (h : RInv adj k (fun _ => False) bs (ws ++ [d])) : RInv adj k (fun i => i = d) bs ws :=
  ⟨h.len, h.st, h.snd, fun w hw => h.wt w (List.mem_append_left _ hw), fun i hi => by
    rcases h.cls i hi with z | z | z
    · rcases List.mem_append.mp z with z | z
      · exact .inl z
      · exact .inr (.inl (List.mem_singleton.mp z))
    · exact z.elim
    · exact .inr (.inr z)⟩
theorem RInv.mark {adj : List (List Nat)} {k d j : Nat} {ex : Nat → Prop} {bs : List Bool} {ws : List Nat} (h : RInv adj k ex bs ws) (hd : bs.getD d false = true) (hj : j ∈ adj.getD d []) (hl : j < adj.length) : RInv adj k ex (bs.set j true) (ws ++ [j]) := by
  have hl' : j < bs.length := by rw [h.len]; exact hl
  have up : ∀ i, bs.getD i false = true → (bs.set j true).getD i false = true := fun i hi => by
    rw [getD_set _ _ _ _ _ hl']; split <;> first | rfl | exact hi
  refine ⟨by rw [List.length_set]; exact h.len, up _ h.st, fun i hi => ?_, fun w hw => ?_, fun i hi => ?_⟩
  · rw [getD_set _ _ _ _ _ hl'] at hi
    by_cases e : i = j
    · subst e; exact .step (h.snd d hd) hj
    · rw [if_neg e] at hi; exact h.snd i hi
  · rcases List.mem_append.mp hw with z | z
    · exact ⟨up _ (h.wt w z).1, (h.wt w z).2⟩
    · rw [List.mem_singleton.mp z]
      exact ⟨by rw [getD_set _ _ _ _ _ hl', if_pos rfl], hl⟩
  · by_cases e : i = j
    · subst e; left; simp
    · have hi' : bs.getD i false = true := by rw [getD_set _ _ _ _ _ hl', if_neg e] at hi; exact hi
      rcases h.cls i hi' with z | z | z
      · exact .inl (List.mem_append_left _ z)
      · exact .inr (.inl z)
      · exact .inr (.inr fun m hm => up _ (z m hm))
theorem RInv.fin {adj : List (List Nat)} {k d : Nat} {bs : List Bool} {ws : List Nat} (h : RInv adj k (fun i => i = d) bs ws) (hd : ∀ j ∈ adj.getD d [], bs.getD j false = true) : RInv adj k (fun _ => False) bs ws :=
  ⟨h.len, h.st, h.snd, h.wt, fun i hi => by
    rcases h.cls i hi with z | z | z
    · exact .inl z
    · subst z; exact .inr (.inr hd)
    · exact .inr (.inr z)⟩
theorem RInv.done {adj : List (List Nat)} {k : Nat} {bs : List Bool} (h : RInv adj k (fun _ => False) bs []) (i : Nat) : bs.getD i false = true ↔ Reach adj k i := by
  refine ⟨h.snd i, fun r => ?_⟩
  induction r with
  | refl => exact h.st
  | step r hj ih =>
    rcases h.cls _ ih with z | z | z
    · exact nomatch z
    · exact z.elim
    · exact z _ hj

/-! ### values of lists -/
theorem atI_ref {as : List Addr} {j : Nat} (h : j < as.length) : atI (as.map V.ref) (j : Int) = some (V.ref (as.getD j 0)) := atI_nat (by simp [h])
theorem ListsAt.get {K : Frag} {H : Hp} : ∀ {as : List Addr} {xss : List (List V)}, ListsAt K H as xss → ∀ i, i < as.length → SqL K H (as.getD i 0) (xss.getD i [])
  | _, _, .nil, _, h => by simp at h
  | _, _, .cons r t, 0, _ => r
  | _, _, .cons r t, i + 1, h => by
    have := ListsAt.get t i (by simpa using h)
    simpa using this
theorem ListsAt.len {K : Frag} {H : Hp} {as : List Addr} {xss : List (List V)} (h : ListsAt K H as xss) : as.length = xss.length := Paired.length h
theorem line1000 : 100000 ≤ sizeLine := by decide
end Ww

set_option Elab.async false
set_option linter.all false
set_option maxRecDepth 100000
namespace Ww
open PySem PySem.W PyProof.Rows L2
theorem comp_list {K : Frag} {a acc : Addr} {xs : List V} {g : TG} {tt : TT} {te : TE} {σ0 : L2.St} {H0 : Hp} {Q : VK} (hz : xs.length < sizeLine) (Pv : Nat → List V → L2.St → Hp → Prop) (h0 : Pv 0 [] σ0 H0)
    (hl : ∀ i ys σ H, Pv i ys σ H → SqL K H a xs ∧ H acc = some (.lst ys) ∧ ys.length ≤ i)
    (hs : ∀ i x ys σ H, xs[i]? = some x → Pv i ys σ H → g x σ H fun σ2 H2 => tt σ2 H2 fun b H3 => if b = true then te σ2 H3 fun y H4 => H4 acc = some (.lst ys) ∧ Pv (i + 1) (ys ++ [y]) σ2 (upd H4 acc (.lst (ys ++ [y]))) else Pv (i + 1) ys σ2 H3)
    (mg : ∀ x σ H Q Q', (∀ σ2 H2, Q σ2 H2 → Q' σ2 H2) → g x σ H Q → g x σ H Q') (mt : ∀ σ H Q Q', (∀ b H2, Q b H2 → Q' b H2) → tt σ H Q → tt σ H Q') (me : ∀ σ H Q Q', (∀ v H2, Q v H2 → Q' v H2) → te σ H Q → te σ H Q')
    (hd : ∀ ys σ H, Pv xs.length ys σ H → Q (.ref acc) H) :
    ∃ W : Nat → Nat → List V → L2.St → Hp → Prop, (∃ m, W 0 m [] σ0 H0) ∧ ∀ i m ys σ' H', W i m ys σ' H' → H' acc = some (.lst ys) ∧ ys.length < sizeLine ∧
      (((Itl K a).stop i H' ∧ Q (.ref acc) H') ∨ ((Itl K a).go i H' ∧ ∀ x H'', (Itl K a).yld i H' x H'' → g x σ' H'' fun σ2 H2 => tt σ2 H2 fun b H3 =>
        if b = true then te σ2 H3 fun y H4 => H4 acc = some (.lst ys) ∧ ∃ m', m' < m ∧ W (i + 1) m' (ys ++ [y]) σ2 (upd H4 acc (.lst (ys ++ [y]))) else ∃ m', m' < m ∧ W (i + 1) m' ys σ2 H3)) := by
  refine ⟨fun i m ys σ H => m = xs.length - i ∧ i ≤ xs.length ∧ Pv i ys σ H, ⟨xs.length, by simp, Nat.zero_le _, h0⟩, ?_⟩
  rintro i m ys σ H ⟨rfl, hi, p⟩
  obtain ⟨q1, q2, q3⟩ := hl i ys σ H p
  refine ⟨q2, by omega, ?_⟩
  by_cases hlt : i < xs.length
  · refine .inr ⟨⟨xs, xs[i], q1, by simp [hlt]⟩, fun x H' y => ?_⟩
    obtain ⟨e, y⟩ := y
    subst e
    refine mg x σ _ _ _ (fun σ2 H2 z => mt σ2 H2 _ _ (fun b H3 z => ?_) z) (hs i x ys σ _ (y xs q1) p)
    cases b with
    | true =>
      rw [if_pos rfl] at z ⊢
      exact me _ _ _ _ (fun v H4 z => ⟨z.1, xs.length - (i + 1), by omega, rfl, hlt, z.2⟩) z
    | false =>
      rw [if_neg (by simp)] at z ⊢
      exact ⟨xs.length - (i + 1), by omega, rfl, hlt, z⟩
  · have e : i = xs.length := by omega
    subst e
    exact .inl ⟨⟨xs, q1, Nat.le_refl _⟩, hd ys σ H p⟩
theorem comp_range {acc : Addr} {lo : Int} {n : Nat} {g : TG} {tt : TT} {te : TE} {σ0 : L2.St} {H0 : Hp} {Q : VK} (hz : n < sizeLine) (Pv : Nat → List V → L2.St → Hp → Prop) (h0 : Pv 0 [] σ0 H0)
    (hl : ∀ i ys σ H, Pv i ys σ H → H acc = some (.lst ys) ∧ ys.length ≤ i)
    (hs : ∀ i ys σ H, i < n → Pv i ys σ H → g (.int (lo + i)) σ H fun σ2 H2 => tt σ2 H2 fun b H3 => if b = true then te σ2 H3 fun y H4 => H4 acc = some (.lst ys) ∧ Pv (i + 1) (ys ++ [y]) σ2 (upd H4 acc (.lst (ys ++ [y]))) else Pv (i + 1) ys σ2 H3)
    (mg : ∀ x σ H Q Q', (∀ σ2 H2, Q σ2 H2 → Q' σ2 H2) → g x σ H Q → g x σ H Q') (mt : ∀ σ H Q Q', (∀ b H2, Q b H2 → Q' b H2) → tt σ H Q → tt σ H Q') (me : ∀ σ H Q Q', (∀ v H2, Q v H2 → Q' v H2) → te σ H Q → te σ H Q')
    (hd : ∀ ys σ H, Pv n ys σ H → Q (.ref acc) H) :
    ∃ W : Nat → Nat → List V → L2.St → Hp → Prop, (∃ m, W 0 m [] σ0 H0) ∧ ∀ i m ys σ' H', W i m ys σ' H' → H' acc = some (.lst ys) ∧ ys.length < sizeLine ∧
      (((Itr lo n).stop i H' ∧ Q (.ref acc) H') ∨ ((Itr lo n).go i H' ∧ ∀ x H'', (Itr lo n).yld i H' x H'' → g x σ' H'' fun σ2 H2 => tt σ2 H2 fun b H3 =>
        if b = true then te σ2 H3 fun y H4 => H4 acc = some (.lst ys) ∧ ∃ m', m' < m ∧ W (i + 1) m' (ys ++ [y]) σ2 (upd H4 acc (.lst (ys ++ [y]))) else ∃ m', m' < m ∧ W (i + 1) m' ys σ2 H3)) := by
  refine ⟨fun i m ys σ H => m = n - i ∧ i ≤ n ∧ Pv i ys σ H, ⟨n, by simp, Nat.zero_le _, h0⟩, ?_⟩
  rintro i m ys σ H ⟨rfl, hi, p⟩
  obtain ⟨q2, q3⟩ := hl i ys σ H p
  refine ⟨q2, by omega, ?_⟩
  by_cases hlt : i < n
  · refine .inr ⟨hlt, fun x H' y => ?_⟩
    obtain ⟨e, y⟩ := y
    subst e y
    refine mg _ σ _ _ _ (fun σ2 H2 z => mt σ2 H2 _ _ (fun b H3 z => ?_) z) (hs i ys σ _ hlt p)
    cases b with
    | true =>
      rw [if_pos rfl] at z ⊢
      exact me _ _ _ _ (fun v H4 z => ⟨z.1, n - (i + 1), by omega, rfl, hlt, z.2⟩) z
    | false =>
      rw [if_neg (by simp)] at z ⊢
      exact ⟨n - (i + 1), by omega, rfl, hlt, z⟩
  · have e : i = n := by omega
    subst e
    exact .inl ⟨Nat.le_refl _, hd ys σ H p⟩

/-! ### monotone readings -/
noncomputable def MonE (t : TE) : Prop := ∀ σ H Q Q', (∀ v H2, Q v H2 → Q' v H2) → t σ H Q → t σ H Q'
noncomputable def MonT (t : TT) : Prop := ∀ σ H Q Q', (∀ b H2, Q b H2 → Q' b H2) → t σ H Q → t σ H Q'
noncomputable def MonA (t : TA) : Prop := ∀ σ H Q Q', (∀ v H2, Q v H2 → Q' v H2) → t σ H Q → t σ H Q'
noncomputable def MonG (g : TG) : Prop := ∀ x σ H Q Q', (∀ σ2 H2, Q σ2 H2 → Q' σ2 H2) → g x σ H Q → g x σ H Q'
noncomputable def MonGs (g : TGs) : Prop := ∀ x σ H Q Q', (∀ σ2 H2, Q σ2 H2 → Q' σ2 H2) → g x σ H Q → g x σ H Q'
noncomputable def Mon2 (r : R2) : Prop := ∀ x y H Q Q', (∀ v H2, Q v H2 → Q' v H2) → r x y H Q → r x y H Q'
noncomputable def MonC (r : List V → Hp → VK → Prop) : Prop := ∀ xs H Q Q', (∀ v H2, Q v H2 → Q' v H2) → r xs H Q → r xs H Q'
theorem mon_var {i : Nat} : MonE (tVar i) := fun _ _ _ _ k ⟨v, e, h⟩ => ⟨v, e, k _ _ h⟩
theorem mon_C {v : V} : MonE (tC v) := fun _ _ _ _ k h => k _ _ h
theorem mon_op {r : R2} {ta tb : TE} (hr : Mon2 r) (ha : MonE ta) (hb : MonE tb) : MonE (tOp r ta tb) := fun σ _ _ _ k h => ha _ _ _ _ (fun _ _ h => hb _ _ _ _ (fun _ _ h => hr _ _ _ _ _ k h) h) h
theorem mon_nil : MonA tNil := fun _ _ _ _ k h => k _ _ h
theorem mon_cons {te : TE} {ta : TA} (h1 : MonE te) (h2 : MonA ta) : MonA (tCons te ta) := fun _ _ _ _ k h => h1 _ _ _ _ (fun _ _ h => h2 _ _ _ _ (fun _ _ h => k _ _ h) h) h
theorem mon_tup {ta : TA} (h1 : MonA ta) : MonE (tTup ta) := fun _ _ _ _ k h => h1 _ _ _ _ (fun _ _ ⟨a, h⟩ => ⟨a, fun p hp => k _ _ (h p hp)⟩) h
theorem mon_lst {ta : TA} (h1 : MonA ta) : MonE (tLst ta) := fun _ _ _ _ k h => h1 _ _ _ _ (fun _ _ ⟨a, h⟩ => ⟨a, fun p hp => k _ _ (h p hp)⟩) h
theorem mon_rI {C : Int → Int → Prop} {g : Int → Int → V} : Mon2 (rI C g) := fun _ _ _ _ _ k ⟨i, j, a, b, c, h⟩ => ⟨i, j, a, b, c, k _ _ h⟩
theorem mon_rI0 {g : Int → Int → V} : Mon2 (rI0 g) := fun _ _ _ _ _ k ⟨i, j, a, b, h⟩ => ⟨i, j, a, b, k _ _ h⟩
theorem mon_rIxL {K : Frag} : Mon2 (rIxL K) := fun _ _ _ _ _ k ⟨p, xs, i, v, a, b, c, d, h⟩ => ⟨p, xs, i, v, a, b, c, d, k _ _ h⟩
theorem mon_rIxT {K : Frag} : Mon2 (rIxT K) := fun _ _ _ _ _ k ⟨p, xs, i, v, a, b, c, d, h⟩ => ⟨p, xs, i, v, a, b, c, d, k _ _ h⟩
theorem mon_rEq : Mon2 rEq := fun _ _ _ _ _ k ⟨a, h⟩ => ⟨a, k _ _ h⟩
theorem mon_rNe : Mon2 rNe := fun _ _ _ _ _ k ⟨a, h⟩ => ⟨a, k _ _ h⟩
theorem mon_dget {a b : TE} (ha : MonE a) (hb : MonE b) : MonE (tDGet a b) := fun _ _ _ _ k h => ha _ _ _ _ (fun _ _ h => hb _ _ _ _ (fun _ _ ⟨x, v, e, g, h⟩ => ⟨x, v, e, g, k _ _ h⟩) h) h
theorem mon_true : MonT tTrue := fun _ _ _ _ k h => k _ _ h
theorem mon_test {t : TE} (h1 : MonE t) : MonT (tTest t) := fun _ _ _ _ k h => h1 _ _ _ _ (fun _ _ ⟨b, e, h⟩ => ⟨b, e, k _ _ h⟩) h
theorem mon_tB {t : TE} (h1 : MonE t) : MonT (tB t) := fun _ _ _ _ k h => h1 _ _ _ _ (fun _ _ ⟨b, e, h⟩ => ⟨b, e, k _ _ h⟩) h
theorem mon_and {t u : TT} (h1 : MonT t) (h2 : MonT u) : MonT (tAnd t u) := fun _ _ _ _ k h => h1 _ _ _ _ (fun b _ h => by
  cases b with
  | true => rw [if_pos rfl] at h ⊢; exact h2 _ _ _ _ k h
  | false => rw [if_neg (by simp)] at h ⊢; exact k _ _ h) h
theorem mon_gname {i : Nat} : MonG (gName i) := fun _ _ _ _ _ k h => k _ _ h
theorem mon_gnil : MonGs gNil := fun _ _ _ _ _ k ⟨e, h⟩ => ⟨e, k _ _ h⟩
theorem mon_gcons {g : TG} {gs : TGs} (h1 : MonG g) (h2 : MonGs gs) : MonGs (gCons g gs) := fun _ _ _ _ _ k ⟨v, r, e, h⟩ => ⟨v, r, e, h1 _ _ _ _ _ (fun _ _ h => h2 _ _ _ _ _ k h) h⟩
theorem mon_gtup {K : Frag} {n : Nat} {gs : TGs} (h2 : MonGs gs) : MonG (gTup K n gs) := fun _ _ _ _ _ k ⟨a, xs, e, h, l, z⟩ => ⟨a, xs, e, h, l, h2 _ _ _ _ _ k z⟩
theorem mon_cb {r : List V → Hp → VK → Prop} {ta : TA} (hr : MonC r) (h : MonA ta) : MonE (tCB r ta) := fun _ _ _ _ k z => h _ _ _ _ (fun _ _ z => hr _ _ _ _ k z) z
end Ww
namespace Ww
open PySem PySem.W PyProof.Rows L2
inductive I_tcomp_list (K : Frag) (cap : List (Option Nat)) (g : TG) (tt : TT) (te : TE) (σ : L2.St) (Q : VK) (x : V) (H1 : Hp) : Prop
  | mk (a xs) (h1 : x = .ref a) (h2 : SqL K H1 a xs) (h3 : xs.length < sizeLine) (h4 : ∀ acc, H1 acc = none → ∃ Pv : Nat → List V → L2.St → Hp → Prop, Pv 0 [] (capSt cap σ) (upd H1 acc (.lst [])) ∧ (∀ i ys σ H, Pv i ys σ H → SqL K H a xs ∧ H acc = some (.lst ys) ∧ ys.length ≤ i) ∧ (∀ i x ys σ H, xs[i]? = some x → Pv i ys σ H → g x σ H fun σ2 H2 => tt σ2 H2 fun b H3 => if b = true then te σ2 H3 fun y H4 => H4 acc = some (.lst ys) ∧ Pv (i + 1) (ys ++ [y]) σ2 (upd H4 acc (.lst (ys ++ [y]))) else Pv (i + 1) ys σ2 H3) ∧ ∀ ys σ H, Pv xs.length ys σ H → Q (.ref acc) H)
theorem tcomp_list {K : Frag} {tl : TE} {cap : List (Option Nat)} {g : TG} {tt : TT} {te : TE} {σ : L2.St} {H : Hp} {Q : VK} (ml : MonE tl) (mg : MonG g) (mt : MonT tt) (me : MonE te)
    (h : tl σ H fun x H1 => I_tcomp_list K cap g tt te σ Q x H1) : tComp (iList K tl) cap g tt te σ H Q := by
  refine ml _ _ _ _ (fun x H1 h => ?_) h
  obtain ⟨a, xs, rfl, hq, hz, h⟩ := h
  refine ⟨a, rfl, ⟨xs, hq⟩, fun acc hacc => ?_⟩
  obtain ⟨Pv, h0, hl, hs, hd⟩ := h acc hacc
  exact comp_list hz Pv h0 hl hs mg mt me hd
inductive I_tcomp_range (cap : List (Option Nat)) (g : TG) (tt : TT) (te : TE) (σ : L2.St) (Q : VK) (vs : List V) (H1 : Hp) : Prop
  | mk (n : Nat) (h1 : vs = [.int n]) (h2 : n < 100000) (h3 : ∀ acc, H1 acc = none → ∃ Pv : Nat → List V → L2.St → Hp → Prop, Pv 0 [] (capSt cap σ) (upd H1 acc (.lst [])) ∧ (∀ i ys σ H, Pv i ys σ H → H acc = some (.lst ys) ∧ ys.length ≤ i) ∧ (∀ i ys σ H, i < n → Pv i ys σ H → g (.int (i : Int)) σ H fun σ2 H2 => tt σ2 H2 fun b H3 => if b = true then te σ2 H3 fun y H4 => H4 acc = some (.lst ys) ∧ Pv (i + 1) (ys ++ [y]) σ2 (upd H4 acc (.lst (ys ++ [y]))) else Pv (i + 1) ys σ2 H3) ∧ ∀ ys σ H, Pv n ys σ H → Q (.ref acc) H)
theorem tcomp_range {ta : TA} {cap : List (Option Nat)} {g : TG} {tt : TT} {te : TE} {σ : L2.St} {H : Hp} {Q : VK} (ml : MonA ta) (mg : MonG g) (mt : MonT tt) (me : MonE te)
    (h : ta σ H fun vs H1 => I_tcomp_range cap g tt te σ Q vs H1) : tComp (iRng1 ta) cap g tt te σ H Q := by
  refine ml _ _ _ _ (fun vs H1 h => ?_) h
  obtain ⟨n, rfl, hz, h⟩ := h
  refine ⟨n, rfl, by omega, by omega, fun acc hacc => ?_⟩
  obtain ⟨Pv, h0, hl, hs, hd⟩ := h acc hacc
  rw [Int.toNat_natCast]
  refine comp_range (Nat.lt_of_lt_of_le hz line1000) Pv h0 hl (fun i ys σ H hi p => ?_) mg mt me hd
  rw [show (0 : Int) + (i : Int) = (i : Int) by omega]
  exact hs i ys σ H hi p
inductive I_for_upto (g : TG) (tb : TS) (D : Ends) (σ : L2.St) (vs : List V) (H1 : Hp) : Prop
  | mk (n : Nat) (h1 : vs = [.int n]) (h2 : n < 100000) (Pv : Nat → L2.St → Hp → Prop) (h3 : Pv 0 σ H1) (h4 : (∀ i σ H, i < n → Pv i σ H → g (.int (i : Int)) σ H fun σ2 H2 => tb { D with nx := Pv (i + 1), ct := Pv (i + 1), bk := D.nx } σ2 H2)) (h5 : ∀ σ H, Pv n σ H → D.nx σ H)
theorem for_upto {ta : TA} {g : TG} {tb : TS} {D : Ends} {σ : L2.St} {H : Hp} (ml : MonA ta)
    (h : ta σ H fun vs H1 => I_for_upto g tb D σ vs H1) :
    tFor (iRng1 ta) g tb D σ H := by
  refine ml _ _ _ _ (fun vs H1 h => ?_) h
  obtain ⟨n, rfl, hz, Pv, h0, hs, hd⟩ := h
  refine ⟨n, rfl, by omega, by omega, ?_⟩
  rw [Int.toNat_natCast]
  refine for_range Pv h0 (fun i σ H hi p => ?_) hd
  rw [show (0 : Int) + (i : Int) = (i : Int) by omega]
  exact hs i σ H hi p
inductive I_for_in (K : Frag) (g : TG) (tb : TS) (D : Ends) (σ : L2.St) (x : V) (H1 : Hp) : Prop
  | mk (a xs) (h1 : x = .ref a) (h2 : SqL K H1 a xs) (Pv : Nat → L2.St → Hp → Prop) (h3 : Pv 0 σ H1) (h4 : (∀ i σ H, i ≤ xs.length → Pv i σ H → SqL K H a xs)) (h5 : (∀ i x σ H, xs[i]? = some x → Pv i σ H → g x σ H fun σ2 H2 => tb { D with nx := Pv (i + 1), ct := Pv (i + 1), bk := D.nx } σ2 H2)) (h6 : ∀ σ H, Pv xs.length σ H → D.nx σ H)
theorem for_in {K : Frag} {tl : TE} {g : TG} {tb : TS} {D : Ends} {σ : L2.St} {H : Hp} (ml : MonE tl)
    (h : tl σ H fun x H1 => I_for_in K g tb D σ x H1) : tFor (iList K tl) g tb D σ H := by
  refine ml _ _ _ _ (fun x H1 h => ?_) h
  obtain ⟨a, xs, rfl, hq, Pv, h0, hl, hs, hd⟩ := h
  exact ⟨a, rfl, ⟨xs, hq⟩, for_list Pv h0 hl hs hd⟩
theorem mon_fld {K : Frag} {ta : TE} {f : Str} (h : MonE ta) : MonE (tFld K ta f) := fun _ _ _ _ k z => h _ _ _ _ (fun _ _ z => by
  obtain ⟨a, C, dx, fs, v, e1, e2, e3, e4, e5, z⟩ := z
  exact ⟨a, C, dx, fs, v, e1, e2, e3, e4, e5, k _ _ z⟩) z
end Ww
namespace Ww
open PySem PySem.W PyProof.Rows L2
theorem yesT {σ : L2.St} {H : Hp} {A B : Hp → Prop} (h : A H) : tTrue σ H (fun b H3 => if b = true then A H3 else B H3) := by
  show (if true = true then A H else B H)
  rw [if_pos rfl]; exact h
end Ww
namespace Ww
open PySem PySem.W PyProof.Rows L2
theorem g1T {i : Nat} {v : V} {σ : L2.St} {H : Hp} {A B : L2.St → Hp → Prop} (h : A (σ.set i (some v)) H) : gName i v σ H (fun σ2 H2 => tTrue σ2 H2 (fun b H3 => if b = true then A σ2 H3 else B σ2 H3)) := by
  show (if true = true then A (σ.set i (some v)) H else B (σ.set i (some v)) H)
  rw [if_pos rfl]; exact h
end Ww
namespace Ww
open PySem PySem.W PyProof.Rows L2
noncomputable def MonS (sp : Sp) : Prop := ∀ vs H Q Q' E, (∀ v H2, Q v H2 → Q' v H2) → sp vs H Q E → sp vs H Q' E
theorem mon_meth {C : Addr} {m : Str} {sp : Sp} {ds : List V} {E : XK} {ta : TE} {t : TA} (hs : MonS sp) (h1 : MonE ta) (h2 : MonA t) : MonE (tMeth C m sp ds E ta t) := fun _ _ _ _ k z => h1 _ _ _ _ (fun _ _ ⟨a, dx, fs, e1, e2, e3, z⟩ => ⟨a, dx, fs, e1, e2, e3, h2 _ _ _ _ (fun _ _ z => hs _ _ _ _ _ k z) z⟩) z
theorem mon_call' {sp : Sp} {ds : List V} {E : XK} {ta : TA} (hr : MonS sp) (h : MonA ta) : MonE (tCall sp ds E ta) := fun _ _ _ _ k z => h _ _ _ _ (fun _ _ z => hr _ _ _ _ _ k z) z
end Ww

set_option Elab.async false
set_option linter.all false
namespace Ww
open PySem PySem.W PyProof.Rows L2
/-! ### ties -/
noncomputable abbrev Tie := Nat × Nat × Int
noncomputable def tri (t : Tie) : List Int := [(t.1 : Int), (t.2.1 : Int), t.2.2]
noncomputable def two (t : Tie) : List Int := [(t.1 : Int), t.2.2]
noncomputable def pr (t : Tie) : Nat × Nat := (t.1, t.2.1)
noncomputable def keyT (t : Tie) : List Key := [Sum.inl (t.1 : Int), Sum.inl (t.2.1 : Int)]
structure OkT (n : Nat) (ts : List Tie) : Prop where
  lt : ∀ t ∈ ts, t.1 < n ∧ t.2.1 < n
  nd : (ts.map pr).Nodup
noncomputable def Covers (n : Nat) (ts : List Tie) : Prop := ∀ b, b < n → ∃ t ∈ ts, t.2.1 = b
theorem keyT_inj {t u : Tie} (h : keyT t = keyT u) : pr t = pr u := by
  unfold keyT at h
  injection h with h1 h2
  injection h2 with h3 _
  have e1 : (t.1 : Int) = (u.1 : Int) := Sum.inl.inj h1
  have e2 : (t.2.1 : Int) = (u.2.1 : Int) := Sum.inl.inj h3
  unfold pr
  rw [show t.1 = u.1 by omega, show t.2.1 = u.2.1 by omega]
theorem valV_none {κ : Type} [DecidableEq κ] {kvs : List (κ × V)} {k : κ} (h : k ∉ kvs.map (·.1)) : valV kvs k = none := by
  induction kvs with
  | nil => rfl
  | cons p r ih =>
    rw [List.map_cons, List.mem_cons, not_or] at h
    rw [valV_neg (fun z => h.1 z.symm)]
    exact ih h.2
theorem new_key {ts : List Tie} (nd : (ts.map pr).Nodup) {i : Nat} {t : Tie} (h : ts[i]? = some t) : keyT t ∉ (ts.take i).map keyT := by
  intro hm
  obtain ⟨u, hu, e⟩ := List.mem_map.mp hm
  have e' := keyT_inj e
  obtain ⟨j, hj, rfl⟩ := List.getElem_of_mem hu
  have hj1 : j < i := by rw [List.length_take] at hj; omega
  have hi : i < ts.length := (List.getElem?_eq_some_iff.mp h).1
  have hti : t = ts[i] := by rw [List.getElem?_eq_getElem hi] at h; exact (Option.some.inj h).symm
  rw [List.getElem_take] at e'
  subst hti
  have pw := List.pairwise_iff_getElem.mp nd j i (by simp; omega) (by simpa using hi) hj1
  exact pw (by simpa using e')
theorem take_succ' {α : Type} {l : List α} {i : Nat} {x : α} (h : l[i]? = some x) : l.take (i + 1) = l.take i ++ [x] := by rw [List.take_succ, h]; rfl
theorem refs_get {as : List Addr} {i : Nat} {x : V} (h : (as.map V.ref)[i]? = some x) : i < as.length ∧ x = V.ref (as.getD i 0) := by
  rw [List.getElem?_map] at h
  cases e : as[i]? with
  | none => rw [e] at h; cases h
  | some a =>
    rw [e] at h
    have hi : i < as.length := (List.getElem?_eq_some_iff.mp e).1
    refine ⟨hi, ?_⟩
    have : as.getD i 0 = a := by simp [List.getD_eq_getElem?_getD, e]
    rw [this]; exact (Option.some.inj h).symm
theorem TupsAt.item {H : Hp} {as : List Addr} {ts : List Tie} {f : Tie → List Int} (h : TupsAt H as (ts.map f)) {i : Nat} (hi : i < as.length) : ∃ t, ts[i]? = some t ∧ H (as.getD i 0) = some (.tup ((f t).map V.int)) := by
  have hl : as.length = ts.length := by rw [h.len, List.length_map]
  have hi2 : i < ts.length := by omega
  refine ⟨ts[i], by simp [hi2], ?_⟩
  have := h.get i hi
  rw [this]
  have e : (ts.map f).getD i [] = f ts[i] := by simp [hi2]
  rw [e]
theorem TupsAt.snoc {H : Hp} {as : List Addr} {ks : List (List Int)} {a : Addr} {k : List Int} (h : TupsAt H as ks) (e : H a = some (.tup (k.map V.int))) : TupsAt H (as ++ [a]) (ks ++ [k]) := Paired.snoc h e
theorem tups_same {H H' : Hp} {as : List Addr} {ks : List (List Int)} {l : Addr} (h : TupsAt H as ks) (S : SameX l H H') (n : ∀ xs, H l ≠ some (.tup xs)) : TupsAt H' as ks :=
  h.mono fun a xs e => S a _ (fun z => by subst z; exact n xs e) e
theorem tup_not_lst {H : Hp} {l : Addr} {xs : List V} (h : H l = some (.lst xs)) : ∀ ys, H l ≠ some (.tup ys) := fun ys z => by rw [h] at z; cases z
theorem tup_not_ins {H : Hp} {l C dx : Addr} {fs : List (Str × V)} (h : H l = some (.ins C dx fs)) : ∀ ys, H l ≠ some (.tup ys) := fun ys z => by rw [h] at z; cases z
/-! ### a wheel's attributes -/
noncomputable def wf (n : Nat) (lo li : Addr) : List (Str × V) := [("deeds", V.int n), ("in_order", V.ref lo), ("into", V.ref li)]
noncomputable def wf1 (n : Nat) : List (Str × V) := [("deeds", V.int n)]
noncomputable def wf2 (n : Nat) (lo : Addr) : List (Str × V) := [("deeds", V.int n), ("in_order", V.ref lo)]
theorem n_di : ¬ ("deeds" : Str) = "in_order" := by decide +kernel
theorem n_dt : ¬ ("deeds" : Str) = "into" := by decide +kernel
theorem n_it : ¬ ("in_order" : Str) = "into" := by decide +kernel
theorem put1 (n : Nat) : putF "deeds" (V.int n) [] = wf1 n := rfl
theorem put2 (n : Nat) (lo : Addr) : putF "in_order" (V.ref lo) (wf1 n) = wf2 n lo := by
  show (if ("deeds" : Str) = "in_order" then _ else (("deeds" : Str), V.int n) :: putF "in_order" (V.ref lo) []) = _
  rw [if_neg n_di]; rfl
theorem put3 (n : Nat) (lo li : Addr) : putF "into" (V.ref li) (wf2 n lo) = wf n lo li := by
  show (if ("deeds" : Str) = "into" then _ else (("deeds" : Str), V.int n) :: (if ("in_order" : Str) = "into" then _ else (("in_order" : Str), V.ref lo) :: putF "into" (V.ref li) [])) = _
  rw [if_neg n_dt, if_neg n_it]; rfl
theorem look_deeds (n : Nat) (lo li : Addr) : (wf n lo li).lookup ("deeds" : Str) = some (V.int n) := by unfold wf; rw [List.lookup_cons, beq_self_eq_true]
theorem look_in_order (n : Nat) (lo li : Addr) : (wf n lo li).lookup ("in_order" : Str) = some (V.ref lo) := by
  unfold wf; rw [List.lookup_cons, beq_eq_false_iff_ne.mpr (Ne.symm n_di)]; dsimp only; rw [List.lookup_cons, beq_self_eq_true]
theorem look_into (n : Nat) (lo li : Addr) : (wf n lo li).lookup ("into" : Str) = some (V.ref li) := by
  unfold wf; rw [List.lookup_cons, beq_eq_false_iff_ne.mpr (Ne.symm n_dt)]; dsimp only; rw [List.lookup_cons, beq_eq_false_iff_ne.mpr (Ne.symm n_it)]; dsimp only; rw [List.lookup_cons, beq_self_eq_true]
noncomputable def IntoAt (H : Hp) (n : Nat) (ls : List Addr) (ts : List Tie) : Prop := ls.length = n ∧ ∀ b, b < n → ∃ cs : List Addr, H (ls.getD b 0) = some (.lst (cs.map V.ref)) ∧ TupsAt H cs ((ts.filter fun t => t.2.1 == b).map two)
structure WheelAt (C : Addr) (H : Hp) (p : Addr) (n : Nat) (ts : List Tie) : Prop where
  ex : ∃ (dx lo li : Addr) (as ls : List Addr), H p = some (.ins C dx (wf n lo li)) ∧ H lo = some (.lst (as.map V.ref)) ∧ TupsAt H as (ts.map tri) ∧ H li = some (.lst (ls.map V.ref)) ∧ IntoAt H n ls ts
theorem IntoAt.same {H H' : Hp} {n : Nat} {ls : List Addr} {ts : List Tie} (h : IntoAt H n ls ts) (S : Same H H') : IntoAt H' n ls ts :=
  ⟨h.1, fun b hb => let ⟨cs, e, t⟩ := h.2 b hb; ⟨cs, S _ _ e, t.same S⟩⟩
theorem WheelAt.same {C : Addr} {H H' : Hp} {p : Addr} {n : Nat} {ts : List Tie} (W : WheelAt C H p n ts) (S : Same H H') : WheelAt C H' p n ts := by
  obtain ⟨dx, lo, li, as, ls, h1, h2, h3, h4, h5⟩ := W.ex
  exact ⟨dx, lo, li, as, ls, S _ _ h1, S _ _ h2, h3.same S, S _ _ h4, h5.same S⟩
structure WTxt (K : Frag) (mg : Str → Option Value) (C : Addr) : Prop where
  cl : Cls K C
  nD : NoAttr K C "deeds"
  nO : NoAttr K C "in_order"
  nI : NoAttr K C "into"
  most : ∃ t, mg "MOST_DEEDS" = some (Value.int 40 t)
end Ww

set_option Elab.async false
set_option linter.all false
namespace Ww
open PySem PySem.W PyProof.Rows L2
/-! ### ties in a dict -/
noncomputable def kvT (t : Tie) : List Key × V := (keyT t, V.int t.2.2)
noncomputable def putT (ts : List Tie) (u : Tie) : List Tie := if pr u ∈ ts.map pr then ts.map (fun t => if pr t = pr u then (t.1, t.2.1, u.2.2) else t) else ts ++ [u]
theorem keyT_iff {t u : Tie} : keyT t = keyT u ↔ pr t = pr u := by
  refine ⟨keyT_inj, fun h => ?_⟩
  unfold pr at h
  injection h with h1 h2
  unfold keyT
  rw [h1, h2]
theorem putK_T (ts : List Tie) (u : Tie) : putK (ts.map kvT) (keyT u) (V.int u.2.2) = (putT ts u).map kvT := by
  unfold putK putT
  have e : ((ts.map kvT).any fun kv => decide (kv.1 = keyT u)) = decide (pr u ∈ ts.map pr) := by
    rw [Bool.eq_iff_iff, List.any_eq_true, decide_eq_true_iff]
    constructor
    · rintro ⟨p, hp, hq⟩
      obtain ⟨t, ht, rfl⟩ := List.mem_map.mp hp
      exact List.mem_map.mpr ⟨t, ht, keyT_inj (of_decide_eq_true hq)⟩
    · intro h
      obtain ⟨t, ht, e⟩ := List.mem_map.mp h
      exact ⟨kvT t, List.mem_map.mpr ⟨t, ht, rfl⟩, decide_eq_true (keyT_iff.mpr e)⟩
  rw [e]
  by_cases h : pr u ∈ ts.map pr
  · rw [if_pos (decide_eq_true h), if_pos h, List.map_map, List.map_map]
    refine List.map_congr_left fun t ht => ?_
    show (if (kvT t).1 = keyT u then ((kvT t).1, V.int u.2.2) else kvT t) = kvT (if pr t = pr u then (t.1, t.2.1, u.2.2) else t)
    by_cases e2 : pr t = pr u
    · rw [if_pos (show (kvT t).1 = keyT u from keyT_iff.mpr e2), if_pos e2]; rfl
    · rw [if_neg (show ¬ (kvT t).1 = keyT u from fun z => e2 (keyT_inj z)), if_neg e2]
  · rw [if_neg (fun z => h (of_decide_eq_true z)), if_neg h, List.map_append]; rfl
theorem putT_pr (ts : List Tie) (u : Tie) : (putT ts u).map pr = if pr u ∈ ts.map pr then ts.map pr else ts.map pr ++ [pr u] := by
  unfold putT
  split
  · rw [List.map_map]
    refine List.map_congr_left fun t _ => ?_
    show pr (if pr t = pr u then (t.1, t.2.1, u.2.2) else t) = pr t
    split <;> rfl
  · rw [List.map_append]; rfl
theorem putT_ok {n : Nat} {ts : List Tie} {u : Tie} (h : OkT n ts) (h1 : u.1 < n) (h2 : u.2.1 < n) : OkT n (putT ts u) := by
  refine ⟨fun t ht => ?_, ?_⟩
  · have hp : pr t ∈ (putT ts u).map pr := List.mem_map.mpr ⟨t, ht, rfl⟩
    rw [putT_pr] at hp
    have : ∀ t', t' ∈ ts → pr t' = pr t → t.1 < n ∧ t.2.1 < n := fun t' ht' e => by
      have := h.lt t' ht'
      unfold pr at e
      injection e with e1 e2
      rw [← e1, ← e2]; exact this
    split at hp
    · obtain ⟨t', ht', e⟩ := List.mem_map.mp hp
      exact this t' ht' e
    · rcases List.mem_append.mp hp with z | z
      · obtain ⟨t', ht', e⟩ := List.mem_map.mp z
        exact this t' ht' e
      · have e := List.mem_singleton.mp z
        unfold pr at e
        injection e with e1 e2
        exact ⟨by rw [e1]; exact h1, by rw [e2]; exact h2⟩
  · rw [putT_pr]
    split
    · exact h.nd
    · rename_i hn
      rw [List.nodup_append]
      refine ⟨h.nd, by simp, fun a ha b hb => ?_⟩
      rw [List.mem_singleton.mp hb]
      rintro rfl; exact hn ha
theorem putT_len (ts : List Tie) (u : Tie) : (putT ts u).length ≤ ts.length + 1 := by
  unfold putT
  split
  · rw [List.length_map]; omega
  · rw [List.length_append]; simp
theorem putT_mem {ts : List Tie} {u : Tie} {q : Nat × Nat} (h : q ∈ ts.map pr) : q ∈ (putT ts u).map pr := by
  rw [putT_pr]
  split
  · exact h
  · exact List.mem_append_left _ h
theorem putT_self {ts : List Tie} {u : Tie} : pr u ∈ (putT ts u).map pr := by
  rw [putT_pr]
  split
  · assumption
  · exact List.mem_append_right _ (by simp)
noncomputable def CovTo (m : Nat) (ts : List Tie) : Prop := ∀ b, b < m → ∃ q ∈ ts.map pr, q.2 = b
theorem CovTo.put {m : Nat} {ts : List Tie} {u : Tie} (h : CovTo m ts) : CovTo m (putT ts u) := fun b hb => let ⟨q, h1, h2⟩ := h b hb; ⟨q, putT_mem h1, h2⟩
theorem CovTo.next {m : Nat} {ts : List Tie} {u : Tie} (h : CovTo m ts) (e : u.2.1 = m) : CovTo (m + 1) (putT ts u) := fun b hb => by
  by_cases eb : b = m
  · exact ⟨pr u, putT_self, by rw [eb]; exact e⟩
  · exact h.put b (by omega)
theorem CovTo.covers {n : Nat} {ts : List Tie} (h : CovTo n ts) : Covers n ts := fun b hb => by
  obtain ⟨q, h1, h2⟩ := h b hb
  obtain ⟨t, ht, rfl⟩ := List.mem_map.mp h1
  exact ⟨t, ht, h2⟩
theorem valV_T : ∀ {ts : List Tie} {t : Tie}, (ts.map pr).Nodup → t ∈ ts → valV (ts.map kvT) (keyT t) = some (V.int t.2.2)
  | [], _, _, h => nomatch h
  | u :: ts, t, nd, h => by
    rw [List.map_cons] at nd
    obtain ⟨n1, n2⟩ := List.nodup_cons.mp nd
    rw [List.map_cons]
    rcases List.mem_cons.mp h with rfl | h
    · exact valV_pos (p := kvT t) (k := keyT t) rfl
    · have : ¬ (kvT u).1 = keyT t := fun z => n1 (by rw [keyT_inj z]; exact List.mem_map.mpr ⟨t, h, rfl⟩)
      rw [valV_neg this]
      exact valV_T n2 h
theorem kvT_keys (ts : List Tie) : (ts.map kvT).map (·.1) = ts.map keyT := by rw [List.map_map]; rfl
theorem Covers.perm {n : Nat} {ts ts' : List Tie} (p : ts'.Perm ts) (h : Covers n ts) : Covers n ts' := fun b hb => let ⟨t, ht, e⟩ := h b hb; ⟨t, p.mem_iff.mpr ht, e⟩
theorem OkT.perm {n : Nat} {ts ts' : List Tie} (p : ts'.Perm ts) (h : OkT n ts) : OkT n ts' := ⟨fun t ht => h.lt t (p.mem_iff.mp ht), ((p.map pr).nodup_iff).mpr h.nd⟩
/-! ### walks -/
inductive Rch (ts : List Tie) (a : Nat) : Nat → Prop
  | refl : Rch ts a a
  | step {i : Nat} {t : Tie} : Rch ts a i → t ∈ ts → t.1 = i → Rch ts a t.2.1
theorem Rch.trans {ts : List Tie} {a b c : Nat} (h : Rch ts a b) (k : Rch ts b c) : Rch ts a c := by
  induction k with
  | refl => exact h
  | step _ ht e ih => exact .step ih ht e
theorem Rch.perm {ts ts' : List Tie} (p : ∀ t, t ∈ ts' ↔ t ∈ ts) {a b : Nat} (h : Rch ts a b) : Rch ts' a b := by
  induction h with
  | refl => exact .refl
  | step _ ht e ih => exact .step ih ((p _).mpr ht) e
theorem Rch.head {ts : List Tie} {a b : Nat} {t : Tie} (ht : t ∈ ts) (e : t.2.1 = a) (h : Rch ts a b) : Rch ts t.1 b := by
  subst e
  exact Rch.trans (.step .refl ht rfl) h
end Ww
namespace Ww
open PySem PySem.W PyProof.Rows L2
theorem mon_listD : MonC rListD := fun _ _ _ _ k ⟨d, kvs, a, b, c⟩ => ⟨d, kvs, a, b, fun l as h1 h2 => k _ _ (c l as h1 h2)⟩
theorem KeysAt.get {H : Hp} : ∀ {as : List Addr} {ks : List (List Key)}, KeysAt H as ks → ∀ i, i < as.length → H (as.getD i 0) = some (.tup ((ks.getD i []).map kV))
  | _, _, .nil, _, h => by simp at h
  | _, _, .cons r t, 0, _ => r
  | _, _, .cons r t, i + 1, h => by
    have := KeysAt.get t i (by simpa using h)
    simpa using this
theorem known_list {K : Frag} {σ : L2.St} {H : Hp} {Q : VK} {d : Addr} {ts : List Tie} {j : Nat} (hc : capSt [none, some j] σ = [none, some (.ref d)]) (hj : σ[j]? = some (some (.ref d))) (hd : H d = some (.dT (ts.map kvT))) (nd : (ts.map pr).Nodup) (hz : ts.length < 1000)
    (q : ∀ l bs H', Same H H' → H l = none → H' l = some (.lst (bs.map V.ref)) → TupsAt H' bs (ts.map tri) → Q (.ref l) H') :
    tComp (iList K (tCB rListD (tCons (tVar j) tNil))) [none, some j] (gName 0) tTrue (tTup (tCons (tOp (rIxT K) (tVar 0) (tC (V.int 0))) (tCons (tOp (rIxT K) (tVar 0) (tC (V.int 1))) (tCons (tDGet (tVar 1) (tVar 0)) tNil)))) σ H Q := by
  have line := line1000
  refine tcomp_list (mon_cb mon_listD (mon_cons mon_var mon_nil)) mon_gname mon_true (mon_tup (mon_cons (mon_op mon_rIxT mon_var mon_C) (mon_cons (mon_op mon_rIxT mon_var mon_C) (mon_cons (mon_dget mon_var mon_var) mon_nil))))
    ⟨_, hj, d, ts.map kvT, rfl, hd, fun l0 as0 hl0 kat => ?_⟩
  rw [kvT_keys] at kat
  have la : as0.length = ts.length := by have := Paired.length kat; rw [List.length_map] at this; exact this
  have S0 : Same H (upd H l0 (.lst (as0.map V.ref))) := Same.new hl0
  refine ⟨l0, as0.map V.ref, rfl, SqL.of upd_same, by rw [List.length_map]; omega, fun acc hacc =>
    ⟨fun i ys σ' H' => ∃ (bs : List Addr) (u : Option V), σ' = [u, some (.ref d)] ∧ ys = bs.map V.ref ∧ Same (upd H l0 (.lst (as0.map V.ref))) H' ∧ H' acc = some (.lst ys) ∧ TupsAt H' bs ((ts.take i).map tri) ∧ i ≤ ts.length, ?_, ?_, ?_, ?_⟩⟩
  · exact ⟨[], none, hc, rfl, Same.new hacc, upd_same, .nil, Nat.zero_le _⟩
  · rintro i ys σ' H' ⟨bs, u, rfl, rfl, S, ha, tb, hi⟩
    refine ⟨SqL.of (S _ _ upd_same), ha, ?_⟩
    rw [List.length_map, tb.len, List.length_map, List.length_take]; omega
  · rintro i y ys σ' H' hy ⟨bs, u, rfl, rfl, S, ha, tb, hi⟩
    obtain ⟨hi2, rfl⟩ := refs_get hy
    have hi3 : i < ts.length := by omega
    have ti : ts[i]? = some ts[i] := by simp [hi3]
    generalize ts[i] = t at ti
    have hk : H' (as0.getD i 0) = some (.tup ((keyT t).map kV)) := by
      have := S _ _ (S0 _ _ (KeysAt.get kat i hi2))
      rw [this]
      have e : (ts.map keyT).getD i [] = keyT t := by simp [List.getD_eq_getElem?_getD, ti]
      rw [e]
    have hd' := S _ _ (S0 _ _ hd)
    have dg := DGet.t (k := keyT t) hd' hk
    rw [valV_T nd (List.mem_of_getElem? ti)] at dg
    refine g1T ⟨_, rfl, _, _, _, _, rfl, rfl, SqT.of hk, rfl, _, rfl, _, _, _, _, rfl, rfl, SqT.of hk, rfl, _, rfl, _, rfl, d, _, rfl, dg, by show 3 ≤ sizeLine; decide, fun p hp => ?_⟩
    have S2 : Same H' (upd H' p (.tup ((tri t).map V.int))) := Same.new hp
    have np : acc ≠ p := ne_of_none ha hp
    refine ⟨S2 _ _ ha, bs ++ [p], _, rfl, by rw [List.map_append]; rfl, fun b o e => ?_, upd_same, ?_, by omega⟩
    · rw [upd_ne (ne_of_none e hacc)]
      exact S2 _ _ (S b o e)
    · rw [take_succ' ti, List.map_append]
      exact tups_same (TupsAt.snoc (tb.same S2) upd_same) SameX.upd (tup_not_lst (S2 _ _ ha))
  · rintro ys σ' H3 ⟨bs, u, rfl, rfl, S3, ha3, tb, _⟩
    rw [List.length_map, la, List.take_length] at tb
    exact q acc bs H3 (S0.trans S3) (S0.free hacc) ha3 tb
end Ww

set_option Elab.async false
set_option linter.all false
namespace Ww
open PySem PySem.W PyProof.Rows L2
/-! ### a search by a growing list -/
structure FInv (ts : List Tie) (n a at' : Nat) (fs : List Nat) : Prop where
  nd : fs.Nodup
  lt : ∀ x ∈ fs, x < n
  rc : ∀ x ∈ fs, Rch ts a x
  st : a ∈ fs
  le : at' ≤ fs.length
  cl : ∀ j, j < at' → ∀ t ∈ ts, t.1 = fs.getD j 0 → t.2.1 ∈ fs
theorem FInv.start {ts : List Tie} {n a : Nat} (ha : a < n) : FInv ts n a 0 [a] :=
  ⟨by simp, fun x hx => by rw [List.mem_singleton.mp hx]; exact ha, fun x hx => by rw [List.mem_singleton.mp hx]; exact .refl, by simp, Nat.zero_le _, fun j hj => absurd hj (by omega)⟩
theorem sub_len : ∀ (l m : List Nat), l.Nodup → (∀ x ∈ l, x ∈ m) → l.length ≤ m.length
  | [], _, _, _ => Nat.zero_le _
  | x :: l, m, nd, h => by
    obtain ⟨h1, h2⟩ := List.nodup_cons.mp nd
    have hx : x ∈ m := h x List.mem_cons_self
    have := sub_len l (m.erase x) h2 fun y hy => by
      have hne : y ≠ x := by rintro rfl; exact h1 hy
      exact (List.mem_erase_of_ne hne).mpr (h y (List.mem_cons_of_mem _ hy))
    rw [List.length_erase_of_mem hx] at this
    have := List.length_pos_of_mem hx
    rw [List.length_cons]; omega
theorem sub_all {l m : List Nat} (nd : l.Nodup) (h : ∀ x ∈ l, x ∈ m) (hl : m.length ≤ l.length) : ∀ x ∈ m, x ∈ l := fun x hx => by
  by_cases e : x ∈ l
  · exact e
  · have := sub_len (x :: l) m (List.nodup_cons.mpr ⟨e, nd⟩) fun y hy => by
      rcases List.mem_cons.mp hy with rfl | z
      · exact hx
      · exact h y z
    rw [List.length_cons] at this; omega
theorem nodup_le {fs : List Nat} {n : Nat} (nd : fs.Nodup) (lt : ∀ x ∈ fs, x < n) : fs.length ≤ n := by
  have := sub_len fs (List.range n) nd fun x hx => List.mem_range.mpr (lt x hx)
  simpa using this
theorem FInv.add {ts : List Tie} {n a k : Nat} {fs : List Nat} (h : FInv ts n a k fs) (hk : k < fs.length) {t : Tie} (ht : t ∈ ts) (e : t.1 = fs.getD k 0) (hn : t.2.1 < n) (new : t.2.1 ∉ fs) : FInv ts n a k (fs ++ [t.2.1]) := by
  have hget : ∀ j, j < fs.length → (fs ++ [t.2.1]).getD j 0 = fs.getD j 0 := fun j hj => by simp [List.getD_eq_getElem?_getD, List.getElem?_append_left hj]
  refine ⟨?_, fun x hx => ?_, fun x hx => ?_, List.mem_append_left _ h.st, by rw [List.length_append]; have := h.le; omega, fun j hj u hu eu => ?_⟩
  · rw [List.nodup_append]
    exact ⟨h.nd, by simp, fun x hx y hy => by rw [List.mem_singleton.mp hy]; rintro rfl; exact new hx⟩
  · rcases List.mem_append.mp hx with z | z
    · exact h.lt x z
    · rw [List.mem_singleton.mp z]; exact hn
  · rcases List.mem_append.mp hx with z | z
    · exact h.rc x z
    · rw [List.mem_singleton.mp z]
      refine .step (h.rc (fs.getD k 0) ?_) ht e
      simp [hk]
  · have : j < fs.length := by have := h.le; omega
    rw [hget j this] at eu
    exact List.mem_append_left _ (h.cl j hj u hu eu)
theorem FInv.next {ts : List Tie} {n a k : Nat} {fs : List Nat} (h : FInv ts n a k fs) (hk : k < fs.length) (all : ∀ t ∈ ts, t.1 = fs.getD k 0 → t.2.1 ∈ fs) : FInv ts n a (k + 1) fs :=
  ⟨h.nd, h.lt, h.rc, h.st, hk, fun j hj t ht e => by
    by_cases ej : j = k
    · subst ej; exact all t ht e
    · exact h.cl j (by omega) t ht e⟩
theorem FInv.done {ts : List Tie} {n a : Nat} {fs : List Nat} (h : FInv ts n a fs.length fs) : fs.length ≤ n ∧ (fs.length = n ↔ ∀ i, i < n → Rch ts a i) := by
  have le := nodup_le h.nd h.lt
  have all : ∀ x, Rch ts a x → x ∈ fs := fun x r => by
    induction r with
    | refl => exact h.st
    | step _ ht e ih =>
      obtain ⟨j, hj, ej⟩ := List.getElem_of_mem ih
      exact h.cl j hj _ ht (by rw [e, ← ej]; simp [hj])
  refine ⟨le, fun e i hi => ?_, fun r => ?_⟩
  · exact h.rc i (sub_all h.nd (fun x hx => List.mem_range.mpr (h.lt x hx)) (by simp [e]) i (List.mem_range.mpr hi))
  · have : n ≤ fs.length := by
      have := sub_len (List.range n) fs List.nodup_range fun x hx => all x (r x (List.mem_range.mp hx))
      simpa using this
    omega
end Ww
namespace Ww
open PySem PySem.W PyProof.Rows L2
/-! ### statements whose end may be widened -/
theorem mon_bm {K : Frag} {T : String} {r : V → List V → Hp → VK → Prop} {te : TE} {ta : TA} (hr : ∀ x xs H Q Q', (∀ v H2, Q v H2 → Q' v H2) → r x xs H Q → r x xs H Q') (h1 : MonE te) (h2 : MonA ta) : MonE (tBM K T r te ta) := fun _ _ _ _ k h => h1 _ _ _ _ (fun _ _ ⟨ty, z⟩ => ⟨ty, h2 _ _ _ _ (fun _ _ z => hr _ _ _ _ _ k z) z⟩) h
theorem mon_popAt : ∀ x xs H (Q Q' : VK), (∀ v H2, Q v H2 → Q' v H2) → rPopAt x xs H Q → rPopAt x xs H Q' := fun _ _ _ _ _ k ⟨l, xs, i, kk, y, a, b, c, d, e, f, g, h⟩ => ⟨l, xs, i, kk, y, a, b, c, d, e, f, g, k _ _ h⟩
theorem mon_len {K : Frag} : MonC (fun xs H Q => I_len K xs H Q) := fun _ _ _ _ k ⟨p, ys, a, b, c⟩ => ⟨p, ys, a, b, k _ _ c⟩
theorem mi_list {K : Frag} {tl : TE} (h : MonE tl) : ∀ σ H (R R' : It → Hp → Prop), (∀ J H, R J H → R' J H) → iList K tl σ H R → iList K tl σ H R' := fun _ _ _ _ k z => h _ _ _ _ (fun _ _ ⟨a, e, q, z⟩ => ⟨a, e, q, k _ _ z⟩) z
end Ww
namespace Ww
open PySem PySem.W PyProof.Rows L2
end Ww

set_option Elab.async false
set_option linter.all false
namespace Ww
/-! ### the greatest of some numbers, or none -/
noncomputable def IsMax (S : Int → Prop) : Option Int → Prop
  | none => ∀ x, ¬ S x
  | some m => S m ∧ ∀ x, S x → x ≤ m
theorem IsMax.uniq {S : Int → Prop} : ∀ {o o' : Option Int}, IsMax S o → IsMax S o' → o = o'
  | none, none, _, _ => rfl
  | none, some m, h, h' => absurd h'.1 (h m)
  | some m, none, h, h' => absurd h.1 (h' m)
  | some m, some m', h, h' => by
    have h1 := h.2 m' h'.1
    have h2 := h'.2 m h.1
    rw [show m = m' by omega]
theorem IsMax.congr {S S' : Int → Prop} (e : ∀ x, S' x ↔ S x) : ∀ {o : Option Int}, IsMax S o → IsMax S' o
  | none, h => fun x hx => h x ((e x).mp hx)
  | some m, h => ⟨(e m).mpr h.1, fun x hx => h.2 x ((e x).mp hx)⟩
theorem IsMax.mem {S : Int → Prop} {o : Option Int} {m : Int} (h : IsMax S o) (e : o = some m) : S m := by subst e; exact h.1
theorem IsMax.le {S : Int → Prop} : ∀ {o : Option Int} {x : Int}, IsMax S o → S x → ∃ m, o = some m ∧ x ≤ m
  | none, x, h, hx => absurd hx (h x)
  | some m, x, h, hx => ⟨m, rfl, h.2 x hx⟩
noncomputable def upM (o : Option Int) (v : Int) : Option Int := match o with | none => some v | some m => if m < v then some v else some m
theorem IsMax.up {S S' : Int → Prop} {v : Int} (e : ∀ x, S' x ↔ S x ∨ x = v) : ∀ {o : Option Int}, IsMax S o → IsMax S' (upM o v)
  | none, h => ⟨(e v).mpr (.inr rfl), fun x hx => by
      rcases (e x).mp hx with z | z
      · exact absurd z (h x)
      · omega⟩
  | some m, h => by
    unfold upM
    dsimp only
    by_cases c : m < v
    · rw [if_pos c]
      refine ⟨(e v).mpr (.inr rfl), fun x hx => ?_⟩
      rcases (e x).mp hx with z | z
      · have := h.2 x z; omega
      · omega
    · rw [if_neg c]
      refine ⟨(e m).mpr (.inl h.1), fun x hx => ?_⟩
      rcases (e x).mp hx with z | z
      · exact h.2 x z
      · omega
/-! ### what k rounds bring -/
noncomputable def RR (ts : List Tie) (S : Nat → Int → Prop) : Nat → Nat → Int → Prop
  | 0, b, x => S b x
  | k + 1, b, x => ∃ t ∈ ts, t.2.1 = b ∧ ∃ y, RR ts S k t.1 y ∧ x = y + t.2.2
noncomputable def pt (a : Nat) : Nat → Int → Prop := fun c z => c = a ∧ z = 0
theorem RR.lt {n : Nat} {ts : List Tie} (ok : OkT n ts) {S : Nat → Int → Prop} (hS : ∀ b x, S b x → b < n) : ∀ {k b : Nat} {x : Int}, RR ts S k b x → b < n
  | 0, b, x, h => hS b x h
  | k + 1, b, x, ⟨t, ht, e, _⟩ => e ▸ (ok.lt t ht).2
theorem RR.mono {ts : List Tie} {S S' : Nat → Int → Prop} (hS : ∀ b x, S b x → S' b x) : ∀ {k b : Nat} {x : Int}, RR ts S k b x → RR ts S' k b x
  | 0, b, x, h => hS b x h
  | k + 1, b, x, ⟨t, ht, e, y, h, ex⟩ => ⟨t, ht, e, y, h.mono hS, ex⟩
theorem RR.congr {ts : List Tie} {S S' : Nat → Int → Prop} (hS : ∀ b x, S b x ↔ S' b x) {k b : Nat} {x : Int} : RR ts S k b x ↔ RR ts S' k b x := ⟨fun h => h.mono fun b x => (hS b x).mp, fun h => h.mono fun b x => (hS b x).mpr⟩
theorem RR.perm {ts ts' : List Tie} (p : ∀ t, t ∈ ts' ↔ t ∈ ts) {S : Nat → Int → Prop} : ∀ {k b : Nat} {x : Int}, RR ts S k b x → RR ts' S k b x
  | 0, b, x, h => h
  | k + 1, b, x, ⟨t, ht, e, y, h, ex⟩ => ⟨t, (p t).mpr ht, e, y, h.perm p, ex⟩
theorem RR.add {ts : List Tie} {S : Nat → Int → Prop} {j : Nat} : ∀ {k b : Nat} {x : Int}, RR ts S (j + k) b x ↔ RR ts (RR ts S j) k b x
  | 0, b, x => Iff.rfl
  | k + 1, b, x => ⟨fun ⟨t, ht, e, y, h, ex⟩ => ⟨t, ht, e, y, RR.add.mp h, ex⟩, fun ⟨t, ht, e, y, h, ex⟩ => ⟨t, ht, e, y, RR.add.mpr h, ex⟩⟩
theorem RR.split {ts : List Tie} {S : Nat → Int → Prop} : ∀ {k b : Nat} {x : Int}, RR ts S k b x ↔ ∃ a y w, S a y ∧ RR ts (pt a) k b w ∧ x = y + w
  | 0, b, x => ⟨fun h => ⟨b, x, 0, h, ⟨rfl, rfl⟩, by omega⟩, fun ⟨a, y, w, h, ⟨e1, e2⟩, ex⟩ => by
      have e3 : x = y := by omega
      rw [e3, e1]; exact h⟩
  | k + 1, b, x => by
    constructor
    · rintro ⟨t, ht, e, y, h, ex⟩
      obtain ⟨a, y', w, h1, h2, e2⟩ := RR.split.mp h
      exact ⟨a, y', w + t.2.2, h1, ⟨t, ht, e, w, h2, rfl⟩, by omega⟩
    · rintro ⟨a, y, w, h, ⟨t, ht, e, w', h2, ew⟩, ex⟩
      exact ⟨t, ht, e, y + w', RR.split.mpr ⟨a, y, w', h, h2, rfl⟩, by omega⟩
theorem RR.join {ts : List Tie} {S : Nat → Int → Prop} {j k b : Nat} {x : Int} : RR ts S (j + k) b x ↔ ∃ a y w, RR ts S j a y ∧ RR ts (pt a) k b w ∧ x = y + w := RR.add.trans RR.split
theorem RR.some {n : Nat} {ts : List Tie} (ok : OkT n ts) (cov : Covers n ts) {S : Nat → Int → Prop} (hS : ∀ b, b < n → ∃ x, S b x) : ∀ {k b : Nat}, b < n → ∃ x, RR ts S k b x
  | 0, b, h => hS b h
  | k + 1, b, h => by
    obtain ⟨t, ht, e⟩ := cov b h
    obtain ⟨y, hy⟩ := RR.some ok cov hS (k := k) (ok.lt t ht).1
    exact ⟨y + t.2.2, t, ht, e, y, hy, rfl⟩
/-! ### rows and tables of weights -/
noncomputable abbrev Row := List (Option Int)
noncomputable abbrev Tab := List (List (Option Int))
noncomputable def rowG (r : Row) (b : Nat) : Option Int := r.getD b none
noncomputable def tabG (m : Tab) (a b : Nat) : Option Int := rowG (m.getD a []) b
structure GoodR (n : Nat) (S : Nat → Int → Prop) (r : Row) : Prop where
  len : r.length = n
  max : ∀ b, b < n → IsMax (S b) (rowG r b)
structure GoodT (n : Nat) (ts : List Tie) (k : Nat) (m : Tab) : Prop where
  len : m.length = n
  row : ∀ a, a < n → GoodR n (RR ts (pt a) k) (m.getD a [])
noncomputable def Via (r : Row) (m : Tab) (i b : Nat) (x : Int) : Prop := ∃ a y w, a < i ∧ rowG r a = some y ∧ tabG m a b = some w ∧ x = y + w
theorem GoodR.uniq {n : Nat} {S : Nat → Int → Prop} {r r' : Row} (h : GoodR n S r) (h' : GoodR n S r') : r = r' := by
  refine List.ext_getElem (by rw [h.len, h'.len]) fun i h1 h2 => ?_
  have := (h.max i (by rw [← h.len]; exact h1)).uniq (h'.max i (by rw [← h.len]; exact h1))
  simpa [rowG, h1, h2] using this
theorem GoodR.congr {n : Nat} {S S' : Nat → Int → Prop} {r : Row} (h : GoodR n S r) (e : ∀ b x, b < n → (S' b x ↔ S b x)) : GoodR n S' r := ⟨h.len, fun b hb => (h.max b hb).congr fun x => e b x hb⟩
theorem GoodR.join {n : Nat} {ts : List Tie} (ok : OkT n ts) {S : Nat → Int → Prop} (hS : ∀ b x, S b x → b < n) {j k : Nat} {r : Row} {m : Tab} (hr : GoodR n (RR ts S j) r) (hm : GoodT n ts k m) {r' : Row} (hl : r'.length = n) (h : ∀ b, b < n → IsMax (Via r m n b) (rowG r' b)) : GoodR n (RR ts S (j + k)) r' := by
  refine ⟨hl, fun b hb => ?_⟩
  have key := h b hb
  have sub1 : ∀ x, Via r m n b x → RR ts S (j + k) b x := fun x ⟨a, y, w, ha, e1, e2, ex⟩ =>
    RR.join.mpr ⟨a, y, w, (hr.max a ha).mem e1, ((hm.row a ha).max b hb).mem e2, ex⟩
  have sub2 : ∀ x, RR ts S (j + k) b x → ∃ z, Via r m n b z ∧ x ≤ z := fun x hx => by
    obtain ⟨a, y, w, h1, h2, ex⟩ := RR.join.mp hx
    have ha : a < n := h1.lt ok hS
    obtain ⟨m1, e1, l1⟩ := (hr.max a ha).le h1
    obtain ⟨m2, e2, l2⟩ := ((hm.row a ha).max b hb).le h2
    exact ⟨m1 + m2, ⟨a, m1, m2, ha, e1, e2, rfl⟩, by omega⟩
  cases e : rowG r' b with
  | none =>
    rw [e] at key
    intro x hx
    obtain ⟨z, hz, _⟩ := sub2 x hx
    exact key z hz
  | some v =>
    rw [e] at key
    refine ⟨sub1 v key.1, fun x hx => ?_⟩
    obtain ⟨z, hz, l⟩ := sub2 x hx
    have := key.2 z hz
    omega
theorem GoodT.join {n : Nat} {ts : List Tie} (ok : OkT n ts) {j k : Nat} {m m' m2 : Tab} (h1 : GoodT n ts j m) (h2 : GoodT n ts k m') (hl : m2.length = n) (h : ∀ a, a < n → (m2.getD a []).length = n ∧ ∀ b, b < n → IsMax (Via (m.getD a []) m' n b) (rowG (m2.getD a []) b)) : GoodT n ts (j + k) m2 :=
  ⟨hl, fun a ha => (h1.row a ha).join ok (fun b x (hb : b = a ∧ x = 0) => by rw [hb.1]; exact ha) h2 (h a ha).1 (h a ha).2⟩
noncomputable def atT (ns : List Int) : Nat → Int → Prop := fun b x => b < ns.length ∧ x = ns.getD b 0
theorem GoodR.times {ns : List Int} : GoodR ns.length (atT ns) (ns.map some) := by
  refine ⟨by simp, fun b hb => ?_⟩
  have : rowG (ns.map some) b = some (ns.getD b 0) := by simp [rowG, hb]
  rw [this]
  exact ⟨⟨hb, rfl⟩, fun x ⟨_, e⟩ => by omega⟩
theorem RR.one {ts : List Tie} {a b : Nat} {x : Int} : RR ts (pt a) 1 b x ↔ ∃ t ∈ ts, t.1 = a ∧ t.2.1 = b ∧ t.2.2 = x :=
  ⟨fun ⟨t, ht, e, y, ⟨e1, e2⟩, ex⟩ => ⟨t, ht, e1, e, by omega⟩, fun ⟨t, ht, e1, e, ex⟩ => ⟨t, ht, e, 0, ⟨e1, rfl⟩, by omega⟩⟩
theorem GoodR.full {n : Nat} {S : Nat → Int → Prop} {r : Row} (h : GoodR n S r) (hS : ∀ b, b < n → ∃ x, S b x) : ∃ ns : List Int, r = ns.map some ∧ ns.length = n := by
  refine ⟨r.map fun o => o.getD 0, ?_, by simp [h.len]⟩
  rw [List.map_map]
  refine List.ext_getElem (by simp) fun i h1 h2 => ?_
  have hi : i < n := by rw [← h.len]; exact h1
  obtain ⟨x, hx⟩ := hS i hi
  obtain ⟨m, e, _⟩ := (h.max i hi).le hx
  have e' : r[i] = some m := by simpa [rowG, h1] using e
  simp [e']

theorem Via.zero {r : Row} {m : Tab} {b : Nat} (x : Int) : ¬ Via r m 0 b x := fun ⟨a, y, w, h, _⟩ => by omega
theorem Via.more {r : Row} {m : Tab} {i b : Nat} {y w : Int} (h1 : rowG r i = some y) (h2 : tabG m i b = some w) (x : Int) : Via r m (i + 1) b x ↔ Via r m i b x ∨ x = y + w := by
  constructor
  · rintro ⟨a, y', w', ha, e1, e2, ex⟩
    by_cases c : a = i
    · subst c
      rw [h1] at e1; rw [h2] at e2
      cases e1; cases e2
      exact .inr ex
    · exact .inl ⟨a, y', w', by omega, e1, e2, ex⟩
  · rintro (⟨a, y', w', ha, e1, e2, ex⟩ | ex)
    · exact ⟨a, y', w', by omega, e1, e2, ex⟩
    · exact ⟨i, y, w, by omega, h1, h2, ex⟩
theorem GoodR.step {n : Nat} {ts : List Tie} (ok : OkT n ts) {S : Nat → Int → Prop} {k : Nat} {ds es : List Int} (h1 : GoodR n (RR ts S k) (ds.map some)) (h2 : GoodR n (RR ts (atT ds) 1) (es.map some)) : GoodR n (RR ts S (k + 1)) (es.map some) := by
  have hd : ds.length = n := by simpa using h1.len
  refine ⟨h2.len, fun b hb => ?_⟩
  have key := h2.max b hb
  have sub1 : ∀ x, RR ts (atT ds) 1 b x → RR ts S (k + 1) b x := fun x ⟨t, ht, e, y, ⟨ha, ey⟩, ex⟩ => by
    have := h1.max t.1 (by omega)
    have e1 : rowG (ds.map some) t.1 = some (ds.getD t.1 0) := by simp [rowG, ha]
    exact ⟨t, ht, e, y, by rw [ey]; exact this.mem e1, ex⟩
  have sub2 : ∀ x, RR ts S (k + 1) b x → ∃ z, RR ts (atT ds) 1 b z ∧ x ≤ z := fun x ⟨t, ht, e, y, hy, ex⟩ => by
    have lt := (ok.lt t ht).1
    obtain ⟨m, em, l⟩ := (h1.max t.1 lt).le hy
    have e1 : rowG (ds.map some) t.1 = some (ds.getD t.1 0) := by simp [rowG, show t.1 < ds.length by omega]
    rw [e1] at em
    have em' := Option.some.inj em
    exact ⟨m + t.2.2, ⟨t, ht, e, m, ⟨by omega, em'.symm⟩, rfl⟩, by omega⟩
  cases e : rowG (es.map some) b with
  | none =>
    rw [e] at key
    intro x hx
    obtain ⟨z, hz, _⟩ := sub2 x hx
    exact key z hz
  | some v =>
    rw [e] at key
    refine ⟨sub1 v key.1, fun x hx => ?_⟩
    obtain ⟨z, hz, l⟩ := sub2 x hx
    have := key.2 z hz
    omega
theorem GoodR.ints {n : Nat} {S : Nat → Int → Prop} {ds es : List Int} (h1 : GoodR n S (ds.map some)) (h2 : GoodR n S (es.map some)) : ds = es := by
  have := h1.uniq h2
  exact (List.map_inj_right (fun a b h => Option.some.inj h)).mp this
theorem rowG_ints {ns : List Int} {b : Nat} (h : b < ns.length) : rowG (ns.map some) b = some (ns.getD b 0) := by simp [rowG, h]
noncomputable def OneS (ts : List Tie) (ms : List Int) (b : Nat) (x : Int) : Prop := ∃ t ∈ ts, t.2.1 = b ∧ x = ms.getD t.1 0 + t.2.2
theorem OneS.rr {n : Nat} {ts : List Tie} (ok : OkT n ts) {ms : List Int} (hl : ms.length = n) {b : Nat} {x : Int} : RR ts (atT ms) 1 b x ↔ OneS ts ms b x :=
  ⟨fun ⟨t, ht, e, y, ⟨_, ey⟩, ex⟩ => ⟨t, ht, e, by omega⟩, fun ⟨t, ht, e, ex⟩ => ⟨t, ht, e, _, ⟨by have := (ok.lt t ht).1; omega, rfl⟩, ex⟩⟩
theorem RR.dom {ts : List Tie} {S S' : Nat → Int → Prop} {d : Int} (hS : ∀ b x, S b x → ∃ z, S' b z ∧ x ≤ z + d) : ∀ {k b : Nat} {x : Int}, RR ts S k b x → ∃ z, RR ts S' k b z ∧ x ≤ z + d
  | 0, b, x, h => hS b x h
  | k + 1, b, x, ⟨t, ht, e, y, h, ex⟩ => by
    obtain ⟨z, hz, l⟩ := RR.dom hS h
    exact ⟨z + t.2.2, ⟨t, ht, e, z, hz, rfl⟩, by omega⟩
theorem IsMax.dom {S S' : Int → Prop} (h1 : ∀ x, S' x → S x) (h2 : ∀ x, S x → ∃ z, S' z ∧ x ≤ z) : ∀ {o : Option Int}, IsMax S' o → IsMax S o
  | none, h => fun x hx => let ⟨z, hz, _⟩ := h2 x hx; h z hz
  | some m, h => ⟨h1 m h.1, fun x hx => by
      obtain ⟨z, hz, l⟩ := h2 x hx
      have := h.2 z hz
      omega⟩
theorem GoodR.dom {n : Nat} {ts : List Tie} {S S' : Nat → Int → Prop} {k : Nat} {r : Row} (h1 : ∀ b x, S' b x → S b x) (h2 : ∀ b x, S b x → ∃ z, S' b z ∧ x ≤ z) (h : GoodR n (RR ts S' k) r) : GoodR n (RR ts S k) r :=
  ⟨h.len, fun b hb => (h.max b hb).dom (fun x hx => hx.mono h1) fun x hx => by
    obtain ⟨z, hz, l⟩ := RR.dom (d := 0) (fun b x hx => let ⟨z, hz, l⟩ := h2 b x hx; ⟨z, hz, by omega⟩) hx
    exact ⟨z, hz, by omega⟩⟩
theorem GoodR.at' {n : Nat} {S : Nat → Int → Prop} {ds : List Int} (h : GoodR n S (ds.map some)) {b : Nat} (hb : b < n) : S b (ds.getD b 0) ∧ ∀ x, S b x → x ≤ ds.getD b 0 := by
  have hl : ds.length = n := by simpa using h.len
  have := h.max b hb
  rw [rowG_ints (by omega)] at this
  exact this
theorem GoodR.steps {n : Nat} {ts : List Tie} (ok : OkT n ts) {S : Nat → Int → Prop} (hS : ∀ b x, S b x → b < n) {j k : Nat} {ds : List Int} {r : Row} (h1 : GoodR n (RR ts S j) (ds.map some)) (h2 : GoodR n (RR ts (atT ds) k) r) : GoodR n (RR ts S (j + k)) r := by
  have hd : ds.length = n := by simpa using h1.len
  have := GoodR.dom (S := RR ts S j) (S' := atT ds) (fun b x ⟨hb, ex⟩ => by rw [ex]; exact (h1.at' (by omega)).1) (fun b x hx => by
    have hb : b < n := hx.lt ok hS
    exact ⟨_, ⟨by omega, rfl⟩, (h1.at' hb).2 x hx⟩) h2
  exact this.congr fun b x _ => RR.add
theorem GoodR.le {n : Nat} {ts : List Tie} {S S' : Nat → Int → Prop} {d : Int} {k : Nat} {ds es : List Int} (hS : ∀ b x, S b x → ∃ z, S' b z ∧ x ≤ z + d) (h1 : GoodR n (RR ts S k) (ds.map some)) (h2 : GoodR n (RR ts S' k) (es.map some)) {b : Nat} (hb : b < n) : ds.getD b 0 ≤ es.getD b 0 + d := by
  obtain ⟨z, hz, l⟩ := RR.dom hS (h1.at' hb).1
  have := (h2.at' hb).2 z hz
  omega
theorem atT_lt {n : Nat} {ms : List Int} (hl : ms.length = n) : ∀ b x, atT ms b x → b < n := fun b x h => by have := h.1; omega
theorem RR.or {ts : List Tie} {S S' : Nat → Int → Prop} : ∀ {k b : Nat} {x : Int}, RR ts (fun b x => S b x ∨ S' b x) k b x ↔ RR ts S k b x ∨ RR ts S' k b x
  | 0, b, x => Iff.rfl
  | k + 1, b, x => by
    constructor
    · rintro ⟨t, ht, e, y, h, ex⟩
      rcases RR.or.mp h with z | z
      · exact .inl ⟨t, ht, e, y, z, ex⟩
      · exact .inr ⟨t, ht, e, y, z, ex⟩
    · rintro (⟨t, ht, e, y, h, ex⟩ | ⟨t, ht, e, y, h, ex⟩)
      · exact ⟨t, ht, e, y, RR.or.mpr (.inl h), ex⟩
      · exact ⟨t, ht, e, y, RR.or.mpr (.inr h), ex⟩
noncomputable def OneR (ts : List Tie) (r : Row) (b : Nat) (x : Int) : Prop := ∃ t ∈ ts, t.2.1 = b ∧ ∃ y, rowG r t.1 = some y ∧ x = y + t.2.2
theorem OneR.snoc {ts : List Tie} {i : Nat} {t : Tie} (ti : ts[i]? = some t) {r : Row} {b : Nat} (x : Int) : OneR (ts.take (i + 1)) r b x ↔ OneR (ts.take i) r b x ∨ (t.2.1 = b ∧ ∃ y, rowG r t.1 = some y ∧ x = y + t.2.2) := by
  rw [show ts.take (i + 1) = ts.take i ++ [t] by rw [List.take_succ, ti]; rfl]
  constructor
  · rintro ⟨u, hu, e, ex⟩
    rcases List.mem_append.mp hu with z | z
    · exact .inl ⟨u, z, e, ex⟩
    · rw [List.mem_singleton.mp z] at e ex; exact .inr ⟨e, ex⟩
  · rintro (⟨u, hu, e, ex⟩ | ⟨e, ex⟩)
    · exact ⟨u, List.mem_append_left _ hu, e, ex⟩
    · exact ⟨t, List.mem_append_right _ (by simp), e, ex⟩
end Ww

set_option Elab.async false
set_option linter.all false
set_option maxRecDepth 100000
namespace Ww
open PySem PySem.W PySem.Spec PyProof.Rows L2

/-! ### enumerate and zip -/
section
variable {X : Cx} {pins : List (Addr × Obj)} {σ : L2.St} {H : Hp} {s : Shared} {h' : Heap}
end

noncomputable def Ite (K : Frag) (a : Addr) : It :=
  ⟨fun i H => ∃ xs x, SqL K H a xs ∧ xs[i]? = some x, fun i H x H' => ∃ p y, x = .ref p ∧ H p = none ∧ (∀ xs, SqL K H a xs → xs[i]? = some y) ∧ H' = upd H p (.tup [.int i, y]), fun i H => ∃ xs, SqL K H a xs ∧ xs.length ≤ i⟩
noncomputable def iEnum (K : Frag) (tl : TE) : TI := fun σ H R => tl σ H fun x H1 => ∃ a, x = .ref a ∧ (∃ xs, SqL K H1 a xs) ∧ R (Ite K a) H1
section
variable {X : Cx}
end

noncomputable def Itz (K : Frag) (a b : Addr) : It :=
  ⟨fun i H => ∃ xs ys x y, SqL K H a xs ∧ SqL K H b ys ∧ xs[i]? = some x ∧ ys[i]? = some y, fun i H v H' => ∃ p x y, v = .ref p ∧ H p = none ∧ (∀ xs, SqL K H a xs → xs[i]? = some x) ∧ (∀ ys, SqL K H b ys → ys[i]? = some y) ∧ H' = upd H p (.tup [x, y]),
    fun i H => ∃ xs ys, SqL K H a xs ∧ SqL K H b ys ∧ i = min xs.length ys.length⟩
noncomputable def iZip (K : Frag) (ta : TA) : TI := fun σ H R => ta σ H fun vs H1 => ∃ a b, vs = [.ref a, .ref b] ∧ (∃ xs, SqL K H1 a xs) ∧ (∃ xs, SqL K H1 b xs) ∧ R (Itz K a b) H1
section
variable {X : Cx}
end
end Ww

set_option Elab.async false
set_option linter.all false
set_option maxRecDepth 100000
namespace Ww
open PySem PySem.W PySem.Spec PyProof.Rows L2
/-! ### max and min of a list of ints -/
noncomputable def rMaxL (K : Frag) : List V → Hp → VK → Prop := fun xs H Q => ∃ (p : Addr) (ns : List Int), xs = [.ref p] ∧ SqL K H p (ns.map V.int) ∧ ns ≠ [] ∧ ∀ m, m ∈ ns → (∀ x ∈ ns, x ≤ m) → Q (.int m) H
noncomputable def rMinL (K : Frag) : List V → Hp → VK → Prop := fun xs H Q => ∃ (p : Addr) (ns : List Int), xs = [.ref p] ∧ SqL K H p (ns.map V.int) ∧ ns ≠ [] ∧ ∀ m, m ∈ ns → (∀ x ∈ ns, m ≤ x) → Q (.int m) H
theorem mon_maxL {K : Frag} : MonC (rMaxL K) := fun _ _ _ _ k ⟨p, ns, a, b, c, d⟩ => ⟨p, ns, a, b, c, fun m h1 h2 => k _ _ (d m h1 h2)⟩
theorem mon_minL {K : Frag} : MonC (rMinL K) := fun _ _ _ _ k ⟨p, ns, a, b, c, d⟩ => ⟨p, ns, a, b, c, fun m h1 h2 => k _ _ (d m h1 h2)⟩
section
variable {X : Cx}
end
end Ww

set_option Elab.async false
set_option linter.all false
set_option maxRecDepth 100000
namespace Ww
open PySem PySem.W PySem.Spec PyProof.Rows L2
/-! ### readings that may be weakened, found by their form -/
theorem mon_compC {wi : TI} {cap : List (Option Nat)} {g : TG} {tt : TT} {te : TE} (mi : ∀ σ H (R R' : It → Hp → Prop), (∀ J H, R J H → R' J H) → wi σ H R → wi σ H R') : MonE (tComp wi cap g tt te) := fun σ H Q Q' k h => mi _ _ _ _ (fun J H1 z acc ha => by
  obtain ⟨W, w0, wt⟩ := z acc ha
  refine ⟨W, w0, fun i m ys σ' H' w => ?_⟩
  obtain ⟨a, b, c⟩ := wt i m ys σ' H' w
  refine ⟨a, b, ?_⟩
  rcases c with ⟨c1, c2⟩ | c
  · exact .inl ⟨c1, k _ _ c2⟩
  · exact .inr c) h
class CE (t : TE) : Prop where m : MonE t
class CT (t : TT) : Prop where m : MonT t
class CA (t : TA) : Prop where m : MonA t
class CG (g : TG) : Prop where m : MonG g
class CGs (g : TGs) : Prop where m : MonGs g
class C2 (r : R2) : Prop where m : Mon2 r
class CC (r : List V → Hp → VK → Prop) : Prop where m : MonC r
class CS (sp : Sp) : Prop where m : MonS sp
class CO (t : TO) : Prop where m : ∀ σ H (Q Q' : Option Int → Hp → Prop), (∀ v H2, Q v H2 → Q' v H2) → t σ H Q → t σ H Q'
class CM (r : V → List V → Hp → VK → Prop) : Prop where m : ∀ x xs H (Q Q' : VK), (∀ v H2, Q v H2 → Q' v H2) → r x xs H Q → r x xs H Q'
class CI (wi : TI) : Prop where m : ∀ σ H (R R' : It → Hp → Prop), (∀ J H, R J H → R' J H) → wi σ H R → wi σ H R'
class CSet (t : TSet) : Prop where m : ∀ o i v H (Q Q' : Hp → Prop), (∀ H2, Q H2 → Q' H2) → t o i v H Q → t o i v H Q'
class CU (r : V → Hp → VK → Prop) : Prop where m : ∀ x H (Q Q' : VK), (∀ v H2, Q v H2 → Q' v H2) → r x H Q → r x H Q'
class CSl (r : V → Option Int → Option Int → Hp → VK → Prop) : Prop where m : ∀ x l u H (Q Q' : VK), (∀ v H2, Q v H2 → Q' v H2) → r x l u H Q → r x l u H Q'
structure Ends.Le (D D' : Ends) : Prop where
  nx : ∀ σ H, D.nx σ H → D'.nx σ H
  bk : ∀ σ H, D.bk σ H → D'.bk σ H
  ct : ∀ σ H, D.ct σ H → D'.ct σ H
  rt : ∀ v H, D.rt v H → D'.rt v H
class CSt (t : TS) : Prop where m : ∀ (D D' : Ends) (σ : L2.St) (H : Hp), Ends.Le D D' → t D σ H → t D' σ H
instance iN1 {i : Nat} : CE (tVar i) := ⟨mon_var⟩
instance iN2 {v : V} : CE (tC v) := ⟨mon_C⟩
instance iN3 {r : R2} {a b : TE} [C2 r] [CE a] [CE b] : CE (tOp r a b) := ⟨mon_op C2.m CE.m CE.m⟩
instance iN4 {r : V → Hp → VK → Prop} {a : TE} [CU r] [CE a] : CE (tUn r a) := ⟨fun σ H Q Q' k h => CE.m (t := a) _ _ _ _ (fun x H1 z => CU.m x H1 _ _ k z) h⟩
instance iN5 {g : Int → V} : CU (rU g) := ⟨fun _ _ _ _ k hh => by obtain ⟨i, e, q⟩ := hh; exact ⟨i, e, k _ _ q⟩⟩
instance iN6 : CA tNil := ⟨mon_nil⟩
instance iN7 {a : TE} {t : TA} [CE a] [CA t] : CA (tCons a t) := ⟨mon_cons CE.m CA.m⟩
instance iN8 {t : TA} [CA t] : CE (tTup t) := ⟨mon_tup CA.m⟩
instance iN9 {t : TA} [CA t] : CE (tLst t) := ⟨mon_lst CA.m⟩
instance iN10 {C : Int → Int → Prop} {g : Int → Int → V} : C2 (rI C g) := ⟨mon_rI⟩
instance iN11 {g : Int → Int → V} : C2 (rI0 g) := ⟨mon_rI0⟩
instance iN12 {K : Frag} : C2 (rIxL K) := ⟨mon_rIxL⟩
instance iN13 {K : Frag} : C2 (rIxT K) := ⟨mon_rIxT⟩
instance iN14 : C2 rEq := ⟨mon_rEq⟩
instance iN15 : C2 rNe := ⟨mon_rNe⟩
instance iN16 : C2 rCat := ⟨fun _ _ _ _ _ k hh => by obtain ⟨l, b, xs, zs, a1, a2, a3, a4, a5, q⟩ := hh; exact ⟨l, b, xs, zs, a1, a2, a3, a4, a5, fun p hp => k _ _ (q p hp)⟩⟩
instance iN17 : C2 rRep := ⟨fun _ _ _ _ _ k hh => by obtain ⟨l, j, xs, a1, a2, a3, a4, a5, a6, q⟩ := hh; exact ⟨l, j, xs, a1, a2, a3, a4, a5, a6, fun p hp => k _ _ (q p hp)⟩⟩
instance iN18 {K : Frag} {n : Bool} : C2 (rIn K n) := ⟨fun _ _ _ _ _ k hh => by obtain ⟨p, xs, a1, a2, a3, a4, q⟩ := hh; exact ⟨p, xs, a1, a2, a3, a4, k _ _ q⟩⟩
instance iN19 : C2 (fun (x y : V) (H : Hp) (Q : VK) => y = .non ∧ Q (.bl (decide (x = .non))) H) := ⟨fun _ _ _ _ _ k hh => by obtain ⟨e, q⟩ := hh; exact ⟨e, k _ _ q⟩⟩
instance iN20 : C2 (fun (x y : V) (H : Hp) (Q : VK) => y = .non ∧ Q (.bl (!decide (x = .non))) H) := ⟨fun _ _ _ _ _ k hh => by obtain ⟨e, q⟩ := hh; exact ⟨e, k _ _ q⟩⟩
instance iN21 {a b : TE} [CE a] [CE b] : CE (tDGet a b) := ⟨mon_dget CE.m CE.m⟩
instance iN22 {a b : TE} [CE a] [CE b] : CE (tDIn a b) := ⟨fun _ _ _ _ k h => CE.m (t := a) _ _ _ _ (fun _ _ h => CE.m (t := b) _ _ _ _ (fun _ _ ⟨x, o, e, g, h⟩ => ⟨x, o, e, g, k _ _ h⟩) h) h⟩
instance iN23 {a b : TE} [CE a] [CE b] : CE (tDNotIn a b) := ⟨fun _ _ _ _ k h => CE.m (t := a) _ _ _ _ (fun _ _ h => CE.m (t := b) _ _ _ _ (fun _ _ ⟨x, o, e, g, h⟩ => ⟨x, o, e, g, k _ _ h⟩) h) h⟩
instance iN24 {a b : TE} [CE a] [CE b] : CE (tDGet1 a b) := ⟨fun _ _ _ _ k h => CE.m (t := a) _ _ _ _ (fun _ _ ⟨x, e, d, h⟩ => ⟨x, e, d, CE.m (t := b) _ _ _ _ (fun _ _ ⟨o, g, h⟩ => ⟨o, g, k _ _ h⟩) h⟩) h⟩
instance iN25 {a b c : TE} [CE a] [CE b] [CE c] : CE (tDGet2 a b c) := ⟨fun _ _ _ _ k h => CE.m (t := a) _ _ _ _ (fun _ _ ⟨x, e, d, h⟩ => ⟨x, e, d, CE.m (t := b) _ _ _ _ (fun _ _ h => CE.m (t := c) _ _ _ _ (fun _ _ ⟨o, g, h⟩ => ⟨o, g, k _ _ h⟩) h) h⟩) h⟩
instance iN26 : CE tDNewT := ⟨fun _ _ _ _ k h p hp => k _ _ (h p hp)⟩
instance iN27 : CE tDNewK := ⟨fun _ _ _ _ k h p hp => k _ _ (h p hp)⟩
instance iN28 : CT tTrue := ⟨mon_true⟩
instance iN29 {t : TE} [CE t] : CT (tTest t) := ⟨mon_test CE.m⟩
instance iN30 {t : TE} [CE t] : CT (tB t) := ⟨mon_tB CE.m⟩
instance iN31 {t u : TT} [CT t] [CT u] : CT (tAnd t u) := ⟨mon_and CT.m CT.m⟩
instance iN32 {t u : TT} [CT t] [CT u] : CT (tOr t u) := ⟨fun _ _ _ _ k h => CT.m (t := t) _ _ _ _ (fun b _ h => by
  cases b with
  | true => rw [if_pos rfl] at h ⊢; exact k _ _ h
  | false => rw [if_neg (by simp)] at h ⊢; exact CT.m (t := u) _ _ _ _ k h) h⟩
instance iN33 {t : TT} [CT t] : CT (tNot t) := ⟨fun _ _ _ _ k h => CT.m (t := t) _ _ _ _ (fun b _ h => k _ _ h) h⟩
instance iN34 {t u : TE} [CE t] [CE u] : CE (tAndV t u) := ⟨fun _ _ _ _ k h => CE.m (t := t) _ _ _ _ (fun b _ ⟨c, e, h⟩ => ⟨c, e, by
  cases c with
  | true => rw [if_pos rfl] at h ⊢; exact CE.m (t := u) _ _ _ _ k h
  | false => rw [if_neg (by simp)] at h ⊢; exact k _ _ h⟩) h⟩
instance iN35 {t u : TE} [CE t] [CE u] : CE (tOrV t u) := ⟨fun _ _ _ _ k h => CE.m (t := t) _ _ _ _ (fun b _ ⟨c, e, h⟩ => ⟨c, e, by
  cases c with
  | true => rw [if_pos rfl] at h ⊢; exact k _ _ h
  | false => rw [if_neg (by simp)] at h ⊢; exact CE.m (t := u) _ _ _ _ k h⟩) h⟩
instance iN36 {t : TE} [CE t] : CE (tNotV t) := ⟨fun _ _ _ _ k h => CE.m (t := t) _ _ _ _ (fun b _ ⟨c, e, h⟩ => ⟨c, e, k _ _ h⟩) h⟩
instance iN37 {t : TT} {a b : TE} [CT t] [CE a] [CE b] : CE (tIf t a b) := ⟨fun _ _ _ _ k h => CT.m (t := t) _ _ _ _ (fun c _ h => by
  cases c with
  | true => rw [if_pos rfl] at h ⊢; exact CE.m (t := a) _ _ _ _ k h
  | false => rw [if_neg (by simp)] at h ⊢; exact CE.m (t := b) _ _ _ _ k h) h⟩
instance iN38 {i : Nat} : CG (gName i) := ⟨mon_gname⟩
instance iN39 : CGs gNil := ⟨mon_gnil⟩
instance iN40 {g : TG} {gs : TGs} [CG g] [CGs gs] : CGs (gCons g gs) := ⟨mon_gcons CG.m CGs.m⟩
instance iN41 {K : Frag} {n : Nat} {gs : TGs} [CGs gs] : CG (gTup K n gs) := ⟨mon_gtup CGs.m⟩
instance iN42 {a b : TE} {t : TSet} [CE a] [CE b] [CSet t] : CG (gSub a b t) := ⟨fun x σ H Q Q' k h => CE.m (t := a) _ _ _ _ (fun _ _ h => CE.m (t := b) _ _ _ _ (fun _ _ h => CSet.m (t := t) _ _ _ _ _ _ (fun _ h => k _ _ h) h) h) h⟩
instance iN43 : CSet rSetL := ⟨fun _ _ _ _ _ _ k hh => by obtain ⟨p, xs, i, j, a, b, c, d, q⟩ := hh; exact ⟨p, xs, i, j, a, b, c, d, k _ q⟩⟩
instance iN44 {r : List V → Hp → VK → Prop} {ta : TA} [CC r] [CA ta] : CE (tCB r ta) := ⟨mon_cb CC.m CA.m⟩
instance iN45 {K : Frag} : CC (fun xs H Q => I_len K xs H Q) := ⟨mon_len⟩
instance iN46 {K : Frag} : CC (fun xs H Q => ∃ p ys, xs = [V.ref p] ∧ (SqL K H p ys ∨ SqT K H p ys) ∧ ∀ l, H l = none → Q (.ref l) (upd H l (.lst ys))) := ⟨fun _ _ _ _ k hh => by obtain ⟨p, ys, a, b, c⟩ := hh; exact ⟨p, ys, a, b, fun l hl => k _ _ (c l hl)⟩⟩
instance iN47 : CC (fun xs H Q => ∃ i j, xs = [V.int i, V.int j] ∧ Q (.int (if j > i then j else i)) H) := ⟨fun _ _ _ _ k hh => by obtain ⟨i, j, e, q⟩ := hh; exact ⟨i, j, e, k _ _ q⟩⟩
instance iN48 : CC (fun xs H Q => ∃ i j, xs = [V.int i, V.int j] ∧ Q (.int (if j < i then j else i)) H) := ⟨fun _ _ _ _ k hh => by obtain ⟨i, j, e, q⟩ := hh; exact ⟨i, j, e, k _ _ q⟩⟩
instance iN49 : CC (fun xs H Q => ∃ i, xs = [V.int i] ∧ Q (.int (if i < 0 then -i else i)) H) := ⟨fun _ _ _ _ k hh => by obtain ⟨i, e, q⟩ := hh; exact ⟨i, e, k _ _ q⟩⟩
instance iN50 {K : Frag} : CC (fun xs H Q => ∃ (p : Addr) (bs : List Bool), xs = [V.ref p] ∧ SqL K H p (bs.map V.bl) ∧ Q (.bl (bs.all id)) H) := ⟨fun _ _ _ _ k hh => by obtain ⟨p, bs, e, a, q⟩ := hh; exact ⟨p, bs, e, a, k _ _ q⟩⟩
instance iN51 {K : Frag} : CC (fun xs H Q => ∃ x c t b, xs = [x, c] ∧ ((∃ n, c = .ty n) ∨ ∃ a, c = .ref a) ∧ TyOf K H x t ∧ kitOne K t (clsV c) = some b ∧ Q (.bl b) H) := ⟨fun _ _ _ _ k hh => by obtain ⟨x, c, t, b, e1, e2, e3, e4, q⟩ := hh; exact ⟨x, c, t, b, e1, e2, e3, e4, k _ _ q⟩⟩
instance iN52 {K : Frag} : CC (rMaxL K) := ⟨mon_maxL⟩
instance iN53 {K : Frag} : CC (rMinL K) := ⟨mon_minL⟩
instance iN54 : CC rListD := ⟨mon_listD⟩
instance iN55 {sp : Sp} {ds : List V} {E : XK} {ta : TA} [CS sp] [CA ta] : CE (tCall sp ds E ta) := ⟨mon_call' CS.m CA.m⟩
instance iN56 {C : Addr} {m : Str} {sp : Sp} {ds : List V} {E : XK} {ta : TE} {t : TA} [CS sp] [CE ta] [CA t] : CE (tMeth C m sp ds E ta t) := ⟨mon_meth CS.m CE.m CA.m⟩
instance iN57 {K : Frag} {T : String} {r : V → List V → Hp → VK → Prop} {te : TE} {ta : TA} [CM r] [CE te] [CA ta] : CE (tBM K T r te ta) := ⟨mon_bm CM.m CE.m CA.m⟩
instance iN58 {K : Frag} {T : String} {r : V → List V → Hp → VK → Prop} {te : TE} [CM r] [CE te] : CE (tBM0 K T r te) := ⟨fun _ _ _ _ k h => CE.m (t := te) _ _ _ _ (fun _ _ ⟨ty, z⟩ => ⟨ty, CM.m (r := r) _ _ _ _ _ k z⟩) h⟩
instance iN59 : CM rPopAt := ⟨mon_popAt⟩
instance iN60 : CM rPop := ⟨fun _ _ _ _ _ k hh => by obtain ⟨l, xs, y, a, b, c, d, q⟩ := hh; exact ⟨l, xs, y, a, b, c, d, k _ _ q⟩⟩
instance iN61 : CM rAppend := ⟨fun _ _ _ _ _ k hh => by obtain ⟨l, xs, y, a, b, c, d, q⟩ := hh; exact ⟨l, xs, y, a, b, c, d, k _ _ q⟩⟩
instance iN62 : CM rClear := ⟨fun _ _ _ _ _ k hh => by obtain ⟨l, xs, a, b, c, q⟩ := hh; exact ⟨l, xs, a, b, c, k _ _ q⟩⟩
instance iN63 {K : Frag} {ta : TE} {f : Str} [CE ta] : CE (tFld K ta f) := ⟨mon_fld CE.m⟩
instance iN64 {K : Frag} {tl : TE} [CE tl] : CI (iList K tl) := ⟨mi_list CE.m⟩
instance iN65 {K : Frag} {tl : TE} [CE tl] : CI (iTup K tl) := ⟨fun _ _ _ _ k z => CE.m (t := tl) _ _ _ _ (fun _ _ ⟨a, e, q, z⟩ => ⟨a, e, q, k _ _ z⟩) z⟩
instance iN66 {K : Frag} {tl : TE} [CE tl] : CI (iEnum K tl) := ⟨fun _ _ _ _ k z => CE.m (t := tl) _ _ _ _ (fun _ _ ⟨a, e, q, z⟩ => ⟨a, e, q, k _ _ z⟩) z⟩
instance iN67 {K : Frag} {ta : TA} [CA ta] : CI (iZip K ta) := ⟨fun _ _ _ _ k z => CA.m (t := ta) _ _ _ _ (fun _ _ ⟨a, b, e, q, q2, z⟩ => ⟨a, b, e, q, q2, k _ _ z⟩) z⟩
instance iN68 {ta : TA} [CA ta] : CI (iRng1 ta) := ⟨fun _ _ _ _ k z => CA.m (t := ta) _ _ _ _ (fun _ _ ⟨j, e, q1, q2, z⟩ => ⟨j, e, q1, q2, k _ _ z⟩) z⟩
instance iN69 {ta : TA} [CA ta] : CI (iRng2 ta) := ⟨fun _ _ _ _ k z => CA.m (t := ta) _ _ _ _ (fun _ _ ⟨i, j, e, q1, z⟩ => ⟨i, j, e, q1, k _ _ z⟩) z⟩
instance iN70 {wi : TI} {cap : List (Option Nat)} {g : TG} {tt : TT} {te : TE} [CI wi] : CE (tComp wi cap g tt te) := ⟨mon_compC CI.m⟩
instance iN71 : CO tNoPart := ⟨fun _ _ _ _ k h => k _ _ h⟩
instance iN72 {t : TE} [CE t] : CO (tPart t) := ⟨fun _ _ _ _ k h => CE.m (t := t) _ _ _ _ (fun _ _ ⟨i, e, q⟩ => ⟨i, e, k _ _ q⟩) h⟩
instance iN73 {r : V → Option Int → Option Int → Hp → VK → Prop} {te : TE} {tl th : TO} [CSl r] [CE te] [CO tl] [CO th] : CE (tSl r te tl th) := ⟨fun _ _ _ _ k h => CE.m (t := te) _ _ _ _ (fun _ _ h => CO.m (t := tl) _ _ _ _ (fun _ _ h => CO.m (t := th) _ _ _ _ (fun _ _ h => CSl.m (r := r) _ _ _ _ _ _ k h) h) h) h⟩
instance iN74 {K : Frag} : CSl (rSlL K) := ⟨fun _ _ _ _ _ _ k hh => by obtain ⟨a, xs, e, h, q⟩ := hh; exact ⟨a, xs, e, h, fun p hp => k _ _ (q p hp)⟩⟩
structure NB2 (mg : Str → Option Value) : Prop where
  b_max : mg "max" = none
  b_min : mg "min" = none
  b_abs : mg "abs" = none
  b_zip : mg "zip" = none
  b_sum : mg "sum" = none
  b_str : mg "str" = none
  b_set : mg "set" = none
/-! ### statements -/
instance iN75 : CSt tNext := ⟨fun _ _ _ _ l h => l.nx _ _ h⟩
instance iN76 : CSt tBreak := ⟨fun _ _ _ _ l h => l.bk _ _ h⟩
instance iN77 : CSt tCont := ⟨fun _ _ _ _ l h => l.ct _ _ h⟩
instance iN78 : CSt tRetN := ⟨fun _ _ _ _ l h => l.rt _ _ h⟩
instance iN79 {te : TE} {g : TG} [CE te] [CG g] : CSt (tAsg te g) := ⟨fun _ _ _ _ l h => CE.m (t := te) _ _ _ _ (fun _ _ h => CG.m (g := g) _ _ _ _ _ l.nx h) h⟩
instance iN80 {te : TE} [CE te] : CSt (tDrop te) := ⟨fun _ _ _ _ l h => CE.m (t := te) _ _ _ _ (fun _ _ h => l.nx _ _ h) h⟩
instance iN81 {te : TE} [CE te] : CSt (tRet te) := ⟨fun _ _ _ _ l h => CE.m (t := te) _ _ _ _ l.rt h⟩
instance iN82 : CSt tNever := ⟨fun _ _ _ _ _ h => h⟩
instance iN83 {t u : TS} [CSt t] [CSt u] : CSt (tSeq t u) := ⟨fun D D' σ H l h => CSt.m (t := t) { D with nx := u D } { D' with nx := u D' } σ H ⟨fun σ H z => CSt.m (t := u) D D' σ H l z, l.bk, l.ct, l.rt⟩ h⟩
instance iN84 {c : TT} {t u : TS} [CT c] [CSt t] [CSt u] : CSt (tIfS c t u) := ⟨fun D D' σ H l h => CT.m (t := c) _ _ _ _ (fun b H1 z => by
  cases b with
  | true => rw [if_pos rfl] at z ⊢; exact CSt.m (t := t) _ _ _ _ l z
  | false => rw [if_neg (by simp)] at z ⊢; exact CSt.m (t := u) _ _ _ _ l z) h⟩
instance iN85 {a b c : TE} [CE a] [CE b] [CE c] : CSt (sDPut a b c) := ⟨fun D D' σ H l h => CE.m (t := c) _ _ _ _ (fun _ _ h => CE.m (t := a) _ _ _ _ (fun _ _ h => CE.m (t := b) _ _ _ _ (fun _ _ ⟨x, H4, e, p, h⟩ => ⟨x, H4, e, p, l.nx _ _ h⟩) h) h) h⟩
instance iN86 {wi : TI} {g : TG} {tb : TS} [CI wi] [CG g] [CSt tb] : CSt (tFor wi g tb) := ⟨fun D D' σ H l h => CI.m (wi := wi) _ _ _ _ (fun J H1 ⟨W, w0, wt⟩ => ⟨W, w0, fun i m σ H w => by
  rcases wt i m σ H w with ⟨z1, z2⟩ | ⟨z1, N, z2, z3⟩
  · exact .inl ⟨z1, l.nx _ _ z2⟩
  · exact .inr ⟨z1, N, z2, fun x H' hy => CG.m (g := g) _ _ _ _ _ (fun σ2 H2 z => CSt.m (t := tb) { D with nx := N, ct := N, bk := D.nx } { D' with nx := N, ct := N, bk := D'.nx } σ2 H2 ⟨fun _ _ h => h, l.nx, fun _ _ h => h, l.rt⟩ z) (z3 x H' hy)⟩⟩) h⟩
instance iN87 {c : TT} {tb : TS} [CT c] [CSt tb] : CSt (tWhile c tb) := ⟨fun D D' σ H l ⟨W, w0, wt⟩ => ⟨W, w0, fun m σ H w => CT.m (t := c) _ _ _ _ (fun b H1 z => by
  cases b with
  | true =>
    rw [if_pos rfl] at z ⊢
    obtain ⟨N, z2, z3⟩ := z
    exact ⟨N, z2, CSt.m (t := tb) { D with nx := N, ct := N, bk := D.nx } { D' with nx := N, ct := N, bk := D'.nx } σ H1 ⟨fun _ _ h => h, l.nx, fun _ _ h => h, l.rt⟩ z3⟩
  | false => rw [if_neg (by simp)] at z ⊢; exact l.nx _ _ z) (wt m σ H w)⟩⟩
theorem seq_at {t u : TS} {D : Ends} {σ : L2.St} {H : Hp} [CSt t] (R : L2.St → Hp → Prop) (h1 : t { D with nx := R } σ H) (h2 : ∀ σ H, R σ H → u D σ H) : tSeq t u D σ H := CSt.m (t := t) { D with nx := R } { D with nx := u D } σ H ⟨h2, fun _ _ h => h, fun _ _ h => h, fun _ _ h => h⟩ h1
/-! ### the heap -/
theorem _root_.L2.Same.wr {H H' : Hp} {l : Addr} {o : HO} (S : Same H H') (h : H l = none) : Same H (upd H' l o) := fun b u e => by rw [upd_ne (ne_of_none e h)]; exact S b u e
/-! ### comprehensions whose items need no invariant -/
structure Feeds (J : It) (H1 : Hp) (n : Nat) (Y : Nat → V → Hp → Prop) : Prop where
  go : ∀ i H', i < n → Same H1 H' → J.go i H' ∧ ∀ x H'', J.yld i H' x H'' → Same H' H'' ∧ Y i x H''
  stop : ∀ H', Same H1 H' → J.stop n H'
theorem feeds_list {K : Frag} {a : Addr} {xs : List V} {H1 : Hp} (h : SqL K H1 a xs) : Feeds (Itl K a) H1 xs.length (fun i x _ => xs[i]? = some x) where
  go := fun i H' hi S => ⟨⟨xs, xs[i], S.seq h, by simp [hi]⟩, fun x H'' ⟨e, y⟩ => ⟨e ▸ fun _ _ z => z, y xs (S.seq h)⟩⟩
  stop := fun H' S => ⟨xs, S.seq h, Nat.le_refl _⟩
theorem feeds_range {H1 : Hp} {n : Nat} : Feeds (Itr 0 n) H1 n (fun i x _ => x = .int (i : Int)) where
  go := fun i H' hi S => ⟨hi, fun x H'' ⟨e, y⟩ => ⟨e ▸ fun _ _ z => z, by rw [y]; congr 1; omega⟩⟩
  stop := fun H' S => Nat.le_refl _
theorem comp_vals {J : It} {H1 : Hp} {n : Nat} {Y : Nat → V → Hp → Prop} (fd : Feeds J H1 n Y) {g : TG} {tt : TT} {te : TE} [CG g] [CT tt] [CE te] {σ0 : L2.St} {Q : VK} (Sh : L2.St → Prop) (c : Nat → Bool) (f : Nat → V) (hz : n < sizeLine) (s0 : Sh σ0)
    (hs : ∀ i x σ H', i < n → Sh σ → Same H1 H' → Y i x H' → g x σ H' fun σ2 H2 => tt σ2 H2 fun b H3 => b = c i ∧ Same H' H3 ∧ Sh σ2 ∧ (c i = true → te σ2 H3 fun y H4 => y = f i ∧ Same H3 H4))
    (hd : ∀ l H', Same H1 H' → H1 l = none → H' l = some (.lst (((List.range n).filter c).map f)) → Q (.ref l) H') : ∀ acc, H1 acc = none →
    ∃ W : Nat → Nat → List V → L2.St → Hp → Prop, (∃ m, W 0 m [] σ0 (upd H1 acc (.lst []))) ∧ ∀ i m ys σ' H', W i m ys σ' H' → H' acc = some (.lst ys) ∧ ys.length < sizeLine ∧
    ((J.stop i H' ∧ Q (.ref acc) H') ∨ (J.go i H' ∧ ∀ x H'', J.yld i H' x H'' → g x σ' H'' fun σ2 H2 => tt σ2 H2 fun b H3 =>
      if b = true then te σ2 H3 fun y H4 => H4 acc = some (.lst ys) ∧ ∃ m', m' < m ∧ W (i + 1) m' (ys ++ [y]) σ2 (upd H4 acc (.lst (ys ++ [y]))) else ∃ m', m' < m ∧ W (i + 1) m' ys σ2 H3)) := by
  intro acc hacc
  refine ⟨fun i m ys σ H => m = n - i ∧ i ≤ n ∧ Same H1 H ∧ Sh σ ∧ ys = ((List.range i).filter c).map f ∧ H acc = some (.lst ys), ⟨n, by simp, Nat.zero_le _, Same.new hacc, s0, rfl, upd_same⟩, ?_⟩
  rintro i m ys σ H ⟨rfl, hi, S, hsh, rfl, ha⟩
  have len : (((List.range i).filter c).map f).length ≤ i := by
    rw [List.length_map]
    exact Nat.le_trans (List.length_filter_le _ _) (by simp)
  refine ⟨ha, by omega, ?_⟩
  by_cases hlt : i < n
  · obtain ⟨g1, g2⟩ := fd.go i H hlt S
    refine .inr ⟨g1, fun x H'' hy => ?_⟩
    obtain ⟨S1, y1⟩ := g2 x H'' hy
    refine CG.m (g := g) _ _ _ _ _ (fun σ2 H2 z => CT.m (t := tt) _ _ _ _ (fun b H3 z => ?_) z) (hs i x σ H'' hlt hsh (S.trans S1) y1)
    obtain ⟨eb, S2, sh2, z⟩ := z
    have hr : ((List.range (i + 1)).filter c) = ((List.range i).filter c) ++ (if c i = true then [i] else []) := by
      rw [List.range_succ, List.filter_append]
      congr 1
      cases hc : c i <;> simp [hc]
    cases hb : b with
    | true =>
      have hci : c i = true := by rw [← eb, hb]
      rw [if_pos rfl]
      refine CE.m (t := te) _ _ _ _ (fun y H4 z => ?_) (z hci)
      obtain ⟨ey, S3⟩ := z
      refine ⟨S3 _ _ (S2 _ _ (S1 _ _ ha)), n - (i + 1), by omega, rfl, hlt, (((S.trans S1).trans S2).trans S3).wr hacc, sh2, ?_, upd_same⟩
      rw [hr, if_pos hci, List.map_append, ey]; rfl
    | false =>
      have hci : c i = false := by rw [← eb, hb]
      rw [if_neg (by simp)]
      refine ⟨n - (i + 1), by omega, rfl, hlt, (S.trans S1).trans S2, sh2, ?_, S2 _ _ (S1 _ _ ha)⟩
      rw [hr, hci]; simp
  · have e : i = n := by omega
    subst e
    exact .inl ⟨fd.stop H S, hd acc H S hacc ha⟩
theorem range_true (n : Nat) : (List.range n).filter (fun _ => true) = List.range n := by simp
inductive I_cv_list (K : Frag) (cap : List (Option Nat)) (g : TG) (tt : TT) (te : TE) (σ : L2.St) (Q : VK) (x : V) (H1 : Hp) : Prop
  | mk (a xs) (h1 : x = .ref a) (h2 : SqL K H1 a xs) (h3 : xs.length < sizeLine) (Sh : L2.St → Prop) (c : Nat → Bool) (f : Nat → V) (h4 : Sh (capSt cap σ)) (h5 : (∀ i x σ H', i < xs.length → Sh σ → Same H1 H' → xs[i]? = some x → g x σ H' fun σ2 H2 => tt σ2 H2 fun b H3 => b = c i ∧ Same H' H3 ∧ Sh σ2 ∧ (c i = true → te σ2 H3 fun y H4 => y = f i ∧ Same H3 H4))) (h6 : ∀ l H', Same H1 H' → H1 l = none → H' l = some (.lst (((List.range xs.length).filter c).map f)) → Q (.ref l) H')
theorem cv_list {K : Frag} {tl : TE} {cap : List (Option Nat)} {g : TG} {tt : TT} {te : TE} [CE tl] [CG g] [CT tt] [CE te] {σ : L2.St} {H : Hp} {Q : VK}
    (h : tl σ H fun x H1 => I_cv_list K cap g tt te σ Q x H1) : tComp (iList K tl) cap g tt te σ H Q :=
  CE.m (t := tl) _ _ _ _ (fun x H1 hh => by obtain ⟨a, xs, e, hq, hz, Sh, c, f, s0, hs, hd⟩ := hh; exact ⟨a, e, ⟨xs, hq⟩, comp_vals (feeds_list hq) Sh c f hz s0 hs hd⟩) h
inductive I_cv_range (cap : List (Option Nat)) (g : TG) (tt : TT) (te : TE) (σ : L2.St) (Q : VK) (vs : List V) (H1 : Hp) : Prop
  | mk (n : Nat) (h1 : vs = [.int n]) (h2 : n < 100000) (Sh : L2.St → Prop) (c : Nat → Bool) (f : Nat → V) (h3 : Sh (capSt cap σ)) (h4 : (∀ i x σ H', i < n → Sh σ → Same H1 H' → x = .int (i : Int) → g x σ H' fun σ2 H2 => tt σ2 H2 fun b H3 => b = c i ∧ Same H' H3 ∧ Sh σ2 ∧ (c i = true → te σ2 H3 fun y H4 => y = f i ∧ Same H3 H4))) (h5 : ∀ l H', Same H1 H' → H1 l = none → H' l = some (.lst (((List.range n).filter c).map f)) → Q (.ref l) H')
theorem cv_range {ta : TA} {cap : List (Option Nat)} {g : TG} {tt : TT} {te : TE} [CA ta] [CG g] [CT tt] [CE te] {σ : L2.St} {H : Hp} {Q : VK}
    (h : ta σ H fun vs H1 => I_cv_range cap g tt te σ Q vs H1) : tComp (iRng1 ta) cap g tt te σ H Q :=
  CA.m (t := ta) _ _ _ _ (fun vs H1 hh => by obtain ⟨n, e, hn, Sh, c, f, s0, hs, hd⟩ := hh; exact ⟨n, e, by omega, by omega, by
    rw [Int.toNat_natCast]
    exact comp_vals feeds_range Sh c f (Nat.lt_of_lt_of_le hn line1000) s0 hs hd⟩) h
inductive I_cv_zip (K : Frag) (cap : List (Option Nat)) (g : TG) (tt : TT) (te : TE) (σ : L2.St) (Q : VK) (vs : List V) (H1 : Hp) : Prop
  | mk (a b xs ys) (h1 : vs = [.ref a, .ref b]) (h2 : SqL K H1 a xs) (h3 : SqL K H1 b ys) (h4 : xs.length < sizeLine) (Sh : L2.St → Prop) (c : Nat → Bool) (f : Nat → V) (h5 : Sh (capSt cap σ)) (h6 : (∀ i x σ H', i < min xs.length ys.length → Sh σ → Same H1 H' → (∃ p u v, x = .ref p ∧ xs[i]? = some u ∧ ys[i]? = some v ∧ H' p = some (.tup [u, v])) → g x σ H' fun σ2 H2 => tt σ2 H2 fun b H3 => b = c i ∧ Same H' H3 ∧ Sh σ2 ∧ (c i = true → te σ2 H3 fun y H4 => y = f i ∧ Same H3 H4))) (h7 : ∀ l H', Same H1 H' → H1 l = none → H' l = some (.lst (((List.range (min xs.length ys.length)).filter c).map f)) → Q (.ref l) H')
inductive I_co_list (K : Frag) (cap : List (Option Nat)) (g : TG) (te : TE) (σ : L2.St) (Q : VK) (x : V) (H1 : Hp) : Prop
  | mk (a xs) (h1 : x = .ref a) (h2 : SqL K H1 a xs) (h3 : xs.length < sizeLine) (Sh : L2.St → Prop) (Item : Nat → HO → Prop) (h4 : Sh (capSt cap σ)) (h5 : (∀ i x σ H', i < xs.length → Sh σ → Same H1 H' → xs[i]? = some x → g x σ H' fun σ2 H2 => te σ2 H2 fun y H4 => Sh σ2 ∧ Same H' H4 ∧ ∃ p o, y = .ref p ∧ H' p = none ∧ H4 p = some o ∧ Item i o)) (h6 : ∀ (l : Addr) (ps : List Addr) (H' : Hp), Same H1 H' → H1 l = none → H' l = some (.lst (ps.map V.ref)) → ps.length = xs.length → ps.Nodup → l ∉ ps → (∀ i, i < xs.length → H1 (ps.getD i 0) = none ∧ ∃ o, H' (ps.getD i 0) = some o ∧ Item i o) → Q (.ref l) H')
inductive I_co_range (cap : List (Option Nat)) (g : TG) (te : TE) (σ : L2.St) (Q : VK) (vs : List V) (H1 : Hp) : Prop
  | mk (n : Nat) (h1 : vs = [.int n]) (h2 : n < 100000) (Sh : L2.St → Prop) (Item : Nat → HO → Prop) (h3 : Sh (capSt cap σ)) (h4 : (∀ i x σ H', i < n → Sh σ → Same H1 H' → x = .int (i : Int) → g x σ H' fun σ2 H2 => te σ2 H2 fun y H4 => Sh σ2 ∧ Same H' H4 ∧ ∃ p o, y = .ref p ∧ H' p = none ∧ H4 p = some o ∧ Item i o)) (h5 : ∀ (l : Addr) (ps : List Addr) (H' : Hp), Same H1 H' → H1 l = none → H' l = some (.lst (ps.map V.ref)) → ps.length = n → ps.Nodup → l ∉ ps → (∀ i, i < n → H1 (ps.getD i 0) = none ∧ ∃ o, H' (ps.getD i 0) = some o ∧ Item i o) → Q (.ref l) H')
inductive I_cp_list (K : Frag) (cap : List (Option Nat)) (g : TG) (te : TE) (σ : L2.St) (Q : VK) (x : V) (H1 : Hp) : Prop
  | mk (a xs) (h1 : x = .ref a) (h2 : SqL K H1 a xs) (h3 : xs.length < sizeLine) (Sh : L2.St → Prop) (Item : Nat → V → Prop) (h4 : Sh (capSt cap σ)) (h5 : (∀ i x σ H', i < xs.length → Sh σ → Same H1 H' → xs[i]? = some x → g x σ H' fun σ2 H2 => te σ2 H2 fun y H4 => Sh σ2 ∧ Same H' H4 ∧ Item i y)) (h6 : ∀ l ys H', Same H1 H' → H1 l = none → H' l = some (.lst ys) → ys.length = xs.length → (∀ i y, ys[i]? = some y → Item i y) → Q (.ref l) H')
inductive I_cp_range (cap : List (Option Nat)) (g : TG) (te : TE) (σ : L2.St) (Q : VK) (vs : List V) (H1 : Hp) : Prop
  | mk (n : Nat) (h1 : vs = [.int n]) (h2 : n < 100000) (Sh : L2.St → Prop) (Item : Nat → V → Prop) (h3 : Sh (capSt cap σ)) (h4 : (∀ i x σ H', i < n → Sh σ → Same H1 H' → x = .int (i : Int) → g x σ H' fun σ2 H2 => te σ2 H2 fun y H4 => Sh σ2 ∧ Same H' H4 ∧ Item i y)) (h5 : ∀ l ys H', Same H1 H' → H1 l = none → H' l = some (.lst ys) → ys.length = n → (∀ i y, ys[i]? = some y → Item i y) → Q (.ref l) H')
/-! ### for -/
theorem fo_list {K : Frag} {tl : TE} {g : TG} {tb : TS} {D : Ends} {σ : L2.St} {H : Hp} [CE tl]
    (h : tl σ H fun x H1 => I_for_in K g tb D σ x H1) : tFor (iList K tl) g tb D σ H := for_in CE.m h
end Ww

set_option Elab.async false
set_option linter.all false
set_option maxRecDepth 100000
namespace Ww
open PySem PySem.W PySem.Spec PyProof.Rows L2
/-! ### readings opened one step -/
theorem st_asg {te : TE} {g : TG} {u : TS} {D : Ends} {σ : L2.St} {H : Hp} (h : te σ H fun x H1 => g x σ H1 (u D)) : tSeq (tAsg te g) u D σ H := h
theorem st_asg1 {te : TE} {g : TG} {D : Ends} {σ : L2.St} {H : Hp} (h : te σ H fun x H1 => g x σ H1 D.nx) : tAsg te g D σ H := h
theorem st_ret {te : TE} {D : Ends} {σ : L2.St} {H : Hp} (h : te σ H D.rt) : tRet te D σ H := h
/-! ### lists of ints compared -/
noncomputable def rEqI (K : Frag) : R2 := fun x y H Q => ∃ (p p' : Addr) (ns ms : List Int), x = .ref p ∧ y = .ref p' ∧ SqL K H p (ns.map V.int) ∧ SqL K H p' (ms.map V.int) ∧ Q (.bl (decide (ns = ms))) H
noncomputable def rNeI (K : Frag) : R2 := fun x y H Q => ∃ (p p' : Addr) (ns ms : List Int), x = .ref p ∧ y = .ref p' ∧ SqL K H p (ns.map V.int) ∧ SqL K H p' (ms.map V.int) ∧ ns.length = ms.length ∧ Q (.bl (!decide (ns = ms))) H
instance iN88 {K : Frag} : C2 (rEqI K) := ⟨fun _ _ _ _ _ k hh => by obtain ⟨p, p', ns, ms, a, b, c, d, q⟩ := hh; exact ⟨p, p', ns, ms, a, b, c, d, k _ _ q⟩⟩
instance iN89 {K : Frag} : C2 (rNeI K) := ⟨fun _ _ _ _ _ k hh => by obtain ⟨p, p', ns, ms, a, b, c, d, e, q⟩ := hh; exact ⟨p, p', ns, ms, a, b, c, d, e, k _ _ q⟩⟩
section
variable {X : Cx}
end
/-! ### option values -/
noncomputable def oV : Option Int → V
  | none => .non
  | some w => .int w
/-! ### tables of weights in the heap -/
structure TabAt (H : Hp) (l : Addr) (ps : List Addr) (m : Tab) : Prop where
  hl : H l = some (.lst (ps.map V.ref))
  len : ps.length = m.length
  row : ∀ i, i < m.length → H (ps.getD i 0) = some (.lst ((m.getD i []).map oV))
theorem TabAt.same {H H' : Hp} {l : Addr} {ps : List Addr} {m : Tab} (h : TabAt H l ps m) (S : Same H H') : TabAt H' l ps m := ⟨S _ _ h.hl, h.len, fun i hi => S _ _ (h.row i hi)⟩
structure NewTab (H H' : Hp) (n : Nat) (l : Addr) (ps : List Addr) (m : Tab) : Prop where
  S : Same H H'
  nl : H l = none
  tab : TabAt H' l ps m
  nd : ps.Nodup
  out : l ∉ ps
  fr : ∀ i, i < m.length → H (ps.getD i 0) = none
  w : ∀ i, i < m.length → (m.getD i []).length = n
theorem getD_mem' {ls : List Addr} {i : Nat} (h : i < ls.length) : ls.getD i 0 ∈ ls := by simp [h]
theorem getD_inj' {ls : List Addr} (nd : ls.Nodup) {i j : Nat} (hi : i < ls.length) (hj : j < ls.length) (e : ls.getD i 0 = ls.getD j 0) : i = j := by
  have e1 : ls.getD i 0 = ls[i] := by simp [hi]
  have e2 : ls.getD j 0 = ls[j] := by simp [hj]
  rw [e1, e2] at e
  have pw := List.pairwise_iff_getElem.mp nd
  rcases Nat.lt_trichotomy i j with h | h | h
  · exact absurd e (pw i j hi hj h)
  · exact h
  · exact absurd e.symm (pw j i hj hi h)
theorem tab_set {m : Tab} {a i : Nat} {r : Row} (h : a < m.length) : (m.set a r).getD i [] = if i = a then r else m.getD i [] := by
  by_cases c : i = a
  · subst c; simp [h]
  · rw [if_neg c]; simp [List.getD_eq_getElem?_getD, List.getElem?_set, Ne.symm c]
theorem NewTab.set {H H' : Hp} {n : Nat} {l : Addr} {ps : List Addr} {m : Tab} (T : NewTab H H' n l ps m) {a b : Nat} {o : Option Int} (ha : a < m.length) (hb : b < n) :
    NewTab H (upd H' (ps.getD a 0) (.lst (((m.getD a []).set b o).map oV))) n l ps (m.set a ((m.getD a []).set b o)) := by
  have la : a < ps.length := by rw [T.tab.len]; exact ha
  refine ⟨T.S.wr (T.fr a ha), T.nl, ⟨?_, by rw [List.length_set]; exact T.tab.len, fun i hi => ?_⟩, T.nd, T.out, fun i hi => T.fr i (by rw [List.length_set] at hi; exact hi), fun i hi => ?_⟩
  · rw [upd_ne (fun z => T.out (by rw [z]; exact getD_mem' la))]; exact T.tab.hl
  · rw [List.length_set] at hi
    rw [tab_set ha]
    by_cases c : i = a
    · subst c; rw [if_pos rfl, upd_same]
    · rw [if_neg c, upd_ne (fun z => c (getD_inj' T.nd (by rw [T.tab.len]; exact hi) la z))]; exact T.tab.row i hi
  · rw [List.length_set] at hi
    rw [tab_set ha]
    by_cases c : i = a
    · rw [if_pos c, List.length_set]; exact T.w a ha
    · rw [if_neg c]; exact T.w i hi
end Ww

set_option Elab.async false
set_option linter.all false
set_option maxRecDepth 100000
namespace Ww
open PySem PySem.W PySem.Spec PyProof.Rows L2
/-! ### list(reversed(xs)) -/
section
variable {prog : Program} {w : World} {A : Around} {E : Value → Shared → Prop} {s : Shared} {r l : Addr}
end
noncomputable def tListRev (K : Frag) (te : TE) : TE := fun σ H Q => te σ H fun x H1 => ∃ a xs, x = .ref a ∧ SqL K H1 a xs ∧ ∀ l, H1 l = none → Q (.ref l) (upd H1 l (.lst xs.reverse))
instance iN90 {K : Frag} {te : TE} [CE te] : CE (tListRev K te) := ⟨fun _ _ _ _ k h => CE.m (t := te) _ _ _ _ (fun _ _ ⟨a, xs, e, hq, q⟩ => ⟨a, xs, e, hq, fun l hl => k _ _ (q l hl)⟩) h⟩
section
variable {X : Cx}
end
/-! ### range(a, b, -1) -/
noncomputable def Itd (hi : Int) (n : Nat) : It := ⟨fun i _ => i < n, fun i H x H' => H' = H ∧ x = .int (hi - i), fun i _ => n ≤ i⟩
noncomputable def iRngD (ta : TA) : TI := fun σ H R => ta σ H fun vs H1 => ∃ i j : Int, vs = [.int i, .int j, .int (-1)] ∧ (j ≤ i ∧ 0 ≤ j ∧ i < 1000000) ∧ R (Itd i (i - j).toNat) H1
instance iN91 {ta : TA} [CA ta] : CI (iRngD ta) := ⟨fun _ _ _ _ k z => CA.m (t := ta) _ _ _ _ (fun _ _ ⟨i, j, e, q1, z⟩ => ⟨i, j, e, q1, k _ _ z⟩) z⟩
section
variable {X : Cx}
end
end Ww

set_option Elab.async false
set_option linter.all false
set_option maxRecDepth 100000
namespace Ww
open PySem PySem.W PySem.Spec PyProof.Rows L2
/-! ### an exception of context c2, its traceback's head marked by fl -/
noncomputable def cxV : Option Addr → Value
  | none => .none
  | some y => .ref y
noncomputable def TracedV (h base : Heap) (e : Addr) (cls a0 c2 fl : Value) : Prop :=
  ∃ oe vs T oT ts, h.get? e = some oe ∧ (oe.cls = cls ∧ vs[0]? = some a0 ∧ vs[2]? = some c2) ∧ oe.data = .fields vs ∧ vs[1]? = some (.ref T) ∧ base.get? T = none ∧ T ≠ e ∧ h.get? T = some oT ∧ oT.data = .fields ts ∧ ts[3]? = some fl
noncomputable def HeldV (base : Heap) (l : List Env) (e : Addr) (cls a0 c2 fl : Value) (h : Heap) : Prop := base.StaysIn h ∧ base.get? e = none ∧ h.FunFrames base l ∧ TracedV h base e cls a0 c2 fl
noncomputable abbrev FlyingV (base : Heap) (l : List Env) (e : Addr) (cls a0 c2 : Value) (h : Heap) : Prop := HeldV base l e cls a0 c2 .none h
theorem HeldV.there {base h : Heap} {l : List Env} {e : Addr} {cls a0 c2 fl : Value} (x : HeldV base l e cls a0 c2 fl h) : ∃ ob, h.get? e = some ob ∧ ob.cls = cls := by
  obtain ⟨_, _, _, oe, _, _, _, _, he, hc, _⟩ := x
  exact ⟨oe, he, hc.1⟩
theorem frames_tailV {h base : Heap} {env : Env} {l : List Env} (f : h.FunFrames base (env :: l)) : h.FunFrames base l := f.2.2
section
variable {M : Model} {A : Around} {E : Value → Shared → Prop} {s : Shared} {base : Heap} {env : Env} {outer : List Env} {L e : Addr} {a0 c2 : Value}
theorem entryV {oe : Obj} {vs : Array Value} {head : Value} {hadNext : Bool} {Q : Unit → Shared → Prop} (hfr : A.frames = some (env :: outer)) (hl : s.heap.FunFrames base (env :: outer)) (hf : env.frame = some L) (he : s.heap.get? e = some oe) (hkb : base.StaysIn s.heap) (hen : base.get? e = none) (hd : oe.data = .fields vs) (hsz : 1 < vs.size) (h0 : vs[0]? = some a0) (h2 : vs[2]? = some c2)
    (h : ∀ h', HeldV base (env :: outer) e oe.cls a0 c2 (rawInt L) h' → s.heap.UpToSlots h' → Q () { s with heap := h' }) :
    wpAny M A (do let a ← PySem.frameOf env; let pl ← entryPlaceOf L hadNext; let b ← EntryCells.newEntry head a .none (rawInt L) .none pl; setField (.ref e) 1 b) Q E s := by
  have nfr : e ∉ (env :: outer).filterMap (·.frame) := fun hm => by
    obtain ⟨_, o, ho, hnf⟩ := hl.mem hm
    exact hnf vs (by rw [he] at ho; injection ho with ho; rw [← ho]; exact hd)
  refine wpAny_bind (wpAny_frameOf_fun hfr hl hf fun g1 so => wpAny_bind (wpAny_entryPlaceOf fun pl hpl => ?_))
  unfold EntryCells.newEntry newFields
  refine wpAny_bind (wpAny_newObj_type ?_ (hpl.sizeOk5 _ _ _ _ _))
  have q1 : g1.get? e = some oe := (so.2.1 e nfr).trans he
  have st1 : base.StaysIn g1 := fun b o hb => (so.2.1 b fun hm => by rw [(hl.mem hm).1] at hb; cases hb).trans (hkb b o hb)
  generalize hob : ({ cls := .type "traceback", dict := none, data := .fields ([head, .ref L, .none, rawInt L, .none] ++ (if pl.isEmpty then List.replicate 6 Value.none else pl)).toArray } : Obj) = ob
  have dob : ∃ ts, ob.data = .fields ts ∧ ts[3]? = some (rawInt L) := ⟨_, by rw [← hob], by rcases hpl with rfl | ⟨_, _, _, _, _, _, _, rfl⟩ <;> simp⟩
  obtain ⟨ts, dts, ts3⟩ := dob
  have q2 : (g1.push ob).get? e = some oe := Heap.get?_push_of_some _ q1
  have hTe : g1.objs.size ≠ e := Nat.ne_of_gt (Heap.lt_size q1)
  have keep : ∀ b o, b ≠ e → g1.get? b = some o → ((g1.push ob).update e (Obj.mapFields (·.setIfInBounds 1 (Value.ref g1.objs.size)))).get? b = some o := fun b o hbe hb => by
    rw [Heap.get?_update_other _ _ fun z => hbe z.symm]
    exact Heap.get?_push_of_some _ hb
  have nore : ∀ b o, s.heap.get? b = some o → (∀ vs, o.data ≠ .fields vs) → b ≠ e := fun b o hb hnf q => hnf vs (by rw [q, he] at hb; injection hb with hb; rw [← hb]; exact hd)
  refine wpAny_setField q2 hd hsz (h _ ?_ fun b o hb hnf => ?_)
  · have d3 := Obj.data_mapFields hd (·.setIfInBounds 1 (Value.ref g1.objs.size))
    have q3 := Heap.get?_update_self (Obj.mapFields (·.setIfInBounds 1 (Value.ref g1.objs.size))) q2 (Obj.isFreed_of_fields d3)
    have qT : ((g1.push ob).update e (Obj.mapFields (·.setIfInBounds 1 (Value.ref g1.objs.size)))).get? g1.objs.size = some ob := by
      rw [Heap.get?_update_other _ _ fun z => hTe z.symm]
      exact Heap.get?_push_size g1 (Obj.isFreed_of_fields dts)
    refine ⟨fun b o hb => keep b o (fun z => by rw [z, hen] at hb; cases hb) (st1 b o hb), hen, hl.of_keeps fun b o hb hnf => ?_, _, _, g1.objs.size, ob, ts, q3, ⟨Obj.cls_mapFields _ _, ?_, ?_⟩, d3, by simp [hsz], st1.fresh, hTe, qT, dts, ts3⟩
    · obtain ⟨sl, hs⟩ := so.2.2 b o hb
      exact ⟨_, keep b _ (nore b o hb hnf) hs, rfl⟩
    · rw [Array.getElem?_setIfInBounds_ne (by decide)]; exact h0
    · rw [Array.getElem?_setIfInBounds_ne (by decide)]; exact h2
  · obtain ⟨sl, hs⟩ := so.2.2 b o hb
    exact ⟨sl, keep b _ (nore b o hb hnf) hs⟩
theorem noteV_first {oe : Obj} {vs : Array Value} {Q : Unit → Shared → Prop} (hfr : A.frames = some (env :: outer)) (hl : s.heap.FunFrames base (env :: outer)) (hf : env.frame = some L) (he : s.heap.get? e = some oe) (hkb : base.StaysIn s.heap) (hen : base.get? e = none) (hd : oe.data = .fields vs) (h1 : vs[1]? = some Value.none) (h0 : vs[0]? = some a0) (h2 : vs[2]? = some c2)
    (h : ∀ h', HeldV base (env :: outer) e oe.cls a0 c2 (rawInt L) h' → s.heap.UpToSlots h' → Q () { s with heap := h' }) : wpAny M A (noteFrame (.ref e) env) Q E s := by
  unfold noteFrame
  simp only [hf]
  refine wpAny_bind (wpAny_field he hd h1 ?_)
  rw [if_neg (by decide)]
  exact entryV hfr hl hf he hkb hen hd (Array.getElem?_eq_some_iff.mp h1).1 h0 h2 h
variable {cls fl : Value}
theorem noteV {Q : Unit → Shared → Prop} (hfr : A.frames = some (env :: outer)) (hf : env.frame = some L) (hm : HeldV base (env :: outer) e cls a0 c2 fl s.heap)
    (h : ∀ h', HeldV base (env :: outer) e cls a0 c2 (rawInt L) h' → s.heap.UpToSlots h' → Q () { s with heap := h' }) : wpAny M A (noteFrame (.ref e) env) Q E s := by
  obtain ⟨f1, f2, f3, oe, vs, T, oT, ts, he, ⟨hcls, h0, h2⟩, hd, h1, hnT, hTe, hT, hdT, h3⟩ := id hm
  by_cases hfl : fl = rawInt L
  · subst hfl
    unfold noteFrame
    simp only [hf]
    refine wpAny_bind (wpAny_field he hd h1 ?_)
    rw [if_pos (by rfl)]
    refine wpAny_bind (wpAny_field hT hdT h3 ?_)
    rw [if_pos (by simp)]
    exact wpAny_pure (h _ hm (Heap.UpToSlots.refl _))
  · subst hcls
    unfold noteFrame
    simp only [hf]
    refine wpAny_bind (wpAny_field he hd h1 ?_)
    rw [if_pos (by rfl)]
    refine wpAny_bind (wpAny_field hT hdT h3 ?_)
    rw [if_neg (fun z => hfl (by simpa using z))]
    refine wpAny_bind (wpAny_setField hT hdT (Array.getElem?_eq_some_iff.mp h3).1 ?_)
    have oth : ∀ b, b ≠ T → (s.heap.update T (Obj.mapFields (·.setIfInBounds 3 Value.none))).get? b = s.heap.get? b := fun b hb => Heap.get?_update_other _ _ fun z => hb z.symm
    have noT : ∀ b o, s.heap.get? b = some o → (∀ vs, o.data ≠ .fields vs) → b ≠ T := fun b o hb hnf q => hnf ts (by rw [q, hT] at hb; injection hb with hb; rw [← hb]; exact hdT)
    have noB : ∀ b o, base.get? b = some o → b ≠ T := fun b o hb q => by rw [q, hnT] at hb; cases hb
    refine entryV hfr (f3.of_keeps fun b o hb hnf => ⟨o, by rw [oth b (noT b o hb hnf)]; exact hb, rfl⟩) hf (by rw [oth e hTe.symm]; exact he) (fun b o hb => by rw [oth b (noB b o hb)]; exact f1 b o hb) f2 hd (Array.getElem?_eq_some_iff.mp h1).1 h0 h2 fun h' hh up => ?_
    exact h h' hh fun b o hb hnf => up b o (by rw [oth b (noT b o hb hnf)]; exact hb) hnf
theorem flightV {l : List Env} {fr : Option Addr} {Q : Unit → Shared → Prop} (hm : HeldV base l e cls a0 c2 fl s.heap)
    (h : ∀ h', HeldV base l e cls a0 c2 (fr.elim Value.none fun f => rawInt f) h' → s.heap.UpToSlots h' → (∀ b, h'.get? b ≠ s.heap.get? b → base.get? b = none ∧ (∃ o ts, s.heap.get? b = some o ∧ o.data = .fields ts)) → Q () { s with heap := h' }) : wpAny M A (setFlight (.ref e) fr) Q E s := by
  obtain ⟨f1, f2, f3, oe, vs, T, oT, ts, he, hc, hd, h1, hnT, hTe, hT, hdT, h3⟩ := hm
  have s3 : 3 < ts.size := (Array.getElem?_eq_some_iff.mp h3).1
  have oth : ∀ b, b ≠ T → (s.heap.update T (Obj.mapFields (·.setIfInBounds 3 (fr.elim Value.none fun f => rawInt f)))).get? b = s.heap.get? b := fun b hb => Heap.get?_update_other _ _ fun z => hb z.symm
  have noT : ∀ b o, s.heap.get? b = some o → (∀ vs, o.data ≠ .fields vs) → b ≠ T := fun b o hb hnf q => hnf ts (by rw [q, hT] at hb; injection hb with hb; rw [← hb]; exact hdT)
  have noB : ∀ b o, base.get? b = some o → b ≠ T := fun b o hb q => by rw [q, hnT] at hb; cases hb
  unfold setFlight
  refine wpAny_bind (wpAny_field he hd h1 ?_)
  rw [if_pos (by rfl)]
  have d3 := Obj.data_mapFields hdT (·.setIfInBounds 3 (fr.elim Value.none fun f => rawInt f))
  refine wpAny_setField hT hdT s3 (h _ ⟨fun b o hb => by rw [oth b (noB b o hb)]; exact f1 b o hb, f2, f3.of_keeps fun b o hb hnf => ⟨o, by rw [oth b (noT b o hb hnf)]; exact hb, rfl⟩, oe, vs, T, _, _, by rw [oth e hTe.symm]; exact he, hc, hd, h1, hnT, hTe, Heap.get?_update_self _ hT (Obj.isFreed_of_fields d3), d3, by simp [s3]⟩ (fun b o hb hnf => ⟨o.slots, by rw [oth b (noT b o hb hnf)]; exact hb⟩) fun b hb => ?_)
  have eb : b = T := Classical.byContradiction fun z => hb (oth b z)
  subst eb
  exact ⟨hnT, oT, ts, hT, hdT⟩
theorem leaveV {Q : Unit → Shared → Prop} (hfr : A.frames = some (env :: outer)) (hf : env.frame = some L) (hm : HeldV base (env :: outer) e cls a0 c2 fl s.heap)
    (h : ∀ h', FlyingV base outer e cls a0 c2 h' → s.heap.UpToSlots h' → Q () { s with heap := h' }) : wpAny M A (leaving env (.ref e)) Q E s := by
  unfold leaving
  refine wpAny_bind (noteV hfr hf hm fun h4 m4 u4 => flightV m4 fun h5 m5 u5 _ => ?_)
  exact h h5 ⟨m5.1, m5.2.1, frames_tailV m5.2.2.1, m5.2.2.2⟩ (u4.trans u5)
theorem leaveV_made {g : Heap} {args : List Value} {Q : Unit → Shared → Prop} (hfr : A.frames = some (env :: outer)) (hf : env.frame = some L) (hkb : base.StaysIn g) (hl : g.FunFrames base (env :: outer)) (hx : Heap.MadeExcOf g s.heap e cls args)
    (h : ∀ h' t, FlyingV base outer e cls (.ref t) .none h' → s.heap.UpToSlots h' → Q () { s with heap := h' }) : wpAny M A (leaving env (.ref e)) Q E s := by
  obtain ⟨t, he, htn, ht⟩ := hx.there
  have new : base.get? e = none := by
    cases q : base.get? e with
    | none => rfl
    | some o => have := hkb e o q; rw [hx.new] at this; cases this
  unfold leaving
  refine wpAny_bind (noteV_first (a0 := .ref t) (c2 := .none) hfr (hl.of_keeps fun b o hb _ => ⟨o, hx.keeps b o hb, rfl⟩) hf he (fun b o hb => hx.keeps b o (hkb b o hb)) new rfl rfl rfl rfl fun h4 m4 u4 => flightV m4 fun h5 m5 u5 _ => ?_)
  exact h h5 t ⟨m5.1, m5.2.1, frames_tailV m5.2.2.1, m5.2.2.2⟩ (u4.trans u5)
end
end Ww

set_option Elab.async false
set_option linter.all false
set_option maxRecDepth 100000
namespace Ww
open PySem PySem.W PySem.Spec PyProof.Rows L2
/-! ### exceptions of own classes -/
noncomputable def CXE (P : Program) (w : World) (base : Heap) : CXT := fun outer H s E e s' => ∃ (x t C : Addr) (c2 : Option Addr) (H' : Hp) (B : Heap),
  e = .ref x ∧ s'.os = s.os ∧ AllBare s'.gens ∧ Un (frs outer) [] H H' s.heap s'.heap ∧ HOk P w H' B ∧ base.StaysIn B ∧ FlyingV B outer x (.ref C) (.ref t) (cxV c2) s'.heap ∧
  (∀ b o, s.heap.get? b = some o → H b = none → b ∉ frs outer → B.get? b = some o) ∧ (∀ b o, s.heap.get? b = some o → b ∉ frs outer → ∃ o', B.get? b = some o') ∧ E (.ref C) c2 H'
theorem hok_in {P : Program} {w : World} {H : Hp} {B h : Heap} (x : HOk P w H B) (k : B.StaysIn h) : HOk P w H h := x.kept fun b o e => k b o e
section
variable {X : Cx} {pins : List (Addr × Obj)} {σ : L2.St} {H : Hp} {s : Shared}
noncomputable def Throws (X : Cx) (R : Addr → Hp → Prop) : Prop := ∀ (pins : List (Addr × Obj)) (σ : L2.St) (H : Hp) (s : Shared) (C e : Addr) (vs : List Value) (h' : Heap), Inv X pins σ H s → Heap.MadeExcOf s.heap h' e (.ref C) vs → R C H → X.xe (.ref e) { s with heap := h' }
structure XCls (K : Frag) (mg : Str → Option Value) (base : Heap) (x : Str) (C : Addr) : Prop where
  own : OwnCls x C [.type "ValueError", .type "Exception", .type "BaseException", .type "object"] "ValueError.__new__" mg base
theorem ps_raise {x m : Str} {C : Addr} {np cpos pos p2 : Pos} {j : Nat} {R : Addr → Hp → Prop} (O : XCls X.K X.mg X.base x C) (hT : Throws X R) (hc : X.calm = true) (hg : Gl X x) (hd : (x == ("__debug__" : Str)) = false := by decide)
    (hs : starEach [.Constant (.str m) j p2] X.env = [(false, eval (.Constant (.str m) j p2) X.env)] := by rfl) :
    PS X (.Raise (some (.Call (.Name x np) [.Constant (.str m) j p2] [] cpos)) none pos) (fun _ _ H => R C H) := by
  intro pins s σ H D I h
  obtain ⟨tl, N, nm, q, bs, hdct, sn, sub, ab, col, dd, k0, k1, k2, k3, k5, mN, hC, hN, hni, T⟩ := O.own.obj
  refine wpAny_Raise_call_subT (C := C) (nm := nm) (q := q) (N := N) (bs := bs) (bm := tl) (hdct := hdct) (sn := sn) (sub := sub) (ab := ab) (col := col) (dd := dd) (k0 := k0) (k1 := k1) (k2 := k2) (k3 := k3) (k5 := k5)
    PySem.F.excBase_ValueError (mN := mN) (T.hasType PySem.F.excBase_ValueError.hasBase) (I.ok.hd hc) (by rw [hs]; rfl) hni (thn ((pe_glob (v := .ref C) hg O.own.bound rfl hd) pins s σ H (fun v H1 => v = .ref C ∧ H1 = H) I ⟨rfl, rfl⟩) fun f s1 ⟨v, H1, I1, r1, e1, e2⟩ => ?_)
  subst e1 e2
  obtain rfl : f = Value.ref C := r1
  refine ⟨rfl, ?_⟩
  have ev := (pa_cons (pe_str (X := X) (x := m) (j := j) (pos := p2)) pa_nil hs) cpos pins s1 σ H1 (fun vs H2 => H2 = H1 ∧ vs.length = 1) I1 ⟨rfl, rfl⟩
  rw [hs] at ev ⊢
  refine Calls.evalArgs_plain (thn ev fun us s2 ⟨vs, H2, I2, r2, q2, q3⟩ => ?_)
  subst q2
  exact ⟨rfl, by rw [← r2.length, q3]; decide, I2.bk _ _ hC, hN.keeps I2.bk, T.keeps I2.bk, fun h' e hm => hT pins σ H2 s2 C e us h' I2 hm h⟩
theorem stack_of (I : Inv X pins σ H s) (hst : X.stack = X.env :: X.outer) : X.A.frames = some (X.env :: X.outer) := by rw [← hst]; exact I.ok.frames
theorem mem_frs {l : List Env} {env : Env} {b : Addr} (he : env ∈ l) (hb : env.frame = some b) : b ∈ frs l := List.mem_filterMap.mpr ⟨env, he, hb⟩
theorem hide_hok (I : Inv X pins σ H s) : HOk X.prog X.w H (hideAll s.heap (frs X.stack)) := fun b u e => (I.hok b u e).stay (fun c v hc q => by
    refine hideAll_get _ q fun z => ?_
    have hn := I.stkFree c z
    rcases hc with rfl | hc
    · rw [e] at hn; cases hn
    · rw [hc] at hn; cases hn) (fun _ q => q) fun _ _ q => q
theorem hide_base (I : Inv X pins σ H s) : X.base.StaysIn (hideAll s.heap (frs X.stack)) := fun b o e => hideAll_get _ (I.bk b o e) fun z => by
  have := (I.stack.mem z).1
  rw [e] at this; cases this
theorem hide_frames (I : Inv X pins σ H s) : s.heap.FunFrames (hideAll s.heap (frs X.stack)) X.stack := funFrames_hide I.stack fun env he a hf => mem_frs he hf
end
section
variable {CX : CXT} {P : Program} {w : World} {K : Frag} {mg : Str → Option Value} {base : Heap} {N : List Str} {qual : Str} {scope : Scope} {f : Addr} {cd : Value} {A : Around} {outer : List Env} {s : Shared} {H : Hp} {E : XK}
theorem throws_def : Throws (cxOf (CXE P w base) P w K mg base N qual scope f cd A outer s H E) (fun C H => E (.ref C) none H) := by
  intro pins σ H1 s1 C e vs h' I hm hE
  show wpAny (model P w) (A.deeper (envOfC qual scope s.heap.objs.size f cd)) (leaving (envOfC qual scope s.heap.objs.size f cd) (.ref e)) _ _ _
  have hfr : (A.deeper (envOfC qual scope s.heap.objs.size f cd)).frames = some (envOfC qual scope s.heap.objs.size f cd :: outer) := I.ok.frames
  refine leaveV_made (base := hideAll s1.heap (frs (envOfC qual scope s.heap.objs.size f cd :: outer))) hfr rfl (fun b o q => of_hideAll _ q) (hide_frames I) hm fun h2 t fl up => ?_
  have up' : s1.heap.UpToSlots h2 := (Heap.UpToSlots.of_keeps hm.keeps).trans up
  have neL : ∀ b o, s.heap.get? b = some o → b ∉ frs outer → b ∉ frs (envOfC qual scope s.heap.objs.size f cd :: outer) := fun b o hb hn z => by
    have hz : b = s.heap.objs.size ∨ b ∈ frs outer := by
      unfold frs at z ⊢
      rw [List.filterMap_cons] at z
      exact List.mem_cons.mp z
    rcases hz with rfl | hz
    · exact absurd (Heap.lt_size hb) (Nat.lt_irrefl _)
    · exact hn hz
  have kB : ∀ b o, s.heap.get? b = some o → H b = none → b ∉ frs outer → (hideAll s1.heap (frs (envOfC qual scope s.heap.objs.size f cd :: outer))).get? b = some o := fun b o hb hn hf =>
    hideAll_get _ (I.base.keep b o hb hn hf List.not_mem_nil) (neL b o hb hf)
  refine ⟨e, t, C, none, H1, _, rfl, I.os, I.bare, ⟨fun b o hb hn hf _ => fl.1 _ _ (kB b o hb hn hf), fun b o hb hn hf _ => ?_, fun b o hb hn _ => I.base.free b o hb hn List.not_mem_nil, fun b o hb _ => ?_, I.base.tups, I.base.frzs, I.base.tbls⟩, hide_hok I, hide_base I, fl, kB, fun b o hb hf => ?_, hE⟩
  · obtain ⟨sl, e1⟩ := I.base.slot b o hb hn hf List.not_mem_nil
    have hmem : b ∈ frs (envOfC qual scope s.heap.objs.size f cd :: outer) := by
      unfold frs at hf ⊢
      rw [List.filterMap_cons]
      exact List.mem_cons_of_mem _ hf
    obtain ⟨_, o', ho', hd'⟩ := I.stack.mem hmem
    rw [e1] at ho'; cases ho'
    obtain ⟨sl', e2⟩ := up' b _ e1 hd'
    exact ⟨sl', e2⟩
  · obtain ⟨o', e1⟩ := I.base.there b o hb List.not_mem_nil
    by_cases hf : b ∈ frs (envOfC qual scope s.heap.objs.size f cd :: outer)
    · obtain ⟨_, o2, ho2, hd2⟩ := I.stack.mem hf
      rw [e1] at ho2; cases ho2
      obtain ⟨sl', e2⟩ := up' b _ e1 hd2
      exact ⟨_, e2⟩
    · exact ⟨_, fl.1 _ _ (hideAll_get _ e1 hf)⟩
  · obtain ⟨o', e1⟩ := I.base.there b o hb List.not_mem_nil
    exact ⟨_, hideAll_get _ e1 (neL b o hb hf)⟩
theorem passes_def : Passes (CXE P w base) (cxOf (CXE P w base) P w K mg base N qual scope f cd A outer s H E) E := by
  intro pins σ H1 s1 e s' I hx
  obtain ⟨x, t, C, c2, H', B, rfl, os, bare, un, hok, stB, fl, kB, tB, hE⟩ := hx
  show wpAny (model P w) (A.deeper (envOfC qual scope s.heap.objs.size f cd)) (leaving (envOfC qual scope s.heap.objs.size f cd) (.ref x)) _ _ _
  have hfr : (A.deeper (envOfC qual scope s.heap.objs.size f cd)).frames = some (envOfC qual scope s.heap.objs.size f cd :: outer) := I.ok.frames
  refine leaveV hfr rfl fl fun h2 fl2 up => ?_
  have inS : ∀ b, b ∈ frs outer → b ∈ frs (envOfC qual scope s.heap.objs.size f cd :: outer) := fun b hf => by
    unfold frs at hf ⊢
    rw [List.filterMap_cons]
    exact List.mem_cons_of_mem _ hf
  have neL : ∀ b o, s.heap.get? b = some o → b ∉ frs outer → b ∉ frs (envOfC qual scope s.heap.objs.size f cd :: outer) := fun b o hb hn z => by
    have hz : b = s.heap.objs.size ∨ b ∈ frs outer := by
      unfold frs at z ⊢
      rw [List.filterMap_cons] at z
      exact List.mem_cons.mp z
    rcases hz with rfl | hz
    · exact absurd (Heap.lt_size hb) (Nat.lt_irrefl _)
    · exact hn hz
  have kB' : ∀ b o, s.heap.get? b = some o → H b = none → b ∉ frs outer → B.get? b = some o := fun b o hb hn hf =>
    kB b o (I.base.keep b o hb hn hf List.not_mem_nil) (I.base.free b o hb hn List.not_mem_nil) (neL b o hb hf)
  have tB' : ∀ b o, s.heap.get? b = some o → b ∉ frs outer → ∃ o', B.get? b = some o' := fun b o hb hf => by
    obtain ⟨o', e1⟩ := I.base.there b o hb List.not_mem_nil
    exact tB b o' e1 (neL b o hb hf)
  have slotF : ∀ b o, s1.heap.get? b = some o → H1 b = none → b ∈ frs (envOfC qual scope s.heap.objs.size f cd :: outer) → ∃ sl, h2.get? b = some { o with slots := sl } := fun b o hb hn hf => by
    obtain ⟨sl, e1⟩ := un.slot b o hb hn hf List.not_mem_nil
    obtain ⟨_, o', ho', hd'⟩ := fl.2.2.1.mem hf
    rw [e1] at ho'; cases ho'
    obtain ⟨sl', e2⟩ := up b _ e1 hd'
    exact ⟨sl', e2⟩
  refine ⟨x, t, C, c2, H', B, rfl, os.trans I.os, bare, ⟨fun b o hb hn hf _ => fl2.1 _ _ (kB' b o hb hn hf), fun b o hb hn hf _ => ?_, fun b o hb hn _ => ?_, fun b o hb _ => ?_, fun b xs e => un.tups b xs (I.base.tups b xs e), fun b o u e => un.frzs b o u (I.base.frzs b o u e), fun b ps e => ?_⟩, hok, stB, fl2, kB', tB', hE⟩
  · obtain ⟨sl, e1⟩ := I.base.slot b o hb hn hf List.not_mem_nil
    obtain ⟨sl', e2⟩ := slotF b _ e1 (I.base.free b o hb hn List.not_mem_nil) (inS b hf)
    exact ⟨sl', e2⟩
  · obtain ⟨o', e1⟩ := I.base.there b o hb List.not_mem_nil
    exact un.free b o' e1 (I.base.free b o hb hn List.not_mem_nil) List.not_mem_nil
  · obtain ⟨o', e1⟩ := I.base.there b o hb List.not_mem_nil
    by_cases hf : b ∈ frs (envOfC qual scope s.heap.objs.size f cd :: outer)
    · obtain ⟨sl, e2⟩ := slotF b o' e1 (I.stkFree b hf) hf
      exact ⟨_, e2⟩
    · obtain ⟨o2, e2⟩ := tB b o' e1 hf
      exact ⟨o2, fl2.1 _ _ e2⟩
  · obtain ⟨m1, e1⟩ := I.base.tbls b ps e
    obtain ⟨m2, e2⟩ := un.tbls b _ e1
    exact ⟨m1 ++ m2, by rw [e2, Array.append_assoc]⟩
end
/-! ### try: .. except C: .. -/
noncomputable def Flew (X : Cx) (E : XK) (pins : List (Addr × Obj)) (σ : L2.St) (e : Value) (s' : Shared) : Prop := ∃ H1 s1, Inv X pins σ H1 s1 ∧ CXE X.prog X.w X.base X.stack H1 s1 E e s'
noncomputable def PX (X : Cx) (E : XK) (e : Expr) (t : TE) : Prop := ∀ (pins : List (Addr × Obj)) (s : Shared) (σ : L2.St) (H : Hp) (Q : VK), Inv X pins σ H s → t σ H Q → wpAny (model X.prog X.w) X.A (eval e X.env) (EP X pins σ Q) (Flew X E pins σ) s
noncomputable def PSX (X : Cx) (E : XK) (st : Stmt) (t : TS) : Prop := ∀ (pins : List (Addr × Obj)) (s : Shared) (σ : L2.St) (H : Hp) (D : Ends), Inv X pins σ H s → t D σ H → wpAny (model X.prog X.w) X.A (exec st X.env) (SP X pins D) (Flew X E pins σ) s
section
variable {X : Cx} {k k' : Nat} {C : Addr} {x m : Str} {ps : List Str} {sp : Sp} {E : XK} {p pos apos : Pos} {e o : Expr} {es : List Expr} {ta te : TE} {t : TA}
theorem run_fnX {pins : List (Addr × Obj)} {σ : L2.St} {H : Hp} {s : Shared} {Q : VK} {us : List Value} {vs : List V} {f : Addr} {fd : FuncData} (F : FnOk X.prog X.w X.K X.mg X.base (CXE X.prog X.w X.base) k f fd ps sp) (hr : Room k X.A) (hb : Binds X.K fd ps [])
    (I : Inv X pins σ H s) (r : Vals vs us) (h : sp (vs ++ []) H Q E) : wpAny (model X.prog X.w) X.A (call (.ref f) us) (EP X pins σ Q) (Flew X E pins σ) s := by
  rw [List.append_nil] at h
  have hl : (us ++ []).length = ps.length := by rw [List.append_nil, ← r.length]; exact F.len _ _ _ _ h
  have hb' := hb s us I.kIn hl
  rw [List.append_nil] at hb'
  refine wpAny_call (codeAny_mono (F.run X.A X.stack s H ⟨us, []⟩ us vs Q E hr I.env0 hb' r h) fun r s' hq => ?_)
  cases r with
  | error e => exact ⟨H, s, I, hq⟩
  | ok fl =>
    cases fl with
    | ret u => exact I.after hq
    | next => exact False.elim hq
    | brk => exact False.elim hq
    | cont => exact False.elim hq
theorem px_def (D : DefOk X.prog X.w X.K X.mg X.base (CXE X.prog X.w X.base) k x ps sp) (hr : Room k' X.A) (hk : k ≤ k') (hg : Gl X x) (ha : PA X (e :: es) t) (hno : X.xe = fun _ _ => False) (hdb : (x == ("__debug__" : Str)) = false := by decide)
    (he : starEach (e :: es) X.env = (false, eval e X.env) :: starEach es X.env := by rfl) (hpl : (backTo pos (starEach es X.env)).any (·.1) = false := by rfl) :
    PX X E (.Call (.Name x p) (e :: es) [] pos) (tCall sp [] E t) := by
  obtain ⟨f, fd, F, h1, h2, h3⟩ := D.ex
  intro pins s σ H Q I h
  refine wpAny_Call_Name_kw (ld_glob I hg h1 ?_ hdb)
  refine PySem.W.callWith_K (h₀ := X.base) I.ok.mod.kin h2 (wpAny_mono (ha pos pins s σ H _ I h) (fun us s2 ⟨vs, H1, I1, r, q⟩ => ⟨I1.kIn, ?_⟩) fun _ _ z => by rw [hno] at z; exact z.elim) he hpl
  exact run_fnX F (hr.mono hk) h3 I1 r q
theorem psx_expr (he : PX X E e te) (hs : swapsWith e none pos.line X.env = pure false := by rfl) : PSX X E (.Expr e pos) (tDrop te) := by
  intro pins s σ H D I h
  exact wpAny_Expr_any (wpAny_mono (he pins s σ H _ I h) (fun v s1 ⟨x, H1, I1, r1, q1⟩ => ⟨σ, H1, I1, q1⟩) fun _ _ z => z) I.quiet hs
theorem Inv.flew {pins : List (Addr × Obj)} {σ : L2.St} {H1 H' : Hp} {s1 s' : Shared} {h2 B : Heap} (I : Inv X pins σ H1 s1) (os : s'.os = s1.os) (bare : AllBare s'.gens) (un : Un (frs X.stack) [] H1 H' s1.heap s'.heap) (hok : HOk X.prog X.w H' B) (st : B.StaysIn h2)
    (fr : s'.heap.FunFrames B X.stack) (up : s'.heap.UpToSlots h2) (kB : ∀ b o, s1.heap.get? b = some o → H1 b = none → b ∉ frs X.stack → B.get? b = some o) (tB : ∀ b o, s1.heap.get? b = some o → b ∉ frs X.stack → ∃ o', B.get? b = some o') : Inv X pins σ H' { s' with heap := h2 } := by
  have slotF : ∀ b o, s1.heap.get? b = some o → b ∈ frs X.stack → ∃ sl, h2.get? b = some { o with slots := sl } := fun b o hb hf => by
    obtain ⟨sl, e1⟩ := un.slot b o hb (I.stkFree b hf) hf List.not_mem_nil
    obtain ⟨_, o', ho', hd'⟩ := fr.mem hf
    rw [e1] at ho'; cases ho'
    obtain ⟨sl', e2⟩ := up b _ e1 hd'
    exact ⟨sl', e2⟩
  have u2 : Un (frs X.stack) [] H1 H' s1.heap h2 := ⟨fun b o hb hn hf _ => st _ _ (kB b o hb hn hf), fun b o hb hn hf _ => slotF b o hb hf, un.free, fun b o hb _ => by
    by_cases hf : b ∈ frs X.stack
    · obtain ⟨sl, e⟩ := slotF b o hb hf
      exact ⟨_, e⟩
    · obtain ⟨o', e⟩ := tB b o hb hf
      exact ⟨o', st _ _ e⟩, un.tups, un.frzs, un.tbls⟩
  have := I.call (h' := h2) (g' := s'.gens) (d' := s'.drawn) (t' := s'.toks) (ch := []) u2 (hok_in hok st) bare (fun b z => absurd z List.not_mem_nil)
  obtain ⟨hh, g, d, tk, os'⟩ := s'
  obtain rfl : os' = s1.os := os
  exact this
noncomputable abbrev _root_.L2.Cx.marked (X : Cx) (e : Value) : Cx := { X with A := X.A.mark (some e), calm := false, xe := fun _ _ => False }
theorem Inv.marked {pins : List (Addr × Obj)} {σ : L2.St} {H : Hp} {s : Shared} (I : Inv X pins σ H s) (e : Value) : Inv (X.marked e) pins σ H s :=
  ⟨⟨I.ok.mod, I.ok.kind, I.ok.glob, I.ok.blt, I.ok.above, I.ok.inj, I.ok.has, I.ok.cab, (fun z => nomatch z), I.ok.frames, I.ok.stk, I.ok.exf, I.ok.bs, I.ok.bsz, I.ok.noex, I.ok.exfs, I.ok.funs, I.ok.frf⟩, I.os, I.bare, I.base, I.loc, I.cell, I.free, I.freeC, I.pin, I.hok, I.len⟩
theorem Inv.unmarked {pins : List (Addr × Obj)} {σ : L2.St} {H : Hp} {s : Shared} {e : Value} (ok : X.Ok) (I : Inv (X.marked e) pins σ H s) : Inv X pins σ H s := ⟨ok, I.os, I.bare, I.base, I.loc, I.cell, I.free, I.freeC, I.pin, I.hok, I.len⟩
theorem SP.unmarked {pins : List (Addr × Obj)} {D : Ends} {f : Flow} {s' : Shared} {e : Value} (ok : X.Ok) (h : SP (X.marked e) pins D f s') : SP X pins D f s' := by
  cases f with
  | next => obtain ⟨σ', H', I, q⟩ := h; exact ⟨σ', H', Inv.unmarked ok I, q⟩
  | brk => obtain ⟨σ', H', I, q⟩ := h; exact ⟨σ', H', Inv.unmarked ok I, q⟩
  | cont => obtain ⟨σ', H', I, q⟩ := h; exact ⟨σ', H', Inv.unmarked ok I, q⟩
  | ret u => obtain ⟨v, σ', H', I, r, q⟩ := h; exact ⟨v, σ', H', Inv.unmarked ok I, r, q⟩
end
theorem _root_.L2.Fun.okX {P : Program} {w : World} {K : Frag} {mg : Str → Option Value} {base : Heap} {x qual : Str} {st : Stmt} {f : Addr} {fd : FuncData} {N ps : List Str} {k : Nat} {sp : Sp} (F : L2.Fun K x qual st f fd) (S : FnScope N ps (defScope st)) (len : ∀ vs H Q E, sp vs H Q E → vs.length = ps.length)
    (hbody : ∀ (cdv : Value) (A : Around) (outer : List Env) (s : Shared) (H : Hp) (vs : List V) (Q : VK) (E : XK), Room k (A.deeper (envOfC qual (defScope st) s.heap.objs.size f cdv)) → sp vs H Q E →
      ∃ t, PSs (cxOf (CXE P w base) P w K mg base N qual (defScope st) f cdv A outer s H E) (defBody st) t ∧ t { nx := fun _ H' => Q .non H', rt := Q } (start N vs) H) : FnOk P w K mg base (CXE P w base) (k + 1) f fd ps sp := by
  obtain ⟨oc, od, kV, doc, pm, an, cdv, ct, osl, rfl, lk, hcd⟩ := F.ex
  exact fn_of lk hcd S len fun A outer s H vs Q E hr hsp => hbody cdv A outer s H vs Q E hr hsp
theorem def_okX {P : Program} {w : World} {K : Frag} {mg : Str → Option Value} {base : Heap} {k : Nat} {x qual : Str} {st : Stmt} {f : Addr} {fd : FuncData} {ps : List Str} {sp : Sp} (F : L2.Fun K x qual st f fd) (hm : mg x = some (.ref f)) (hb : Binds K fd ps [])
    (h : FnOk P w K mg base (CXE P w base) k f fd ps sp) : DefOk P w K mg base (CXE P w base) k x ps sp := ⟨f, fd, h, hm, F.kp, hb⟩
theorem xcls_of {K : Frag} {h : Heap} {mg : Str → Option Value} {x : Str} {C : Addr} (X : K.In h) (G : h.Ns mainGlobals mg) (e : nsIn K mainGlobals x = some (some (.ref C))) (q : excIn K C [.type "ValueError", .type "Exception", .type "BaseException", .type "object"] "ValueError.__new__" = true) : XCls K mg h x C := by
  refine ⟨mg_of X G e, ?_⟩
  unfold excIn at q
  split at q
  · rename_i dd cd sl ho
    split at q
    · rename_i C' bm k0 k1 k2 k3 n k5 hm hs
      simp only [Bool.and_eq_true, beq_iff_eq, Bool.not_eq_true'] at q
      obtain ⟨⟨⟨⟨⟨rfl, rfl⟩, hdel⟩, ht⟩, hok⟩, hni⟩ := q
      obtain ⟨nm, bs, mro, ns, qn, hd, sn, sub, ab, col, del⟩ := cd
      dsimp only at hm hdel hok hni
      subst hm hdel
      have hsl : sl = #[k0, k1, k2, k3, some (.builtin "ValueError.__new__"), k5] := by
        obtain ⟨l⟩ := sl
        simp only at hs
        rw [hs]
      subst hsl
      exact ⟨bm, ns, nm, qn, bs, hd, sn, sub, ab, col, dd, k0, k1, k2, k3, k5, _, X _ _ ho, .of_isNs (isNs_of_in X hok), nsMap_none_of_in X hok hni, tail_of_in X ht⟩
    · cases q
  · cases q
end Ww

set_option Elab.async false
set_option linter.all false
set_option maxRecDepth 100000
namespace Ww
open PySem PySem.W PySem.Spec PyProof.Rows L2
/-! ### `>` of tuples of ints, and max of a list of them -/
section
open PySem.SeqAt
open PySem.AutoSeq1 (wpAny_loadPart')
open PySem.MeetsSeq PySem.MeetsSeq2 PySem.MeetsSeq3
open HT
end

section
variable {prog : Program} {w : World} {A : Around} {R : Result → Shared → Prop} {I : Addr} {fp wr : List Addr} {n : Nat} {P : Nat → Value → Prop} {St : Nat → Heap → Prop} {Kp : Heap → Prop}
end
section
variable {prog : Program} {w : World} {A : Around} {E : Value → Shared → Prop} {s : Shared} {l : Addr}
end
noncomputable def rMaxT (K : Frag) : List V → Hp → VK → Prop := fun xs H Q => ∃ (p : Addr) (as : List Addr) (ks : List (List Int)), xs = [.ref p] ∧ SqL K H p (as.map V.ref) ∧ TupsAt H as ks ∧ as ≠ [] ∧
  ∀ i, i < as.length → (∀ j, j < as.length → lexI (ks.getD i []) (ks.getD j []) = false) → Q (.ref (as.getD i 0)) H
theorem mon_maxT {K : Frag} : MonC (rMaxT K) := fun _ _ _ _ k ⟨p, as, ks, a, b, c, d, e⟩ => ⟨p, as, ks, a, b, c, d, fun i h1 h2 => k _ _ (e i h1 h2)⟩
section
variable {X : Cx}
end
instance iN92 {K : Frag} : CC (rMaxT K) := ⟨mon_maxT⟩
/-! ### comprehensions of tuples of ints; some are left out -/
theorem tups_snoc {H : Hp} {as : List Addr} {ks : List (List Int)} (h : TupsAt H as ks) {p : Addr} {k : List Int} (hp : H p = some (.tup (k.map V.int))) : TupsAt H (as ++ [p]) (ks ++ [k]) := by
  induction h with
  | nil => exact .cons hp .nil
  | cons r t ih => exact .cons r ih
theorem comp_tups {J : It} {H1 : Hp} {n : Nat} {Y : Nat → V → Hp → Prop} (fd : Feeds J H1 n Y) {g : TG} {tt : TT} {te : TE} [CG g] [CT tt] [CE te] {σ0 : L2.St} {Q : VK} (Sh : L2.St → Prop) (c : Nat → Bool) (f : Nat → List Int) (hz : n < sizeLine) (s0 : Sh σ0)
    (hs : ∀ i x σ H', i < n → Sh σ → Same H1 H' → Y i x H' → g x σ H' fun σ2 H2 => tt σ2 H2 fun b H3 => b = c i ∧ Same H' H3 ∧ Sh σ2 ∧ (c i = true → te σ2 H3 fun y H4 => Same H3 H4 ∧ ∃ p, y = .ref p ∧ H4 p = some (.tup ((f i).map V.int))))
    (hd : ∀ (l : Addr) (ps : List Addr) (H' : Hp), Same H1 H' → H1 l = none → H' l = some (.lst (ps.map V.ref)) → TupsAt H' ps (((List.range n).filter c).map f) → Q (.ref l) H') : ∀ acc, H1 acc = none →
    ∃ W : Nat → Nat → List V → L2.St → Hp → Prop, (∃ m, W 0 m [] σ0 (upd H1 acc (.lst []))) ∧ ∀ i m ys σ' H', W i m ys σ' H' → H' acc = some (.lst ys) ∧ ys.length < sizeLine ∧
    ((J.stop i H' ∧ Q (.ref acc) H') ∨ (J.go i H' ∧ ∀ x H'', J.yld i H' x H'' → g x σ' H'' fun σ2 H2 => tt σ2 H2 fun b H3 =>
      if b = true then te σ2 H3 fun y H4 => H4 acc = some (.lst ys) ∧ ∃ m', m' < m ∧ W (i + 1) m' (ys ++ [y]) σ2 (upd H4 acc (.lst (ys ++ [y]))) else ∃ m', m' < m ∧ W (i + 1) m' ys σ2 H3)) := by
  intro acc hacc
  refine ⟨fun i m ys σ H => m = n - i ∧ i ≤ n ∧ Same H1 H ∧ Sh σ ∧ ∃ ps : List Addr, ys = ps.map V.ref ∧ TupsAt H ps (((List.range i).filter c).map f) ∧ H acc = some (.lst ys), ⟨n, by simp, Nat.zero_le _, Same.new hacc, s0, [], rfl, .nil, upd_same⟩, ?_⟩
  rintro i m ys σ H ⟨rfl, hi, S, hsh, ps, rfl, tp, ha⟩
  have len : (ps.map V.ref).length ≤ i := by
    rw [List.length_map, tp.len, List.length_map]
    exact Nat.le_trans (List.length_filter_le _ _) (by simp)
  refine ⟨ha, by omega, ?_⟩
  by_cases hlt : i < n
  · obtain ⟨g1, g2⟩ := fd.go i H hlt S
    refine .inr ⟨g1, fun x H'' hy => ?_⟩
    obtain ⟨S1, y1⟩ := g2 x H'' hy
    refine CG.m (g := g) _ _ _ _ _ (fun σ2 H2 z => CT.m (t := tt) _ _ _ _ (fun b H3 z => ?_) z) (hs i x σ H'' hlt hsh (S.trans S1) y1)
    obtain ⟨eb, S2, sh2, z⟩ := z
    have hr : ((List.range (i + 1)).filter c) = ((List.range i).filter c) ++ (if c i = true then [i] else []) := by
      rw [List.range_succ, List.filter_append]
      congr 1
      cases hc : c i <;> simp [hc]
    cases hb : b with
    | true =>
      have hci : c i = true := by rw [← eb, hb]
      rw [if_pos rfl]
      refine CE.m (t := te) _ _ _ _ (fun y H4 z => ?_) (z hci)
      obtain ⟨S3, p, rfl, hp⟩ := z
      have ha4 := S3 _ _ (S2 _ _ (S1 _ _ ha))
      refine ⟨ha4, n - (i + 1), by omega, rfl, hlt, (((S.trans S1).trans S2).trans S3).wr hacc, sh2, ps ++ [p], by rw [List.map_append]; rfl, ?_, upd_same⟩
      rw [hr, if_pos hci, List.map_append]
      refine TupsAt.mono (H := H4) (tups_snoc (((tp.same S1).same S2).same S3) hp) fun a xs e => ?_
      have ne : a ≠ acc := fun z => by rw [z, ha4] at e; cases e
      rw [upd_ne ne]; exact e
    | false =>
      have hci : c i = false := by rw [← eb, hb]
      rw [if_neg (by simp)]
      refine ⟨n - (i + 1), by omega, rfl, hlt, (S.trans S1).trans S2, sh2, ps, rfl, ?_, S2 _ _ (S1 _ _ ha)⟩
      rw [hr, hci]; simpa using (tp.same S1).same S2
  · have e : i = n := by omega
    subst e
    exact .inl ⟨fd.stop H S, hd acc ps H S hacc ha tp⟩
inductive I_ct_range (cap : List (Option Nat)) (g : TG) (tt : TT) (te : TE) (σ : L2.St) (Q : VK) (vs : List V) (H1 : Hp) : Prop
  | mk (n : Nat) (h1 : vs = [.int n]) (h2 : n < 100000) (Sh : L2.St → Prop) (c : Nat → Bool) (f : Nat → List Int) (h3 : Sh (capSt cap σ)) (h4 : (∀ i x σ H', i < n → Sh σ → Same H1 H' → x = .int (i : Int) → g x σ H' fun σ2 H2 => tt σ2 H2 fun b H3 => b = c i ∧ Same H' H3 ∧ Sh σ2 ∧ (c i = true → te σ2 H3 fun y H4 => Same H3 H4 ∧ ∃ p, y = .ref p ∧ H4 p = some (.tup ((f i).map V.int))))) (h5 : ∀ (l : Addr) (ps : List Addr) (H' : Hp), Same H1 H' → H1 l = none → H' l = some (.lst (ps.map V.ref)) → TupsAt H' ps (((List.range n).filter c).map f) → Q (.ref l) H')
inductive I_ct_list (K : Frag) (cap : List (Option Nat)) (g : TG) (tt : TT) (te : TE) (σ : L2.St) (Q : VK) (x : V) (H1 : Hp) : Prop
  | mk (a xs) (h1 : x = .ref a) (h2 : SqL K H1 a xs) (h3 : xs.length < sizeLine) (Sh : L2.St → Prop) (c : Nat → Bool) (f : Nat → List Int) (h4 : Sh (capSt cap σ)) (h5 : (∀ i x σ H', i < xs.length → Sh σ → Same H1 H' → xs[i]? = some x → g x σ H' fun σ2 H2 => tt σ2 H2 fun b H3 => b = c i ∧ Same H' H3 ∧ Sh σ2 ∧ (c i = true → te σ2 H3 fun y H4 => Same H3 H4 ∧ ∃ p, y = .ref p ∧ H4 p = some (.tup ((f i).map V.int))))) (h6 : ∀ (l : Addr) (ps : List Addr) (H' : Hp), Same H1 H' → H1 l = none → H' l = some (.lst (ps.map V.ref)) → TupsAt H' ps (((List.range xs.length).filter c).map f) → Q (.ref l) H')
theorem ct_list {K : Frag} {tl : TE} {cap : List (Option Nat)} {g : TG} {tt : TT} {te : TE} [CE tl] [CG g] [CT tt] [CE te] {σ : L2.St} {H : Hp} {Q : VK}
    (h : tl σ H fun x H1 => I_ct_list K cap g tt te σ Q x H1) : tComp (iList K tl) cap g tt te σ H Q :=
  CE.m (t := tl) _ _ _ _ (fun x H1 hh => by obtain ⟨a, xs, e, hq, hz, Sh, c, f, s0, hs, hd⟩ := hh; exact ⟨a, e, ⟨xs, hq⟩, comp_tups (feeds_list hq) Sh c f hz s0 hs hd⟩) h
end Ww

set_option Elab.async false
set_option linter.all false
set_option maxRecDepth 100000
namespace Ww
open PySem PySem.W PySem.Spec PyProof.Rows L2
/-! ### comprehensions some of whose names are captured by an inner one -/
theorem cellsFrom_app : ∀ (names : List (Str × NameKind)) (n : Nat) (acc : List (Str × Addr)), cellsFrom n names acc = cellsFrom n names [] ++ acc
  | [], _, _ => rfl
  | (name, kind) :: r, n, acc => by
    unfold cellsFrom
    split
    · rw [cellsFrom_app r (n + 1) ((name, n) :: acc), cellsFrom_app r (n + 1) [(name, n)], List.append_assoc]; rfl
    · exact cellsFrom_app r n acc
theorem cellsFrom_kind : ∀ (names : List (Str × NameKind)) (n : Nat) (acc : List (Str × Addr)) {x : Str} {c : Addr}, (x, c) ∈ cellsFrom n names acc → (x, NameKind.cell) ∈ names ∨ (x, c) ∈ acc
  | [], _, _, _, _, h => .inr h
  | (name, kind) :: r, n, acc, x, c, h => by
    unfold cellsFrom at h
    split at h
    · rename_i hk
      have hk' : kind = .cell := by simpa using hk
      rcases cellsFrom_kind r _ _ h with z | z
      · exact .inl (List.mem_cons_of_mem _ z)
      · rcases List.mem_cons.mp z with e | e
        · injection e with e1 _
          left; rw [e1, hk']; exact List.mem_cons_self
        · exact .inr e
    · rcases cellsFrom_kind r _ _ h with z | z
      · exact .inl (List.mem_cons_of_mem _ z)
      · exact .inr z
theorem cellsFrom_keep : ∀ (names : List (Str × NameKind)) (n : Nat) (acc : List (Str × Addr)) {p : Str × Addr}, p ∈ acc → p ∈ cellsFrom n names acc
  | [], _, _, _, h => h
  | (name, kind) :: r, n, acc, p, h => by
    unfold cellsFrom
    split
    · exact cellsFrom_keep r _ _ (List.mem_cons_of_mem _ h)
    · exact cellsFrom_keep r _ _ h
theorem cellsFrom_has : ∀ (names : List (Str × NameKind)) (n : Nat) (acc : List (Str × Addr)) {x : Str}, (x, NameKind.cell) ∈ names → ∃ c, (x, c) ∈ cellsFrom n names acc
  | [], _, _, _, h => nomatch h
  | (name, kind) :: r, n, acc, x, h => by
    unfold cellsFrom
    rcases List.mem_cons.mp h with e | e
    · injection e with e1 e2
      subst e1; subst e2
      rw [if_pos (by rfl)]
      exact ⟨n, cellsFrom_keep r _ _ List.mem_cons_self⟩
    · split
      · exact cellsFrom_has r _ _ e
      · exact cellsFrom_has r _ _ e
theorem lookup_some_of_mem {α : Type} : ∀ {l : List (Str × α)} {x : Str} {c : α}, (x, c) ∈ l → ∃ c', l.lookup x = some c'
  | (k, v) :: r, x, c, h => by
    rw [List.lookup_cons]
    cases hb : x == k with
    | true => exact ⟨v, rfl⟩
    | false =>
      rcases List.mem_cons.mp h with e | e
      · injection e with e1 _
        rw [e1, beq_self_eq_true] at hb; cases hb
      · exact lookup_some_of_mem e
section
variable {M : Model} {A : Around} {E : Value → Shared → Prop} {s : Shared}
theorem newEnvC {scope : Scope} {globals : Addr} {closure : List (Str × Addr)} {qual : Str} {func : Option Addr} {code : Value} {outer : Env} {builtins : Addr} {Q : Env → Shared → Prop}
    (hQ : ∀ h', (∀ b o, s.heap.get? b = some o → h'.get? b = some o) → h'.Ns s.heap.objs.size (fun _ => none) → CellsOk h' (s.heap.objs.size + 1) (cellsFrom (s.heap.objs.size + 1) scope.names []) →
      Q (newEnv scope s.heap.objs.size globals (cellsFrom (s.heap.objs.size + 1) scope.names [] ++ closure) qual func code (some outer) builtins) { s with heap := h' }) :
    wpAny M A (newFunctionEnv scope globals closure [] qual func code (some outer) builtins) Q E s := by
  simp only [newFunctionEnv, Option.isSome_some, if_true]
  refine wpAny_bind (wpAny_alloc ?_)
  refine wpAny_bind (wpAny_layCells _ (fun name kind cells => by cases hkc : kind == NameKind.cell <;> simp [hkc]) _ _ _ _ ?_)
  have ok := cellsFrom_ok scope.names (s.heap.push { cls := .type "dict", data := .dict #[] }) (s.heap.objs.size + 1) [] ⟨fun _ _ hm => (nomatch hm), List.Pairwise.nil⟩ (by rw [Heap.size_push]; exact Nat.le_refl _)
  rw [Heap.size_push] at ok
  rw [show ({ s with heap := s.heap.push { cls := .type "dict", data := .dict #[] } } : Shared).heap.objs.size = s.heap.objs.size + 1 from Heap.size_push ..]
  rw [cellsFrom_app scope.names _ closure]
  refine wpAny_bind ?_
  rw [List.forIn_nil]
  exact wpAny_pure (wpAny_pure (hQ _ (fun b o e => pushCells_keeps _ _ b o (Heap.get?_push_of_some _ e)) ((Heap.Ns.new s.heap (.type "dict")).keeps (pushCells_keeps _ _)) ok))
end
noncomputable def cxD (X : Cx) (scope : Scope) (cl : List (Str × Addr)) (N' : List Str) (C : Addr) (s₀ : Shared) (H₀ : Hp) (ex : List Addr) : Cx :=
  { X with N := N', s₀ := s₀, H₀ := H₀, env := compEnvC scope cl C X.env, outer := X.stack, stack := X.stack, ex := ex, fn := fun x => scope.names.lookup x == some .cell, pn := [], xe := fun _ _ => False }
structure CompScopeD (sc scope : Scope) (N N' : List Str) (cap : List (Option Nat)) : Prop where
  kind : scope.kind = .function
  one : ∀ y ∈ scope.names, scope.names.lookup y.1 = some y.2
  free : ∀ y ∈ scope.names, y.2 = .free → sc.names.lookup y.1 = some .cell ∨ sc.names.lookup y.1 = some .free
  capd : ∀ (i : Nat) (x : Str) (j : Nat), N'[i]? = some x → cap[i]? = some (some j) → N[j]? = some x ∧ scope.names.lookup x = some .free
  len : cap.length = N'.length
theorem CompScopeD.names {sc scope : Scope} {N N' : List Str} {cap : List (Option Nat)} (S : CompScopeD sc scope N N' cap) : ∀ y ∈ scope.names, y.2 = .local → scope.names.lookup y.1 = some .local := fun y hy e => by rw [S.one y hy, e]
noncomputable def compOkD (sc scope : Scope) (N N' : List Str) (cap : List (Option Nat)) : Bool :=
  (scope.kind == .function) && scope.names.all (fun y => scope.names.lookup y.1 == some y.2) &&
  scope.names.all (fun y => !(y.2 == .free) || (sc.names.lookup y.1 == some .cell) || (sc.names.lookup y.1 == some .free)) &&
  ((N'.zip cap).all fun p => match p.2 with | none => true | some j => (N[j]? == some p.1) && (scope.names.lookup p.1 == some .free)) && (cap.length == N'.length)
theorem CompScopeD.of {sc scope : Scope} {N N' : List Str} {cap : List (Option Nat)} (h : compOkD sc scope N N' cap = true) : CompScopeD sc scope N N' cap := by
  unfold compOkD at h
  simp only [Bool.and_eq_true, List.all_eq_true, beq_iff_eq, Bool.or_eq_true, Bool.not_eq_true', beq_eq_false_iff_ne] at h
  obtain ⟨⟨⟨⟨h1, h3⟩, h4⟩, h5⟩, h6⟩ := h
  refine ⟨h1, h3, fun y hy e => ?_, fun i x j e1 e2 => ?_, h6⟩
  · rcases h4 y hy with (z | z) | z
    · exact absurd e z
    · exact .inl z
    · exact .inr z
  · have hm : (x, some j) ∈ N'.zip cap := by
      have hi : i < N'.length := (List.getElem?_eq_some_iff.mp e1).1
      have hi2 : i < cap.length := (List.getElem?_eq_some_iff.mp e2).1
      have : (N'.zip cap)[i]? = some (x, some j) := by
        rw [List.getElem?_zip_eq_some]
        exact ⟨e1, e2⟩
      exact List.mem_of_getElem? this
    have := h5 _ hm
    simpa using this
section
variable {X : Cx} {pins : List (Addr × Obj)} {σ : L2.St} {H : Hp} {s : Shared}
structure CellsD (X : Cx) (scope : Scope) (s : Shared) (h' : Heap) (cs : List (Str × Addr)) : Prop where
  or : ∀ x c, cs.lookup x = some c → X.env.cells.lookup x = some c ∨ (s.heap.objs.size < c ∧ h'.IsCell c none)
  has : ∀ y ∈ scope.names, y.2 = .free ∨ y.2 = .cell → ∃ c, cs.lookup y.1 = some c
  free : ∀ x c, scope.names.lookup x = some .free → cs.lookup x = some c → X.env.cells.lookup x = some c
  own : ∀ x c, scope.names.lookup x = some .cell → cs.lookup x = some c → s.heap.objs.size < c
  inj : ∀ x y c, cs.lookup x = some c → cs.lookup y = some c → x = y
theorem cellsD_of {scope : Scope} {N' : List Str} {cap : List (Option Nat)} {cl : List (Str × Addr)} {h' : Heap} (S : CompScopeD X.env.scope scope X.N N' cap) (I : Inv X pins σ H s)
    (hcl : ∀ x c, cl.lookup x = some c → X.env.cells.lookup x = some c) (hcl2 : ∀ y ∈ scope.names, y.2 = .free → ∃ c, cl.lookup y.1 = some c)
    (ok : CellsOk h' (s.heap.objs.size + 1) (cellsFrom (s.heap.objs.size + 1) scope.names [])) : CellsD X scope s h' (cellsFrom (s.heap.objs.size + 1) scope.names [] ++ cl) := by
  have lk : ∀ x c, (cellsFrom (s.heap.objs.size + 1) scope.names [] ++ cl).lookup x = some c → (x, c) ∈ cellsFrom (s.heap.objs.size + 1) scope.names [] ∨ ((cellsFrom (s.heap.objs.size + 1) scope.names []).lookup x = none ∧ cl.lookup x = some c) := fun x c e => by
    rw [List.lookup_append] at e
    cases q : (cellsFrom (s.heap.objs.size + 1) scope.names []).lookup x with
    | none => rw [q] at e; exact .inr ⟨rfl, by simpa using e⟩
    | some d =>
      rw [q] at e
      have : d = c := by simpa using e
      subst this
      exact .inl (PySem.mem_of_lookup q)
  have old : ∀ x c, cl.lookup x = some c → c < s.heap.objs.size := fun x c e => by
    obtain ⟨v, o, ho, _⟩ := I.cell x c (hcl x c e)
    exact Heap.lt_size ho
  have kind : ∀ x c, (x, c) ∈ cellsFrom (s.heap.objs.size + 1) scope.names [] → scope.names.lookup x = some .cell := fun x c e => by
    rcases cellsFrom_kind _ _ _ e with z | z
    · exact S.one _ z
    · cases z
  have bound : ∀ x c, (x, c) ∈ cellsFrom (s.heap.objs.size + 1) scope.names [] → s.heap.objs.size < c := fun x c e => (ok.empty x c e).2
  refine ⟨fun x c e => ?_, fun y hy hk => ?_, fun x c hx e => ?_, fun x c hx e => ?_, fun x y c e1 e2 => ?_⟩
  · rcases lk x c e with z | ⟨_, z⟩
    · exact .inr ⟨bound x c z, (ok.empty x c z).1⟩
    · exact .inl (hcl x c z)
  · rw [List.lookup_append]
    cases q : (cellsFrom (s.heap.objs.size + 1) scope.names []).lookup y.1 with
    | some d => exact ⟨d, rfl⟩
    | none =>
      rcases hk with z | z
      · obtain ⟨c, hc⟩ := hcl2 y hy z
        exact ⟨c, by simpa using hc⟩
      · obtain ⟨c, hc⟩ := cellsFrom_has scope.names (s.heap.objs.size + 1) [] (x := y.1) (by rw [← z]; exact hy)
        obtain ⟨c', hc'⟩ := lookup_some_of_mem hc
        rw [q] at hc'; cases hc'
  · rcases lk x c e with z | ⟨_, z⟩
    · have := kind x c z
      rw [hx] at this; cases this
    · exact hcl x c z
  · rcases lk x c e with z | ⟨q, z⟩
    · exact bound x c z
    · obtain ⟨c2, hc2⟩ := cellsFrom_has scope.names (s.heap.objs.size + 1) [] (x := x) (PySem.mem_of_lookup hx)
      obtain ⟨c', hc'⟩ := lookup_some_of_mem hc2
      rw [q] at hc'; cases hc'
  · rcases lk x c e1 with z1 | ⟨_, z1⟩ <;> rcases lk y c e2 with z2 | ⟨_, z2⟩
    · exact name_of_addr ok.apart z1 z2
    · exact absurd (Nat.lt_trans (old y c z2) (bound x c z1)) (Nat.lt_irrefl _)
    · exact absurd (Nat.lt_trans (old x c z1) (bound y c z2)) (Nat.lt_irrefl _)
    · exact I.ok.inj x y c (hcl x c z1) (hcl y c z2)
theorem inv_blockD {scope : Scope} {N' : List Str} {cap : List (Option Nat)} {cs : List (Str × Addr)} {fp : List Addr} {h' : Heap} {t' : Nat} (S : CompScopeD X.env.scope scope X.N N' cap) (hcalm : X.calm = true)
    (I : Inv X pins σ H s) (CD : CellsD X scope s h' cs) (hfp : ∀ b ∈ fp, FpOk X pins H b) (hfs : ∀ b ∈ fp, b < s.heap.objs.size)
    (hns : h'.Ns s.heap.objs.size (fun _ => none)) (keep : ∀ b o, s.heap.get? b = some o → h'.get? b = some o) :
    Inv (cxD X scope cs N' s.heap.objs.size s H fp) [] (capSt cap σ) H { s with heap := h', toks := t' } := by
  refine ⟨⟨I.ok.mod, S.kind, I.ok.glob, I.ok.blt, Nat.le_refl _, CD.inj, fun x hx => ?_, fun x c h e => ?_, fun _ => I.ok.hd hcalm, I.ok.frames, .inl rfl, fun b hb => ⟨Nat.ne_of_lt (hfs b hb), fun x c e z => ?_⟩,
      I.bs, Nat.le_trans I.ok.bsz I.sz, fun b o e hb => ?_, fun b hb hb2 => ?_, I.stack, I.stkFree⟩, rfl, I.bare, Un.kept keep, ⟨_, hns, fun i x v e1 e2 e3 => ?_⟩, fun x c e => ?_, ?_, fun x c e => ?_, fun p hp => absurd hp (by show p ∉ ([] : List (Addr × Obj)) ++ []; simp), I.hok.kept keep, ?_⟩
  · -- a name that is a cell or free has its cell
    have hx' : (relabel scope X.env).names.lookup x = some .cell ∨ (relabel scope X.env).names.lookup x = some .free := hx
    have key : ∀ k', (relabel scope X.env).names.lookup x = some k' → (k' = .cell ∨ k' = .free) → ∃ c, cs.lookup x = some c := fun k' hk hk' => by
      obtain ⟨k, hm, hor⟩ := lookup_relabel_back (env := X.env) (names := scope.names) hk
      refine CD.has _ hm ?_
      rcases hor with e | e
      · subst e
        exact hk'.symm
      · exact .inl e
    rcases hx' with e | e
    · exact key _ e (.inl rfl)
    · exact key _ e (.inr rfl)
  · have h2 : scope.names.lookup x = some .cell := by
      have h3 : (scope.names.lookup x == some .cell) = true := h
      simpa using h3
    exact Nat.le_of_lt (CD.own x c h2 e)
  · rcases CD.or x c e with y | ⟨y, _⟩
    · exact (hfp b hb).2.2.2.2.1 x c y z
    · rw [z] at y; exact absurd (Nat.lt_trans y (hfs b hb)) (Nat.lt_irrefl _)
  · obtain ⟨_, f1, _, f3, _⟩ := hfp b hb
    rcases f3 with z | z
    · exact I.ok.noex b o e z
    · exact absurd (Nat.lt_of_lt_of_le (Heap.lt_size e) (Nat.le_trans I.ok.bsz z)) (Nat.lt_irrefl _)
  · obtain ⟨_, f1, f2, _⟩ := hfp b hb
    rcases List.mem_cons.mp (I.stkSub b hb2) with z | z
    · exact f1 z
    · exact f2 z
  · obtain ⟨j, c1, c2⟩ := capSt_get e2
    obtain ⟨n1, n2⟩ := S.capd i x j e1 c1
    have hmem : (x, NameKind.free) ∈ scope.names := PySem.mem_of_lookup n2
    have vis : Vis X.env.scope x := by
      rcases S.free _ hmem rfl with z | z
      · exact .inr (.inl z)
      · exact .inr (.inr z)
    obtain ⟨m, hn, hl⟩ := I.loc
    obtain ⟨u, ru, l⟩ := hl j x v n1 c2 vis
    refine ⟨u, ru, .inr ⟨?_, ?_⟩⟩
    · exact lookup_relabel_free (env := X.env) (names := scope.names) n2
    · obtain ⟨c, hc⟩ := CD.has _ hmem (.inl rfl)
      refine ⟨c, hc, ?_⟩
      rcases l with ⟨k, _⟩ | ⟨_, c', hc', hcell⟩
      · have k' : X.env.scope.names.lookup x = some .local := k
        rcases S.free _ hmem rfl with z | z
        · rw [k'] at z; cases z
        · rw [k'] at z; cases z
      · have hcc : X.env.cells.lookup x = some c := CD.free x c n2 hc
        rw [hcc] at hc'; cases hc'
        obtain ⟨o, ho, hd⟩ := hcell
        exact ⟨o, keep _ _ ho, hd⟩
  · rcases CD.or x c e with y | ⟨_, y⟩
    · obtain ⟨v, o, ho, hd⟩ := I.cell x c y
      exact ⟨v, o, keep _ _ ho, hd⟩
    · exact ⟨_, y⟩
  · exact I.hok.fresh (Nat.le_refl _)
  · rcases CD.or x c e with y | ⟨y, _⟩
    · exact I.freeC x c y
    · exact I.hok.fresh (Nat.le_of_lt y)
  · show (capSt cap σ).length = N'.length
    unfold capSt; rw [List.length_map]; exact S.len
end
section
variable {X : Cx} {pins : List (Addr × Obj)} {σ : L2.St} {H : Hp} {s : Shared}
theorem comp_runD {elt tg iter : Expr} {ifs : List Expr} {scope : Scope} {pos : Pos} {N' : List Str} {cap : List (Option Nat)} {cl : List (Str × Addr)} {g : TG} {tt : TT} {te : TE} {J : It} {fp : List Addr} {it : Addr} {tn : Nat → Heap → Prop} {Q : VK} {E : Value → Shared → Prop}
    (S : CompScopeD X.env.scope scope X.N N' cap) (hcalm : X.calm = true)
    (inner : ∀ cl C s₀ H₀ ex, PG (cxD X scope cl N' C s₀ H₀ ex) tg g ∧ PTs (cxD X scope cl N' C s₀ H₀ ex) ifs tt ∧ PE (cxD X scope cl N' C s₀ H₀ ex) elt te)
    (hcl : ∀ x c, cl.lookup x = some c → X.env.cells.lookup x = some c) (hcl2 : ∀ y ∈ scope.names, y.2 = .free → ∃ c, cl.lookup y.1 = some c)
    (I : Inv X pins σ H s) (T : Turn X.prog X.w X.K tg J fp it tn) (st : tn 0 s.heap) (hfp : ∀ b ∈ fp, FpOk X pins H b)
    (hR : ∀ acc, H acc = none → ∃ W : Nat → Nat → List V → L2.St → Hp → Prop, (∃ m, W 0 m [] (capSt cap σ) (upd H acc (.lst []))) ∧ ∀ i m ys σ' H', W i m ys σ' H' → H' acc = some (.lst ys) ∧ ys.length < sizeLine ∧
      ((J.stop i H' ∧ Q (.ref acc) H') ∨ (J.go i H' ∧ ∀ x H'', J.yld i H' x H'' → g x σ' H'' fun σ2 H2 => tt σ2 H2 fun b H3 =>
        if b = true then te σ2 H3 fun y H4 => H4 acc = some (.lst ys) ∧ ∃ m', m' < m ∧ W (i + 1) m' (ys ++ [y]) σ2 (upd H4 acc (.lst (ys ++ [y]))) else ∃ m', m' < m ∧ W (i + 1) m' ys σ2 H3))) :
    wpAny (model X.prog X.w) X.A (newList []) (fun acc s₃ => wpAny (model X.prog X.w) X.A (newFunctionEnv scope X.env.globals cl [] X.env.qual none .none (some X.env)) (fun cenv s₄ =>
      codeAny (model X.prog X.w) X.A (.compStart (.ListComp elt [⟨tg, iter, ifs, 0⟩] scope pos) 0 (.ref it) acc { cenv with scope := relabel scope X.env }) (CompDone X pins σ Q acc cenv.locals) s₄) E s₃) E s := by
  refine wpAny_newObj_type (newEnvC fun h₁ keep₁ hns₁ ok₁ => ?_)
  have hnone : H s.heap.objs.size = none := I.hok.fresh (Nat.le_refl _)
  have I3 : Inv X pins σ (upd H s.heap.objs.size (.lst [])) { s with heap := s.heap.push { cls := .type "list", data := .seq ([] : List Value).toArray }, toks := s.toks } := I.lnew (its := []) .nil (Nat.zero_le _)
  have fpo := T.obj 0 s.heap st
  have fplt : ∀ b ∈ fp, b < s.heap.objs.size := fun b hb => by
    obtain ⟨o, e, _⟩ := fpo b hb
    exact Heap.lt_size e
  have hfp3 : ∀ b ∈ fp, FpOk X pins (upd H s.heap.objs.size (.lst [])) b := fun b hb => ⟨by rw [upd_ne (Nat.ne_of_lt (fplt b hb))]; exact (hfp b hb).1, (hfp b hb).2⟩
  have sz3 : (s.heap.push { cls := .type "list", data := .seq ([] : List Value).toArray }).objs.size = s.heap.objs.size + 1 := by rw [Heap.size_push]
  have fplt3 : ∀ b ∈ fp, b < (s.heap.push { cls := .type "list", data := .seq ([] : List Value).toArray }).objs.size := fun b hb => by rw [sz3]; exact Nat.lt_succ_of_lt (fplt b hb)
  have CD := cellsD_of S I3 hcl hcl2 ok₁
  have I4 := inv_blockD (t' := s.toks) S hcalm I3 CD hfp3 fplt3 hns₁ keep₁
  have keep : ∀ b o, s.heap.get? b = some o → h₁.get? b = some o := fun b o e => keep₁ b o (Heap.get?_push_of_some _ e)
  have st4 : tn 0 h₁ := T.keep 0 _ _ st fun b hb o e => keep b o e
  generalize hcs : cellsFrom ((s.heap.push { cls := .type "list", data := .seq ([] : List Value).toArray }).objs.size + 1) scope.names [] ++ cl = cs at CD I4
  obtain ⟨W, ⟨m0, w0⟩, turn⟩ := hR _ hnone
  dsimp only at I4 hcs ⊢
  -- the loop
  have loop : codeAny (model X.prog X.w) X.A (.compLoop (.ListComp elt [⟨tg, iter, ifs, 0⟩] scope pos) 0 (.ref it) (.ref s.heap.objs.size) (compEnvC scope cs (s.heap.push { cls := .type "list", data := .seq ([] : List Value).toArray }).objs.size X.env))
      (CompDone X pins σ Q (.ref s.heap.objs.size) (s.heap.push { cls := .type "list", data := .seq ([] : List Value).toArray }).objs.size) { s with heap := h₁, toks := s.toks } := by
    generalize hX' : cxD X scope cs N' (s.heap.push { cls := .type "list", data := .seq ([] : List Value).toArray }).objs.size { s with heap := s.heap.push { cls := .type "list", data := .seq ([] : List Value).toArray }, toks := s.toks } (upd H s.heap.objs.size (.lst [])) fp = X' at I4
    obtain ⟨pg, pts, pe⟩ := inner cs (s.heap.push { cls := .type "list", data := .seq ([] : List Value).toArray }).objs.size { s with heap := s.heap.push { cls := .type "list", data := .seq ([] : List Value).toArray }, toks := s.toks } (upd H s.heap.objs.size (.lst [])) fp
    rw [hX'] at pg pts pe
    have eP : X'.prog = X.prog := by rw [← hX']; rfl
    have eW : X'.w = X.w := by rw [← hX']; rfl
    have eK : X'.K = X.K := by rw [← hX']; rfl
    have eA : X'.A = X.A := by rw [← hX']; rfl
    have eC : X'.calm = true := by rw [← hX']; exact hcalm
    have eE : X'.env = compEnvC scope cs (s.heap.push { cls := .type "list", data := .seq ([] : List Value).toArray }).objs.size X.env := by rw [← hX']; rfl
    have eX : X'.xe = fun _ _ => False := by rw [← hX']; rfl
    have stat : ∀ {H' : Hp}, (∀ b ∈ fp, H' b = none) → ∀ b ∈ fp, FpOk X' [] H' b := fun {H'} hn b hb => by
      obtain ⟨_, f1, f2, f3, f4, f5⟩ := hfp3 b hb
      refine ⟨hn b hb, ?_, ?_, ?_, fun x c e => ?_, fun p hp => ?_⟩
      · rw [eE]; exact Nat.ne_of_lt (fplt3 b hb)
      · rw [← hX']
        intro hb2
        rcases List.mem_cons.mp (I3.stkSub b hb2) with z | z
        · exact f1 z
        · exact f2 z
      · left; rw [← hX']; exact hb
      · rw [eE] at e
        rcases CD.or x c e with y | ⟨y, _⟩
        · exact f4 x c y
        · intro z; rw [z] at y; exact absurd (Nat.lt_trans y (fplt3 b hb)) (Nat.lt_irrefl _)
      · rw [← hX'] at hp
        exact absurd hp (by show p ∉ ([] : List (Addr × Obj)) ++ []; simp)
    rw [← eP, ← eW, ← eA, ← eE]
    refine compLoop_own (fun n s' => ∃ i ys σ' H', Inv X' [] σ' H' s' ∧ tn i s'.heap ∧ (∀ b ∈ fp, H' b = none) ∧ W i n ys σ' H') ?_ m0 ⟨0, [], _, _, I4, st4, fun b hb => (hfp3 b hb).1, w0⟩
    rintro n s3 ⟨i, ys, σ3, H3, J3, st3, fr3, w3⟩
    obtain ⟨ha, hz, hor⟩ := turn i n ys σ3 H3 w3
    rw [← eP, ← eW, ← eK] at T
    rcases hor with ⟨stop, qn⟩ | ⟨go, step⟩
    · refine thn (T.done X' rfl rfl rfl eC i [] s3 σ3 H3 _ J3 (stat fr3) st3 stop) fun r s4 ⟨hr, I5⟩ => ?_
      subst hr
      refine ⟨⟨_, rfl⟩, H3, ?_, ?_, ?_, s.heap.objs.size, rfl, qn⟩
      · have base := I5.base
        have os := I5.os
        have hok := I5.hok
        rw [← hX'] at base os hok
        refine I3.call' (ch := fp) os base hok I5.bare fun b hb => ?_
        obtain ⟨_, f1, f2, f3, f4, f5⟩ := hfp3 b hb
        exact ⟨f3, f1, f4, f5⟩
      · refine I3.fpOk (Nat.le_refl _) ?_
        have := I5.free
        rw [eE] at this
        exact this
      · obtain ⟨m, hn, _⟩ := I5.loc
        rw [eE] at hn
        exact ⟨m, hn⟩
    · refine thn (T.item X' rfl rfl rfl eC i [] s3 σ3 H3 _ J3 (stat fr3) st3 go) fun r s4 ⟨u, hr, h4⟩ => ?_
      subst hr
      refine thn h4 fun _ s5 ⟨x, H5, I5, r5, y5, st5, fr5⟩ => ?_
      have I5' := I5.pinned (stat fr5) (T.obj _ _ st5)
      have hpg := pg _ s5 σ3 H5 x u _ I5' r5 (step x H5 y5)
      rw [eX] at hpg
      refine thn hpg fun _ s6 ⟨σ6, H6, I6, q6⟩ => ?_
      have hpt := pts _ s6 σ6 H6 _ I6 q6
      rw [eX] at hpt
      refine thn hpt fun b s7 ⟨H7, I7, q7⟩ => ?_
      have fin : ∀ {s8 : Shared} {H8 : Hp} {ys' : List V}, Inv X' ([] ++ pinsAt fp s5.heap) σ6 H8 s8 → (∃ m', m' < n ∧ W (i + 1) m' ys' σ6 H8) → ∃ m, m < n ∧ ∃ i ys σ' H', Inv X' [] σ' H' s8 ∧ tn i s8.heap ∧ (∀ b ∈ fp, H' b = none) ∧ W i m ys σ' H' := fun {s8 H8 ys'} I8 ⟨m', hm, w8⟩ => by
        refine ⟨m', hm, i + 1, ys', σ6, H8, I8.unpinned, T.keep _ _ _ st5 fun b hb o e => (I8.pin (b, o) (List.mem_append_right _ (List.mem_append_right _ (mem_pinsAt hb e)))).1, fun b hb => ?_, w8⟩
        obtain ⟨o, e, d⟩ := T.obj _ _ st5 b hb
        exact (I8.pin (b, o) (List.mem_append_right _ (List.mem_append_right _ (mem_pinsAt hb e)))).2.1
      cases b with
      | false =>
        rw [if_neg (by simp)] at q7 ⊢
        exact fin I7 q7
      | true =>
        rw [if_pos rfl] at q7 ⊢
        have hpe := pe _ s7 σ6 H7 _ I7 q7
        rw [eX] at hpe
        refine thn hpe fun v s8 ⟨y, H8, I8, r8, e8, q8⟩ => ?_
        have hap := mt_append (X := X') _ s8 σ6 H8 (.ref s.heap.objs.size) [y] (.ref s.heap.objs.size) [v] (fun w H9 => H9 = upd H8 s.heap.objs.size (.lst (ys ++ [y]))) I8 rfl (.cons r8 .nil) ⟨_, ys, y, rfl, rfl, e8, hz, rfl⟩
        rw [eX] at hap
        refine thn hap fun v2 s9 ⟨y2, H9, I9, r9, e9⟩ => ?_
        subst e9
        exact fin I9 q8
  exact codeAny_compStart_list loop (T.self X.A 0 _ _ _ st4 loop)
end

section
variable {X : Cx} {elt tg iter : Expr} {ifs : List Expr} {scope : Scope} {pos : Pos} {N' : List Str} {cap : List (Option Nat)} {wi : TI} {g : TG} {tt : TT} {te : TE}
theorem free_cellsD {pins : List (Addr × Obj)} {σ : L2.St} {H : Hp} {s : Shared} (S : CompScopeD X.env.scope scope X.N N' cap) (I : Inv X pins σ H s) : ∀ y ∈ scope.names, y.2 = .free → ∃ c, X.env.cells.lookup y.1 = some c := fun y hy e =>
  I.ok.has y.1 (S.free y hy e)
theorem pe_compD (S : CompScopeD X.env.scope scope X.N N' cap) (hcalm : X.calm = true) (hi : PI X tg iter wi)
    (hnd : N'.Nodup) (inner : ∀ cl C s₀ H₀ ex, (cxD X scope cl N' C s₀ H₀ ex).N.Nodup → PG (cxD X scope cl N' C s₀ H₀ ex) tg g ∧ PTs (cxD X scope cl N' C s₀ H₀ ex) ifs tt ∧ PE (cxD X scope cl N' C s₀ H₀ ex) elt te)
    (hs : ∀ x, foldedSetIterable iter X.env x = pure x := by intro _; rfl) : PE X (.ListComp elt [⟨tg, iter, ifs, 0⟩] scope pos) (tComp wi cap g tt te) := by
  intro pins s σ H Q I h
  obtain ⟨cl, e1, e2, e3⟩ := closure_of (free_cellsD S I)
  rw [eval_ListComp]
  refine wpAny_comprehension_free (use := none) rfl hs e1 S.kind S.names (wpAny_mono (hi pins s σ H _ I h) (fun xv s₁ h₁ => wpAny_mono h₁ (fun itv s₂ h₂ => ?_) fun _ _ e => e) fun _ _ e => e)
  obtain ⟨it, fp, tn, J, H2, rfl, I2, T, st2, f2, hR⟩ := h₂
  refine wpAny_mono (comp_runD (Q := Q) (E := X.xe) S hcalm (fun cl C s₀ H₀ ex => inner cl C s₀ H₀ ex hnd) e2 e3 I2 T st2 f2 hR) (fun acc s₃ h₃ => wpAny_mono h₃ (fun cenv s₄ h₄ => codeAny_mono h₄ fun r s' hd => ?_) fun _ _ e => e) fun _ _ e => e
  obtain ⟨⟨f, rfl⟩, H', I', F', ⟨m, hm⟩, l, rfl, q⟩ := hd
  refine ⟨m, hm, fun h' hsb => ⟨.ref l, H', ?_, rfl, q⟩⟩
  obtain ⟨f0, f1, f2', f3, f4, f5⟩ := F'
  exact I'.turned (t' := s'.toks) (fun b o hb e => (hsb.2 b hb).trans e) f0 f1 f3 f4 f5
theorem ps_setCompD {i : Nat} {x : Str} {px spos : Pos} (S : CompScopeD X.env.scope scope X.N N' cap) (hcalm : X.calm = true) (hN : X.N.Nodup) (hx : X.N[i]? = some x) (hl : X.env.scope.names.lookup x = some .local) (hi : PI X tg iter wi)
    (hnd : N'.Nodup) (inner : ∀ cl C s₀ H₀ ex, (cxD X scope cl N' C s₀ H₀ ex).N.Nodup → PG (cxD X scope cl N' C s₀ H₀ ex) tg g ∧ PTs (cxD X scope cl N' C s₀ H₀ ex) ifs tt ∧ PE (cxD X scope cl N' C s₀ H₀ ex) elt te)
    (hsw : swapsWith (.ListComp elt [⟨tg, iter, ifs, 0⟩] scope pos) (some (.Name x px)) spos.line X.env = pure true := by rfl)
    (hs : ∀ x, foldedSetIterable iter X.env x = pure x := by intro _; rfl) : PS X (.Assign [.Name x px] (.ListComp elt [⟨tg, iter, ifs, 0⟩] scope pos) spos) (tAsg (tComp wi cap g tt te) (gName i)) := by
  intro pins s σ H D I h
  obtain ⟨cl, e1, e2, e3⟩ := closure_of (free_cellsD S I)
  rw [exec_Assign_Name_used _ _ _ _ hsw]
  refine wpAny_bind (wpAny_standAt (wpAny_bind ?_))
  show wpAny _ X.A (do let _ ← comprehension (.ListComp elt [⟨tg, iter, ifs, 0⟩] scope pos) scope X.env _ (newList []) false (eval iter X.env) (some (assign (.Name x px) X.env))) _ _ s
  refine wpAny_bind (wpAny_mono (wpAny_comprehension_free (use := some (assign (.Name x px) X.env)) (Q := fun _ s' => SP X pins D .next s') rfl hs e1 S.kind S.names
    (wpAny_mono (hi pins s σ H _ I h) (fun xv s₁ h₁ => wpAny_mono h₁ (fun itv s₂ h₂ => ?_) fun _ _ e => e) fun _ _ e => e)) (fun _ s' hq => wpAny_pure (wpAny_pure hq)) fun _ _ e => e)
  obtain ⟨it, fp, tn, J, H2, rfl, I2, T, st2, f2, hR⟩ := h₂
  refine wpAny_mono (comp_runD (Q := fun v H' => gName i v σ H' D.nx) (E := X.xe) S hcalm (fun cl C s₀ H₀ ex => inner cl C s₀ H₀ ex hnd) e2 e3 I2 T st2 f2 hR) (fun acc s₃ h₃ => wpAny_mono h₃ (fun cenv s₄ h₄ => codeAny_mono h₄ fun r s' hd => ?_) fun _ _ e => e) fun _ _ e => e
  obtain ⟨⟨f, rfl⟩, H', I', F', ⟨m, hm⟩, l, rfl, q⟩ := hd
  show wpAny _ X.A (assign (.Name x px) X.env (.ref l)) _ _ _
  have F1 : ∀ b ∈ [cenv.locals], FpOk X pins H' b := fun b hb => by rw [List.mem_singleton.mp hb]; exact F'
  obtain ⟨oC, es, ep, hoC, hdC, hkC, hmC⟩ := id hm
  have Ip := I'.pinned F1 fun b hb => by
    rw [List.mem_singleton.mp hb]
    exact ⟨oC, hoC, fun v z => by rw [hdC] at z; cases z⟩
  refine wpAny_assign_Name (store_ok Ip hN hx (.inl hl) (v := .ref l) rfl (fun s5 I5 => ?_) (.inr hl))
  have hC5 := (I5.pin (cenv.locals, oC) (List.mem_append_right _ (List.mem_append_right _ (mem_pinsAt (List.mem_singleton.mpr rfl) hoC)))).1
  refine ⟨m, ⟨oC, es, ep, hC5, hdC, hkC, hmC⟩, fun h' hsb => ?_⟩
  obtain ⟨f0, f1, f2', f3, f4, f5⟩ := F'
  exact ⟨_, H', I5.unpinned.turned (t' := s5.toks) (fun b o hb e => (hsb.2 b hb).trans e) f0 f1 f3 f4 f5, q⟩
end
end Ww

set_option Elab.async false
set_option linter.all false
set_option maxRecDepth 100000
namespace Ww
open PySem PySem.W PySem.Spec PyProof.Rows L2
/-! ### xs.index(i) of a list of ints -/
noncomputable def rIndex : V → List V → Hp → VK → Prop := fun x vs H Q => ∃ (l : Addr) (ns : List Int) (i : Int) (j : Nat), x = .ref l ∧ vs = [.int i] ∧ H l = some (.lst (ns.map V.int)) ∧ j < ns.length ∧ ns.getD j 0 = i ∧ (∀ m, m < j → ns.getD m 0 ≠ i) ∧ Q (.int (j : Int)) H
instance iN93 : CM rIndex := ⟨fun _ _ _ _ _ k hh => by obtain ⟨l, ns, i, j, a1, a2, a3, a4, a5, a6, q⟩ := hh; exact ⟨l, ns, i, j, a1, a2, a3, a4, a5, a6, k _ _ q⟩⟩
section
variable {X : Cx}
end
/-! ### xs != [] -/
noncomputable def rNeE (K : Frag) : R2 := fun x y H Q => ∃ (p p' : Addr) (ns : List Int), x = .ref p ∧ y = .ref p' ∧ SqL K H p (ns.map V.int) ∧ SqL K H p' [] ∧ Q (.bl (!ns.isEmpty)) H
instance iN94 {K : Frag} : C2 (rNeE K) := ⟨fun _ _ _ _ _ k hh => by obtain ⟨p, p', ns, a, b, c, d, q⟩ := hh; exact ⟨p, p', ns, a, b, c, d, k _ _ q⟩⟩
section
variable {X : Cx}
end
end Ww

set_option Elab.async false
set_option linter.all false
set_option maxRecDepth 100000
namespace Ww
open PySem PySem.W PySem.Spec PyProof.Rows L2
/-! ### sum of a list of ints of any size -/
section
variable {prog : Program} {w : World} {A : Around} {R : Result → Shared → Prop} {I : Addr} {fp wr : List Addr} {n : Nat} {P : Nat → Value → Prop} {St : Nat → Heap → Prop}
end
section
variable {prog : Program} {w : World} {A : Around} {E : Value → Shared → Prop} {s : Shared} {l : Addr} {xs : Array (Int × Tok)}
end
noncomputable def rSumL (K : Frag) : List V → Hp → VK → Prop := fun xs H Q => ∃ (p : Addr) (ns : List Int), xs = [.ref p] ∧ SqL K H p (ns.map V.int) ∧ Q (.int (preSum (fun k => ns.getD k 0) ns.length)) H
instance iN95 {K : Frag} : CC (rSumL K) := ⟨fun _ _ _ _ k hh => by obtain ⟨p, ns, a, b, c⟩ := hh; exact ⟨p, ns, a, b, k _ _ c⟩⟩
section
variable {X : Cx}
end
end Ww

set_option Elab.async false
set_option linter.all false
set_option maxRecDepth 100000
namespace Ww
open PySem PySem.W PySem.Spec PyProof.Rows L2
/-! ### set(xs) of ints, and how many it holds -/
noncomputable def rSetI (K : Frag) : List V → Hp → VK → Prop := fun xs H Q => ∃ (p : Addr) (ns : List Int), xs = [.ref p] ∧ SqL K H p (ns.map V.int) ∧ ns.Nodup ∧ ns.length ≤ 64 ∧ ∀ (l : Addr) (S : Int → Bool), H l = none → Q (.ref l) (upd H l (.set S ns.length))
instance iN96 {K : Frag} : CC (rSetI K) := ⟨fun _ _ _ _ k hh => by obtain ⟨p, ns, a, b, c, d, q⟩ := hh; exact ⟨p, ns, a, b, c, d, fun l S h => k _ _ (q l S h)⟩⟩
noncomputable def rLenS : List V → Hp → VK → Prop := fun xs H Q => ∃ (p : Addr) (S : Int → Bool) (n : Nat), xs = [.ref p] ∧ H p = some (.set S n) ∧ n < 1000 ∧ Q (.int (n : Int)) H
instance iN97 : CC rLenS := ⟨fun _ _ _ _ k hh => by obtain ⟨p, S, n, a, b, c, q⟩ := hh; exact ⟨p, S, n, a, b, c, k _ _ q⟩⟩
section
variable {X : Cx}
end
noncomputable def rNotB : R2 := fun x y H Q => ∃ a b : Bool, x = .bl a ∧ y = .bl b ∧ Q (.bl (a != b)) H
instance iN98 : C2 rNotB := ⟨fun _ _ _ _ _ k hh => by obtain ⟨a, b, h1, h2, q⟩ := hh; exact ⟨a, b, h1, h2, k _ _ q⟩⟩
end Ww

set_option Elab.async false
set_option linter.all false
set_option maxRecDepth 100000
namespace Ww
open PySem PySem.W PySem.Spec PyProof.Rows L2
theorem seq_hide {t u : TS} {D : Ends} {σ : L2.St} {H : Hp} (h : ∀ R : L2.St → Hp → Prop, (∀ σ H, u D σ H → R σ H) → t { D with nx := R } σ H) : tSeq t u D σ H := h _ fun _ _ z => z
inductive I_fo_listN (K : Frag) (g : TG) (tb : TS) (D : Ends) (σ : L2.St) (x : V) (H1 : Hp) : Prop
  | mk (a xs) (h1 : x = .ref a) (h2 : SqL K H1 a xs) (Pv : Nat → L2.St → Hp → Prop) (h3 : Pv 0 σ H1) (h4 : (∀ i σ H, i ≤ xs.length → Pv i σ H → SqL K H a xs)) (h5 : (∀ i x σ H, xs[i]? = some x → Pv i σ H → ∀ N : L2.St → Hp → Prop, (∀ σ H, Pv (i + 1) σ H → N σ H) → ∀ B, g x σ H fun σ2 H2 => tb { D with nx := N, ct := N, bk := B } σ2 H2)) (h6 : ∀ σ H, Pv xs.length σ H → D.nx σ H)
theorem fo_listN {K : Frag} {tl : TE} {g : TG} {tb : TS} {D : Ends} {σ : L2.St} {H : Hp} [CE tl]
    (h : tl σ H fun x H1 => I_fo_listN K g tb D σ x H1) : tFor (iList K tl) g tb D σ H :=
  fo_list (CE.m (t := tl) _ _ _ _ (fun _ _ hh => by obtain ⟨a, xs, e, q, Pv, h0, h1, h2, h3⟩ := hh; exact ⟨a, xs, e, q, Pv, h0, h1, fun i x σ H e p => h2 i x σ H e p _ (fun _ _ z => z) _, h3⟩) h)
inductive I_fo_rangeN (g : TG) (tb : TS) (D : Ends) (σ : L2.St) (vs : List V) (H1 : Hp) : Prop
  | mk (n : Nat) (h1 : vs = [.int n]) (h2 : n < 100000) (Pv : Nat → L2.St → Hp → Prop) (h3 : Pv 0 σ H1) (h4 : (∀ i σ H, i < n → Pv i σ H → ∀ N : L2.St → Hp → Prop, (∀ σ H, Pv (i + 1) σ H → N σ H) → ∀ B, g (.int (i : Int)) σ H fun σ2 H2 => tb { D with nx := N, ct := N, bk := B } σ2 H2)) (h5 : ∀ σ H, Pv n σ H → D.nx σ H)
theorem binds1 {K : Frag} {x qual : Str} {st : Stmt} {f : Addr} {fd : FuncData} {p1 : Str} (F : L2.Fun K x qual st f fd)
    (h : ∀ (kV doc pm : Value) (an : Option Addr) (cdv ct : Value) (u1 : Value), bindArgs (PySem.W.fnOf x qual (defArgs st) (defBody st) (defScope st) .none kV doc pm an cdv ct) ⟨[u1], []⟩ = pure (List.zip [p1] [u1])) : Binds K fd [p1] [] :=
  F.binds fun kV doc pm an cdv ct us hl => match us, hl with | [u1], _ => h kV doc pm an cdv ct u1
theorem binds2 {K : Frag} {x qual : Str} {st : Stmt} {f : Addr} {fd : FuncData} {p1 p2 : Str} (F : L2.Fun K x qual st f fd)
    (h : ∀ (kV doc pm : Value) (an : Option Addr) (cdv ct : Value) (u1 u2 : Value), bindArgs (PySem.W.fnOf x qual (defArgs st) (defBody st) (defScope st) .none kV doc pm an cdv ct) ⟨[u1, u2], []⟩ = pure (List.zip [p1, p2] [u1, u2])) : Binds K fd [p1, p2] [] :=
  F.binds fun kV doc pm an cdv ct us hl => match us, hl with | [u1, u2], _ => h kV doc pm an cdv ct u1 u2
theorem binds3 {K : Frag} {x qual : Str} {st : Stmt} {f : Addr} {fd : FuncData} {p1 p2 p3 : Str} (F : L2.Fun K x qual st f fd)
    (h : ∀ (kV doc pm : Value) (an : Option Addr) (cdv ct : Value) (u1 u2 u3 : Value), bindArgs (PySem.W.fnOf x qual (defArgs st) (defBody st) (defScope st) .none kV doc pm an cdv ct) ⟨[u1, u2, u3], []⟩ = pure (List.zip [p1, p2, p3] [u1, u2, u3])) : Binds K fd [p1, p2, p3] [] :=
  F.binds fun kV doc pm an cdv ct us hl => match us, hl with | [u1, u2, u3], _ => h kV doc pm an cdv ct u1 u2 u3
theorem binds5 {K : Frag} {x qual : Str} {st : Stmt} {f : Addr} {fd : FuncData} {p1 p2 p3 p4 p5 : Str} (F : L2.Fun K x qual st f fd)
    (h : ∀ (kV doc pm : Value) (an : Option Addr) (cdv ct : Value) (u1 u2 u3 u4 u5 : Value), bindArgs (PySem.W.fnOf x qual (defArgs st) (defBody st) (defScope st) .none kV doc pm an cdv ct) ⟨[u1, u2, u3, u4, u5], []⟩ = pure (List.zip [p1, p2, p3, p4, p5] [u1, u2, u3, u4, u5])) : Binds K fd [p1, p2, p3, p4, p5] [] :=
  F.binds fun kV doc pm an cdv ct us hl => match us, hl with | [u1, u2, u3, u4, u5], _ => h kV doc pm an cdv ct u1 u2 u3 u4 u5
/-! ### what holds, opened at once -/
theorem exE4 {τ1 : Type} {τ2 : Type} {τ3 : Type} {τ4 : Type} {P : τ1 → τ2 → τ3 → τ4 → Prop} {G : Prop} (h : ∃ a1 a2 a3 a4, P a1 a2 a3 a4) (k : ∀ a1 a2 a3 a4, P a1 a2 a3 a4 → G) : G := by
  obtain ⟨a1, a2, a3, a4, h⟩ := h
  exact k a1 a2 a3 a4 h
theorem andE5 {A1 A2 A3 A4 A5 G : Prop} (h : A1 ∧ A2 ∧ A3 ∧ A4 ∧ A5) (k : A1 → A2 → A3 → A4 → A5 → G) : G := k (h.1) (h.2.1) (h.2.2.1) (h.2.2.2.1) (h.2.2.2.2)
/-! ### tuples of ints compared, and looked for in lists -/
noncomputable def rEqT (K : Frag) : R2 := fun x y H Q => ∃ (p p' : Addr) (ns ms : List Int), x = .ref p ∧ y = .ref p' ∧ SqT K H p (ns.map V.int) ∧ SqT K H p' (ms.map V.int) ∧ Q (.bl (decide (ns = ms))) H
noncomputable def rNeT (K : Frag) : R2 := fun x y H Q => ∃ (p p' : Addr) (ns ms : List Int), x = .ref p ∧ y = .ref p' ∧ SqT K H p (ns.map V.int) ∧ SqT K H p' (ms.map V.int) ∧ Q (.bl (!decide (ns = ms))) H
noncomputable def rInT (K : Frag) (neg : Bool) : R2 := fun x y H Q => ∃ (e p : Addr) (as : List Addr) (k : List Int) (ks : List (List Int)), x = .ref e ∧ y = .ref p ∧ SqT K H e (k.map V.int) ∧ SqL K H p (as.map V.ref) ∧ TupsAt H as ks ∧ Q (.bl (if neg then !decide (k ∈ ks) else decide (k ∈ ks))) H
noncomputable def rSortI (K : Frag) : List V → Hp → VK → Prop := fun xs H Q => ∃ (p : Addr) (ns : List Int), xs = [.ref p] ∧ SqL K H p (ns.map V.int) ∧ ns.length < 64 ∧ ∀ (l : Addr) (ms : List Int), H l = none → ms.Perm ns → ms.Pairwise (· ≤ ·) → Q (.ref l) (upd H l (.lst (ms.map V.int)))
instance iN99 {K : Frag} : C2 (rEqT K) := ⟨fun _ _ _ _ _ k hh => by obtain ⟨p, p', ns, ms, a, b, c, d, q⟩ := hh; exact ⟨p, p', ns, ms, a, b, c, d, k _ _ q⟩⟩
instance iN100 {K : Frag} : C2 (rNeT K) := ⟨fun _ _ _ _ _ k hh => by obtain ⟨p, p', ns, ms, a, b, c, d, q⟩ := hh; exact ⟨p, p', ns, ms, a, b, c, d, k _ _ q⟩⟩
instance iN101 {K : Frag} {n : Bool} : C2 (rInT K n) := ⟨fun _ _ _ _ _ k hh => by obtain ⟨e, p, as, kk, ks, a, b, c, d, f, q⟩ := hh; exact ⟨e, p, as, kk, ks, a, b, c, d, f, k _ _ q⟩⟩
instance iN102 {K : Frag} : CC (rSortI K) := ⟨fun _ _ _ _ k hh => by obtain ⟨p, ns, a, b, c, q⟩ := hh; exact ⟨p, ns, a, b, c, fun l ms x y z => k _ _ (q l ms x y z)⟩⟩
theorem vals_ints : ∀ {us : List Value} {ns : List Int}, IntsAre us ns → Vals (ns.map V.int) us := by
  intro us ns h
  induction h with
  | nil => exact .nil
  | cons _ _ _ ih => exact .cons ⟨_, rfl⟩ ih
section
variable {X : Cx}
open Classical in
theorem pe_bmK {o e : Expr} {es : List Expr} {to : TE} {t : TA} {name : Str} {apos cpos : Pos} {T id : String} {r : V → List V → Hp → VK → Prop} {K : Frag} (hK : X.K = K) (pa : PlainAttrs T) (slot : Slot T name id) (hty : typeOf (.builtin id) = pure (.type "method_descriptor")) (hm : MtR X id r) (ho : PE X o to) (ha : PA X (e :: es) t)
    (hbase : attributeBase o name X.env (eval o X.env) = eval o X.env := by rfl)
    (hfew : ((backTo cpos (starEach (e :: es) X.env)).all (fun x => !x.1) && (backToKw cpos (keywordEach [] X.env)).all (fun x => x.1.isSome)
      && decide ((e :: es).length + ([] : List Keyword).length + (if ([] : List Keyword).isEmpty then 0 else 1) < 30)) = true := by rfl)
    (hline : (apos.endLine == cpos.line) = true := by rfl) (hs : starEach (e :: es) X.env = (false, eval e X.env) :: starEach es X.env := by rfl) (hplain : (backTo cpos (starEach es X.env)).any (·.1) = false := by rfl) :
    PE X (.Call (.Attribute o name apos) (e :: es) [] cpos) (tBM K T r to t) := hK ▸ pe_bm pa slot hty hm ho ha hbase hfew hline hs hplain
end
end Ww

set_option Elab.async false
set_option linter.all false
set_option maxRecDepth 100000
namespace Ww
open PySem PySem.W PySem.Spec PyProof.Rows L2
/-! ### except C as e: the name e goes behind the suite -/
section
variable {X : Cx} {pins : List (Addr × Obj)} {σ σ' : L2.St} {H : Hp} {s : Shared}
theorem inv_frame {h2 : Heap} {tk : Nat} {m2 : Str → Option Value} (I : Inv X pins σ H s) (hs : Heap.SameBut X.env.locals s.heap h2) (hn : h2.Ns X.env.locals m2)
    (hl : ∀ (i : Nat) (x : Str) (v : V), X.N[i]? = some x → σ'[i]? = some (some v) → Vis X.env.scope x → ∃ u, RelV v u ∧ Look X.env h2 m2 x u) (len : σ'.length = X.N.length) : Inv X pins σ' H { s with heap := h2, toks := tk } := by
  obtain ⟨m, hn0, _⟩ := id I.loc
  obtain ⟨oL, _, _, hoL, _⟩ := id hn0
  have cne := I.cne
  refine ⟨I.ok, I.os, I.bare, ⟨fun b o e n hb hx => ?_, fun b o e n hb hx => ?_, I.base.free, fun b o e hx => ?_, I.base.tups, I.base.frzs, I.base.tbls⟩, ⟨m2, hn, hl⟩, fun y c e => ?_, I.free, I.freeC, fun p hp => ?_, fun b ob e => ?_, len⟩
  · exact (hs.2 b (Nat.ne_of_lt (Nat.lt_of_lt_of_le (Heap.lt_size e) I.ok.above))).trans (I.base.keep b o e n hb hx)
  · obtain ⟨sl, e1⟩ := I.base.slot b o e n hb hx
    exact ⟨sl, (hs.2 b (Nat.ne_of_lt (Nat.lt_of_lt_of_le (Heap.lt_size e) I.ok.above))).trans e1⟩
  · obtain ⟨o', e1⟩ := I.base.there b o e hx
    exact ⟨o', (hs.2 b (Nat.ne_of_lt (Nat.lt_of_lt_of_le (Heap.lt_size e) I.ok.above))).trans e1⟩
  · obtain ⟨w', z⟩ := I.cell y c e
    exact ⟨w', z.sameBut hs (cne y c e)⟩
  · obtain ⟨e, n, ne, nf, d⟩ := I.pin p hp
    exact ⟨(hs.2 p.1 ne).trans e, n, ne, nf, d⟩
  · refine (I.hok b ob e).stay (fun c w' hc q => (hs.2 c ?_).trans q) (fun _ q => q) fun _ _ q => q
    rintro rfl
    have hfree := I.free
    rcases hc with rfl | hc
    · rw [hfree] at e; cases e
    · rw [hfree] at hc; cases hc
theorem unset_ok {M : Model} {A : Around} {E : Value → Shared → Prop} {i : Nat} {x : Str} {pos : Pos} {Q : Unit → Shared → Prop} (I : Inv X pins σ H s) (hN : X.N.Nodup) (hi : X.N[i]? = some x) (hk : X.env.scope.names.lookup x = some .local)
    (h : ∀ s', Inv X pins (σ.set i none) H s' → Q () s') : wpAny M A (do bindName X.env x .none; unbindBehindTheSuite X.env x pos) Q E s := by
  have hl : X.env.kindOf x = some .local := hk
  have hcls : (X.env.scope.kind == .class || (X.env.scope.kind == .module && X.env.locals != X.env.globals)) = false := by rw [I.ok.kind]; rfl
  have hiσ : i < σ.length := by rw [I.len]; exact (List.getElem?_eq_some_iff.mp hi).1
  refine wpAny_bind (wpAny_bindName (store_ok I hN hi (.inl hk) (v := .non) rfl (fun s1 I1 => ?_) (.inr hk)))
  unfold unbindBehindTheSuite
  refine wpAny_onRaise ?_
  unfold unbindName
  refine wpAny_bind (wpAny_point (wpAny_bind ?_))
  unfold deleteName
  simp only [hl, hcls]
  rw [if_neg (by decide)]
  obtain ⟨m, hn, hloc⟩ := id I1.loc
  obtain ⟨u, ru, lk⟩ := hloc i x .non hi (by rw [List.getElem?_set_self hiσ]) (.inl hk)
  have hmx : (m x).isSome = true := by
    rcases lk with ⟨_, e⟩ | ⟨k, _⟩
    · rw [e]; rfl
    · rw [hl] at k; rcases k with k | k <;> cases k
  refine wpAny_bind (wpAny_nsDel_keeps hn fun h2 v hn2 hs2 => ?_)
  rw [hmx]
  simp only [if_true, Option.isSome_some, Bool.not_true, Bool.false_eq_true, if_false]
  refine wpAny_pure (wpAny_point (h _ ?_))
  refine inv_frame (σ' := σ.set i none) (tk := s1.toks) I1 hs2 hn2 (fun j y v' e1 e2 e3 => ?_) (by rw [List.length_set]; exact I.len)
  by_cases hj : j = i
  · subst hj
    rw [List.getElem?_set_self hiσ] at e2
    cases e2
  · rw [List.getElem?_set_ne (Ne.symm hj)] at e2
    obtain ⟨u', r', q⟩ := hloc j y v' e1 (by rw [List.getElem?_set_ne (Ne.symm hj)]; exact e2) e3
    refine ⟨u', r', ?_⟩
    rcases q with ⟨k, e⟩ | ⟨k, c, e, z⟩
    · refine .inl ⟨k, ?_⟩
      have : y ≠ x := fun e => hj (nodup_ix hN e1 (e ▸ hi))
      simp [this, e]
    · exact .inr ⟨k, c, e, z.sameBut hs2 (I1.cne y c e)⟩
end
end Ww

set_option Elab.async false
set_option linter.all false
set_option maxRecDepth 100000
namespace Ww
open PySem PySem.W PySem.Spec PyProof.Rows L2 PySem.Builtin PySem.Builtin.ObjectAttr PySem.Builtin.Getset_descriptor
/-! ### an exception under a name: its class -/
noncomputable def OfCls (x D : Addr) (h : Heap) : Prop := ∃ o, h.get? x = some o ∧ o.cls = .ref D
section
variable {prog : Program} {w : World} {A : Around} {E : Value → Shared → Prop} {s : Shared} {K : Frag} {x D : Addr}
theorem OfCls.ty {M : Model} {h : Heap} (I : OfCls x D h) : Looks M h (typeOf (.ref x)) (.ref D) := by
  obtain ⟨o, e, c⟩ := I
  exact c ▸ (Looks.ld e).andThen .now
theorem cls_find {M : Model} {h : Heap} {g a : Value} {n : Str} (X : K.In h) (ha : findIn K (.ref D) n = some (some a)) (hn : specialIn K a "__get__" = some (some g)) (htk : takesIn K a = some true) : Looks M h (find (.ref x) (.ref D) n) (.bind g a) := by
  have l1 := looks_findIn (M := M) X ha
  have l2 : Looks M h (getOf (some a)) (some g) := looks_specialIn X hn
  have l3 := looks_takesIn (M := M) X htk
  exact l1.andThen (l2.andThen ((show Looks M h (dataDescriptor? (some a) (some g)) (some (g, a)) from l3.andThen .now).andThen (Looks.tag .now)))
theorem cls_get {R : Result → Shared → Prop} {tp : Value} (X : K.In s.heap) (I : OfCls x D s.heap) (hm : mroIn K D (.type "object") = some true)
    (h : R (.ok (.ret (.ref D))) s) : codeAny (model prog w) A (.call (.builtin "getset_descriptor.__get__") ⟨[.builtin "object.__class__", .ref x, tp], []⟩) R s := by
  obtain ⟨hh, g, dr, t, os⟩ := s
  have t0 := I.ty (M := model prog w)
  have t1 := looks_mroIn (M := model prog w) X hm
  refine codeAny_call_builtin KF.slot_gs.plain KF.entry_gs
    (KF.slot_gs.check _ _ _ _ _ _ _ _ KF.type_class (KF.args_gs _ _ _) ?_)
  unfold Builtin.«getset_descriptor.__get__» descrGet
  rw [dga_obj]; refine wpAny_bind (wpAny_pure ?_)
  unfold descrGetter descrCheckInstance descrNameAndClass isInstance
  simp only [KF.owner_class]; repeat lk
  refine ⟨Code.quiet_builtin _ (by decide +kernel), codeAny_builtin KF.entry_class ?_⟩
  unfold Builtin.«object.__class__» shownTypeOf; repeat lk
  exact h
theorem cls_entry {tk : Tok} {Q : Fin → Shared → Prop} (X : K.In s.heap) (I : OfCls x D s.heap) (ha : findIn K (.ref D) "__class__" = some (some (.builtin "object.__class__")))
    (hn : specialIn K (.builtin "object.__class__") "__get__" = some (some (.builtin "getset_descriptor.__get__"))) (htk : takesIn K (.builtin "object.__class__") = some true) (hm : mroIn K D (.type "object") = some true)
    (h : Q (.done (.ret (.ref D))) s) : wpAny (model prog w) A (Builtin.«object.__getattribute__» ⟨[.ref x, .str "__class__" tk], []⟩) Q E s := by
  obtain ⟨hh, g, d, t, os⟩ := s
  have t0 := I.ty (M := model prog w)
  have t3 := cls_find (M := model prog w) (x := x) X ha hn htk
  refine wpAny_bind (wpAny_pure ?_)
  refine wpAny_bind (wpAny_pure ?_)
  refine wpAny_bind (t0.at ?_)
  refine wpAny_bind (t3.at ?_)
  show wpAny _ _ (holding [.builtin "object.__class__"] (call (.builtin "getset_descriptor.__get__") [.builtin "object.__class__", .ref x, .ref D]) >>= ret) _ _ _
  exact wpAny_bind (wpAny_holding (wpAny_call (cls_get (s := ⟨hh, g, d, t, os⟩) X I hm (wpAny_pure h))))
theorem cls_check {M : Model} {nameV : Value} {Q : Unit → Shared → Prop} (X : K.In s.heap) (I : OfCls x D s.heap) (hb : subIn K (.ref D) (.type "BaseException") = some true) (h : Q () s) : wpAny M A (checkBuiltinCall "BaseException.__getattribute__" ⟨[.ref x, nameV], []⟩) Q E s := by
  obtain ⟨hh, g, d, t, os⟩ := s
  have hk : builtinKind "BaseException.__getattribute__" = some .slot := by decide +kernel
  have hsplit : splitId "BaseException.__getattribute__" = some ("BaseException", "__getattribute__") := by decide +kernel
  have ti : Looks M hh (isInstance (.ref x) (.type "BaseException")) true := (I.ty (M := M)).andThen (looks_subIn X hb)
  have ha := F.args_bexc_ga (.ref x) nameV
  simp only [checkBuiltinCall, hk, hsplit]
  refine wpAny_bind (ti.at ?_)
  repeat (first | lk | wp_step)
  exact h
theorem cls_attr {Q : Option Value → Shared → Prop} (X : K.In s.heap) (I : OfCls x D s.heap) (hg : findIn K (.ref D) "__getattribute__" = some (some (.builtin "BaseException.__getattribute__"))) (hga : findIn K (.ref D) "__getattr__" = some none) (hb : subIn K (.ref D) (.type "BaseException") = some true)
    (ha : findIn K (.ref D) "__class__" = some (some (.builtin "object.__class__")))
    (hn : specialIn K (.builtin "object.__class__") "__get__" = some (some (.builtin "getset_descriptor.__get__"))) (htk : takesIn K (.builtin "object.__class__") = some true) (hm : mroIn K D (.type "object") = some true)
    (h : Q (some (.ref D)) { s with toks := s.toks + 1 }) : wpAny (model prog w) A (getAttr? (.ref x) "__class__") Q E s := by
  obtain ⟨hh, g, d, t, os⟩ := s
  have t0 := I.ty (M := model prog w)
  have t1 := looks_findIn (M := model prog w) X hg
  have t2 := looks_findIn (M := model prog w) X hga
  have f3 := F.excAttr_ValueError.ga.bind (.ref x)
  have hx2 : (Value.builtin "BaseException.__getattribute__" == Value.builtin "object.__getattribute__") = false := by decide +kernel
  have hx1 : (onTheHeap (Value.ref D) && Value.builtin "BaseException.__getattribute__" == Value.builtin "object.__getattribute__") = false := by rw [hx2]; rfl
  unfold getAttr? getAttrBy? getAttrBy
  refine wpAny_bind (wpAny_mkText (wpAny_bind (wpAny_attempt (wpAny_holding
    (wpAny_bind (t0.at (wpAny_bind (t1.at ?_))))))))
  dsimp only
  rw [hx1, if_neg Bool.false_ne_true]
  unfold getAttrByItsOwn hookBefore
  rw [if_pos (by rfl)]
  refine wpAny_bind (t2.at ?_)
  refine wpAny_bind (wpAny_attempt (wpAny_holding ?_))
  unfold callGetattribute boundAndCalled
  rw [if_neg (by decide), f3]
  refine wpAny_bind (wpAny_pure ?_)
  refine wpAny_call (codeAny_call_builtin F.excAttr_ValueError.ga.plain F.entry_bexc_ga (cls_check (s := ⟨hh, g, d, t + 1, os⟩) X I hb (cls_entry (s := ⟨hh, g, d, t + 1, os⟩) X I ha hn htk hm ?_)))
  first | exact wpAny_pure (wpAny_pure h) | exact wpAny_pure (wpAny_pure (wpAny_pure h)) | exact wpAny_pure h
end
structure ExC (K : Frag) (D : Addr) : Prop where
  self : kitCls K (.ref D) (.ref D) = some true
  get : findIn K (.ref D) "__getattribute__" = some (some (.builtin "BaseException.__getattribute__"))
  hook : findIn K (.ref D) "__getattr__" = some none
  bex : subIn K (.ref D) (.type "BaseException") = some true
  ha : findIn K (.ref D) "__class__" = some (some (.builtin "object.__class__"))
  hn : specialIn K (.builtin "object.__class__") "__get__" = some (some (.builtin "getset_descriptor.__get__"))
  htk : takesIn K (.builtin "object.__class__") = some true
  hm : mroIn K D (.type "object") = some true
theorem kitx_exc {K : Frag} {x D : Addr} (c : ExC K D) : KitX K (.ref x) (.ref D) (OfCls x D) where
  ty := fun _ _ _ I => I.ty
  it := fun _ _ X _ => (kit_cls X c.self).2.1
  ne := fun h tp dd its n sl X htp => by
    have e := c.self
    refine Bool.eq_false_iff.mpr fun q => ?_
    obtain rfl : D = tp := Value.ref.inj (beq_iff_eq.mp q)
    unfold kitCls at e
    dsimp only at e
    split at e
    · rename_i z
      have z1 := (Bool.and_eq_true_iff.mp z).1
      unfold clsIn at z1
      split at z1
      · rename_i ho
        have := (X _ _ ho).symm.trans htp
        cases this
      · cases z1
    · cases e
  ca := fun X I k => cls_attr X I c.get c.hook c.bex c.ha c.hn c.htk c.hm k
section
variable {X : Cx} {pins : List (Addr × Obj)} {σ : L2.St} {H : Hp} {s : Shared}
theorem call_isinstX : CallR X (.builtin "isinstance") (fun xs H Q => ∃ a c C b, xs = [.ref a, c] ∧ ((∃ n, c = .ty n) ∨ ∃ a', c = .ref a') ∧ H a = some (.ext (OfCls a C)) ∧ ExC X.K C ∧ kitOne X.K (.ref C) (clsV c) = some b ∧ Q (.bl b) H) := by
  intro pins s σ H xs us Q I r h
  obtain ⟨a, c, C, b, rfl, hc, ea, ec, e, q⟩ := h
  obtain ⟨u, w', rfl, r1, r2⟩ := vals2 r
  have hw : w' = clsV c := by
    rcases hc with ⟨n, rfl⟩ | ⟨a', rfl⟩
    · exact r2
    · exact r2
  subst hw
  obtain rfl : u = Value.ref a := r1
  obtain ⟨p, _⟩ := (show ObjOk X.prog X.w H s.heap a (.ext (OfCls a C)) from I.hok a _ ea)
  exact kia_one (kitx_exc ec) I.kIn p e (fun z => nomatch z) fun tk => ⟨.bl b, H, I.tok _, rfl, q⟩
theorem call_isinstXK {K : Frag} (hK : X.K = K) : CallR X (.builtin "isinstance") (fun xs H Q => ∃ a c C b, xs = [.ref a, c] ∧ ((∃ n, c = .ty n) ∨ ∃ a', c = .ref a') ∧ H a = some (.ext (OfCls a C)) ∧ ExC K C ∧ kitOne K (.ref C) (clsV c) = some b ∧ Q (.bl b) H) := by
  subst hK
  exact call_isinstX
theorem _root_.L2.ObjOk.there {P : Program} {w : World} {H : Hp} {h : Heap} {a : Addr} {o : HO} (x : ObjOk P w H h a o) : ∃ ob, h.get? a = some ob := by
  cases o with
  | lst xs => obtain ⟨_, _, _, _, e⟩ := x; exact ⟨_, e⟩
  | tup xs => obtain ⟨_, _, _, o, e, _⟩ := x; exact ⟨_, e⟩
  | dK kvs => obtain ⟨_, _, _, _, o, _, _, e, _⟩ := x; exact ⟨_, e⟩
  | dT kvs => obtain ⟨_, _, _, _, o, _, _, e, _⟩ := x; exact ⟨_, e⟩
  | set S n => obtain ⟨o, _, _, _, e, _⟩ := x; exact ⟨_, e⟩
  | ins C dx fs => obtain ⟨_, _, _, e, _⟩ := x; exact ⟨_, e⟩
  | own y => obtain ⟨_, e⟩ := x; exact ⟨_, e⟩
  | xd fs => obtain ⟨_, ⟨_, _, _, e, _⟩, _⟩ := x; exact ⟨_, e⟩
  | rng lo hi => obtain ⟨_, _, _, e⟩ := x; exact ⟨_, e⟩
  | frz ob u => obtain ⟨e, _⟩ := x; exact ⟨_, e⟩
  | tbl ps => exact ⟨_, show h.get? a = some _ from x⟩
  | met f y => exact ⟨_, show h.get? a = some _ from x⟩
  | ext φ => obtain ⟨_, e, _⟩ := x; exact e
theorem Inv.know {y : Addr} {o : HO} (I : Inv X pins σ H s) (hn : H y = none) (h0 : ∀ ob, X.s₀.heap.get? y = some ob → y ∈ X.ex) (hL : X.env.locals ≠ y) (hc : ∀ x c, X.env.cells.lookup x = some c → c ≠ y) (hp : ∀ p ∈ X.pn ++ pins, p.1 ≠ y)
    (new : ObjOk X.prog X.w (upd H y o) s.heap y o) : Inv X pins σ (upd H y o) s := by
  have up : ∀ {b : Addr} {u : HO}, H b = some u → upd H y o b = some u := fun {b u} q => by rw [upd_ne (ne_of_none q hn)]; exact q
  refine ⟨I.ok, I.os, I.bare, ⟨I.base.keep, I.base.slot, fun b ob e n hx => ?_, I.base.there, fun b xs e => up (I.base.tups b xs e), fun b ob u e => up (I.base.frzs b ob u e), fun b ps e => ?_⟩, I.loc, I.cell, ?_, fun x c e => ?_, fun p hp' => ?_, fun b u e => ?_, I.len⟩
  · by_cases hb : b = y
    · subst hb; exact absurd (h0 _ e) hx
    · rw [upd_ne hb]; exact I.base.free b ob e n hx
  · obtain ⟨more, q⟩ := I.base.tbls b ps e
    exact ⟨more, up q⟩
  · rw [upd_ne hL]; exact I.free
  · rw [upd_ne (hc x c e)]; exact I.freeC x c e
  · obtain ⟨e, n, r⟩ := I.pin p hp'
    exact ⟨e, by rw [upd_ne (hp p hp')]; exact n, r⟩
  · by_cases hb : b = y
    · subst hb; rw [upd_same] at e; cases e; exact new
    · rw [upd_ne hb] at e
      exact (I.hok b u e).stay (fun c v _ q => q) (fun c q => up q) fun c xs q => up q
end
section
variable {X : Cx} {x : Str} {E : XK}
noncomputable def tTryAs (K : Frag) (E : XK) (W : Addr) (i : Nat) (tb ts : TS) : TS := fun D σ H => tb D σ H ∧ ∀ cls H', E cls none H' → ∃ C, cls = .ref C ∧ exmOne K (.ref C) (.ref W) = some true ∧
  ∀ a, H' a = none → ts { nx := fun σ' H2 => D.nx (σ'.set i none) H2, bk := fun σ' H2 => D.bk (σ'.set i none) H2, ct := fun σ' H2 => D.ct (σ'.set i none) H2, rt := D.rt } (σ.set i (some (.ref a))) (upd H' a (.ext (OfCls a C)))
theorem ps_tryAs {st b0 : Stmt} {suite : List Stmt} {tb ts : TS} {np hpos tpos : Pos} {W : Addr} {n : Str} {i : Nat} (hb : PSX X E st tb) (hW : X.mg x = some (.ref W)) (hg : Gl X x) (hst : X.stack = X.env :: X.outer) (hf : X.env.frame = some X.env.locals) (hno : X.xe = fun _ _ => False)
    (hN : X.N.Nodup) (hi : X.N[i]? = some n) (hk : X.env.scope.names.lookup n = some .local) (hsu : ∀ e, PSs (X.marked e) (b0 :: suite) ts) (hdb : (x == ("__debug__" : Str)) = false := by decide) (hE0 : ∀ cls c H', E cls c H' → E cls none H' := by exact fun _ _ _ h => h) :
    PS X (.Try [st] [.ExceptHandler (some (.Name x np)) (some n) (b0 :: suite) hpos] [] [] tpos) (tTryAs X.K E W i tb ts) := by
  intro pins s σ H D I h
  obtain ⟨h1, h2⟩ := h
  refine wpAny_Try_except (wpAny_execs_cons (wpAny_mono (hb pins s σ H D I h1) (fun f s1 q => ?_) fun e s1 fl => ?_))
  · cases f with
    | next => exact wpAny_execs_nil (wpAny_execs_nil q)
    | brk => exact q
    | cont => exact q
    | ret u => exact q
  · obtain ⟨H1, s0, I1, y, t, C', c2, H', B, rfl, os, bare, un, hok, stB, fl, kB, tB, hE⟩ := fl
    obtain ⟨C, ec, hx, hs'⟩ := h2 _ _ (hE0 _ _ _ hE)
    injection ec with ec
    subst ec
    rw [hst] at fl
    refine noteV (stack_of I1 hst) hf fl fun h4 held4 sm4 => ?_
    refine flightV (fr := none) held4 fun h5 held sm5 _ => ?_
    have fr1 : s1.heap.FunFrames B X.stack := by rw [hst]; exact fl.2.2.1
    have I5 : Inv X pins σ H' { s1 with heap := h5 } := Inv.flew I1 os bare un hok held.1 fr1 (sm4.trans sm5) kB tB
    refine wpAny_handleBy_cons (codeAny_handlers_test ?_) (by intro q; cases q)
    refine ld_glob (X := X.marked (.ref y)) (Inv.marked I5 (.ref y)) hg hW ?_ hdb
    have tyy : ∀ M : Model, Looks M h5 (typeOf (.ref y)) (.ref C') := fun M => (show OfCls y C' h5 from held.there).ty
    refine (exm_one (e := y) (I5.kIn) (tyy _) hx).at ?_
    refine codeAny_handlers_suite_as ?_
    refine flightV (fr := none) held fun h6 fl6 sm6 _ => ?_
    have I6 : Inv X pins σ H' { s1 with heap := h6 } := Inv.flew I1 os bare un hok fl6.1 fr1 ((sm4.trans sm5).trans sm6) kB tB
    have ynone : H' y = none := by
      cases q : H' y with
      | none => rfl
      | some u => obtain ⟨ob, e⟩ := (hok y u q).there; rw [fl6.2.1] at e; cases e
    have ynew : ∀ ob, s0.heap.get? y ≠ some ob := fun ob e => by
      by_cases hfr : y ∈ frs X.stack
      · rw [hst] at hfr
        obtain ⟨_, o', ho', hd'⟩ := fl6.2.2.1.mem hfr
        obtain ⟨oe, vs, _, _, _, he, _, hd, _⟩ := fl6.2.2.2
        rw [ho'] at he; cases he
        exact hd' _ hd
      · obtain ⟨o', e'⟩ := tB y ob e hfr
        rw [fl6.2.1] at e'; cases e'
    have I7 : Inv X pins σ (upd H' y (.ext (OfCls y C'))) { s1 with heap := h6 } := by
      refine Inv.know I6 ynone (fun ob e => ?_) (fun z => ?_) (fun x c e z => ?_) (fun p hp z => ?_) ⟨fl6.there, fl6.there.imp fun _ q => q.1, fun a b q k => ?_⟩
      · refine Classical.byContradiction fun hx => ?_
        obtain ⟨o', e'⟩ := I1.base.there y ob e hx
        exact ynew _ e'
      · obtain ⟨m, ⟨o, _, _, e, _⟩, _⟩ := I1.loc
        exact ynew _ (z ▸ e)
      · obtain ⟨v, o, e', _⟩ := I1.cell x c e
        exact ynew _ (z ▸ e')
      · exact ynew _ (z ▸ (I1.pin p hp).1)
      · obtain ⟨o, e, c⟩ := q
        exact ⟨o, k _ e, c⟩
    refine store_ok (X := X.marked (.ref y)) (Inv.marked I7 (.ref y)) hN hi (.inl hk) (v := .ref y) rfl (fun s8 I8 => ?_) (.inr hk)
    refine wpAny_mono (hsu (.ref y) pins _ _ _ _ I8 (hs' y ynone)) (fun f s2 q => ?_) fun _ _ z => False.elim z
    have q := SP.unmarked I.ok q
    cases f with
    | next => obtain ⟨σ9, H9, I9, q9⟩ := q; exact unset_ok I9 hN hi hk fun s' I' => ⟨_, _, I', q9⟩
    | brk => obtain ⟨σ9, H9, I9, q9⟩ := q; exact unset_ok I9 hN hi hk fun s' I' => ⟨_, _, I', q9⟩
    | cont => obtain ⟨σ9, H9, I9, q9⟩ := q; exact unset_ok I9 hN hi hk fun s' I' => ⟨_, _, I', q9⟩
    | ret u => obtain ⟨v9, σ9, H9, I9, r9, q9⟩ := q; exact unset_ok I9 hN hi hk fun s' I' => ⟨v9, _, _, I', r9, q9⟩
end
/-! ### what the fragment says of the exceptions' classes -/
section
variable {K : Frag} {t : Value} {C D W : Addr} {b : Bool}
theorem bb_ValueError : bootBuiltins "ValueError" = some (.type "ValueError") := by decide +kernel
theorem kitMeta_ValueError : kitMeta "ValueError" = true := by decide +kernel
theorem kitCls_of (hc : isClsIn K D = true) (ty : typeIn K (.ref D) = some (.type "type")) (s : subIn K t (.ref D) = some b) : kitCls K t (.ref D) = some b := by
  have hc' : (clsIn K D).isSome = true := hc
  unfold kitCls
  dsimp only
  rw [hc', ty]
  exact s
theorem kitOne_self : kitOne K t t = some true := by
  unfold kitOne
  rw [if_pos (beq_self_eq_true t)]
theorem kitOne_no (hs : subIn K (.ref C) (.ref C) = some true) (hc : isClsIn K D = true) (ty : typeIn K (.ref D) = some (.type "type")) (s : subIn K (.ref C) (.ref D) = some false) : kitOne K (.ref C) (.ref D) = some false := by
  unfold kitOne
  rw [if_neg, kitCls_of hc ty s]
  intro q
  rw [beq_iff_eq.mp q] at hs
  have e : (Value.ref C) = .ref D := beq_iff_eq.mp q
  rw [e, hs] at s
  cases s
theorem kitOne_val (s : subIn K (.ref C) (.type "ValueError") = some b) : kitOne K (.ref C) (.type "ValueError") = some b := by
  unfold kitOne
  rw [if_neg (fun q => by cases beq_iff_eq.mp q)]
  unfold kitCls
  dsimp only
  rw [if_pos kitMeta_ValueError]
  exact s
theorem exmOne_of (hb : subIn K (.ref W) (.type "BaseException") = some true) (hc : isClsIn K W = true) (ty : typeIn K (.ref W) = some (.type "type")) (s : subIn K (.ref C) (.ref W) = some true) : exmOne K (.ref C) (.ref W) = some true := by
  unfold exmOne
  rw [if_pos (by rw [hb]; rfl)]
  exact kitCls_of hc ty s
structure ExRel (K : Frag) (W C : Addr) (ds : List Addr) (bs : List Bool) : Prop where
  exc : ExC K C
  sub : exmOne K (.ref C) (.ref W) = some true
  val : kitOne K (.ref C) (.type "ValueError") = some true
  ans : ds.map (fun d => kitOne K (.ref C) (.ref d)) = bs.map some
theorem ex_nil {f : Addr → Option Bool} : ([] : List Addr).map f = ([] : List Bool).map some := rfl
theorem ex_cons {f : Addr → Option Bool} {d : Addr} {b : Bool} {ds : List Addr} {bs : List Bool} (h : f d = some b) (r : ds.map f = bs.map some) : (d :: ds).map f = (b :: bs).map some := by
  rw [List.map_cons, List.map_cons, h, r]
theorem ExRel.a0 {d : Addr} {b : Bool} {ds : List Addr} {bs : List Bool} (h : ExRel K W C (d :: ds) (b :: bs)) : kitOne K (.ref C) (.ref d) = some b := (List.cons.inj h.ans).1
theorem ExRel.tl {d : Addr} {b : Bool} {ds : List Addr} {bs : List Bool} (h : ExRel K W C (d :: ds) (b :: bs)) : ExRel K W C ds bs := ⟨h.exc, h.sub, h.val, (List.cons.inj h.ans).2⟩
theorem exRel_mk {ds : List Addr} {bs : List Bool} (xc : isClsIn K C = true) (xt : typeIn K (.ref C) = some (.type "type")) (xs : subIn K (.ref C) (.ref C) = some true) (xg : findIn K (.ref C) "__getattribute__" = some (some (.builtin "BaseException.__getattribute__"))) (xh : findIn K (.ref C) "__getattr__" = some none) (xe : subIn K (.ref C) (.type "BaseException") = some true)
    (xa : findIn K (.ref C) "__class__" = some (some (.builtin "object.__class__"))) (xn : specialIn K (.builtin "object.__class__") "__get__" = some (some (.builtin "getset_descriptor.__get__"))) (xk : takesIn K (.builtin "object.__class__") = some true)
    (xm : mroIn K C (.type "object") = some true) (xcW : isClsIn K W = true) (xtW : typeIn K (.ref W) = some (.type "type")) (xb : subIn K (.ref W) (.type "BaseException") = some true) (xw : subIn K (.ref C) (.ref W) = some true)
    (xv : subIn K (.ref C) (.type "ValueError") = some true) (ans : ds.map (fun d => kitOne K (.ref C) (.ref d)) = bs.map some) : ExRel K W C ds bs :=
  ⟨⟨kitCls_of xc xt xs, xg, xh, xe, xa, xn, xk, xm⟩, exmOne_of xb xcW xtW xw, kitOne_val xv, ans⟩
end
end Ww

set_option Elab.async false
set_option linter.all false
set_option maxRecDepth 100000
namespace Ww
open PySem PySem.W PySem.Spec PyProof.Rows L2
/-! ### lists of bools compared -/
noncomputable def rEqB (K : Frag) : R2 := fun x y H Q => ∃ (p p' : Addr) (bs cs : List Bool), x = .ref p ∧ y = .ref p' ∧ SqL K H p (bs.map V.bl) ∧ SqL K H p' (cs.map V.bl) ∧ Q (.bl (decide (bs = cs))) H
instance iN103 {K : Frag} : C2 (rEqB K) := ⟨fun _ _ _ _ _ k hh => by obtain ⟨p, p', bs, cs, a, b, c, d, q⟩ := hh; exact ⟨p, p', bs, cs, a, b, c, d, k _ _ q⟩⟩
theorem flat_bl (bs : List Bool) : (bs.map V.bl).all flatV = true := by
  rw [List.all_eq_true]
  intro v hv
  obtain ⟨b, _, rfl⟩ := List.mem_map.mp hv
  rfl
theorem eqV_bl (a b : Bool) : eqV (.bl a) (.bl b) = (a == b) := by cases a <;> cases b <;> rfl
theorem eq_bls (bs cs : List Bool) : (decide ((bs.map V.bl).length = (cs.map V.bl).length) && (List.range (bs.map V.bl).length).all fun j => eqV ((bs.map V.bl).getD j .non) ((cs.map V.bl).getD j .non)) = decide (bs = cs) := by
  rw [Bool.eq_iff_iff]
  simp only [Bool.and_eq_true, decide_eq_true_eq, List.length_map, List.all_eq_true, List.mem_range]
  constructor
  · rintro ⟨hl, h⟩
    refine List.ext_getElem hl fun i h1 h2 => ?_
    have := h i h1
    rw [List.getD_eq_getElem?_getD, List.getD_eq_getElem?_getD, List.getElem?_map, List.getElem?_map, List.getElem?_eq_getElem h1, List.getElem?_eq_getElem h2] at this
    simp only [Option.map_some, Option.getD_some, eqV_bl, beq_iff_eq] at this
    exact this
  · rintro rfl
    refine ⟨rfl, fun i hi => ?_⟩
    rw [List.getD_eq_getElem?_getD, List.getElem?_map, List.getElem?_eq_getElem hi]
    simp only [Option.map_some, Option.getD_some, eqV_bl, beq_self_eq_true]
section
variable {X : Cx}
theorem op_eq_bools {K : Frag} (hK : X.K = K) (hu : X.A.units + 1 < cLine) : OpR X (compareOp .Eq) (rEqB K) := by
  subst hK
  intro pins s σ H x y v u Q I rx ry h
  obtain ⟨p, p', bs, cs, rfl, rfl, h1, h2, q⟩ := h
  refine op_eq_flat (by omega) pins s σ H _ _ v u Q I rx ry ⟨p, p', _, _, rfl, rfl, h1, h2, flat_bl bs, flat_bl cs, ?_⟩
  rw [eq_bls]
  exact q
theorem pi_tupK {K : Frag} {tg : Expr} {e : Expr} {te : TE} (hK : X.K = K) (he : PE X e te) : PI X tg e (iTup K te) := by
  subst hK
  exact pi_tup he
end
inductive I_fo_tup (K : Frag) (g : TG) (tb : TS) (D : Ends) (σ : L2.St) (x : V) (H1 : Hp) : Prop
  | mk (a xs) (h1 : x = .ref a) (h2 : SqT K H1 a xs) (Pv : Nat → L2.St → Hp → Prop) (h3 : Pv 0 σ H1) (h4 : (∀ i σ H, i ≤ xs.length → Pv i σ H → SqT K H a xs)) (h5 : (∀ i x σ H, xs[i]? = some x → Pv i σ H → g x σ H fun σ2 H2 => tb { D with nx := Pv (i + 1), ct := Pv (i + 1), bk := D.nx } σ2 H2)) (h6 : ∀ σ H, Pv xs.length σ H → D.nx σ H)
end Ww

set_option Elab.async false
set_option linter.all false
set_option maxRecDepth 100000
namespace Ww
open PySem PySem.W PySem.Spec PyProof.Rows L2
/-! ### a class whose __init__ may raise, made inside a try -/
section
variable {X : Cx} {k k' : Nat} {f C : Addr} {fd : FuncData} {x : Str} {ps : List Str} {sp : Sp} {E : XK} {p pos : Pos} {e : Expr} {es : List Expr} {t : TA}
theorem run_makeX {pins : List (Addr × Obj)} {σ : L2.St} {H : Hp} {s : Shared} {Q : VK} {us : List Value} {vs : List V} (M : Mk X.K C f) (F : FnOk X.prog X.w X.K X.mg X.base (CXE X.prog X.w X.base) k f fd ps sp) (hr : Room (k + 1) X.A) {ds : List Value} {dvs : List V} (hb : Binds X.K fd ps ds) (hd : Vals dvs ds)
    (I : Inv X pins σ H s) (r : Vals vs us)
    (h : ∀ x dx, H x = none → H dx = none → dx ≠ x → sp (.ref x :: (vs ++ dvs)) (upd (upd H dx (.own x)) x (.ins C dx [])) (fun v H2 => v = .non ∧ Q (.ref x) H2) E) :
    wpAny (model X.prog X.w) X.A (call (.ref C) us) (EP X pins σ Q) (Flew X E pins σ) s := by
  have hq := h (s.heap.objs.size + 1) s.heap.objs.size (I.hok.fresh (Nat.le_succ _)) (I.hok.fresh (Nat.le_refl _)) (Nat.ne_of_lt (Nat.lt_succ_self _))
  have I2 := Inv.made (C := C) I
  have r2 : Vals (V.ref (s.heap.objs.size + 1) :: (vs ++ dvs)) (Value.ref (s.heap.objs.size + 1) :: (us ++ ds)) := .cons rfl (r.append hd)
  have hl : (Value.ref (s.heap.objs.size + 1) :: us ++ ds).length = ps.length := by
    have e := r2.length
    rw [F.len _ _ _ _ hq] at e
    exact e.symm
  refine wpAny_call (make_map (f := f) I.kIn M.makes M.init (beq_iff_eq.mp M.fn) (codeAny_mono (F.run _ X.stack _ _ ⟨Value.ref (s.heap.objs.size + 1) :: us, []⟩ (Value.ref (s.heap.objs.size + 1) :: (us ++ ds)) _ _ E (hr.make C us [])
    (I2.env0.make C us []) (hb _ (Value.ref (s.heap.objs.size + 1) :: us) I2.kIn hl) r2 hq) fun r s' hq' => ?_))
  cases r with
  | error e => exact ⟨_, _, I2, hq'⟩
  | ok fl =>
    cases fl with
    | ret u =>
      obtain ⟨v, H', I3, rv, ev, q3⟩ := I2.after hq'
      subst ev
      exact ⟨rv, ⟨V.ref (s.heap.objs.size + 1), H', I3, rfl, q3⟩⟩
    | next => exact False.elim hq'
    | brk => exact False.elim hq'
    | cont => exact False.elim hq'
theorem px_new (D : ClassOk X.prog X.w X.K X.mg X.base (CXE X.prog X.w X.base) k C x ps sp) (hr : Room k' X.A) (hk : k + 1 ≤ k') (hg : Gl X x) (ha : PA X (e :: es) t) (hno : X.xe = fun _ _ => False) (hdb : (x == ("__debug__" : Str)) = false := by decide)
    (he : starEach (e :: es) X.env = (false, eval e X.env) :: starEach es X.env := by rfl) (hpl : (backTo pos (starEach es X.env)).any (·.1) = false := by rfl) :
    PX X E (.Call (.Name x p) (e :: es) [] pos) (tMake C sp [] E t) := by
  obtain ⟨f, fd, F, h1, h2, h3⟩ := D.ex
  intro pins s σ H Q I h
  refine wpAny_Call_Name_kw (ld_glob I hg h2 ?_ hdb)
  refine PySem.W.callWith_K (h₀ := X.base) I.ok.mod.kin h1.kp (wpAny_mono (ha pos pins s σ H _ I h) (fun us s2 ⟨vs, H1, I1, r, q⟩ => ⟨I1.kIn, ?_⟩) fun _ _ z => by rw [hno] at z; exact z.elim) he hpl
  exact run_makeX h1 F (hr.mono hk) h3 .nil I1 r q
end
end Ww

set_option Elab.async false
set_option linter.all false
set_option maxRecDepth 100000
namespace Ww
open PySem PySem.W PySem.Spec PyProof.Rows L2
section
variable {X : Cx}
/-! ### f'..{i}..' -/
noncomputable def tFmt (ta : TE) : TE := fun σ H Q => ta σ H fun x H1 => ∃ i, x = .int i ∧ i.natAbs.log2 < 1920 ∧ Q (.str (toString i)) H1
inductive PJ (X : Cx) : List Expr → List TE → Prop
  | nil : PJ X [] []
  | cons {e : Expr} {es : List Expr} {t : TE} {ts : List TE} : PE X e t → PJ X es ts → PJ X (e :: es) (t :: ts)
/-! ### methods of texts -/
theorem strs_are : ∀ {ys : List Str} {us : List Value}, Vals (ys.map V.str) us → StrsAre us ys
  | [], _, .nil => .nil
  | y :: ys, _, .cons r t => by
    obtain ⟨k, rfl⟩ := r
    exact .cons y k (strs_are t)
noncomputable def rJoin (K : Frag) : V → List V → Hp → VK → Prop := fun x vs H Q => ∃ (sep : Str) (p : Addr) (ys : List Str), x = .str sep ∧ vs = [.ref p] ∧ SqL K H p (ys.map V.str) ∧ (ys.map (·.length)).sum + ys.length * sep.length ≤ 16777216 ∧ Q (.str (Txt.join sep ys)) H
theorem mt_join {K : Frag} (hK : X.K = K) : MtM X "str.join" (rJoin K) := by
  subst hK
  intro pins s σ H x vs v us Q I rx rv h
  obtain ⟨sep, p, ys, rfl, rfl, hq, hz, q⟩ := h
  obtain ⟨t, rfl⟩ := rx
  obtain ⟨u, rfl, ru⟩ := rv.one
  cases ru
  obtain ⟨its, r', pl, _⟩ := I.list hq
  exact join_list pl.isList (by simpa using strs_are r') hz fun t' k => ⟨.str _, H, I.tok _, ⟨_, rfl⟩, q⟩
noncomputable def rStarts : V → List V → Hp → VK → Prop := fun x vs H Q => ∃ (z y : Str), x = .str z ∧ vs = [.str y] ∧ Q (.bl (Txt.startswith z y)) H
theorem mt_startswith : MtM X "str.startswith" rStarts := by
  intro pins s σ H x vs v us Q I rx rv h
  obtain ⟨z, y, rfl, rfl, q⟩ := h
  obtain ⟨t, rfl⟩ := rx
  obtain ⟨u, rfl, t', rfl⟩ := rv.one
  exact SC.startswith ⟨.bl _, H, I, rfl, q⟩
noncomputable def rSplit : V → List V → Hp → VK → Prop := fun x vs H Q => ∃ (z y : Str), x = .str z ∧ vs = [.str y] ∧ (y.length == 0) = false ∧ z.length + 2 ≤ sizeLine ∧ ∀ l, H l = none → Q (.ref l) (upd H l (.lst ((Txt.split z y).map V.str)))
theorem vals_strs : ∀ {l : List (Str × Tok)}, Vals ((l.map (·.1)).map V.str) (strValues l)
  | [] => .nil
  | (y, t) :: l => .cons ⟨t, rfl⟩ (vals_strs (l := l))
theorem mt_split : MtM X "str.split" rSplit := by
  intro pins s σ H x vs v us Q I rx rv h
  obtain ⟨z, y, rfl, rfl, hy, hz, q⟩ := h
  obtain ⟨t, rfl⟩ := rx
  obtain ⟨u0, rfl, u, rfl⟩ := rv.one
  have sl := split_le z y
  have fin : ∀ (l : List (Str × Tok)) (k : Nat), l.map (·.1) = Txt.split z y → EP X pins σ Q (.ref s.heap.objs.size) { s with toks := k, heap := s.heap.push { cls := .type "list", data := .seq (strValues l).toArray } } := fun l k e =>
    ⟨.ref s.heap.objs.size, _, I.laid (t' := k) (o := .lst ((Txt.split z y).map V.str)) (fun b ob q => Heap.get?_push_of_some _ q) (Nat.le_refl _) ⟨by rw [List.length_map]; omega, _, 0, by rw [← e]; exact vals_strs, Heap.get?_push_size _ rfl⟩, rfl, q _ (I.hok.fresh (Nat.le_refl _))⟩
  cases h1 : (decide (z.length < y.length) || decide (Builtin.Str.strKind z < Builtin.Str.strKind y))
  · cases hf : (Builtin.Str.occurrences z y 0 z.length (z.length + 1)).isEmpty
    · refine call_meets F.slot_str_split (typeIs_str _ _ _) F.entry_str_split (F.args_str_split_2 _ _) (meets_str_split_sep z y t u h1 hy hf (by omega) (by rw [len_partsBetween]; have := StrLaws.occ_length_le z y 0 z.length (z.length + 1); omega)) ?_
      show wants _ _ _ { s with toks := _, heap := s.heap.push { cls := .type "list", data := .seq (strsFrom s.toks (Builtin.Str.partsBetween z (Builtin.Str.occurrences z y 0 z.length (z.length + 1)) y.length)).toArray } }
      rw [strsFrom_eq]
      exact fin (numbered s.toks _) _ ((numbered_texts _ _).trans ((if_neg (ne_true_of_eq_false h1)).trans (if_neg (ne_true_of_eq_false hf))).symm)
    · exact call_meets F.slot_str_split (typeIs_str _ _ _) F.entry_str_split (F.args_str_split_2 _ _) (meets_str_split_not_found z y t u h1 hy hf)
        (fin [(z, t)] s.toks ((if_neg (ne_true_of_eq_false h1)).trans (if_pos hf)).symm)
  · exact call_meets F.slot_str_split (typeIs_str _ _ _) F.entry_str_split (F.args_str_split_2 _ _) (meets_str_split_cannot_occur z y t u h1)
      (fin [(z, t)] s.toks (if_pos h1).symm)
/-! ### int(text) -/
theorem call_intText : CallR X (.type "int") (fun xs H Q => ∃ z n, xs = [.str z] ∧ PySem.intText? z = some n ∧ z.length ≤ 640 ∧ Q (.int n) H) := by
  intro pins s σ H xs us Q I r h
  obtain ⟨z, n, rfl, hn, hz, q⟩ := h
  obtain ⟨u, rfl, t, rfl⟩ := vals1 r
  exact KIN.call_text hn hz ⟨.int n, H, I.tok _, ⟨_, rfl⟩, q⟩
/-! ### try whose one statement does not raise -/
/-! ### the signs of a text, walked -/
noncomputable def Its (z : Str) : It := ⟨fun i _ => i < z.cps.size, fun i H x H' => H' = H ∧ ∃ c, z.cps[i]? = some c ∧ x = .str ⟨#[c]⟩, fun i _ => z.cps.size ≤ i⟩
theorem turn_str {P : Program} {w : World} {K : Frag} {tg : Expr} (it : Addr) (z : Str) (t : Tok) : Turn P w K tg (Its z) [it] it (fun i h => h.IsStrIter it "str_ascii_iterator" z t i) where
  mem := by simp
  obj := fun i h st b hb => by
    have e : b = it := by simpa using hb
    subst e
    obtain ⟨o, e, c, d⟩ := st
    exact ⟨o, e, fun v z => by rw [d] at z; cases z⟩
  keep := fun i h h' st k => let ⟨o, ho, r⟩ := st; ⟨o, k it (by simp) o ho, r⟩
  item := by
    intro X hP hw hK hc i pins s σ H E I hf st hg
    subst hP hw hK
    obtain ⟨f0, f1, f2, f3, f4, f5⟩ := hf it (by simp)
    have W := Walks.strAscii (prog := X.prog) (w := X.w) (I.ok.hd hc) it z t
    refine W.item i s _ _ hg st fun v h' tk hv st' kk => ?_
    obtain ⟨c, u, hcc, rfl⟩ := hv
    have I1 : Inv X pins σ H { s with heap := h', toks := tk } := I.turned (fun b o hb e => kk b o (by simpa using hb) e) f0 f1 f3 f4 f5
    obtain ⟨o, e, c', d⟩ := id st'
    exact ⟨_, rfl, go_of (s := { s with heap := h', toks := tk }) e c' d (by decide) ⟨.str ⟨#[c]⟩, H, I1, ⟨u, rfl⟩, ⟨rfl, c, hcc, rfl⟩, st', fun b hb => (hf b hb).1⟩⟩
  done := by
    intro X hP hw hK hc i pins s σ H E I hf st hg
    subst hP hw hK
    obtain ⟨f0, f1, f2, f3, f4, f5⟩ := hf it (by simp)
    exact wpAny_pyNext_ascii_end (I.ok.hd hc) st (by have hg' : z.cps.size ≤ i := hg; simp [hg']) fun h' eb => ⟨rfl, I.turned (t' := s.toks) (fun b o hb e => eb b o hb e) f0 f1 f3 f4 f5⟩
  self := fun _ _ _ _ _ st h => wpAny_pyIter_striter_ascii st h
noncomputable def iStr (tl : TE) : TI := fun σ H R => tl σ H fun x H1 => ∃ z, x = .str z ∧ z.cps.all (· < 128) = true ∧ R (Its z) H1
theorem pi_str {tg : Expr} {l : Expr} {tl : TE} (hl : PE X l tl) : PI X tg l (iStr tl) := by
  intro pins s σ H R I h
  refine thn (hl pins s σ H _ I h) fun v s1 ⟨x, H1, I1, r1, q1⟩ => ?_
  obtain ⟨z, e, ha, q⟩ := q1
  subst e
  obtain ⟨t, rfl⟩ := r1
  refine wpAny_pyIter_ascii ha ?_
  refine ⟨s1.heap.objs.size, [s1.heap.objs.size], _, _, H1, rfl, I1.kept (t' := s1.toks) fun b o e => Heap.get?_push_of_some _ e, turn_str _ z t, ⟨_, Heap.get?_push_size _ rfl, rfl, rfl⟩, fun b hb => ?_, q⟩
  have e : b = s1.heap.objs.size := by simpa using hb
  subst e
  exact I1.fpOk (Nat.le_refl _) (I1.hok.fresh (Nat.le_refl _))
theorem feeds_str {z : Str} {H1 : Hp} : Feeds (Its z) H1 z.cps.size (fun i x _ => ∃ c, z.cps[i]? = some c ∧ x = .str ⟨#[c]⟩) where
  go := fun i H' hi S => ⟨hi, fun x H'' hy => by obtain ⟨rfl, c, hc, rfl⟩ := hy; exact ⟨Same.refl _, c, hc, rfl⟩⟩
  stop := fun H' S => Nat.le_refl _
inductive I_cv_str (cap : List (Option Nat)) (g : TG) (tt : TT) (te : TE) (σ : L2.St) (Q : VK) (x : V) (H1 : Hp) : Prop
  | mk (z) (h1 : x = .str z) (h2 : z.cps.all (· < 128) = true) (h3 : z.cps.size < sizeLine) (Sh : L2.St → Prop) (c : Nat → Bool) (f : Nat → V) (h4 : Sh (capSt cap σ)) (h5 : (∀ i x σ H', i < z.cps.size → Sh σ → Same H1 H' → (∃ c, z.cps[i]? = some c ∧ x = .str ⟨#[c]⟩) → g x σ H' fun σ2 H2 => tt σ2 H2 fun b H3 => b = c i ∧ Same H' H3 ∧ Sh σ2 ∧ (c i = true → te σ2 H3 fun y H4 => y = f i ∧ Same H3 H4))) (h6 : ∀ l H', Same H1 H' → H1 l = none → H' l = some (.lst (((List.range z.cps.size).filter c).map f)) → Q (.ref l) H')
theorem cv_str {tl : TE} {cap : List (Option Nat)} {g : TG} {tt : TT} {te : TE} [CE tl] [CG g] [CT tt] [CE te] {σ : L2.St} {H : Hp} {Q : VK}
    (h : tl σ H fun x H1 => I_cv_str cap g tt te σ Q x H1) : tComp (iStr tl) cap g tt te σ H Q :=
  CE.m (t := tl) _ _ _ _ (fun x H1 hh => by obtain ⟨z, e, ha, hz, Sh, c, f, s0, hs, hd⟩ := hh; exact ⟨z, e, ha, comp_vals feeds_str Sh c f hz s0 hs hd⟩) h
/-! ### parts of a text -/
noncomputable def rSlS : V → Option Int → Option Int → Hp → VK → Prop := fun x lo hi H Q => ∃ z, x = .str z ∧ (StrLaws.sliceText z lo hi).length ≤ sizeLine ∧ Q (.str (StrLaws.sliceText z lo hi)) H
theorem slPart_of {v : Value} {o : Option Int} (h : IsPart v o) : ∃ p : Option (Int × Tok), v = partValue p ∧ p.map (·.1) = o := by
  cases h with
  | none => exact ⟨none, rfl, rfl⟩
  | int i t => exact ⟨some (i, t), rfl, rfl⟩
theorem sl_str : SlR X rSlS := by
  intro pins s σ H x v vl vu lo hi sl Q I rx hs pl pu h
  obtain ⟨z, rfl, hz, q⟩ := h
  obtain ⟨t, rfl⟩ := rx
  obtain ⟨l, rfl, rfl⟩ := slPart_of pl
  obtain ⟨u, rfl, rfl⟩ := slPart_of pu
  refine ⟨"str", _, F.slot_str_getitem.lookup, typeIs_str s z t, ?_⟩
  refine wpAny_getItem_str_slice (l := l) (u := u) (st := none) hs rfl ?_
  unfold sliceMade
  unfold StrLaws.sliceText at hz q
  show Made.post (if ((1 : Int) == 1 && (slicePicked z l u none).length == z.length) = true then _ else _) _ s
  split
  · rename_i hc
    have hc' : ((1 : Int) == 1 && (Builtin.Str.strSliceIndices (l.map (·.1)) (u.map (·.1)) 1 z.length).length == z.length) = true := hc
    rw [if_pos hc'] at q
    exact ⟨.str _, H, I, ⟨_, rfl⟩, q⟩
  · rename_i hc
    have hc' : ¬ ((1 : Int) == 1 && (Builtin.Str.strSliceIndices (l.map (·.1)) (u.map (·.1)) 1 z.length).length == z.length) = true := hc
    rw [if_neg hc'] at hz q
    exact ⟨hz, .str _, H, I.tok _, ⟨_, rfl⟩, q⟩
theorem pe_gstr {x : Str} {z : Str} {t : Tok} {pos : Pos} (hg : Gl X x) (hm : X.mg x = some (.str z t)) (hd : (x == ("__debug__" : Str)) = false := by decide) : PE X (.Name x pos) (tC (.str z)) := pe_glob hg hm ⟨t, rfl⟩ hd
theorem call_tuple_ofK {K : Frag} (hK : X.K = K) : CallR X (.type "tuple") (fun xs H Q => ∃ p ys, xs = [.ref p] ∧ ((SqL K H p ys ∧ ∀ l, H l = none → Q (.ref l) (upd H l (.tup ys))) ∨ (SqT K H p ys ∧ Q (.ref p) H))) := by
  subst hK
  exact call_tuple_of
/-! ### lists of the same tuples -/
noncomputable def rEqTs (K : Frag) : R2 := fun x y H Q => ∃ (p p' : Addr) (as bs : List Addr) (ks : List (List Int)), x = .ref p ∧ y = .ref p' ∧ SqL K H p (as.map V.ref) ∧ SqL K H p' (bs.map V.ref) ∧ TupsAt H as ks ∧ TupsAt H bs ks ∧ Q (.bl true) H
/-! ### a list is empty? -/
noncomputable def rEqE (K : Frag) : R2 := fun x y H Q => ∃ (p p' : Addr) (xs : List V), x = .ref p ∧ y = .ref p' ∧ SqL K H p xs ∧ SqL K H p' [] ∧ xs.all flatV = true ∧ Q (.bl (decide (xs.length = 0))) H
theorem op_eq_empty {K : Frag} (hK : X.K = K) (hu : X.A.units + 1 < cLine) : OpR X (compareOp .Eq) (rEqE K) := by
  subst hK
  intro pins s σ H x y v u Q I rx ry h
  obtain ⟨p, p', xs, rfl, rfl, h1, h2, fl, q⟩ := h
  refine op_eq_flat (Nat.lt_of_succ_lt hu) pins s σ H _ _ v u Q I rx ry ⟨p, p', _, _, rfl, rfl, h1, h2, fl, rfl, ?_⟩
  cases xs with
  | nil => exact q
  | cons a r => exact q
theorem flat_strs (ys : List Str) : (ys.map V.str).all flatV = true := by
  rw [List.all_eq_true]
  intro v hv
  obtain ⟨x, _, rfl⟩ := List.mem_map.mp hv
  rfl
/-! ### weakening -/
instance iN104 {K : Frag} : CM (rJoin K) := ⟨fun _ _ _ _ _ k hh => by obtain ⟨sep, p, ys, a, b, c, d, q⟩ := hh; exact ⟨sep, p, ys, a, b, c, d, k _ _ q⟩⟩
instance iN105 : CM rStarts := ⟨fun _ _ _ _ _ k hh => by obtain ⟨z, y, a, b, q⟩ := hh; exact ⟨z, y, a, b, k _ _ q⟩⟩
instance iN106 : CM rSplit := ⟨fun _ _ _ _ _ k hh => by obtain ⟨z, y, a, b, c, d, q⟩ := hh; exact ⟨z, y, a, b, c, d, fun l hl => k _ _ (q l hl)⟩⟩
instance iN107 : CSl rSlS := ⟨fun _ _ _ _ _ _ k hh => by obtain ⟨z, a, b, q⟩ := hh; exact ⟨z, a, b, k _ _ q⟩⟩
instance iN108 : CC (fun xs H Q => ∃ z, xs = [V.str z] ∧ z.length ≤ sizeLine ∧ Q (.int z.length) H) := ⟨fun _ _ _ _ k hh => by obtain ⟨z, a, b, q⟩ := hh; exact ⟨z, a, b, k _ _ q⟩⟩
instance iN109 : CC (fun xs H Q => ∃ i, xs = [V.int i] ∧ i.natAbs.log2 < 1920 ∧ Q (.str (toString i)) H) := ⟨fun _ _ _ _ k hh => by obtain ⟨z, a, b, q⟩ := hh; exact ⟨z, a, b, k _ _ q⟩⟩
instance iN110 : CC (fun xs H Q => ∃ z n, xs = [V.str z] ∧ PySem.intText? z = some n ∧ z.length ≤ 640 ∧ Q (.int n) H) := ⟨fun _ _ _ _ k hh => by obtain ⟨z, n, a, b, c, q⟩ := hh; exact ⟨z, n, a, b, c, k _ _ q⟩⟩
instance iN111 {K : Frag} : CC (fun xs H Q => ∃ p ys, xs = [V.ref p] ∧ ((SqL K H p ys ∧ ∀ l, H l = none → Q (.ref l) (upd H l (.tup ys))) ∨ (SqT K H p ys ∧ Q (.ref p) H))) := ⟨fun _ _ _ _ k hh => by obtain ⟨p, ys, a, b⟩ := hh; exact ⟨p, ys, a, b.elim (fun z => .inl ⟨z.1, fun l hl => k _ _ (z.2 l hl)⟩) fun z => .inr ⟨z.1, k _ _ z.2⟩⟩⟩
instance iN112 : C2 (fun x y H Q => ∃ i j, x = V.str i ∧ y = V.str j ∧ i.length + j.length ≤ sizeLine ∧ Q (.str (i ++ j)) H) := ⟨fun _ _ _ _ _ k hh => by obtain ⟨i, j, a, b, c, q⟩ := hh; exact ⟨i, j, a, b, c, k _ _ q⟩⟩
instance iN113 : C2 (fun x y H Q => ∃ i j, x = V.str i ∧ y = V.str j ∧ Q (.bl (!(Builtin.Str.occurrences j i 0 j.length 1).isEmpty)) H) := ⟨fun _ _ _ _ _ k hh => by obtain ⟨i, j, a, b, q⟩ := hh; exact ⟨i, j, a, b, k _ _ q⟩⟩
instance iN114 {K : Frag} : C2 (rEqTs K) := ⟨fun _ _ _ _ _ k hh => by obtain ⟨p, p', as, bs, ks, a, b, c, d, e, f, q⟩ := hh; exact ⟨p, p', as, bs, ks, a, b, c, d, e, f, k _ _ q⟩⟩
instance iN115 {K : Frag} : C2 (rEqE K) := ⟨fun _ _ _ _ _ k hh => by obtain ⟨p, p', xs, a, b, c, d, e, q⟩ := hh; exact ⟨p, p', xs, a, b, c, d, e, k _ _ q⟩⟩
instance iN116 {tl : TE} [CE tl] : CI (iStr tl) := ⟨fun _ _ _ _ k h => CE.m (t := tl) _ _ _ _ (fun _ _ ⟨z, a, b, q⟩ => ⟨z, a, b, k _ _ q⟩) h⟩
instance iN117 {ta : TE} [CE ta] : CE (tFmt ta) := ⟨fun _ _ _ _ k h => CE.m (t := ta) _ _ _ _ (fun _ _ ⟨i, a, b, q⟩ => ⟨i, a, b, k _ _ q⟩) h⟩
inductive I_sortedT (K : Frag) (xs : List V) (H : Hp) (Q : VK) : Prop
  | mk (p : Addr) (as : List Addr) (ks : List (List Int)) (h1 : xs = [.ref p]) (h2 : SqL K H p (as.map V.ref)) (h3 : TupsAt H as ks) (h4 : ∀ k ∈ ks, k ≠ []) (h5 : as.length < 64)
    (h6 : ∀ l as' ks', H l = none → TupsAt H as' ks' → (as'.zip ks').Perm (as.zip ks) → ks'.Pairwise (fun a b => lexI b a = false) → Q (.ref l) (upd H l (.lst (as'.map V.ref))))
noncomputable def rSortedT (K : Frag) : List V → Hp → VK → Prop := fun xs H Q => I_sortedT K xs H Q
instance iN118 {K : Frag} : CC (rSortedT K) := ⟨fun _ _ _ _ k hh => by obtain ⟨p, as, ks, a, b, c, d, e, q⟩ := hh; exact ⟨p, as, ks, a, b, c, d, e, fun l as' ks' z1 z2 z3 z4 => k _ _ (q l as' ks' z1 z2 z3 z4)⟩⟩
end
theorem bb_str : bootBuiltins "str" = some (.type "str") := by decide +kernel
end Ww

set_option Elab.async false
set_option linter.all false
set_option maxRecDepth 100000
namespace Ww
open PySem PySem.W PySem.Spec PyProof.Rows L2
noncomputable def PassesM (X : Cx) (E : XK) : Prop := ∀ (pins : List (Addr × Obj)) (σ : L2.St) (H1 : Hp) (s1 : Shared) (ch : List Addr) (x t C : Addr) (c2 : Option Addr) (H' : Hp) (B : Heap) (s' : Shared), Inv X pins σ H1 s1 → (∀ b ∈ ch, X.s₀.heap.objs.size ≤ b) → s'.os = s1.os → AllBare s'.gens →
  Un (frs X.stack) ch H1 H' s1.heap s'.heap → HOk X.prog X.w H' B → X.base.StaysIn B → (∃ fl, HeldV B X.stack x (.ref C) (.ref t) (cxV c2) fl s'.heap) →
  (∀ b o, s1.heap.get? b = some o → H1 b = none → b ∉ frs X.stack → b ∉ ch → B.get? b = some o) → (∀ b o, s1.heap.get? b = some o → b ∉ frs X.stack → b ∉ ch → ∃ o', B.get? b = some o') → E (.ref C) c2 H' → X.xe (.ref x) s'
section
variable {CX : CXT} {P : Program} {w : World} {K : Frag} {mg : Str → Option Value} {base : Heap} {N : List Str} {qual : Str} {scope : Scope} {f : Addr} {cd : Value} {A : Around} {outer : List Env} {s : Shared} {H : Hp} {E : XK}
theorem passesM_def : PassesM (cxOf (CXE P w base) P w K mg base N qual scope f cd A outer s H E) E := by
  intro pins σ H1 s1 ch x t C c2 H' B s' I hch os bare un hok stB mk kB tB hE
  show wpAny (model P w) (A.deeper (envOfC qual scope s.heap.objs.size f cd)) (leaving (envOfC qual scope s.heap.objs.size f cd) (.ref x)) _ _ _
  have hfr : (A.deeper (envOfC qual scope s.heap.objs.size f cd)).frames = some (envOfC qual scope s.heap.objs.size f cd :: outer) := I.ok.frames
  obtain ⟨fl0, mk⟩ := mk
  refine leaveV hfr rfl mk fun h2 fl2 up => ?_
  have old : ∀ b o, s.heap.get? b = some o → b ∉ ch := fun b o hb z => absurd (Heap.lt_size hb) (Nat.not_lt.mpr (hch b z))
  have inS : ∀ b, b ∈ frs outer → b ∈ frs (envOfC qual scope s.heap.objs.size f cd :: outer) := fun b hf => by
    unfold frs at hf ⊢
    rw [List.filterMap_cons]
    exact List.mem_cons_of_mem _ hf
  have neL : ∀ b o, s.heap.get? b = some o → b ∉ frs outer → b ∉ frs (envOfC qual scope s.heap.objs.size f cd :: outer) := fun b o hb hn z => by
    have hz : b = s.heap.objs.size ∨ b ∈ frs outer := by
      unfold frs at z ⊢
      rw [List.filterMap_cons] at z
      exact List.mem_cons.mp z
    rcases hz with rfl | hz
    · exact absurd (Heap.lt_size hb) (Nat.lt_irrefl _)
    · exact hn hz
  have kB' : ∀ b o, s.heap.get? b = some o → H b = none → b ∉ frs outer → B.get? b = some o := fun b o hb hn hf =>
    kB b o (I.base.keep b o hb hn hf List.not_mem_nil) (I.base.free b o hb hn List.not_mem_nil) (neL b o hb hf) (old b o hb)
  have tB' : ∀ b o, s.heap.get? b = some o → b ∉ frs outer → ∃ o', B.get? b = some o' := fun b o hb hf => by
    obtain ⟨o', e1⟩ := I.base.there b o hb List.not_mem_nil
    exact tB b o' e1 (neL b o hb hf) (old b o hb)
  have slotF : ∀ b o, s1.heap.get? b = some o → H1 b = none → b ∉ ch → b ∈ frs (envOfC qual scope s.heap.objs.size f cd :: outer) → ∃ sl, h2.get? b = some { o with slots := sl } := fun b o hb hn hc hf => by
    obtain ⟨sl, e1⟩ := un.slot b o hb hn hf hc
    obtain ⟨_, o', ho', hd'⟩ := mk.2.2.1.mem hf
    rw [e1] at ho'; cases ho'
    obtain ⟨sl', e2⟩ := up b _ e1 hd'
    exact ⟨sl', e2⟩
  refine ⟨x, t, C, c2, H', B, rfl, os.trans I.os, bare, ⟨fun b o hb hn hf _ => fl2.1 _ _ (kB' b o hb hn hf), fun b o hb hn hf _ => ?_, fun b o hb hn _ => ?_, fun b o hb _ => ?_, fun b xs e => un.tups b xs (I.base.tups b xs e), fun b o u e => un.frzs b o u (I.base.frzs b o u e), fun b ps e => ?_⟩, hok, stB, fl2, kB', tB', hE⟩
  · obtain ⟨sl, e1⟩ := I.base.slot b o hb hn hf List.not_mem_nil
    obtain ⟨sl', e2⟩ := slotF b _ e1 (I.base.free b o hb hn List.not_mem_nil) (old b o hb) (inS b hf)
    exact ⟨sl', e2⟩
  · obtain ⟨o', e1⟩ := I.base.there b o hb List.not_mem_nil
    exact un.free b o' e1 (I.base.free b o hb hn List.not_mem_nil) (old b o hb)
  · obtain ⟨o', e1⟩ := I.base.there b o hb List.not_mem_nil
    by_cases hf : b ∈ frs (envOfC qual scope s.heap.objs.size f cd :: outer)
    · obtain ⟨sl, e2⟩ := slotF b o' e1 (I.stkFree b hf) (old b o hb) hf
      exact ⟨_, e2⟩
    · obtain ⟨o2, e2⟩ := tB b o' e1 hf (old b o hb)
      exact ⟨o2, fl2.1 _ _ e2⟩
  · obtain ⟨m1, e1⟩ := I.base.tbls b ps e
    obtain ⟨m2, e2⟩ := un.tbls b _ e1
    exact ⟨m1 ++ m2, by rw [e2, Array.append_assoc]⟩
end
/-! ### a comprehension whose parts may raise -/
theorem frames_move {h h' base base' : Heap} : ∀ {l : List Env}, h.FunFrames base l → (∀ a ∈ frs l, ∀ o, h.get? a = some o → (∀ vs, o.data ≠ .fields vs) → ∃ sl, h'.get? a = some { o with slots := sl }) → (∀ a, base.get? a = none → base'.get? a = none) → h'.FunFrames base' l
  | [], _, _, _ => trivial
  | env :: l, ⟨hk, ⟨L, o, hf, hn, ho, hd⟩, hr⟩, k, kb => by
    have inl : ∀ a ∈ frs l, a ∈ frs (env :: l) := fun a ha => by
      unfold frs at ha ⊢
      rw [List.filterMap_cons, hf]
      exact List.mem_cons_of_mem _ ha
    obtain ⟨sl, e⟩ := k L (by unfold frs; rw [List.filterMap_cons, hf]; exact List.mem_cons_self) o ho hd
    exact ⟨hk, ⟨L, _, hf, kb L hn, e, hd⟩, frames_move hr (fun a ha => k a (inl a ha)) kb⟩
section
variable {X : Cx} {pins : List (Addr × Obj)} {σ : L2.St} {H1 : Hp} {s1 s' : Shared} {E : XK} {C : Addr} {m : Str → Option Value}
theorem comp_out {e : Value} {env : Env} {R : Result → Shared → Prop} (hp : PassesM X E) (hst : X.stack = X.env :: X.outer) (hf : X.env.frame = some X.env.locals) (henv : env.frame = X.env.frame) (IX : Inv X pins σ H1 s1) (hn : s1.heap.Ns C m) (hC : H1 C = none) (hCs : C ∉ frs X.stack) (hC0 : X.s₀.heap.objs.size ≤ C)
    (cx : CXE X.prog X.w X.base X.stack H1 s1 E e s')
    (hR : ∀ s'', (∃ m, s''.heap.Ns C m ∧ ∀ h', Heap.SameBut C s''.heap h' → ∀ cenv : Env, cenv.locals = C → wpAny (model X.prog X.w) X.A (PySem.passOn "comprehension.variables-let-go" e cenv : Sem Value) (fun _ _ => False) X.xe { s'' with heap := h' }) → R (.error e) s'') :
    notedBy (model X.prog X.w) X.A env (fun e s' => R (.error e) s') e s' := by
  obtain ⟨x, t, C1, c2, H', B, rfl, os, bare, un, hok, stB, fl, kB, tB, hE⟩ := cx
  have e1 : noteFrame (.ref x) env = noteFrame (.ref x) X.env := by
    unfold noteFrame PySem.frameOf
    rw [henv]
  show wpAny _ X.A (noteFrame (.ref x) env) _ _ s'
  rw [e1]
  rw [hst] at fl
  refine noteV (stack_of IX hst) hf fl fun h4 held4 sm4 => ?_
  obtain ⟨oC, es, ep, hoC, hdC, hkC⟩ := id hn
  have eC' : s'.heap.get? C = some oC := un.keep C oC hoC hC hCs List.not_mem_nil
  have eB : B.get? C = some oC := kB C oC hoC hC hCs
  have hn4 : h4.Ns C m := sm4.ns ⟨oC, es, ep, eC', hdC, hkC⟩
  refine hR _ ⟨m, hn4, fun h5 sb cenv _ => ?_⟩
  obtain ⟨k1, k2, k3, k4⟩ := held4
  obtain ⟨oe, vs, T, oT, ts, he, hcls, hd, hv1, hnT, hTe, hT, hdT, h3⟩ := k4
  have xC : x ≠ C := fun z => by rw [z, eB] at k2; cases k2
  have tC : T ≠ C := fun z => by rw [z, eB] at hnT; cases hnT
  have g5 : ∀ b, b ≠ C → h5.get? b = h4.get? b := fun b hb => sb.2 b hb
  have he5 : h5.get? x = some oe := (g5 x xC).trans he
  have hT5 : h5.get? T = some oT := (g5 T tC).trans hT
  have h3s : 3 < ts.size := (Array.getElem?_eq_some_iff.mp h3).1
  unfold PySem.passOn
  refine wpAny_bind (wpAny_field he5 hd hv1 ?_)
  rw [if_neg (fun z => by cases (show (Value.ref T == Value.none) = true from z))]
  unfold setFlight
  refine wpAny_bind (wpAny_bind (wpAny_field he5 hd hv1 ?_))
  rw [if_pos (by rfl)]
  refine wpAny_setField hT5 hdT h3s (wpAny_throw ?_)
  have g6 : ∀ b, b ≠ T → (h5.update T (Obj.mapFields (·.setIfInBounds 3 (cenv.frame.elim Value.none fun f => rawInt f)))).get? b = h5.get? b := fun b hb => Heap.get?_update_other _ _ fun z => hb z.symm
  have hdT6 := Obj.data_mapFields hdT (·.setIfInBounds 3 (cenv.frame.elim Value.none fun f => rawInt f))
  have hT6 := Heap.get?_update_self (Obj.mapFields (·.setIfInBounds 3 (cenv.frame.elim Value.none fun f => rawInt f))) hT5 (Obj.isFreed_of_fields hdT6)
  generalize h5.update T (Obj.mapFields (·.setIfInBounds 3 (cenv.frame.elim Value.none fun f => rawInt f))) = h6 at g6 hT6 ⊢
  have mem1 : ∀ b, b ∉ [C] → b ≠ C := fun b hb z => hb (by rw [z]; exact List.mem_singleton.mpr rfl)
  have fromB : ∀ b o, B.get? b = some o → b ≠ C → h6.get? b = some o := fun b o q hb => by
    rw [g6 b (fun z => by rw [z, hnT] at q; cases q), g5 b hb]
    exact k1 b o q
  have fra : ∀ b ∈ frs X.stack, ∀ o, s'.heap.get? b = some o → (∀ vs, o.data ≠ .fields vs) → ∃ sl, h6.get? b = some { o with slots := sl } := fun b hb o q hnf => by
    obtain ⟨sl, e⟩ := sm4 b o q hnf
    refine ⟨sl, ?_⟩
    rw [g6 b (fun z => ?_), g5 b (fun z => hCs (z ▸ hb))]
    · exact e
    · rw [z, hT] at e
      injection e with e
      exact hnf ts (by rw [e] at hdT; exact hdT)
  have dat : ∀ b ∈ frs X.stack, ∀ o, s'.heap.get? b = some o → ∀ vs, o.data ≠ .fields vs := fun b hb o q vs z => by
    rw [hst] at hb
    obtain ⟨_, o', ho', hd'⟩ := fl.2.2.1.mem hb
    rw [q] at ho'; cases ho'
    exact hd' vs z
  refine hp pins σ H1 s1 [C] x t C1 c2 H' (hideAll B [C]) _ IX (fun b hb => by rw [List.mem_singleton.mp hb]; exact hC0) os bare ⟨fun b o hb hn hf hx => ?_, fun b o hb hn hf hx => ?_, fun b o hb hn hx => un.free b o hb hn List.not_mem_nil, fun b o hb hx => ?_, un.tups, un.frzs, un.tbls⟩ (fun b u q => ?_) (fun b o q => ?_) ⟨(cenv.frame.elim Value.none fun f => rawInt f), fun b o q => ?_, ?_, ?_, oe, vs, T, _, _, ?_, hcls, hd, hv1, ?_, hTe, hT6, hdT6, by simp [h3s]⟩ (fun b o hb hn hf hx => hideAll_get _ (kB b o hb hn hf) hx) (fun b o hb hf hx => ?_) hE
  · exact fromB b o (kB b o hb hn hf) (mem1 b hx)
  · obtain ⟨sl, q⟩ := un.slot b o hb hn hf List.not_mem_nil
    obtain ⟨sl', q'⟩ := fra b hf _ q (dat b hf _ q)
    exact ⟨sl', q'⟩
  · by_cases hf : b ∈ frs X.stack
    · obtain ⟨o', q⟩ := un.there b o hb List.not_mem_nil
      obtain ⟨sl', q'⟩ := fra b hf _ q (dat b hf _ q)
      exact ⟨_, q'⟩
    · obtain ⟨o', q⟩ := tB b o hb hf
      exact ⟨o', fromB b o' q (mem1 b hx)⟩
  · have hC' : H' C = none := un.free C oC hoC hC List.not_mem_nil
    exact (hok b u q).stay (fun c v hc r => hideAll_get _ r fun z => by
      rw [List.mem_singleton] at z
      subst z
      rcases hc with rfl | hc
      · rw [q] at hC'; cases hC'
      · rw [hc] at hC'; cases hC') (fun _ r => r) fun _ _ r => r
  · refine hideAll_get _ (stB b o q) fun z => ?_
    rw [List.mem_singleton] at z
    subst z
    exact absurd (Nat.lt_of_lt_of_le (Heap.lt_size q) (Nat.le_trans IX.ok.bsz hC0)) (Nat.lt_irrefl _)
  · refine fromB b o (of_hideAll _ q) fun z => ?_
    rw [z, hideAll_none [C] (List.mem_singleton.mpr rfl)] at q
    cases q
  · cases q : (hideAll B [C]).get? x with
    | none => rfl
    | some o => rw [of_hideAll _ q] at k2; cases k2
  · rw [hst]
    refine frames_move fl.2.2.1 (fun a ha o q hnf => fra a (by rw [hst]; exact ha) o q hnf) fun a q => ?_
    cases r : (hideAll B [C]).get? a with
    | none => rfl
    | some o => rw [of_hideAll _ r] at q; cases q
  · rw [g6 x hTe.symm]; exact he5
  · cases q : (hideAll B [C]).get? T with
    | none => rfl
    | some o => rw [of_hideAll _ q] at hnT; cases hnT
  · obtain ⟨o', q⟩ := tB b o hb hf
    exact ⟨o', hideAll_get _ q hx⟩
end
section
variable {prog : Program} {w : World} {A : Around} {EX : Value → Shared → Prop} {R : Result → Shared → Prop} {s : Shared}
theorem compLoop_X {elt target iter : Expr} {ifs : List Expr} {scope : Scope} {pos : Pos} {it acc : Value} {env : Env} (hEX : ∀ e s', EX e s' → notedBy (model prog w) A env (fun e s' => R (.error e) s') e s') (I : Nat → Shared → Prop)
    (turn : ∀ n s, I n s → wpAny (model prog w) A (pyNext it) (fun r s₁ => match r with
      | none => R (.ok .next) s₁
      | some v => wpAny (model prog w) A (letOwnedTupleGo target it v) (fun _ s₁ => wpAny (model prog w) A (assign target env v) (fun _ s₂ =>
          wpAny (model prog w) A (forIn ifs true fun c r => if r = true then do let ok ← isTrue c env (eval c env); pure (ForInStep.yield ok) else pure (ForInStep.yield r)) (fun ok s₃ =>
            if ok = true then wpAny (model prog w) A (eval elt env) (fun x s₄ =>
              wpAny (model prog w) A (call (.builtin "list.append") [acc, x]) (fun _ s₅ => ∃ m, m < n ∧ I m s₅) EX s₄) EX s₃
            else ∃ m, m < n ∧ I m s₃) EX s₂) EX s₁) EX s₁) EX s)
    (n : Nat) (h : I n s) :
    codeAny (model prog w) A (.compLoop (.ListComp elt [⟨target, iter, ifs, 0⟩] scope pos) 0 it acc env) R s := by
  refine codeAny_loop rfl I (fun n s hI => ?_) n h
  show wpAny _ A ((compTurn (.ListComp elt [⟨target, iter, ifs, 0⟩] scope pos) 0 it acc env).onRaise _) _ _ s
  refine wpAny_noted ?_
  rw [compTurn_list]
  refine wpAny_bind (wpAny_standAt (wpAny_bind (wpAny_mono (turn n s hI) (fun r s₁ h₁ => ?_) hEX)))
  cases r with
  | none => exact wpAny_pure h₁
  | some v =>
    refine wpAny_bind (wpAny_mono h₁ (fun _ s₁ h₁ => ?_) hEX)
    refine wpAny_bind (wpAny_mono h₁ (fun _ s₂ h₂ => wpAny_bind (wpAny_mono h₂ (fun ok s₃ h₃ => ?_) hEX)) hEX)
    cases ok with
    | false => exact wpAny_pure ⟨rfl, h₃⟩
    | true =>
      exact wpAny_bind (wpAny_bind (wpAny_mono h₃ (fun x s₄ h₄ => wpAny_bind (wpAny_mono h₄ (fun _ s₅ h₅ => wpAny_pure (wpAny_pure ⟨rfl, h₅⟩)) hEX)) hEX))
end
noncomputable def FlewAt (X : Cx) (E : XK) : Value → Shared → Prop := fun e s' => ∃ pins σ, Flew X E pins σ e s'
noncomputable def cxW (X : Cx) (scope : Scope) (cl : List (Str × Addr)) (N' : List Str) (C : Addr) (s₀ : Shared) (H₀ : Hp) (ex : List Addr) (EK : XK) : Cx := (cxD X scope cl N' C s₀ H₀ ex).wish (FlewAt (cxD X scope cl N' C s₀ H₀ ex) EK)
theorem passes_comp {X : Cx} {scope : Scope} {cl : List (Str × Addr)} {N' : List Str} {C : Addr} {s₀ : Shared} {H₀ : Hp} {ex : List Addr} {EK : XK} : Passes (CXE X.prog X.w X.base) (cxW X scope cl N' C s₀ H₀ ex EK) EK := fun pins σ H s e s' I cx => ⟨pins, σ, H, s, I.unwish, cx⟩
noncomputable def CompDoneX (X : Cx) (pins : List (Addr × Obj)) (σ : L2.St) (Q : VK) (acc : Value) (C : Addr) (r : Result) (s' : Shared) : Prop := match r with
  | .ok _ => ∃ H', Inv X pins σ H' s' ∧ FpOk X pins H' C ∧ (∃ m, s'.heap.Ns C m) ∧ ∃ l, acc = .ref l ∧ Q (.ref l) H'
  | .error e => ∃ m, s'.heap.Ns C m ∧ ∀ h', Heap.SameBut C s'.heap h' → ∀ cenv : Env, cenv.locals = C → wpAny (model X.prog X.w) X.A (PySem.passOn "comprehension.variables-let-go" e cenv : Sem Value) (fun _ _ => False) X.xe { s' with heap := h' }
section
variable {X : Cx} {pins : List (Addr × Obj)} {σ : L2.St} {H : Hp} {s : Shared}
theorem comp_runX {elt tg iter : Expr} {ifs : List Expr} {scope : Scope} {pos : Pos} {N' : List Str} {cap : List (Option Nat)} {cl : List (Str × Addr)} {g : TG} {tt : TT} {te : TE} {J : It} {fp : List Addr} {it : Addr} {tn : Nat → Heap → Prop} {Q : VK} {E : Value → Shared → Prop} {EK : XK} (hp : PassesM X EK) (hst : X.stack = X.env :: X.outer) (hff : X.env.frame = some X.env.locals)
    (S : CompScopeD X.env.scope scope X.N N' cap) (hcalm : X.calm = true)
    (inner : ∀ cl C s₀ H₀ ex, PG (cxW X scope cl N' C s₀ H₀ ex EK) tg g ∧ PTs (cxW X scope cl N' C s₀ H₀ ex EK) ifs tt ∧ PE (cxW X scope cl N' C s₀ H₀ ex EK) elt te)
    (hcl : ∀ x c, cl.lookup x = some c → X.env.cells.lookup x = some c) (hcl2 : ∀ y ∈ scope.names, y.2 = .free → ∃ c, cl.lookup y.1 = some c)
    (I : Inv X pins σ H s) (T : Turn X.prog X.w X.K tg J fp it tn) (st : tn 0 s.heap) (hfp : ∀ b ∈ fp, FpOk X pins H b)
    (hR : ∀ acc, H acc = none → ∃ W : Nat → Nat → List V → L2.St → Hp → Prop, (∃ m, W 0 m [] (capSt cap σ) (upd H acc (.lst []))) ∧ ∀ i m ys σ' H', W i m ys σ' H' → H' acc = some (.lst ys) ∧ ys.length < sizeLine ∧
      ((J.stop i H' ∧ Q (.ref acc) H') ∨ (J.go i H' ∧ ∀ x H'', J.yld i H' x H'' → g x σ' H'' fun σ2 H2 => tt σ2 H2 fun b H3 =>
        if b = true then te σ2 H3 fun y H4 => H4 acc = some (.lst ys) ∧ ∃ m', m' < m ∧ W (i + 1) m' (ys ++ [y]) σ2 (upd H4 acc (.lst (ys ++ [y]))) else ∃ m', m' < m ∧ W (i + 1) m' ys σ2 H3))) :
    wpAny (model X.prog X.w) X.A (newList []) (fun acc s₃ => wpAny (model X.prog X.w) X.A (newFunctionEnv scope X.env.globals cl [] X.env.qual none .none (some X.env)) (fun cenv s₄ =>
      codeAny (model X.prog X.w) X.A (.compStart (.ListComp elt [⟨tg, iter, ifs, 0⟩] scope pos) 0 (.ref it) acc { cenv with scope := relabel scope X.env }) (CompDoneX X pins σ Q acc cenv.locals) s₄) E s₃) E s := by
  refine wpAny_newObj_type (newEnvC fun h₁ keep₁ hns₁ ok₁ => ?_)
  have hnone : H s.heap.objs.size = none := I.hok.fresh (Nat.le_refl _)
  have I3 : Inv X pins σ (upd H s.heap.objs.size (.lst [])) { s with heap := s.heap.push { cls := .type "list", data := .seq ([] : List Value).toArray }, toks := s.toks } := I.lnew (its := []) .nil (Nat.zero_le _)
  have fpo := T.obj 0 s.heap st
  have fplt : ∀ b ∈ fp, b < s.heap.objs.size := fun b hb => by
    obtain ⟨o, e, _⟩ := fpo b hb
    exact Heap.lt_size e
  have hfp3 : ∀ b ∈ fp, FpOk X pins (upd H s.heap.objs.size (.lst [])) b := fun b hb => ⟨by rw [upd_ne (Nat.ne_of_lt (fplt b hb))]; exact (hfp b hb).1, (hfp b hb).2⟩
  have sz3 : (s.heap.push { cls := .type "list", data := .seq ([] : List Value).toArray }).objs.size = s.heap.objs.size + 1 := by rw [Heap.size_push]
  have fplt3 : ∀ b ∈ fp, b < (s.heap.push { cls := .type "list", data := .seq ([] : List Value).toArray }).objs.size := fun b hb => by rw [sz3]; exact Nat.lt_succ_of_lt (fplt b hb)
  have CD := cellsD_of S I3 hcl hcl2 ok₁
  have I4 := inv_blockD (t' := s.toks) S hcalm I3 CD hfp3 fplt3 hns₁ keep₁
  have keep : ∀ b o, s.heap.get? b = some o → h₁.get? b = some o := fun b o e => keep₁ b o (Heap.get?_push_of_some _ e)
  have st4 : tn 0 h₁ := T.keep 0 _ _ st fun b hb o e => keep b o e
  generalize hcs : cellsFrom ((s.heap.push { cls := .type "list", data := .seq ([] : List Value).toArray }).objs.size + 1) scope.names [] ++ cl = cs at CD I4
  obtain ⟨W, ⟨m0, w0⟩, turn⟩ := hR _ hnone
  dsimp only at I4 hcs ⊢
  -- the loop
  have loop : codeAny (model X.prog X.w) X.A (.compLoop (.ListComp elt [⟨tg, iter, ifs, 0⟩] scope pos) 0 (.ref it) (.ref s.heap.objs.size) (compEnvC scope cs (s.heap.push { cls := .type "list", data := .seq ([] : List Value).toArray }).objs.size X.env))
      (CompDoneX X pins σ Q (.ref s.heap.objs.size) (s.heap.push { cls := .type "list", data := .seq ([] : List Value).toArray }).objs.size) { s with heap := h₁, toks := s.toks } := by
    generalize hX' : cxD X scope cs N' (s.heap.push { cls := .type "list", data := .seq ([] : List Value).toArray }).objs.size { s with heap := s.heap.push { cls := .type "list", data := .seq ([] : List Value).toArray }, toks := s.toks } (upd H s.heap.objs.size (.lst [])) fp = X' at I4
    obtain ⟨pg, pts, pe⟩ := inner cs (s.heap.push { cls := .type "list", data := .seq ([] : List Value).toArray }).objs.size { s with heap := s.heap.push { cls := .type "list", data := .seq ([] : List Value).toArray }, toks := s.toks } (upd H s.heap.objs.size (.lst [])) fp
    unfold cxW at pg pts pe
    rw [hX'] at pg pts pe
    have eP : X'.prog = X.prog := by rw [← hX']; rfl
    have eW : X'.w = X.w := by rw [← hX']; rfl
    have eK : X'.K = X.K := by rw [← hX']; rfl
    have eA : X'.A = X.A := by rw [← hX']; rfl
    have eC : X'.calm = true := by rw [← hX']; exact hcalm
    have eE : X'.env = compEnvC scope cs (s.heap.push { cls := .type "list", data := .seq ([] : List Value).toArray }).objs.size X.env := by rw [← hX']; rfl
    have eS : X'.stack = X.stack := by rw [← hX']; rfl
    have eB : X'.base = X.base := by rw [← hX']; rfl
    have stat : ∀ {H' : Hp}, (∀ b ∈ fp, H' b = none) → ∀ b ∈ fp, FpOk X' [] H' b := fun {H'} hn b hb => by
      obtain ⟨_, f1, f2, f3, f4, f5⟩ := hfp3 b hb
      refine ⟨hn b hb, ?_, ?_, ?_, fun x c e => ?_, fun p hp => ?_⟩
      · rw [eE]; exact Nat.ne_of_lt (fplt3 b hb)
      · rw [← hX']
        intro hb2
        rcases List.mem_cons.mp (I3.stkSub b hb2) with z | z
        · exact f1 z
        · exact f2 z
      · left; rw [← hX']; exact hb
      · rw [eE] at e
        rcases CD.or x c e with y | ⟨y, _⟩
        · exact f4 x c y
        · intro z; rw [z] at y; exact absurd (Nat.lt_trans y (fplt3 b hb)) (Nat.lt_irrefl _)
      · rw [← hX'] at hp
        exact absurd hp (by show p ∉ ([] : List (Addr × Obj)) ++ []; simp)
    rw [← eP, ← eW, ← eA, ← eE]
    refine compLoop_X (EX := FlewAt X' EK) (fun e s' he => ?hEX) (fun n s' => ∃ i ys σ' H', Inv X' [] σ' H' s' ∧ tn i s'.heap ∧ (∀ b ∈ fp, H' b = none) ∧ W i n ys σ' H') ?_ m0 ⟨0, [], _, _, I4, st4, fun b hb => (hfp3 b hb).1, w0⟩
    case hEX =>
      obtain ⟨pins', σ', H1, s1, I1, cx⟩ := he
      have base := I1.base
      have os := I1.os
      have hok := I1.hok
      rw [← hX'] at base os hok
      have IX : Inv X pins σ H1 s1 := I3.call' (ch := fp) os base hok I1.bare fun b hb => by
        obtain ⟨_, f1, f2, f3, f4, f5⟩ := hfp3 b hb
        exact ⟨f3, f1, f4, f5⟩
      obtain ⟨m, hn, _⟩ := I1.loc
      rw [eE] at hn
      have fr := I1.free
      rw [eE] at fr
      rw [eP, eW, eB, eS] at cx
      rw [eP, eW, eA, eE]
      have F := I3.fpOk (H' := H1) (Nat.le_refl _) fr
      refine comp_out hp hst hff rfl IX hn fr (fun z => ?_) (Nat.le_trans I3.sz (Nat.le_refl _)) cx fun s'' q => q
      rcases List.mem_cons.mp (I3.stkSub _ z) with q | q
      · exact F.2.1 q
      · exact F.2.2.1 q
    rintro n s3 ⟨i, ys, σ3, H3, J3, st3, fr3, w3⟩
    obtain ⟨ha, hz, hor⟩ := turn i n ys σ3 H3 w3
    rw [← eP, ← eW, ← eK] at T
    rcases hor with ⟨stop, qn⟩ | ⟨go, step⟩
    · refine thn (T.done X' rfl rfl rfl eC i [] s3 σ3 H3 _ J3 (stat fr3) st3 stop) fun r s4 ⟨hr, I5⟩ => ?_
      subst hr
      refine ⟨H3, ?_, ?_, ?_, s.heap.objs.size, rfl, qn⟩
      · have base := I5.base
        have os := I5.os
        have hok := I5.hok
        rw [← hX'] at base os hok
        refine I3.call' (ch := fp) os base hok I5.bare fun b hb => ?_
        obtain ⟨_, f1, f2, f3, f4, f5⟩ := hfp3 b hb
        exact ⟨f3, f1, f4, f5⟩
      · refine I3.fpOk (Nat.le_refl _) ?_
        have := I5.free
        rw [eE] at this
        exact this
      · obtain ⟨m, hn, _⟩ := I5.loc
        rw [eE] at hn
        exact ⟨m, hn⟩
    · refine thn (T.item X' rfl rfl rfl eC i [] s3 σ3 H3 _ J3 (stat fr3) st3 go) fun r s4 ⟨u, hr, h4⟩ => ?_
      subst hr
      refine thn h4 fun _ s5 ⟨x, H5, I5, r5, y5, st5, fr5⟩ => ?_
      have I5' := I5.pinned (stat fr5) (T.obj _ _ st5)
      have hpg := pg _ s5 σ3 H5 x u _ (I5'.wish _) r5 (step x H5 y5)
      refine thn hpg fun _ s6 ⟨σ6, H6, I6, q6⟩ => ?_
      have hpt := pts _ s6 σ6 H6 _ I6 q6
      refine thn hpt fun b s7 ⟨H7, I7, q7⟩ => ?_
      have fin : ∀ {s8 : Shared} {H8 : Hp} {ys' : List V}, Inv X' ([] ++ pinsAt fp s5.heap) σ6 H8 s8 → (∃ m', m' < n ∧ W (i + 1) m' ys' σ6 H8) → ∃ m, m < n ∧ ∃ i ys σ' H', Inv X' [] σ' H' s8 ∧ tn i s8.heap ∧ (∀ b ∈ fp, H' b = none) ∧ W i m ys σ' H' := fun {s8 H8 ys'} I8 ⟨m', hm, w8⟩ => by
        refine ⟨m', hm, i + 1, ys', σ6, H8, I8.unpinned, T.keep _ _ _ st5 fun b hb o e => (I8.pin (b, o) (List.mem_append_right _ (List.mem_append_right _ (mem_pinsAt hb e)))).1, fun b hb => ?_, w8⟩
        obtain ⟨o, e, d⟩ := T.obj _ _ st5 b hb
        exact (I8.pin (b, o) (List.mem_append_right _ (List.mem_append_right _ (mem_pinsAt hb e)))).2.1
      cases b with
      | false =>
        rw [if_neg (by simp)] at q7 ⊢
        exact fin I7.unwish q7
      | true =>
        rw [if_pos rfl] at q7 ⊢
        have hpe := pe _ s7 σ6 H7 _ I7 q7
        refine thn hpe fun v s8 ⟨y, H8, I8, r8, e8, q8⟩ => ?_
        have hap := mt_append (X := X'.wish (FlewAt X' EK)) _ s8 σ6 H8 (.ref s.heap.objs.size) [y] (.ref s.heap.objs.size) [v] (fun w H9 => H9 = upd H8 s.heap.objs.size (.lst (ys ++ [y]))) I8 rfl (.cons r8 .nil) ⟨_, ys, y, rfl, rfl, e8, hz, rfl⟩
        refine thn hap fun v2 s9 ⟨y2, H9, I9, r9, e9⟩ => ?_
        subst e9
        exact fin I9.unwish q8
  exact codeAny_compStart_list loop (T.self X.A 0 _ _ _ st4 loop)
end
section
variable {X : Cx} {elt tg iter : Expr} {ifs : List Expr} {scope : Scope} {pos : Pos} {N' : List Str} {cap : List (Option Nat)} {wi : TI} {g : TG} {tt : TT} {te : TE} {EK : XK}
theorem pe_compX (hp : PassesM X EK) (hst : X.stack = X.env :: X.outer) (hff : X.env.frame = some X.env.locals) (S : CompScopeD X.env.scope scope X.N N' cap) (hcalm : X.calm = true) (hi : PI X tg iter wi)
    (hnd : N'.Nodup) (inner : ∀ cl C s₀ H₀ ex, (cxW X scope cl N' C s₀ H₀ ex EK).N.Nodup → PG (cxW X scope cl N' C s₀ H₀ ex EK) tg g ∧ PTs (cxW X scope cl N' C s₀ H₀ ex EK) ifs tt ∧ PE (cxW X scope cl N' C s₀ H₀ ex EK) elt te)
    (hs : ∀ x, foldedSetIterable iter X.env x = pure x := by intro _; rfl) : PE X (.ListComp elt [⟨tg, iter, ifs, 0⟩] scope pos) (tComp wi cap g tt te) := by
  intro pins s σ H Q I h
  obtain ⟨cl, e1, e2, e3⟩ := closure_of (free_cellsD S I)
  rw [eval_ListComp]
  refine wpAny_comprehension_free (use := none) rfl hs e1 S.kind S.names (wpAny_mono (hi pins s σ H _ I h) (fun xv s₁ h₁ => wpAny_mono h₁ (fun itv s₂ h₂ => ?_) fun _ _ e => e) fun _ _ e => e)
  obtain ⟨it, fp, tn, J, H2, rfl, I2, T, st2, f2, hR⟩ := h₂
  refine wpAny_mono (comp_runX (Q := Q) (E := X.xe) hp hst hff S hcalm (fun cl C s₀ H₀ ex => inner cl C s₀ H₀ ex hnd) e2 e3 I2 T st2 f2 hR) (fun acc s₃ h₃ => wpAny_mono h₃ (fun cenv s₄ h₄ => codeAny_mono h₄ fun r s' hd => ?_) fun _ _ e => e) fun _ _ e => e
  cases r with
  | error e => exact hd
  | ok f =>
  obtain ⟨H', I', F', ⟨m, hm⟩, l, rfl, q⟩ := hd
  refine ⟨m, hm, fun h' hsb => ⟨.ref l, H', ?_, rfl, q⟩⟩
  obtain ⟨f0, f1, f2', f3, f4, f5⟩ := F'
  exact I'.turned (t' := s'.toks) (fun b o hb e => (hsb.2 b hb).trans e) f0 f1 f3 f4 f5
theorem ps_setCompX {i : Nat} {x : Str} {px spos : Pos} (hp : PassesM X EK) (hst : X.stack = X.env :: X.outer) (hff : X.env.frame = some X.env.locals) (S : CompScopeD X.env.scope scope X.N N' cap) (hcalm : X.calm = true) (hN : X.N.Nodup) (hx : X.N[i]? = some x) (hl : X.env.scope.names.lookup x = some .local) (hi : PI X tg iter wi)
    (hnd : N'.Nodup) (inner : ∀ cl C s₀ H₀ ex, (cxW X scope cl N' C s₀ H₀ ex EK).N.Nodup → PG (cxW X scope cl N' C s₀ H₀ ex EK) tg g ∧ PTs (cxW X scope cl N' C s₀ H₀ ex EK) ifs tt ∧ PE (cxW X scope cl N' C s₀ H₀ ex EK) elt te)
    (hsw : swapsWith (.ListComp elt [⟨tg, iter, ifs, 0⟩] scope pos) (some (.Name x px)) spos.line X.env = pure true := by rfl)
    (hs : ∀ x, foldedSetIterable iter X.env x = pure x := by intro _; rfl) : PS X (.Assign [.Name x px] (.ListComp elt [⟨tg, iter, ifs, 0⟩] scope pos) spos) (tAsg (tComp wi cap g tt te) (gName i)) := by
  intro pins s σ H D I h
  obtain ⟨cl, e1, e2, e3⟩ := closure_of (free_cellsD S I)
  rw [exec_Assign_Name_used _ _ _ _ hsw]
  refine wpAny_bind (wpAny_standAt (wpAny_bind ?_))
  show wpAny _ X.A (do let _ ← comprehension (.ListComp elt [⟨tg, iter, ifs, 0⟩] scope pos) scope X.env _ (newList []) false (eval iter X.env) (some (assign (.Name x px) X.env))) _ _ s
  refine wpAny_bind (wpAny_mono (wpAny_comprehension_free (use := some (assign (.Name x px) X.env)) (Q := fun _ s' => SP X pins D .next s') rfl hs e1 S.kind S.names
    (wpAny_mono (hi pins s σ H _ I h) (fun xv s₁ h₁ => wpAny_mono h₁ (fun itv s₂ h₂ => ?_) fun _ _ e => e) fun _ _ e => e)) (fun _ s' hq => wpAny_pure (wpAny_pure hq)) fun _ _ e => e)
  obtain ⟨it, fp, tn, J, H2, rfl, I2, T, st2, f2, hR⟩ := h₂
  refine wpAny_mono (comp_runX (Q := fun v H' => gName i v σ H' D.nx) (E := X.xe) hp hst hff S hcalm (fun cl C s₀ H₀ ex => inner cl C s₀ H₀ ex hnd) e2 e3 I2 T st2 f2 hR) (fun acc s₃ h₃ => wpAny_mono h₃ (fun cenv s₄ h₄ => codeAny_mono h₄ fun r s' hd => ?_) fun _ _ e => e) fun _ _ e => e
  cases r with
  | error e => exact hd
  | ok f =>
  obtain ⟨H', I', F', ⟨m, hm⟩, l, rfl, q⟩ := hd
  show wpAny _ X.A (assign (.Name x px) X.env (.ref l)) _ _ _
  have F1 : ∀ b ∈ [cenv.locals], FpOk X pins H' b := fun b hb => by rw [List.mem_singleton.mp hb]; exact F'
  obtain ⟨oC, es, ep, hoC, hdC, hkC, hmC⟩ := id hm
  have Ip := I'.pinned F1 fun b hb => by
    rw [List.mem_singleton.mp hb]
    exact ⟨oC, hoC, fun v z => by rw [hdC] at z; cases z⟩
  refine wpAny_assign_Name (store_ok Ip hN hx (.inl hl) (v := .ref l) rfl (fun s5 I5 => ?_) (.inr hl))
  have hC5 := (I5.pin (cenv.locals, oC) (List.mem_append_right _ (List.mem_append_right _ (mem_pinsAt (List.mem_singleton.mpr rfl) hoC)))).1
  refine ⟨m, ⟨oC, es, ep, hC5, hdC, hkC, hmC⟩, fun h' hsb => ?_⟩
  obtain ⟨f0, f1, f2', f3, f4, f5⟩ := F'
  exact ⟨_, H', I5.unpinned.turned (t' := s5.toks) (fun b o hb e => (hsb.2 b hb).trans e) f0 f1 f3 f4 f5, q⟩
end
end Ww

set_option Elab.async false
set_option linter.all false
set_option maxRecDepth 100000
namespace Ww
open PySem PySem.W PySem.Spec PyProof.Rows L2
section
variable {M : Model} {A : Around} {E : Value → Shared → Prop} {s : Shared} {K : Frag}
theorem excFrom {y C : Addr} {oy : Obj} {vs : Array Value} {msg : String} {Q : Value → Shared → Prop} (ey : s.heap.get? y = some oy) (ec : oy.cls = .ref C) (hd : oy.data = .fields vs) (kin : K.In s.heap) (sub : subIn K (.ref C) (.type "BaseException") = some true) (h : Q (.ref y) s) : wpAny M A (excFromValue (.ref y) msg) Q E s := by
  have ty : Looks M s.heap (typeOf (.ref y)) (.ref C) := (show OfCls y C s.heap from ⟨oy, ey, ec⟩).ty
  unfold excFromValue isExcClass
  refine wpAny_bind (wpAny_bind ?_)
  unfold isType
  refine wpAny_bind (wpAny_loadPart ey ?_)
  refine wpAny_pure ?_
  rw [hd]
  dsimp only
  rw [if_neg Bool.false_ne_true]
  refine wpAny_pure ?_
  rw [if_neg Bool.false_ne_true]
  refine wpAny_bind ?_
  unfold isInstance
  refine wpAny_bind (ty A _ E s (fun _ _ e => e) ?_)
  refine (looks_subIn kin sub) A _ E s (fun _ _ e => e) ?_
  rw [if_pos rfl]
  exact wpAny_pure h
end
theorem entry_unchain : entryFor table "proto.unchain" = some Builtin.«proto.unchain» := entryFor_of_tree (by kernel_rfl)
section
variable {prog : Program} {w : World} {A : Around} {E : Value → Shared → Prop} {s : Shared}
theorem raiseNewH {α : Type} {e y : Addr} {oy oe : Obj} {vs ws : Array Value} {Q : α → Shared → Prop} (hh : A.handled = some (.ref y)) (ne : y ≠ e) (ey : s.heap.get? y = some oy) (dy : oy.data = .fields vs) (h2 : vs[2]? = some Value.none) (ee : s.heap.get? e = some oe) (de : oe.data = .fields ws) (hsz : 2 < ws.size)
    (h : E (.ref e) { s with heap := s.heap.update e (Obj.mapFields (·.setIfInBounds 2 (.ref y))) }) : wpAny (model prog w) A (raiseNew (.ref e) : Sem α) Q E s := by
  unfold raiseNew
  refine wpAny_bind (wpAny_handled ?_)
  rw [hh]
  dsimp only
  rw [if_pos (by simpa using ne)]
  refine wpAny_bind (wpAny_holding (wpAny_runValue (codeAny_builtin entry_unchain ?_)))
  unfold Builtin.«proto.unchain»
  dsimp only
  refine wpAny_bind (wpAny_field ey dy h2 ?_)
  rw [if_pos (by rfl)]
  refine wpAny_pure ?_
  dsimp only
  refine wpAny_bind ?_
  unfold updateField
  refine wpAny_bind (wpAny_load ee ?_)
  rw [de]
  dsimp only
  rw [if_pos hsz]
  exact wpAny_update ee (wpAny_throw h)
end
section
variable {X : Cx} {pins : List (Addr × Obj)} {σ : L2.St} {H : Hp} {s : Shared}
theorem eval_exc {x m : Str} {C : Addr} {np cpos p2 : Pos} {j : Nat} {Q : Value → Shared → Prop} (O : XCls X.K X.mg X.base x C) (hg : Gl X x) (I : Inv X pins σ H s) (q : ∀ s2 e us h', Inv X pins σ H s2 → Heap.MadeExcOf s2.heap h' e (.ref C) us → Q (.ref e) { s2 with heap := h' }) (hd : (x == ("__debug__" : Str)) = false := by decide)
    (hs : starEach [.Constant (.str m) j p2] X.env = [(false, eval (.Constant (.str m) j p2) X.env)] := by rfl) : wpAny (model X.prog X.w) X.A (eval (.Call (.Name x np) [.Constant (.str m) j p2] [] cpos) X.env) Q X.xe s := by
  obtain ⟨tl, N, nm, qn, bs, hdct, sn, sub, ab, col, dd, k0, k1, k2, k3, k5, mN, hC, hN, hni, T⟩ := O.own.obj
  refine wpAny_Call_ofName (thn ((pe_glob (v := .ref C) hg O.own.bound rfl hd) pins s σ H (fun v H1 => v = .ref C ∧ H1 = H) I ⟨rfl, rfl⟩) fun f s1 ⟨v, H1, I1, r1, e1, e2⟩ => ?_)
  subst e1 e2
  obtain rfl : f = Value.ref C := r1
  have ev := (pa_cons (pe_str (X := X) (x := m) (j := j) (pos := p2)) pa_nil hs) cpos pins s1 σ H1 (fun vs H2 => H2 = H1 ∧ vs.length = 1) I1 ⟨rfl, rfl⟩
  rw [hs] at ev ⊢
  unfold callWith
  refine wpAny_bind (wpAny_holding (Calls.evalArgs_plain (thn ev fun us s2 ⟨vs, H2, I2, r2, q2, q3⟩ => ?_)))
  subst q2
  refine wpAny_bind (wpAny_standAt ?_)
  have hC2 := I2.bk _ _ hC
  have hN2 := hN.keeps I2.bk
  have T2 := T.keeps I2.bk
  have q' := q s2
  have ul : us.length ≤ sizeLine := by rw [← r2.length, q3]; decide
  obtain ⟨hp, g, d, tk, os⟩ := s2
  refine wpAny_bind (wpAny_keeperOf_exc hC2 ?_)
  refine wpAny_bind (wpAny_call_exc_subT (hrest := ul) PySem.F.excBase_ValueError T2 hC2 hN2 hni fun h' e hm => wpAny_bind (wpAny_holding (wpAny_point (wpAny_pure ?_))))
  exact q' e us h' I2 hm
end
section
variable {X : Cx} {pins : List (Addr × Obj)} {σ : L2.St} {H : Hp} {s : Shared}
theorem ld_var {i : Nat} {x : Str} {y : Addr} {pos : Pos} {Q : Value → Shared → Prop} {E : Value → Shared → Prop} (I : Inv X pins σ H s) (hN : X.N[i]? = some x) (hv : Vis X.env.scope x) (e : σ[i]? = some (some (.ref y))) (h : Q (.ref y) s) (hd : (x == ("__debug__" : Str)) = false := by decide) (hcd : (x == ("__classdict__" : Str)) = false := by decide) : wpAny (model X.prog X.w) X.A (eval (.Name x pos) X.env) Q E s := by
  obtain ⟨m, hn, hl⟩ := I.loc
  obtain ⟨u, r, l⟩ := hl i x _ hN e hv
  obtain rfl : u = Value.ref y := r
  rcases l with ⟨hk, hm⟩ | ⟨hk, c, hc, hcell⟩
  · exact wpAny_Name (wpAny_loadName_local I.ok.kind hk hn hm h) hd
  · rcases hk with hk | hk
    · exact wpAny_Name (wpAny_loadName_cell I.ok.kind hk hc hcell h) hd
    · exact wpAny_Name (wpAny_loadName_free I.ok.kind hk hc hcell h hcd) hd
noncomputable def CtxOf (y C : Addr) (h : Heap) : Prop := ∃ oy vs, h.get? y = some oy ∧ oy.cls = .ref C ∧ oy.data = .fields vs ∧ vs[2]? = some Value.none
theorem raise_from {x m n : Str} {i : Nat} {C C' y : Addr} {np cpos p2 np3 pos : Pos} {j : Nat} {Q : Flow → Shared → Prop} {EX : Value → Shared → Prop} (O : XCls X.K X.mg X.base x C) (hg : Gl X x) (hno : X.xe = fun _ _ => False) (hN : X.N[i]? = some n) (hv : Vis X.env.scope n) (hh : X.A.handled = some (.ref y)) (I : Inv X pins σ H s) (hy : σ[i]? = some (some (.ref y))) (hHy : H y = some (.ext (CtxOf y C')))
    (sub' : subIn X.K (.ref C') (.type "BaseException") = some true) (sub : subIn X.K (.ref C) (.type "BaseException") = some true)
    (q : ∀ s2 e h', Inv X pins σ H s2 → s2.heap.get? e = none → (∀ b o, s2.heap.get? b = some o → h'.get? b = some o) → (∃ oe ws t, h'.get? e = some oe ∧ oe.cls = .ref C ∧ oe.data = .fields ws ∧ ws[0]? = some (.ref t) ∧ ws[1]? = some Value.none ∧ ws[2]? = some (.ref y)) → EX (.ref e) { s2 with heap := h' })
    (hd : (x == ("__debug__" : Str)) = false := by decide) (hdn : (n == ("__debug__" : Str)) = false := by decide) (hcn : (n == ("__classdict__" : Str)) = false := by decide)
    (hs : starEach [.Constant (.str m) j p2] X.env = [(false, eval (.Constant (.str m) j p2) X.env)] := by rfl) :
    wpAny (model X.prog X.w) X.A (exec (.Raise (some (.Call (.Name x np) [.Constant (.str m) j p2] [] cpos)) (some (.Name n np3)) pos) X.env) Q EX s := by
  rw [arm_exec_Raise]
  refine wpAny_bind (wpAny_standAt ?_)
  simp only [evalOpt, Option.map]
  unfold raiseStmt
  dsimp only
  have ev := eval_exc (m := m) (np := np) (cpos := cpos) (p2 := p2) (j := j) (Q := fun v s3 => ∃ s2 e us h', v = .ref e ∧ s3 = { s2 with heap := h' } ∧ Inv X pins σ H s2 ∧ Heap.MadeExcOf s2.heap h' e (.ref C) us) O hg I (fun s2 e us h' I2 hm => ⟨s2, e, us, h', rfl, rfl, I2, hm⟩) hd hs
  rw [hno] at ev
  refine wpAny_bind (wpAny_bind (wpAny_mono ev (fun v s3 h3 => wpAny_bind (wpAny_standAt (wpAny_pure ?_))) fun _ _ z => z.elim))
  obtain ⟨s2, e, us, h', rfl, rfl, I2, hm⟩ := h3
  have I3 : Inv X pins σ H { s2 with heap := h' } := I2.kept (t' := s2.toks) hm.keeps
  obtain ⟨oy, vs, ey, ecy, dy, vy2⟩ := (I3.hok y _ hHy).1
  obtain ⟨t, ee, _, _⟩ := hm.there
  refine wpAny_bind (wpAny_holding (wpAny_bind (ld_var I3 hN hv hy (wpAny_bind (wpAny_standAt (wpAny_pure ?_))) hdn hcn)))
  refine wpAny_bind (wpAny_pure ?_)
  refine wpAny_bind (wpAny_holding (excFrom (K := X.K) ee rfl rfl I3.kIn sub ?_))
  dsimp only
  rw [if_neg (fun z => by cases (show (Value.ref y == Value.none) = true from z))]
  refine wpAny_bind (wpAny_holding (excFrom (K := X.K) ey ecy dy I3.kIn sub' ?_))
  have yne : y ≠ e := fun z => by
    subst z
    rw [ee] at ey
    injection ey with ey
    obtain ⟨oy2, vs2, ey2, _⟩ := (I2.hok y _ hHy).1
    rw [hm.new] at ey2; cases ey2
  -- the cause
  refine wpAny_bind (wpAny_setField ee rfl (by simp) ?_)
  have g1 : ∀ b, b ≠ e → (h'.update e (Obj.mapFields (·.setIfInBounds 3 (.ref y)))).get? b = h'.get? b := fun b hb => Heap.get?_update_other _ _ fun z => hb z.symm
  have e1 := Heap.get?_update_self (Obj.mapFields (·.setIfInBounds 3 (Value.ref y))) ee rfl
  generalize h'.update e (Obj.mapFields (·.setIfInBounds 3 (Value.ref y))) = h4 at g1 e1 ⊢
  refine wpAny_bind (wpAny_setField e1 rfl (by simp) ?_)
  have g2 : ∀ b, b ≠ e → (h4.update e (Obj.mapFields (·.setIfInBounds 4 (.bool true)))).get? b = h4.get? b := fun b hb => Heap.get?_update_other _ _ fun z => hb z.symm
  have e2 := Heap.get?_update_self (Obj.mapFields (·.setIfInBounds 4 (Value.bool true))) e1 rfl
  generalize h4.update e (Obj.mapFields (·.setIfInBounds 4 (Value.bool true))) = h5 at g2 e2 ⊢
  have k5 : ∀ b o, s2.heap.get? b = some o → h5.get? b = some o := fun b o hb => by
    have ne : b ≠ e := fun z => by rw [z, hm.new] at hb; cases hb
    rw [g2 b ne, g1 b ne]
    exact hm.keeps b o hb
  have I5 : Inv X pins σ H { s2 with heap := h5 } := I2.kept (t' := s2.toks) k5
  obtain ⟨oy5, vs5, ey5, ecy5, dy5, vy5⟩ := (I5.hok y _ hHy).1
  refine wpAny_bind ?_
  unfold isType
  refine wpAny_bind (wpAny_loadPart e2 ?_)
  refine wpAny_pure ?_
  dsimp only [Obj.mapFields]
  rw [if_neg Bool.false_ne_true]
  refine wpAny_bind ?_
  unfold raisedInstance
  have ty : Looks (model X.prog X.w) h5 (typeOf (.ref e)) (.ref C) := (show OfCls e C h5 from ⟨_, e2, rfl⟩).ty
  refine wpAny_bind (ty X.A _ EX { s2 with heap := h5 } (fun _ _ q => q) ?_)
  obtain ⟨tl, N, nm, qn, bs, hdct, sn, sub0, ab, col, dd, k0, k1, k2, k3, k5', mN, hC, _⟩ := O.own.obj
  refine wpAny_bind (wpAny_typeOf (T := "type") ⟨_, I5.bk _ _ hC, rfl⟩ ?_)
  rw [if_pos (by rfl)]
  refine wpAny_pure ?_
  refine wpAny_bind ?_
  unfold setFlight
  refine wpAny_bind (wpAny_field e2 rfl (x := Value.none) (by simp) ?_)
  rw [if_neg (by decide)]
  refine wpAny_pure ?_
  refine raiseNewH hh yne ey5 dy5 vy5 e2 rfl (by simp) ?_
  have e3 := Heap.get?_update_self (Obj.mapFields (·.setIfInBounds 2 (Value.ref y))) e2 rfl
  refine q s2 e _ I2 hm.new (fun b o hb => ?_) ⟨_, _, t, e3, rfl, rfl, by simp, by simp, by simp⟩
  rw [Heap.get?_update_other _ _ fun z => by rw [← z, hm.new] at hb; cases hb]
  exact k5 b o hb
end
theorem frames_move2 {h h' base : Heap} : ∀ {l : List Env}, h.FunFrames base l → (∀ a ∈ frs l, ∀ o, h.get? a = some o → (∀ vs, o.data ≠ .fields vs) → ∃ o', h'.get? a = some o' ∧ ∀ vs, o'.data ≠ .fields vs) → h'.FunFrames base l
  | [], _, _ => trivial
  | env :: l, ⟨hk, ⟨L, o, hf, hn, ho, hd⟩, hr⟩, k => by
    have inl : ∀ a ∈ frs l, a ∈ frs (env :: l) := fun a ha => by
      unfold frs at ha ⊢
      rw [List.filterMap_cons, hf]
      exact List.mem_cons_of_mem _ ha
    obtain ⟨o', e, d⟩ := k L (by unfold frs; rw [List.filterMap_cons, hf]; exact List.mem_cons_self) o ho hd
    exact ⟨hk, ⟨L, o', hf, hn, e, d⟩, frames_move2 hr fun a ha => k a (inl a ha)⟩
section
variable {X : Cx} {pins : List (Addr × Obj)} {σ : L2.St} {H : Hp} {s : Shared} {EK : XK}
theorem suite_out {n : Str} {pos : Pos} {e y CB : Addr} {h9 : Heap} (hp : PassesM X EK) (hst : X.stack = X.env :: X.outer) (hf : X.env.frame = some X.env.locals) (hk : X.env.scope.names.lookup n = some .local) (I9 : Inv X pins σ H s) (ne : s.heap.get? e = none) (k9 : ∀ b o, s.heap.get? b = some o → h9.get? b = some o)
    (ob : ∃ oe ws t, h9.get? e = some oe ∧ oe.cls = .ref CB ∧ oe.data = .fields ws ∧ ws[0]? = some (.ref t) ∧ ws[1]? = some Value.none ∧ ws[2]? = some (.ref y)) (hE : EK (.ref CB) (some y) H) :
    AsSuiteRaised (model X.prog X.w) (X.A.mark (some (.ref y))) X.env n pos (notedBy (model X.prog X.w) (X.A.mark (some (.ref y))) X.env fun x s' => cameBackBy (model X.prog X.w) X.A X.env X.xe x s') (.ref e) { s with heap := h9 } := by
  obtain ⟨oe, ws, t, ee, ec, de, w0, w1, w2⟩ := ob
  have fr0 : X.A.frames = some (X.env :: X.outer) := by rw [← hst]; exact I9.ok.frames
  have fr : (X.A.mark (some (.ref y))).frames = some (X.env :: X.outer) := fr0
  have st9 : (hideAll s.heap (frs X.stack)).StaysIn h9 := fun b o q => k9 b o (of_hideAll _ q)
  have en : (hideAll s.heap (frs X.stack)).get? e = none := by
    cases q : (hideAll s.heap (frs X.stack)).get? e with
    | none => rfl
    | some o => rw [of_hideAll _ q] at ne; cases ne
  have fl9 : h9.FunFrames (hideAll s.heap (frs X.stack)) (X.env :: X.outer) := by
    have := (hide_frames I9).of_keeps (h' := h9) fun b o hb _ => ⟨o, k9 b o hb, rfl⟩
    rw [hst] at this ⊢
    exact this
  have locS : X.env.locals ∈ frs X.stack := by rw [hst]; exact mem_frs List.mem_cons_self hf
  have locB : (hideAll s.heap (frs X.stack)).get? X.env.locals = none := hideAll_none _ locS
  have hideg : ∀ b o, s.heap.get? b = some o → b ∉ frs X.stack → (hideAll s.heap (frs X.stack)).get? b = some o := fun b o q h => hideAll_get _ q h
  have hkh := hide_hok I9
  have hbh := hide_base I9
  generalize hideAll s.heap (frs X.stack) = B at st9 en fl9 locB hideg hkh hbh ⊢
  refine noteV_first (a0 := .ref t) (c2 := .ref y) fr fl9 hf ee st9 en de w1 w0 w2 fun h10 m10 u10 => ?_
  rw [ec] at m10
  obtain ⟨mm, hn9, _⟩ := I9.loc
  have hn10 : h10.Ns X.env.locals mm := u10.ns (hn9.keeps k9)
  refine wpAny_nameGoes hk hn10 (by rw [I9.ok.kind]; rfl) fun h11 m11 hn11 sb => ?_
  obtain ⟨k1, k2, k3, oe', vs', T, oT, ts, he', hc', hd', hv1, hnT, hTe, hT, hdT, h3⟩ := m10
  obtain ⟨oL, es, ep, hoL, hdL, _⟩ := hn10
  obtain ⟨oL1, es1, ep1, hoL1, hdL1, _⟩ := hn11
  have eL : e ≠ X.env.locals := fun z => by rw [z, hoL] at he'; injection he' with he'; rw [he', hd'] at hdL; cases hdL
  have tL : T ≠ X.env.locals := fun z => by rw [z, hoL] at hT; injection hT with hT; rw [hT, hdT] at hdL; cases hdL
  have g11 : ∀ b, b ≠ X.env.locals → h11.get? b = h10.get? b := fun b hb => sb.2 b hb
  have he11 : h11.get? e = some oe' := (g11 e eL).trans he'
  have mv : HeldV B (X.env :: X.outer) e (.ref CB) (.ref t) (.ref y) (rawInt X.env.locals) h11 := by
    refine ⟨fun b o q => ?_, k2, frames_move2 k3 fun a ha o q hnf => ?_, oe', vs', T, oT, ts, he11, hc', hd', hv1, hnT, hTe, (g11 T tL).trans hT, hdT, h3⟩
    · rw [g11 b (fun z => by rw [z, locB] at q; cases q)]; exact k1 b o q
    · by_cases hb : a = X.env.locals
      · subst hb
        exact ⟨oL1, hoL1, fun vs z => by rw [hdL1] at z; cases z⟩
      · exact ⟨o, (g11 a hb).trans q, hnf⟩
  unfold PySem.passOn
  refine wpAny_bind (wpAny_field he11 hd' hv1 ?_)
  rw [if_neg (fun z => by cases (show (Value.ref T == Value.none) = true from z))]
  refine wpAny_bind (flightV (fr := X.env.frame) mv fun h12 m12 u12 _ => wpAny_throw ?_)
  show wpAny _ _ (noteFrame (.ref e) X.env) _ _ _
  refine noteV fr hf m12 fun h13 m13 u13 => ?_
  obtain ⟨_, _, _, oe3, vs3, T3, oT3, ts3, he3, _, hd3, hv3, _⟩ := id m13
  unfold cameBackBy
  refine wpAny_bind (wpAny_field he3 hd3 hv3 ?_)
  rw [if_neg (fun z => by cases (show (Value.ref T3 == Value.none) = true from z))]
  refine flightV (fr := X.env.frame) m13 fun h14 m14 u14 _ => ?_
  have up := (u12.trans u13).trans u14
  have dat : ∀ b ∈ frs X.stack, ∀ o, s.heap.get? b = some o → ∀ vs, o.data ≠ .fields vs := fun b hb o q vs z => by
    obtain ⟨_, o', ho', hd'⟩ := I9.stack.mem hb
    rw [q] at ho'; cases ho'
    exact hd' vs z
  have fra : ∀ b ∈ frs X.stack, b ≠ X.env.locals → ∀ o, s.heap.get? b = some o → ∃ sl, h14.get? b = some { o with slots := sl } := fun b hb hL o q => by
    obtain ⟨sl, q10⟩ := u10 b o (k9 b o q) (dat b hb o q)
    obtain ⟨sl', q14⟩ := up b _ ((g11 b hL).trans q10) (dat b hb o q)
    exact ⟨sl', q14⟩
  have n1 : ∀ b, b ∉ [X.env.locals] → b ≠ X.env.locals := fun b hb z => hb (by rw [z]; exact List.mem_singleton.mpr rfl)
  refine hp pins σ H s [X.env.locals] e t CB (some y) H B _ I9 (fun b hb => by rw [List.mem_singleton.mp hb]; exact I9.ok.above) rfl I9.bare ⟨fun b o hb hn hf hx => m14.1 b o (hideg b o hb hf), fun b o hb hn hf hx => fra b hf (n1 b hx) o hb, fun b o hb hn hx => hn, fun b o hb hx => ?_, fun b xs q => q, fun b o u q => q, fun b ps q => ⟨#[], by rw [Array.append_empty]; exact q⟩⟩ hkh hbh ⟨_, by rw [hst]; exact m14⟩ (fun b o hb hn hf hx => hideg b o hb hf) (fun b o hb hf hx => ⟨o, hideg b o hb hf⟩) hE
  by_cases hf : b ∈ frs X.stack
  · obtain ⟨sl, q⟩ := fra b hf (n1 b hx) o hb
    exact ⟨_, q⟩
  · exact ⟨o, m14.1 b o (hideg b o hb hf)⟩
end
section
variable {X : Cx} {x : Str} {EX EK : XK}
theorem psx_ret {e : Expr} {te : TE} {pos : Pos} (he : PX X EX e te) : PSX X EX (.Return (some e) pos) (tRet te) := by
  intro pins s σ H D I h
  exact wpAny_Return_some (wpAny_mono (he pins s σ H _ I h) (fun v s1 ⟨x, H1, I1, r1, q1⟩ => ⟨x, σ, H1, I1, r1, q1⟩) fun _ _ z => z)
noncomputable def tTryFrom (K : Frag) (EX : XK) (W : Addr) (EK : XK) (CB : Addr) (tb : TS) : TS := fun D σ H => tb D σ H ∧ ∀ cls c H', EX cls c H' → ∃ C, cls = .ref C ∧ c = none ∧ exmOne K (.ref C) (.ref W) = some true ∧ subIn K (.ref C) (.type "BaseException") = some true ∧
  ∀ a, H' a = none → EK (.ref CB) (some a) (upd H' a (.ext (CtxOf a C)))
theorem ps_tryFrom {st : Stmt} {tb : TS} {np hpos tpos rpos np2 np3 cpos p2 : Pos} {W CB : Addr} {n yb m : Str} {i j : Nat} (hb : PSX (X.wish fun _ _ => False) EX st tb) (hW : X.mg x = some (.ref W)) (hg : Gl X x) (hst : X.stack = X.env :: X.outer) (hf : X.env.frame = some X.env.locals) (hp : PassesM X EK)
    (hN : X.N.Nodup) (hi : X.N[i]? = some n) (hk : X.env.scope.names.lookup n = some .local) (O : XCls X.K X.mg X.base yb CB) (hgb : Gl X yb) (subB : subIn X.K (.ref CB) (.type "BaseException") = some true) (hdb : (x == ("__debug__" : Str)) = false := by decide) (hdy : (yb == ("__debug__" : Str)) = false := by decide) (hdn : (n == ("__debug__" : Str)) = false := by decide) (hcn : (n == ("__classdict__" : Str)) = false := by decide)
    (hs : starEach [.Constant (.str m) j p2] X.env = [(false, eval (.Constant (.str m) j p2) X.env)] := by rfl) :
    PS X (.Try [st] [.ExceptHandler (some (.Name x np)) (some n) [.Raise (some (.Call (.Name yb np2) [.Constant (.str m) j p2] [] cpos)) (some (.Name n np3)) rpos] hpos] [] [] tpos) (tTryFrom X.K EX W EK CB tb) := by
  intro pins s σ H D I h
  obtain ⟨h1, h2⟩ := h
  refine wpAny_Try_except (wpAny_execs_cons (wpAny_mono (hb pins s σ H D (I.wish _) h1) (fun f s1 q => ?_) fun e s1 fl => ?_))
  · have q := SP.unwish q
    cases f with
    | next => exact wpAny_execs_nil (wpAny_execs_nil q)
    | brk => exact q
    | cont => exact q
    | ret u => exact q
  · obtain ⟨H1, s0, I1, y, t, C', c2, H', B, rfl, os, bare, un, hok, stB, fl, kB, tB, hE⟩ := fl
    have I1 := I1.unwish
    obtain ⟨C, ec, c0, hx, sub, hs'⟩ := h2 _ _ _ hE
    injection ec with ec
    subst ec c0
    have fl : FlyingV B X.stack y (.ref C') (.ref t) .none s1.heap := fl
    rw [hst] at fl
    refine noteV (stack_of I1 hst) hf fl fun h4 held4 sm4 => ?_
    refine flightV (fr := none) held4 fun h5 held sm5 _ => ?_
    have fr1 : s1.heap.FunFrames B X.stack := by rw [hst]; exact fl.2.2.1
    have I5 : Inv X pins σ H' { s1 with heap := h5 } := Inv.flew I1 os bare un hok held.1 fr1 (sm4.trans sm5) kB tB
    refine wpAny_handleBy_cons (codeAny_handlers_test ?_) (by intro q; cases q)
    refine ld_glob (X := X.marked (.ref y)) (Inv.marked I5 (.ref y)) hg hW ?_ hdb
    have tyy : ∀ M : Model, Looks M h5 (typeOf (.ref y)) (.ref C') := fun M => (show OfCls y C' h5 from held.there).ty
    refine (exm_one (e := y) (I5.kIn) (tyy _) hx).at ?_
    refine codeAny_handlers_suite_as ?_
    refine flightV (fr := none) held fun h6 fl6 sm6 _ => ?_
    have I6 : Inv X pins σ H' { s1 with heap := h6 } := Inv.flew I1 os bare un hok fl6.1 fr1 ((sm4.trans sm5).trans sm6) kB tB
    have ynone : H' y = none := by
      cases q : H' y with
      | none => rfl
      | some u => obtain ⟨ob, e⟩ := (hok y u q).there; rw [fl6.2.1] at e; cases e
    have ynew : ∀ ob, s0.heap.get? y ≠ some ob := fun ob e => by
      by_cases hfr : y ∈ frs X.stack
      · rw [hst] at hfr
        obtain ⟨_, o', ho', hd'⟩ := fl6.2.2.1.mem hfr
        obtain ⟨oe, vs, _, _, _, he, _, hd, _⟩ := fl6.2.2.2
        rw [ho'] at he; cases he
        exact hd' _ hd
      · obtain ⟨o', e'⟩ := tB y ob e hfr
        rw [fl6.2.1] at e'; cases e'
    have cty : CtxOf y C' h6 := by
      obtain ⟨oe, vs, _, _, _, he, hc, hd, _⟩ := fl6.2.2.2
      exact ⟨oe, vs, he, hc.1, hd, hc.2.2⟩
    have I7 : Inv X pins σ (upd H' y (.ext (CtxOf y C'))) { s1 with heap := h6 } := by
      refine Inv.know I6 ynone (fun ob e => ?_) (fun z => ?_) (fun x c e z => ?_) (fun p hp z => ?_) ⟨cty, cty.imp fun _ ⟨_, q, _⟩ => q, fun a b q k => ?_⟩
      · refine Classical.byContradiction fun hx => ?_
        obtain ⟨o', e'⟩ := I1.base.there y ob e hx
        exact ynew _ e'
      · obtain ⟨m, ⟨o, _, _, e, _⟩, _⟩ := I1.loc
        exact ynew _ (z ▸ e)
      · obtain ⟨v, o, e', _⟩ := I1.cell x c e
        exact ynew _ (z ▸ e')
      · exact ynew _ (z ▸ (I1.pin p hp).1)
      · obtain ⟨o, vs, e, c⟩ := q
        exact ⟨o, vs, k _ e, c⟩
    refine store_ok (X := X.marked (.ref y)) (Inv.marked I7 (.ref y)) hN hi (.inl hk) (v := .ref y) rfl (fun s8 I8 => ?_) (.inr hk)
    have hiσ : i < σ.length := by rw [I.len]; exact (List.getElem?_eq_some_iff.mp hi).1
    refine wpAny_execs_cons (raise_from (X := X.marked (.ref y)) O hgb rfl hi (.inl hk) rfl I8 (by rw [List.getElem?_set_self hiσ]) upd_same sub subB (fun s9 e h9 I9 ne k9 ob => ?_) hdy hdn hcn hs)
    exact suite_out hp hst hf hk (Inv.unmarked I.ok I9) ne k9 ob (hs' y ynone)
end
end Ww

set_option Elab.async false
set_option linter.all false
namespace Ww
/-! ### walks as sequences, rings, Karp's means -/
noncomputable def Path (ts : List Tie) (m : Nat) (d : Nat → Nat) (s : Nat → Int) : Prop := ∀ i, i < m → (d i, d (i + 1), s (i + 1) - s i) ∈ ts
theorem RR.path {ts : List Tie} {a : Nat} : ∀ {m b : Nat} {x : Int}, RR ts (pt a) m b x → ∃ d s, Path ts m d s ∧ d 0 = a ∧ d m = b ∧ s 0 = 0 ∧ s m = x
  | 0, b, x, ⟨h1, h2⟩ => ⟨fun _ => a, fun _ => 0, fun i hi => absurd hi (by omega), rfl, h1.symm, rfl, h2.symm⟩
  | m + 1, b, x, ⟨t, ht, e, y, h, ex⟩ => by
    obtain ⟨d, s, p, h0, hm, s0, sm⟩ := h.path
    refine ⟨fun i => if i ≤ m then d i else b, fun i => if i ≤ m then s i else x, fun i hi => ?_, by simp [h0], if_neg (by omega), by simp [s0], if_neg (by omega)⟩
    by_cases c : i < m
    · have c1 : i ≤ m := by omega
      have c2 : i + 1 ≤ m := by omega
      simp only [c1, c2, if_true]
      exact p i c
    · have ei : i = m := by omega
      subst ei
      have c2 : ¬ (i + 1 ≤ i) := by omega
      simp only [Nat.le_refl, if_true, c2, if_false]
      rw [hm, sm, ex, ← e, show y + t.2.2 - y = t.2.2 by omega]
      exact ht
theorem Path.sub {ts : List Tie} {m : Nat} {d : Nat → Nat} {s : Nat → Int} (p : Path ts m d s) (i : Nat) : ∀ k, i + k ≤ m → RR ts (pt (d i)) k (d (i + k)) (s (i + k) - s i)
  | 0, _ => ⟨rfl, by show s i - s i = 0; omega⟩
  | k + 1, h => ⟨_, p (i + k) (by omega), rfl, s (i + k) - s i, p.sub i k (by omega), by show s (i + (k + 1)) - s i = s (i + k) - s i + (s (i + k + 1) - s (i + k)); rw [show i + (k + 1) = i + k + 1 by omega]; omega⟩
theorem pigeon : ∀ (n : Nat) (d : Nat → Nat), (∀ t, t ≤ n → d t < n) → ∃ i j, i < j ∧ j ≤ n ∧ d i = d j
  | 0, d, h => absurd (h 0 (Nat.le_refl _)) (by omega)
  | n + 1, d, h => by
    by_cases c : ∃ i, i ≤ n ∧ d i = d (n + 1)
    · obtain ⟨i, hi, e⟩ := c
      exact ⟨i, n + 1, by omega, Nat.le_refl _, e⟩
    · have hv := h (n + 1) (Nat.le_refl _)
      have ne : ∀ t, t ≤ n → d t ≠ d (n + 1) := fun t ht e => c ⟨t, ht, e⟩
      obtain ⟨i, j, h1, h2, e⟩ := pigeon n (fun t => if d t = n then d (n + 1) else d t) fun t ht => by
        have h1 := h t (by omega)
        have h2 := ne t ht
        by_cases q : d t = n
        · simp only [q, if_true]; omega
        · simp only [q, if_false]; omega
      refine ⟨i, j, h1, by omega, ?_⟩
      have n1 := ne i (by omega)
      have n2 := ne j h2
      by_cases q1 : d i = n <;> by_cases q2 : d j = n
      · rw [q1, q2]
      · simp only [q1, q2, if_true, if_false] at e; exact absurd e.symm n2
      · simp only [q1, q2, if_true, if_false] at e; exact absurd e n1
      · simp only [q1, q2, if_false] at e; exact e
theorem best1 (F : Nat → Int) : ∀ n, 1 ≤ n → ∃ i, i < n ∧ ∀ j, j < n → F j ≤ F i
  | 0, h => absurd h (by omega)
  | 1, _ => ⟨0, by omega, fun j hj => by rw [show j = 0 by omega]; exact Int.le_refl _⟩
  | n + 2, _ => by
    obtain ⟨i, hi, h⟩ := best1 F (n + 1) (by omega)
    by_cases c : F i < F (n + 1)
    · refine ⟨n + 1, by omega, fun j hj => ?_⟩
      by_cases e : j = n + 1
      · rw [e]; exact Int.le_refl _
      · have := h j (by omega); omega
    · refine ⟨i, by omega, fun j hj => ?_⟩
      by_cases e : j = n + 1
      · rw [e]; omega
      · exact h j (by omega)
theorem best2 (F : Nat → Nat → Int) {m n : Nat} (hm : 1 ≤ m) (hn : 1 ≤ n) : ∃ i k, i < m ∧ k < n ∧ ∀ j l, j < m → l < n → F j l ≤ F i k := by
  have ex : ∀ i : Nat, ∃ k, k < n ∧ ∀ l, l < n → F i l ≤ F i k := fun i => best1 (F i) n hn
  obtain ⟨g, hg⟩ := Classical.axiomOfChoice ex
  obtain ⟨i, hi, h⟩ := best1 (fun i => F i (g i)) m hm
  exact ⟨i, g i, hi, (hg i).1, fun j l hj hl => Int.le_trans ((hg j).2 l hl) (h j hj)⟩
noncomputable def Any (n : Nat) (ts : List Tie) (k b : Nat) (x : Int) : Prop := ∃ a, a < n ∧ RR ts (pt a) k b x
theorem Any.lt {n : Nat} {ts : List Tie} (ok : OkT n ts) {k b : Nat} {x : Int} (h : Any n ts k b x) : b < n := by
  obtain ⟨a, ha, h⟩ := h
  exact h.lt ok fun b x hb => by rw [hb.1]; exact ha
theorem Any.on {n : Nat} {ts : List Tie} {j k b c : Nat} {x y : Int} (h : Any n ts j c x) (h2 : RR ts (pt c) k b y) : Any n ts (j + k) b (x + y) := by
  obtain ⟨a, ha, h⟩ := h
  exact ⟨a, ha, RR.join.mpr ⟨c, x, y, h, h2, rfl⟩⟩
noncomputable def lap (m t0 : Nat) : Nat → Nat × Nat
  | 0 => (t0, 0)
  | i + 1 => if (lap m t0 i).1 + 1 < m then ((lap m t0 i).1 + 1, (lap m t0 i).2) else (0, (lap m t0 i).2 + 1)
theorem lap_lt {m t0 : Nat} (h : t0 < m) : ∀ i, (lap m t0 i).1 < m
  | 0 => h
  | i + 1 => by
    unfold lap
    split
    · assumption
    · show 0 < m; omega
theorem lap_eq {m t0 : Nat} (h : t0 < m) : ∀ i, t0 + i = (lap m t0 i).1 + m * (lap m t0 i).2
  | 0 => by simp [lap]
  | i + 1 => by
    have ih := lap_eq h i
    have lt := lap_lt h i
    unfold lap
    split
    · show t0 + (i + 1) = (lap m t0 i).1 + 1 + m * (lap m t0 i).2; omega
    · show t0 + (i + 1) = 0 + m * ((lap m t0 i).2 + 1)
      rw [Nat.mul_add]; omega
theorem Path.round {ts : List Tie} {m : Nat} {d : Nat → Nat} {s : Nat → Int} (p : Path ts m d s) (h1 : 1 ≤ m) (hd : d m = d 0) {t0 : Nat} (ht : t0 < m) (M : Nat) :
    Path ts M (fun i => d (lap m t0 i).1) (fun i => s (lap m t0 i).1 + (s m - s 0) * ((lap m t0 i).2 : Int)) := fun i _ => by
  have lt := lap_lt ht i
  have q := p _ lt
  show (d (lap m t0 i).1, d (lap m t0 (i + 1)).1, s (lap m t0 (i + 1)).1 + (s m - s 0) * ((lap m t0 (i + 1)).2 : Int) - (s (lap m t0 i).1 + (s m - s 0) * ((lap m t0 i).2 : Int))) ∈ ts
  by_cases c : (lap m t0 i).1 + 1 < m
  · have e : lap m t0 (i + 1) = ((lap m t0 i).1 + 1, (lap m t0 i).2) := by conv => lhs; unfold lap; rw [if_pos c]
    rw [e]
    dsimp only
    rw [show s ((lap m t0 i).1 + 1) + (s m - s 0) * ((lap m t0 i).2 : Int) - (s (lap m t0 i).1 + (s m - s 0) * ((lap m t0 i).2 : Int)) = s ((lap m t0 i).1 + 1) - s (lap m t0 i).1 by omega]
    exact q
  · have e : lap m t0 (i + 1) = (0, (lap m t0 i).2 + 1) := by conv => lhs; unfold lap; rw [if_neg c]
    have em : (lap m t0 i).1 + 1 = m := by omega
    rw [em, hd] at q
    rw [e]
    dsimp only
    have e2 : s 0 + (s m - s 0) * (((lap m t0 i).2 + 1 : Nat) : Int) - (s (lap m t0 i).1 + (s m - s 0) * ((lap m t0 i).2 : Int)) = s m - s (lap m t0 i).1 := by
      rw [show (((lap m t0 i).2 + 1 : Nat) : Int) = ((lap m t0 i).2 : Int) + 1 by omega, Int.mul_add, Int.mul_one]; omega
    rw [e2]
    exact q
structure Karp (n : Nat) (ts : List Tie) (D : Nat → Nat → Int) : Prop where
  ok : OkT n ts
  n1 : 1 ≤ n
  got : ∀ k b, k ≤ n → b < n → Any n ts k b (D k b)
  max : ∀ k b x, k ≤ n → b < n → Any n ts k b x → x ≤ D k b
theorem Karp.ring {n : Nat} {ts : List Tie} {D : Nat → Nat → Int} (K : Karp n ts D) {m c : Nat} {W : Int} (h1 : 1 ≤ m) (hc : c < n) (h : RR ts (pt c) m c W) :
    ∃ b, b < n ∧ (∃ k x, RR ts (pt b) k c x) ∧ ∀ k, k < n → W * ((n - k : Nat) : Int) ≤ (D n b - D k b) * (m : Int) := by
  obtain ⟨d, s, p, d0, dm, s0, sm⟩ := h.path
  have hd : d m = d 0 := by rw [d0, dm]
  have dlt : ∀ i, i < m → d i < n := fun i hi => (K.ok.lt _ (p i hi)).1
  obtain ⟨t, k0, ht, hk0, top⟩ := best2 (fun t k => D k (d t) * (m : Int) - W * (k : Int) - (s t * (m : Int) - W * (t : Int))) h1 K.n1
  have P2 := p.round h1 hd ht (n - k0)
  have walk := P2.sub 0 (n - k0) (by omega)
  have l0 : lap m t 0 = (t, 0) := rfl
  rw [Nat.zero_add] at walk
  have lq := lap_eq ht (n - k0)
  have ll := lap_lt ht (n - k0)
  generalize hl : lap m t (n - k0) = L at walk lq ll
  obtain ⟨u, r⟩ := L
  dsimp only at walk lq ll
  rw [l0] at walk
  try dsimp only at walk
  have got := (K.got k0 (d t) (by omega) (dlt t ht)).on walk
  rw [show k0 + (n - k0) = n by omega] at got
  have le := K.max n (d u) _ (Nat.le_refl _) (dlt u ll) got
  refine ⟨d u, dlt u ll, ⟨_, _, by have := p.sub u (m - u) (by omega); rw [show u + (m - u) = m by omega, dm] at this; exact this⟩, fun k hk => ?_⟩
  have tp := top u k ll hk
  try dsimp only at tp
  rw [sm, s0] at le
  have e1 : ((t : Int) + ((n : Int) - (k0 : Int))) = (u : Int) + (m : Int) * (r : Int) := by
    have := congrArg (fun z : Nat => (z : Int)) lq
    push_cast at this
    omega
  have e3 : ((n - k : Nat) : Int) = (n : Int) - (k : Int) := by omega
  rw [e3]
  -- D n (d u) ≥ D k0 (d t) + s u + W r - s t
  have le' : (D k0 (d t) + (s u + (W - 0) * (r : Int) - (s t + (W - 0) * ((0 : Nat) : Int)))) * (m : Int) ≤ D n (d u) * (m : Int) := Int.mul_le_mul_of_nonneg_right le (by omega)
  have e4 : (D k0 (d t) + (s u + (W - 0) * (r : Int) - (s t + (W - 0) * ((0 : Nat) : Int)))) * (m : Int) = D k0 (d t) * (m : Int) + s u * (m : Int) + W * ((m : Int) * (r : Int)) - s t * (m : Int) := by
    have z1 : (W - 0) * (r : Int) * (m : Int) = W * ((m : Int) * (r : Int)) := by rw [Int.sub_zero, Int.mul_assoc, Int.mul_comm (r : Int)]
    have z2 : (W - 0) * ((0 : Nat) : Int) = 0 := by simp
    rw [z2, Int.add_zero, Int.add_mul, Int.sub_mul, Int.add_mul, z1]; omega
  rw [e4] at le'
  have e5 : (m : Int) * (r : Int) = (t : Int) + ((n : Int) - (k0 : Int)) - (u : Int) := by omega
  rw [e5] at le'
  have e6 : W * ((t : Int) + ((n : Int) - (k0 : Int)) - (u : Int)) = W * (t : Int) + W * (n : Int) - W * (k0 : Int) - W * (u : Int) := by
    rw [Int.mul_sub, Int.mul_add, Int.mul_sub]; omega
  rw [e6] at le'
  rw [Int.mul_sub, Int.sub_mul]
  omega
theorem Karp.inner {n : Nat} {ts : List Tie} {D : Nat → Nat → Int} (K : Karp n ts D) {b : Nat} (hb : b < n) :
    ∃ m c W, 1 ≤ m ∧ m ≤ n ∧ c < n ∧ (∃ k x, RR ts (pt c) k b x) ∧ RR ts (pt c) m c W ∧ D n b - D (n - m) b ≤ W := by
  obtain ⟨a, ha, h⟩ := K.got n b (Nat.le_refl _) hb
  obtain ⟨d, s, p, d0, dn, s0, sn⟩ := h.path
  have dlt : ∀ t, t ≤ n → d t < n := fun t ht => by
    by_cases c : t < n
    · exact (K.ok.lt _ (p t c)).1
    · rw [show t = n by omega, dn]; exact hb
  obtain ⟨i, j, hij, hj, e⟩ := pigeon n d dlt
  refine ⟨j - i, d i, s j - s i, by omega, by omega, dlt i (by omega), ⟨_, _, by have w2 := p.sub j (n - j) (by omega); rw [show j + (n - j) = n by omega, ← e, dn] at w2; exact w2⟩, ?_, ?_⟩
  · have := p.sub i (j - i) (by omega)
    rw [show i + (j - i) = j by omega, ← e] at this
    exact this
  · have w1 := p.sub 0 i (by omega)
    rw [Nat.zero_add, d0, s0] at w1
    have w2 := p.sub j (n - j) (by omega)
    rw [show j + (n - j) = n by omega, ← e, dn, sn] at w2
    have := K.max (i + (n - j)) b _ (by omega) hb (Any.on ⟨a, ha, w1⟩ w2)
    rw [show i + (n - j) = n - (j - i) by omega] at this
    omega
structure IsBeat (n : Nat) (ts : List Tie) (p q : Int) : Prop where
  pos : 0 < q
  all : ∀ m c W, 1 ≤ m → c < n → RR ts (pt c) m c W → W * q ≤ p * (m : Int)
  ex : ∃ m c W, 1 ≤ m ∧ m ≤ n ∧ c < n ∧ RR ts (pt c) m c W ∧ W * q = p * (m : Int)
structure IsLeast (n : Nat) (D : Nat → Nat → Int) (b : Nat) (P Q : Int) : Prop where
  at_ : ∃ k, k < n ∧ P = D n b - D k b ∧ Q = ((n - k : Nat) : Int)
  le : ∀ k, k < n → P * ((n - k : Nat) : Int) ≤ (D n b - D k b) * Q
theorem IsLeast.pos {n : Nat} {D : Nat → Nat → Int} {b : Nat} {P Q : Int} (h : IsLeast n D b P Q) : 0 < Q := by
  obtain ⟨k, hk, _, e⟩ := h.at_
  omega
theorem mul_cancel {a b c : Int} (h : 0 < c) (e : a * c ≤ b * c) : a ≤ b := Int.le_of_mul_le_mul_right e h
theorem Karp.gen {n : Nat} {ts : List Tie} {D : Nat → Nat → Int} (K : Karp n ts D) {S : Nat → Prop} (cl : ∀ c d k x, S d → RR ts (pt c) k d x → S c) {Ps Qs : Nat → Int} (L : ∀ b, b < n → IsLeast n D b (Ps b) (Qs b)) {b0 : Nat} (h0 : b0 < n) (s0 : S b0) (top : ∀ b, b < n → S b → Ps b * Qs b0 ≤ Ps b0 * Qs b) {p q g : Int} (hg : 0 < g) (hp : p * g = Ps b0) (hq : q * g = Qs b0) :
    0 < q ∧ (∀ m c W, 1 ≤ m → c < n → S c → RR ts (pt c) m c W → W * q ≤ p * (m : Int)) ∧ ∃ m c W, 1 ≤ m ∧ m ≤ n ∧ c < n ∧ S c ∧ RR ts (pt c) m c W ∧ W * q = p * (m : Int) := by
  have Q0 := (L b0 h0).pos
  have q0 : 0 < q := by
    rcases Int.lt_or_le 0 q with z | z
    · exact z
    · have := Int.mul_le_mul_of_nonneg_right z (Int.le_of_lt hg)
      rw [hq, Int.zero_mul] at this; omega
  have all : ∀ m c W, 1 ≤ m → c < n → S c → RR ts (pt c) m c W → W * q ≤ p * (m : Int) := fun m c W h1 hc sc h => by
    obtain ⟨b, hb, ⟨kk, xx, lb⟩, al⟩ := K.ring h1 hc h
    obtain ⟨k, hk, eP, eQ⟩ := (L b hb).at_
    have a1 := al k hk
    rw [← eP, ← eQ] at a1
    have Qb := (L b hb).pos
    have t := top b hb (cl _ _ _ _ sc lb)
    -- W Qb ≤ Pb m ; Pb Q0 ≤ P0 Qb
    have m0 : (0 : Int) ≤ (m : Int) := by omega
    have s1 : W * Qs b * Qs b0 ≤ Ps b * (m : Int) * Qs b0 := Int.mul_le_mul_of_nonneg_right a1 (Int.le_of_lt Q0)
    have s2 : Ps b * Qs b0 * (m : Int) ≤ Ps b0 * Qs b * (m : Int) := Int.mul_le_mul_of_nonneg_right t m0
    have s3 : (W * Qs b0) * Qs b ≤ (Ps b0 * (m : Int)) * Qs b := by
      have r1 : W * Qs b0 * Qs b = W * Qs b * Qs b0 := by rw [Int.mul_assoc, Int.mul_comm (Qs b0), ← Int.mul_assoc]
      have r2 : Ps b * (m : Int) * Qs b0 = Ps b * Qs b0 * (m : Int) := by rw [Int.mul_assoc, Int.mul_comm (m : Int), ← Int.mul_assoc]
      have r3 : Ps b0 * Qs b * (m : Int) = Ps b0 * (m : Int) * Qs b := by rw [Int.mul_assoc, Int.mul_comm (Qs b), ← Int.mul_assoc]
      rw [r1, ← r3]
      rw [r2] at s1
      exact Int.le_trans s1 s2
    have s4 := mul_cancel Qb s3
    rw [← hq, ← hp, ← Int.mul_assoc, Int.mul_assoc p, Int.mul_comm g, ← Int.mul_assoc] at s4
    exact mul_cancel hg s4
  refine ⟨q0, all, ?_⟩
  obtain ⟨m, c, W, h1, hm, hc, ⟨kk, xx, lb⟩, h, le⟩ := K.inner h0
  have sc := cl _ _ _ _ s0 lb
  refine ⟨m, c, W, h1, hm, hc, sc, h, Int.le_antisymm (all m c W h1 hc sc h) ?_⟩
  have a1 := (L b0 h0).le (n - m) (by omega)
  rw [show n - (n - m) = m by omega] at a1
  have a2 : (D n b0 - D (n - m) b0) * Qs b0 ≤ W * Qs b0 := Int.mul_le_mul_of_nonneg_right le (Int.le_of_lt Q0)
  have a3 := Int.le_trans a1 a2
  rw [← hq, ← hp, ← Int.mul_assoc, Int.mul_assoc p, Int.mul_comm g, ← Int.mul_assoc] at a3
  exact mul_cancel hg a3
noncomputable def Lead (ts : List Tie) (c b : Nat) : Prop := ∃ k x, RR ts (pt c) k b x
structure IsPace (n : Nat) (ts : List Tie) (b : Nat) (p q : Int) : Prop where
  pos : 0 < q
  all : ∀ m c W, 1 ≤ m → c < n → Lead ts c b → RR ts (pt c) m c W → W * q ≤ p * (m : Int)
  ex : ∃ m c W, 1 ≤ m ∧ m ≤ n ∧ c < n ∧ Lead ts c b ∧ RR ts (pt c) m c W ∧ W * q = p * (m : Int)
theorem Lead.refl {ts : List Tie} {b : Nat} : Lead ts b b := ⟨0, 0, rfl, rfl⟩
theorem Lead.on {ts : List Tie} {a b c : Nat} (h : Lead ts a b) (h2 : Lead ts b c) : Lead ts a c := by
  obtain ⟨k, x, h⟩ := h
  obtain ⟨l, y, h2⟩ := h2
  exact ⟨k + l, x + y, RR.join.mpr ⟨b, x, y, h, h2, rfl⟩⟩
end Ww

set_option Elab.async false
set_option linter.all false
namespace Ww
/-! ### prices: the passes over the ties -/
noncomputable def mxI (i j : Int) : Int := if j > i then j else i
noncomputable def relax (p q : Int) (v : List Int) (t : Tie) : List Int := v.set t.2.1 (mxI (v.getD t.2.1 0) (v.getD t.1 0 + (t.2.2 * q - p)))
theorem relax_get {p q : Int} {v : List Int} {t : Tie} (h : t.2.1 < v.length) (b : Nat) : (relax p q v t).getD b 0 = if b = t.2.1 then mxI (v.getD t.2.1 0) (v.getD t.1 0 + (t.2.2 * q - p)) else v.getD b 0 := by
  unfold relax
  by_cases c : b = t.2.1
  · rw [if_pos c, c]; simp [h]
  · rw [if_neg c]; simp [List.getD_eq_getElem?_getD, List.getElem?_set, Ne.symm c]
noncomputable def Att (n : Nat) (ts : List Tie) (p q : Int) (v : List Int) : Prop := ∀ b, b < n → ∃ k x, Any n ts k b x ∧ v.getD b 0 = x * q - p * (k : Int)
noncomputable def Paid (n : Nat) (ts : List Tie) (p q : Int) (j : Nat) (v : List Int) : Prop := ∀ k b x, k ≤ j → Any n ts k b x → x * q - p * (k : Int) ≤ v.getD b 0
theorem Any.snoc {n : Nat} {ts : List Tie} {k : Nat} {t : Tie} {x : Int} (h : Any n ts k t.1 x) (ht : t ∈ ts) : Any n ts (k + 1) t.2.1 (x + t.2.2) := by
  obtain ⟨a, ha, h⟩ := h
  exact ⟨a, ha, t, ht, rfl, x, h, rfl⟩
theorem step_val (x w p q : Int) (k : Nat) : (x + w) * q - p * ((k + 1 : Nat) : Int) = x * q - p * (k : Int) + (w * q - p) := by
  rw [Int.add_mul, show ((k + 1 : Nat) : Int) = (k : Int) + 1 by omega, Int.mul_add, Int.mul_one]; omega
theorem Att.relax {n : Nat} {ts : List Tie} (ok : OkT n ts) {p q : Int} {v : List Int} (hl : v.length = n) (h : Att n ts p q v) {t : Tie} (ht : t ∈ ts) : Att n ts p q (relax p q v t) := fun b hb => by
  obtain ⟨o1, o2⟩ := ok.lt t ht
  rw [relax_get (by omega)]
  by_cases c : b = t.2.1
  · rw [if_pos c]
    unfold mxI
    split
    · obtain ⟨k, x, a, e⟩ := h t.1 o1
      refine ⟨k + 1, x + t.2.2, by rw [c]; exact a.snoc ht, ?_⟩
      rw [step_val, e]
    · rw [c]; exact h t.2.1 o2
  · rw [if_neg c]; exact h b hb
theorem Paid.all {n : Nat} {ts : List Tie} (ok : OkT n ts) {p q : Int} {v : List Int} (cyc : ∀ m c W, 1 ≤ m → c < n → RR ts (pt c) m c W → W * q ≤ p * (m : Int)) (h : Paid n ts p q n v) : ∀ (N k b : Nat) (x : Int), k ≤ N → Any n ts k b x → x * q - p * (k : Int) ≤ v.getD b 0
  | 0, k, b, x, hk, a => h k b x (by omega) a
  | N + 1, k, b, x, hk, a => by
    by_cases c : k ≤ n
    · exact h k b x c a
    · obtain ⟨a0, ha0, r⟩ := a
      obtain ⟨d, s, pa, d0, dk, s0, sk⟩ := r.path
      have dlt : ∀ t, t ≤ n → d t < n := fun t ht => (ok.lt _ (pa t (by omega))).1
      obtain ⟨i, j, hij, hj, e⟩ := pigeon n d dlt
      have w0 := pa.sub i (j - i) (by omega)
      rw [show i + (j - i) = j by omega, ← e] at w0
      have c0 := cyc _ _ _ (by omega) (dlt i (by omega)) w0
      have w1 := pa.sub 0 i (by omega)
      rw [Nat.zero_add, d0, s0] at w1
      have w2 := pa.sub j (k - j) (by omega)
      rw [show j + (k - j) = k by omega, ← e, dk, sk] at w2
      have ih := Paid.all ok cyc h N _ b _ (by omega) (Any.on ⟨a0, ha0, w1⟩ w2)
      have e1 : ((i + (k - j) : Nat) : Int) = (k : Int) - ((j - i : Nat) : Int) := by omega
      rw [e1, show s i - 0 + (x - s j) = x - (s j - s i) by omega, Int.sub_mul, Int.mul_sub] at ih
      omega
noncomputable def passes (p q : Int) (ts : List Tie) (v : List Int) : Nat → List Int
  | 0 => v
  | j + 1 => ts.foldl (relax p q) (passes p q ts v j)
end Ww

set_option Elab.async false
set_option linter.all false
namespace Ww
/-! ### waits without an end, and the ring behind -/
noncomputable abbrev Rows := List (List Nat)
noncomputable def nxtE (T : Rows) : Rows := T.map fun row => row.filter fun a => !(T.getD a []).isEmpty
theorem nxtE_len {T : Rows} : (nxtE T).length = T.length := by unfold nxtE; rw [List.length_map]
theorem nxtE_row {T : Rows} (b : Nat) : (nxtE T).getD b [] = (T.getD b []).filter fun a => !(T.getD a []).isEmpty := by
  unfold nxtE
  rw [List.getD_eq_getElem?_getD, List.getElem?_map, List.getD_eq_getElem?_getD]
  cases T[b]? <;> rfl
noncomputable def Ne (T : Rows) (b : Nat) : Prop := T.getD b [] ≠ []
theorem ne_iff {T : Rows} {a : Nat} : (!(T.getD a []).isEmpty) = true ↔ Ne T a := by
  unfold Ne
  cases T.getD a [] <;> simp
theorem nxtE_mem {T : Rows} {a b : Nat} : a ∈ (nxtE T).getD b [] ↔ a ∈ T.getD b [] ∧ Ne T a := by
  rw [nxtE_row, List.mem_filter, ne_iff]
theorem rows_ext {T U : Rows} (hl : T.length = U.length) (h : ∀ b, T.getD b [] = U.getD b []) : T = U := by
  refine List.ext_getElem hl fun i h1 h2 => ?_
  have := h i
  simpa [h1, h2] using this
theorem stay {n : Nat} {T : Rows} (lt : ∀ a b, a ∈ T.getD b [] → a < n) (h : ∀ b, b < n → Ne T b → Ne (nxtE T) b) : nxtE (nxtE T) = nxtE T := by
  refine rows_ext nxtE_len fun b => ?_
  rw [nxtE_row (T := nxtE T) b]
  refine List.filter_eq_self.mpr fun a ha => ?_
  obtain ⟨h1, h2⟩ := nxtE_mem.mp ha
  exact ne_iff.mpr (h a (lt a b h1) h2)
structure Ring (n : Nat) (ts : List Tie) (p q : Int) (v : List Int) (rg : List Nat) : Prop where
  ne : 1 ≤ rg.length
  nd : rg.Nodup
  lt : ∀ x ∈ rg, x < n
  tie : ∀ k, k < rg.length → ∃ w, (rg.getD k 0, rg.getD ((k + 1) % rg.length) 0, w) ∈ ts ∧ v.getD (rg.getD k 0) 0 + (w * q - p) = v.getD (rg.getD ((k + 1) % rg.length) 0) 0
end Ww

set_option Elab.async false
set_option linter.all false
namespace Ww
theorem lap_full {m t0 : Nat} (h : t0 < m) : lap m t0 m = (t0, 1) := by
  have e := lap_eq h m
  have l := lap_lt h m
  generalize lap m t0 m = L at e l
  obtain ⟨u, r⟩ := L
  dsimp only at e l
  have r1 : r = 1 := by
    rcases Nat.lt_or_ge r 1 with z | z
    · have : r = 0 := by omega
      subst this
      rw [Nat.mul_zero] at e; omega
    · rcases Nat.lt_or_ge r 2 with y | y
      · omega
      · have := Nat.mul_le_mul_left m y
        omega
  subst r1
  rw [Nat.mul_one] at e
  rw [show u = t0 by omega]
end Ww

set_option Elab.async false
set_option linter.all false
namespace Ww
open PySem PySem.W PyProof.Rows L2
/-! ### paces -/
theorem fr_le {a b a' b' W : Int} {m : Nat} (h1 : 1 ≤ m) (hb : 0 < b) (e : W * b = a * (m : Int)) (l : W * b' ≤ a' * (m : Int)) : a * b' ≤ a' * b := by
  have l2 : W * b' * b ≤ a' * (m : Int) * b := Int.mul_le_mul_of_nonneg_right l (Int.le_of_lt hb)
  have e1 : W * b' * b = a * b' * (m : Int) := by
    rw [Int.mul_assoc, Int.mul_comm b', ← Int.mul_assoc, e, Int.mul_assoc, Int.mul_comm (m : Int), ← Int.mul_assoc]
  have e2 : a' * (m : Int) * b = a' * b * (m : Int) := by rw [Int.mul_assoc, Int.mul_comm (m : Int), ← Int.mul_assoc]
  rw [e1, e2] at l2
  exact mul_cancel (by omega) l2
theorem Rch.leads {ts : List Tie} {a b : Nat} (h : Rch ts a b) : Lead ts a b := by
  induction h with
  | refl => exact .refl
  | step _ ht e ih =>
    obtain ⟨k, x, r⟩ := ih
    exact ⟨k + 1, _, _, ht, rfl, x, e ▸ r, rfl⟩
theorem RR.rch {ts : List Tie} {a : Nat} : ∀ {k b : Nat} {x : Int}, RR ts (pt a) k b x → Rch ts a b
  | 0, b, x, ⟨h, _⟩ => by rw [h]; exact .refl
  | k + 1, b, x, ⟨t, ht, e, y, h, _⟩ => by rw [← e]; exact .step h.rch ht rfl
theorem lead_iff {ts : List Tie} {a b : Nat} : Lead ts a b ↔ Rch ts a b := ⟨fun ⟨_, _, h⟩ => h.rch, Rch.leads⟩
theorem IsPace.tie {n : Nat} {ts : List Tie} {t : Tie} (ht : t ∈ ts) {p q p' q' : Int} (h : IsPace n ts t.1 p q) (h' : IsPace n ts t.2.1 p' q') : p * q' ≤ p' * q := by
  obtain ⟨m, c, W, h1, _, hc, l, r, e⟩ := h.ex
  exact fr_le h1 h.pos e (h'.all m c W h1 hc (l.on (Rch.leads (.step .refl ht rfl))) r)
theorem IsPace.uniq {n : Nat} {ts : List Tie} {b : Nat} {p q p' q' : Int} (h : IsPace n ts b p q) (h' : IsPace n ts b p' q') : p * q' = p' * q := by
  have key : ∀ {p q p' q' : Int}, IsPace n ts b p q → IsPace n ts b p' q' → p * q' ≤ p' * q := fun h h' => by
    obtain ⟨m, c, W, h1, _, hc, l, r, e⟩ := h.ex
    exact fr_le h1 h.pos e (h'.all m c W h1 hc l r)
  exact Int.le_antisymm (key h h') (key h' h)
theorem IsPace.perm {n : Nat} {ts ts' : List Tie} (pm : ∀ t, t ∈ ts' ↔ t ∈ ts) {b : Nat} {p q : Int} (h : IsPace n ts b p q) : IsPace n ts' b p q := by
  have pm' : ∀ t, t ∈ ts ↔ t ∈ ts' := fun t => (pm t).symm
  refine ⟨h.pos, fun m c W h1 hc ⟨k, x, l⟩ r => h.all m c W h1 hc ⟨k, x, l.perm pm'⟩ (r.perm pm'), ?_⟩
  obtain ⟨m, c, W, h1, hm, hc, ⟨k, x, l⟩, r, e⟩ := h.ex
  exact ⟨m, c, W, h1, hm, hc, ⟨k, x, l.perm pm⟩, r.perm pm, e⟩
/-! ### the wheel of those alone that lead to b -/
structure Part (n : Nat) (ts ts' : List Tie) (n' b : Nat) (φ : Nat → Nat) : Prop where
  lt : ∀ i, i < n' → φ i < n
  into : ∀ t ∈ ts', (φ t.1, φ t.2.1, t.2.2) ∈ ts
  inj : ∀ i j, i < n' → j < n' → φ i = φ j → i = j
  lead : ∀ i, i < n' → Rch ts (φ i) b
  all : ∀ c, Rch ts c b → ∃ i, i < n' ∧ φ i = c
  back : ∀ t ∈ ts, ∀ i j, i < n' → j < n' → φ i = t.1 → φ j = t.2.1 → (i, j, t.2.2) ∈ ts'
  ok : OkT n' ts'
theorem Part.up {n : Nat} {ts ts' : List Tie} {n' b : Nat} {φ : Nat → Nat} (h : Part n ts ts' n' b φ) {i : Nat} : ∀ {m j : Nat} {W : Int}, RR ts' (pt i) m j W → RR ts (pt (φ i)) m (φ j) W
  | 0, j, W, ⟨e, ew⟩ => ⟨by rw [e], ew⟩
  | m + 1, j, W, ⟨t, ht, e, y, r, ex⟩ => ⟨_, h.into t ht, by rw [← e], y, h.up r, ex⟩
/-! ### going back -/
theorem FInv.all {ts : List Tie} {n a : Nat} {fs : List Nat} (h : FInv ts n a fs.length fs) : ∀ x, x ∈ fs ↔ Rch ts a x := fun x => by
  refine ⟨h.rc x, fun r => ?_⟩
  induction r with
  | refl => exact h.st
  | step _ ht e ih =>
    obtain ⟨j, hj, ej⟩ := List.getElem_of_mem ih
    exact h.cl j hj _ ht (by rw [e, ← ej]; simp [hj])
end Ww

set_option Elab.async false
set_option linter.all false
namespace Ww
open PySem PySem.W PyProof.Rows L2
/-! ### all rings one by one -/
inductive SW (n : Nat) (ts : List Tie) : List Nat → Int → Prop
  | one {a : Nat} (h : a < n) : SW n ts [a] 0
  | snoc {wk : List Nat} {z : Int} {t : Tie} (h : SW n ts wk z) (ht : t ∈ ts) (h1 : t.1 = wk.getD (wk.length - 1) 0) (h2 : wk.getD 0 0 < t.2.1) (h3 : t.2.1 ∉ wk) : SW n ts (wk ++ [t.2.1]) (z + t.2.2)
noncomputable abbrev Rg := Int × Nat × List Nat
noncomputable def RG (n : Nat) (ts : List Tie) (r : Rg) : Prop := ∃ z t, SW n ts r.2.2 z ∧ t ∈ ts ∧ t.1 = r.2.2.getD (r.2.2.length - 1) 0 ∧ t.2.1 = r.2.2.getD 0 0 ∧ r.1 = z + t.2.2 ∧ r.2.1 = r.2.2.length
theorem getD_app {wk : List Nat} {x i : Nat} (h : i < wk.length) : (wk ++ [x]).getD i 0 = wk.getD i 0 := by simp [List.getD_eq_getElem?_getD, List.getElem?_append_left h]
theorem getD_end {wk : List Nat} {x : Nat} : (wk ++ [x]).getD wk.length 0 = x := by simp [List.getD_eq_getElem?_getD]
theorem SW.pos {n : Nat} {ts : List Tie} {wk : List Nat} {z : Int} (h : SW n ts wk z) : 1 ≤ wk.length := by
  cases h with
  | one => simp
  | snoc => simp
theorem SW.facts {n : Nat} {ts : List Tie} (ok : OkT n ts) {wk : List Nat} {z : Int} (h : SW n ts wk z) : wk.Nodup ∧ (∀ x ∈ wk, x < n) ∧ RR ts (pt (wk.getD 0 0)) (wk.length - 1) (wk.getD (wk.length - 1) 0) z := by
  induction h with
  | one h => exact ⟨by simp, fun x hx => by rw [List.mem_singleton.mp hx]; exact h, rfl, rfl⟩
  | @snoc wk z t h ht h1 h2 h3 ih =>
    obtain ⟨a, b, c⟩ := ih
    have p := h.pos
    refine ⟨?_, fun x hx => ?_, ?_⟩
    · rw [List.nodup_append]
      exact ⟨a, by simp, fun x hx y hy => by rw [List.mem_singleton.mp hy]; rintro rfl; exact h3 hx⟩
    · rcases List.mem_append.mp hx with z | z
      · exact b x z
      · rw [List.mem_singleton.mp z]; exact (ok.lt t ht).2
    · rw [List.length_append, List.length_singleton, Nat.add_sub_cancel, getD_end, getD_app p]
      have e : wk.length = wk.length - 1 + 1 := by omega
      rw [e]
      exact ⟨t, ht, rfl, z, h1 ▸ c, rfl⟩
theorem range_map_succ (d : Nat → Nat) (k : Nat) : (List.range (k + 1)).map d = (List.range k).map d ++ [d k] := by rw [List.range_succ, List.map_append]; rfl
theorem range_get (d : Nat → Nat) {k i : Nat} (h : i < k) : ((List.range k).map d).getD i 0 = d i := by simp [h]
theorem ring_of_path {n : Nat} {ts : List Tie} {m : Nat} {d : Nat → Nat} {s : Nat → Int} (p : Path ts m d s) (m1 : 1 ≤ m) (hd : d m = d 0) (lt : d 0 < n) (inj : ∀ i j, i < m → j < m → d i = d j → i = j) (least : ∀ i, 0 < i → i < m → d 0 < d i) : RG n ts (s m - s 0, m, (List.range m).map d) := by
  have key : ∀ k, k + 1 ≤ m → SW n ts ((List.range (k + 1)).map d) (s k - s 0) := fun k => by
    induction k with
    | zero => intro _; rw [show s 0 - s 0 = 0 by omega]; exact .one lt
    | succ k ih =>
      intro hk
      have h := ih (by omega)
      have q := p k (by omega)
      have l : ((List.range (k + 1)).map d).length = k + 1 := by simp
      have g := SW.snoc (t := (d k, d (k + 1), s (k + 1) - s k)) h q (by rw [l, Nat.add_sub_cancel]; exact (range_get d (by omega)).symm) (by rw [range_get d (by omega)]; exact least (k + 1) (by omega) (by omega)) (fun z => by
        obtain ⟨i, hi, e⟩ := List.mem_map.mp z
        have := List.mem_range.mp hi
        have := inj i (k + 1) (by omega) (by omega) e
        omega)
      rw [range_map_succ d (k + 1)]
      have e : s (k + 1) - s 0 = s k - s 0 + (s (k + 1) - s k) := by omega
      rw [e]; exact g
  have last := p (m - 1) (by omega)
  rw [show m - 1 + 1 = m by omega, hd] at last
  have h := key (m - 1) (by omega)
  rw [show m - 1 + 1 = m by omega] at h
  refine ⟨_, _, h, last, ?_, ?_, ?_, by simp⟩
  · simp only [List.length_map, List.length_range]
    exact (range_get d (by omega)).symm
  · exact (range_get d (by omega)).symm
  · show s m - s 0 = s (m - 1) - s 0 + (s m - s (m - 1)); omega
theorem lap_inj {m t0 : Nat} (h : t0 < m) {i j : Nat} (hi : i < m) (hj : j < m) (e : (lap m t0 i).1 = (lap m t0 j).1) : i = j := by
  have a := lap_eq h i
  have b := lap_eq h j
  rw [e] at a
  generalize (lap m t0 j).1 = u at a b
  generalize (lap m t0 i).2 = r at a
  generalize (lap m t0 j).2 = r' at b
  rcases Nat.lt_trichotomy r r' with c | c | c
  · have := Nat.mul_le_mul_left m c
    rw [Nat.mul_succ] at this; omega
  · rw [c] at a; omega
  · have := Nat.mul_le_mul_left m c
    rw [Nat.mul_succ] at this; omega
theorem simple_ring {n : Nat} {ts : List Tie} (ok : OkT n ts) {S : Nat → Prop} (cl : ∀ c d k x, S d → RR ts (pt c) k d x → S c) {p q : Int} (all : ∀ m c W, 1 ≤ m → c < n → S c → RR ts (pt c) m c W → W * q ≤ p * (m : Int)) : ∀ (m : Nat) (d : Nat → Nat) (s : Nat → Int), Path ts m d s → 1 ≤ m → d m = d 0 → S (d 0) → (s m - s 0) * q = p * (m : Int) → ∃ r, RG n ts r ∧ r.1 * q = p * (r.2.1 : Int) ∧ S (r.2.2.getD 0 0) := by
  intro m
  induction m using Nat.strongRecOn with
  | ind m ih =>
    intro d s P m1 hd sd e
    have dlt : ∀ i, i < m → d i < n := fun i hi => (ok.lt _ (P i hi)).1
    by_cases c : ∃ i j, i < j ∧ j < m ∧ d i = d j
    · obtain ⟨i, j, hij, hj, ed⟩ := c
      have w1 := P.sub i (j - i) (by omega)
      rw [show i + (j - i) = j by omega, ← ed] at w1
      have si : S (d i) := by
        have w := P.sub i (m - i) (by omega)
        rw [show i + (m - i) = m by omega, hd] at w
        exact cl _ _ _ _ sd w
      have a1 := all _ _ _ (by omega) (dlt i (by omega)) si w1
      have w2 := P.sub 0 i (by omega)
      rw [Nat.zero_add] at w2
      have w3 := P.sub j (m - j) (by omega)
      rw [show j + (m - j) = m by omega, ← ed, hd] at w3
      have a2 := all (i + (m - j)) _ _ (by omega) (dlt 0 (by omega)) sd (RR.join.mpr ⟨_, _, _, w2, w3, rfl⟩)
      have P2 : Path ts (j - i) (fun k => d (i + k)) (fun k => s (i + k)) := fun k hk => P (i + k) (by omega)
      refine ih (j - i) (by omega) _ _ P2 (by omega) (by show d (i + (j - i)) = d (i + 0); rw [show i + (j - i) = j by omega, Nat.add_zero, ed]) si ?_
      show (s (i + (j - i)) - s (i + 0)) * q = p * ((j - i : Nat) : Int)
      rw [show i + (j - i) = j by omega, Nat.add_zero]
      refine Int.le_antisymm a1 ?_
      have e3 : (s m - s 0) * q = (s j - s i) * q + (s i - s 0 + (s m - s j)) * q := by rw [← Int.add_mul]; congr 1; omega
      have e4 : p * (m : Int) = p * ((j - i : Nat) : Int) + p * ((i + (m - j) : Nat) : Int) := by rw [← Int.mul_add]; congr 1; omega
      omega
    · have inj : ∀ i j, i < m → j < m → d i = d j → i = j := fun i j hi hj ed => by
        rcases Nat.lt_trichotomy i j with z | z | z
        · exact absurd ⟨i, j, z, hj, ed⟩ c
        · exact z
        · exact absurd ⟨j, i, z, hi, ed.symm⟩ c
      obtain ⟨t0, ht, top⟩ := best1 (fun i => -(d i : Int)) m m1
      have Q := P.round m1 hd ht m
      have l0 : lap m t0 0 = (t0, 0) := rfl
      have lf := lap_full ht
      have st0 : S (d t0) := by
        have w := P.sub t0 (m - t0) (by omega)
        rw [show t0 + (m - t0) = m by omega, hd] at w
        exact cl _ _ _ _ sd w
      have R := ring_of_path (n := n) Q m1 (by show d (lap m t0 m).1 = d (lap m t0 0).1; rw [lf, l0]) (by show d (lap m t0 0).1 < n; rw [l0]; exact dlt t0 ht)
        (fun i j hi hj z => lap_inj ht hi hj (inj _ _ (lap_lt ht i) (lap_lt ht j) z))
        (fun i h0 hi => by
          show d (lap m t0 0).1 < d (lap m t0 i).1
          have a := top _ (lap_lt ht i)
          try dsimp only at a
          have b : d (lap m t0 i).1 ≠ d (lap m t0 0).1 := fun z => by
            have := lap_inj ht hi (by omega) (inj _ _ (lap_lt ht i) (lap_lt ht 0) z)
            omega
          rw [l0] at b ⊢
          dsimp only at b ⊢
          omega)
      refine ⟨_, R, ?_, ?_⟩
      · show (s (lap m t0 m).1 + (s m - s 0) * ((lap m t0 m).2 : Int) - (s (lap m t0 0).1 + (s m - s 0) * ((lap m t0 0).2 : Int))) * q = p * (m : Int)
        rw [lf, l0]
        dsimp only
        rw [← e]
        congr 1
        have z1 : (s m - s 0) * ((1 : Nat) : Int) = s m - s 0 := by rw [show ((1 : Nat) : Int) = 1 from rfl, Int.mul_one]
        have z2 : (s m - s 0) * ((0 : Nat) : Int) = 0 := by simp
        rw [z1, z2]; omega
      · show S (((List.range m).map fun i => d (lap m t0 i).1).getD 0 0)
        rw [range_get _ (by omega), l0]; exact st0
theorem IsPace.ring {n : Nat} {ts : List Tie} (ok : OkT n ts) {b : Nat} {p q : Int} (h : IsPace n ts b p q) : ∃ r, RG n ts r ∧ r.1 * q = p * (r.2.1 : Int) ∧ Rch ts (r.2.2.getD 0 0) b := by
  obtain ⟨m, c, W, h1, _, hc, l, r, e⟩ := h.ex
  obtain ⟨d, s, P, d0, dm, s0, sm⟩ := r.path
  obtain ⟨r, a, b, c⟩ := simple_ring ok (S := fun c => Lead ts c b) (fun _ _ k x h r => Lead.on ⟨k, x, r⟩ h) h.all m d s P h1 (by rw [d0, dm]) (by rw [d0]; exact l) (by rw [sm, s0, Int.sub_zero]; exact e)
  exact ⟨r, a, b, lead_iff.mp c⟩
theorem IsBeat.ring {n : Nat} {ts : List Tie} (ok : OkT n ts) {p q : Int} (h : IsBeat n ts p q) : ∃ r, RG n ts r ∧ r.1 * q = p * (r.2.1 : Int) := by
  obtain ⟨m, c, W, h1, _, hc, r, e⟩ := h.ex
  obtain ⟨d, s, P, d0, dm, s0, sm⟩ := r.path
  obtain ⟨r, a, b, c⟩ := simple_ring ok (S := fun _ => True) (fun _ _ _ _ _ _ => trivial) (fun m c W x y _ z => h.all m c W x y z) m d s P h1 (by rw [d0, dm]) trivial (by rw [sm, s0, Int.sub_zero]; exact e)
  exact ⟨r, a, b⟩
end Ww

set_option Elab.async false
set_option linter.all false
namespace Ww
open PySem PySem.W PyProof.Rows L2
/-! ### times that come again but for one number -/
noncomputable def MaxAt (ts : List Tie) (S : Nat → Int → Prop) (k b : Nat) (x : Int) : Prop := RR ts S k b x ∧ ∀ y, RR ts S k b y → y ≤ x
theorem MaxAt.uniq {ts : List Tie} {S : Nat → Int → Prop} {k b : Nat} {x y : Int} (h : MaxAt ts S k b x) (h' : MaxAt ts S k b y) : x = y := Int.le_antisymm (h'.2 _ h.1) (h.2 _ h'.1)
theorem shift_max {n : Nat} {ts : List Tie} (ok : OkT n ts) {S : Nat → Int → Prop} (hS : ∀ b x, S b x → b < n) {f p : Nat} {q : Int} {e : Nat → Int} (h1 : ∀ a, a < n → MaxAt ts S f a (e a)) (h2 : ∀ a, a < n → MaxAt ts S (f + p) a (e a + q)) {j b : Nat} {x : Int} (h : MaxAt ts S (f + j) b x) : MaxAt ts S (f + p + j) b (x + q) := by
  constructor
  · obtain ⟨a, y, w, r1, r2, ex⟩ := RR.join.mp h.1
    have ha := r1.lt ok hS
    have l1 := (h1 a ha).2 y r1
    have l2 := h.2 _ (RR.join.mpr ⟨a, e a, w, (h1 a ha).1, r2, rfl⟩)
    exact RR.join.mpr ⟨a, e a + q, w, (h2 a ha).1, r2, by omega⟩
  · intro z hz
    obtain ⟨a, y, w, r1, r2, ex⟩ := RR.join.mp hz
    have ha := r1.lt ok hS
    have l1 := (h2 a ha).2 y r1
    have l2 := h.2 _ (RR.join.mpr ⟨a, e a, w, (h1 a ha).1, r2, rfl⟩)
    omega
theorem again {n : Nat} {ts : List Tie} (ok : OkT n ts) {S : Nat → Int → Prop} (hS : ∀ b x, S b x → b < n) {f p : Nat} {q : Int} {e : Nat → Int} (h1 : ∀ a, a < n → MaxAt ts S f a (e a)) (h2 : ∀ a, a < n → MaxAt ts S (f + p) a (e a + q)) : ∀ (m b : Nat), b < n → MaxAt ts S (f + m * p) b (e b + (m : Int) * q)
  | 0, b, hb => by
    have := h1 b hb
    simpa using this
  | m + 1, b, hb => by
    have := shift_max ok hS h1 h2 (again ok hS h1 h2 m b hb)
    rw [show f + p + m * p = f + (m + 1) * p by rw [Nat.succ_mul]; omega, show e b + (m : Int) * q + q = e b + ((m + 1 : Nat) : Int) * q by rw [show ((m + 1 : Nat) : Int) = (m : Int) + 1 by omega, Int.add_mul]; omega] at this
    exact this
end Ww

set_option Elab.async false
set_option linter.all false
namespace Ww
open PySem PySem.W PyProof.Rows L2
/-! ### the first round whose times come again -/
noncomputable def shp (xs : List Int) : List Int := xs.map fun t => t - xs.getD 0 0
noncomputable abbrev GR (n : Nat) (ts : List Tie) (ms : List Int) (k : Nat) (x : List Int) : Prop := GoodR n (RR ts (atT ms) k) (x.map some)
theorem GR.len {n : Nat} {ts : List Tie} {ms : List Int} {k : Nat} {x : List Int} (h : GR n ts ms k x) : x.length = n := by simpa using GoodR.len h
theorem shp_eq {x y : List Int} {n : Nat} (hx : x.length = n) (hy : y.length = n) (e : shp x = shp y) : ∀ b, b < n → y.getD b 0 = x.getD b 0 + (y.getD 0 0 - x.getD 0 0) := fun b hb => by
  have := congrArg (fun l => l.getD b 0) e
  unfold shp at this
  have h1 : b < x.length := by omega
  have h2 : b < y.length := by omega
  simp [h1, h2] at this
  have e1 : x.getD b 0 = x[b] := by simp [h1]
  have e2 : y.getD b 0 = y[b] := by simp [h2]
  have e3 : x.getD 0 0 = (x[0]?).getD 0 := by simp
  have e4 : y.getD 0 0 = (y[0]?).getD 0 := by simp
  rw [e1, e2, e3, e4]; omega
structure Due (n : Nat) (ts : List Tie) (ms : List Int) (f k : Nat) (q : Int) : Prop where
  lt : f < k
  ex : ∃ x y, GR n ts ms f x ∧ GR n ts ms k y ∧ shp x = shp y ∧ q = y.getD 0 0 - x.getD 0 0
  fst : ∀ i j x y, i < j → j < k → GR n ts ms i x → GR n ts ms j y → shp x ≠ shp y
noncomputable def NoDue (n : Nat) (ts : List Tie) (ms : List Int) (K : Nat) : Prop := ∀ i j x y, i < j → j ≤ K → GR n ts ms i x → GR n ts ms j y → shp x ≠ shp y
theorem Due.no {n : Nat} {ts : List Tie} {ms : List Int} {f k K : Nat} {q : Int} (h : Due n ts ms f k q) (hk : k ≤ K) (no : NoDue n ts ms K) : False := by
  obtain ⟨x, y, a, b, c, _⟩ := h.ex
  exact no f k x y h.lt hk a b c
theorem Due.uniq {n : Nat} {ts : List Tie} {ms : List Int} {f k f' k' : Nat} {q q' : Int} (h : Due n ts ms f k q) (h' : Due n ts ms f' k' q') : f = f' ∧ k = k' ∧ q = q' := by
  obtain ⟨x, y, a, b, c, e⟩ := h.ex
  obtain ⟨x', y', a', b', c', e'⟩ := h'.ex
  have ek : k = k' := by
    rcases Nat.lt_trichotomy k k' with z | z | z
    · exact absurd c (h'.fst f k x y h.lt z a b)
    · exact z
    · exact absurd c' (h.fst f' k' x' y' h'.lt z a' b')
  subst ek
  have ey : y = y' := GoodR.ints b b'
  subst ey
  have ef : f = f' := by
    rcases Nat.lt_trichotomy f f' with z | z | z
    · exact absurd (c.trans c'.symm) (h.fst f f' x x' z h'.lt a a')
    · exact z
    · exact absurd (c'.trans c.symm) (h.fst f' f x' x z h.lt a' a)
  subst ef
  have ex : x = x' := GoodR.ints a a'
  subst ex
  exact ⟨rfl, rfl, by rw [e, e']⟩
theorem GR.max {n : Nat} {ts : List Tie} {ms : List Int} {k : Nat} {x : List Int} (h : GR n ts ms k x) {b : Nat} (hb : b < n) : MaxAt ts (atT ms) k b (x.getD b 0) := GoodR.at' h hb
theorem Due.again {n : Nat} {ts : List Tie} (ok : OkT n ts) {ms : List Int} (hl : ms.length = n) {f k : Nat} {q : Int} (h : Due n ts ms f k q) {far : Nat} (hf : f ≤ far) {x y : List Int} (hx : GR n ts ms far x) (hy : GR n ts ms (far + (k - f)) y) : y = x.map (· + q) := by
  obtain ⟨u, v, a, b, c, e⟩ := h.ex
  have lt := h.lt
  have sh := shp_eq a.len b.len c
  have h2 : ∀ c, c < n → MaxAt ts (atT ms) (f + (k - f)) c (u.getD c 0 + q) := fun c hc => by
    rw [show f + (k - f) = k by omega]
    have := b.max hc
    rw [sh c hc, ← e] at this
    exact this
  refine List.ext_getElem (by rw [List.length_map, hx.len, hy.len]) fun i h1 _ => ?_
  have hi : i < n := by rw [← hy.len]; exact h1
  have mx := hx.max hi
  rw [show far = f + (far - f) by omega] at mx
  have := shift_max ok (atT_lt hl) (fun c hc => a.max hc) h2 mx
  rw [show f + (k - f) + (far - f) = far + (k - f) by omega] at this
  have e2 := (hy.max hi).uniq this
  have e3 : y.getD i 0 = y[i] := by simp [h1]
  have e4 : x.getD i 0 = x[i]'(by rw [hx.len]; exact hi) := by simp [show i < x.length by rw [hx.len]; exact hi]
  rw [List.getElem_map, ← e3, ← e4, e2]
/-! ### the shapes seen so far, in a dict -/
noncomputable def keyS (s : List Int) : List Key := s.map Sum.inl
theorem keyS_inj {s t : List Int} (h : keyS s = keyS t) : s = t := by
  have e : (keyS s).map (fun k => match k with | .inl i => i | .inr _ => 0) = (keyS t).map (fun k => match k with | .inl i => i | .inr _ => 0) := by rw [h]
  unfold keyS at e
  rw [List.map_map, List.map_map] at e
  have i1 : ∀ l : List Int, l.map ((fun k : Key => match k with | .inl i => i | .inr _ => (0 : Int)) ∘ Sum.inl) = l := fun l => by
    conv => rhs; rw [← List.map_id l]
    rfl
  rw [i1, i1] at e; exact e
structure Seen (n : Nat) (ts : List Tie) (ms : List Int) (k : Nat) (kvs : List (List Key × V)) (Vl : Nat → V → Prop) : Prop where
  len : kvs.length = k
  sound : ∀ s v, valV kvs (keyS s) = some v → ∃ j x, j < k ∧ GR n ts ms j x ∧ shp x = s ∧ Vl j v
  full : ∀ j x, j < k → GR n ts ms j x → (valV kvs (keyS (shp x))).isSome = true
  fst : ∀ i j x y, i < j → j < k → GR n ts ms i x → GR n ts ms j y → shp x ≠ shp y
theorem Seen.start {n : Nat} {ts : List Tie} {ms : List Int} {Vl : Nat → V → Prop} : Seen n ts ms 0 [] Vl :=
  ⟨rfl, (fun s v h => by rw [valV_nil] at h; cases h), fun j x h => absurd h (by omega), fun i j x y _ h => absurd h (by omega)⟩
theorem Seen.add {n : Nat} {ts : List Tie} {ms : List Int} {k : Nat} {kvs : List (List Key × V)} {Vl : Nat → V → Prop} (h : Seen n ts ms k kvs Vl) {x : List Int} (hx : GR n ts ms k x) (new : valV kvs (keyS (shp x)) = none) {v : V} (hv : Vl k v) : Seen n ts ms (k + 1) (putK kvs (keyS (shp x)) v) Vl := by
  refine ⟨by rw [putK_new v new, List.length_append, h.len]; rfl, fun s u hu => ?_, fun j y hj hy => ?_, fun i j y z hij hj hy hz => ?_⟩
  · rw [valV_put] at hu
    split at hu
    · rename_i e
      cases hu
      exact ⟨k, x, by omega, hx, (keyS_inj e).symm, hv⟩
    · obtain ⟨j, y, a, b, c, d⟩ := h.sound s u hu
      exact ⟨j, y, by omega, b, c, d⟩
  · rw [valV_put]
    split
    · rfl
    · rename_i ne
      by_cases e : j = k
      · subst e
        have : y = x := GoodR.ints hy hx
        subst this
        exact absurd rfl ne
      · exact h.full j y (by omega) hy
  · by_cases e : j = k
    · subst e
      have ez : z = x := GoodR.ints hz hx
      subst ez
      intro es
      have := h.full i y hij hy
      rw [es, new] at this
      cases this
    · exact h.fst i j y z hij (by omega) hy hz
theorem Seen.no {n : Nat} {ts : List Tie} {ms : List Int} {k : Nat} {kvs : List (List Key × V)} {Vl : Nat → V → Prop} (h : Seen n ts ms (k + 1) kvs Vl) : NoDue n ts ms k := fun i j x y hij hj hx hy => h.fst i j x y hij (by omega) hx hy
end Ww

set_option Elab.async false
set_option linter.all false
namespace Ww
open PySem PySem.Builtin.Str
/-! ### texts as lists of signs -/
noncomputable abbrev sg (x : Str) : List Nat := x.cps.toList
theorem sg_ext {a b : Str} (h : sg a = sg b) : a = b := Str.ext' (Array.toList_inj.mp h)
theorem sg_app (a b : Str) : sg (a ++ b) = sg a ++ sg b := by
  show (a.cps ++ b.cps).toList = _
  rw [Array.toList_append]
theorem sg_len (a : Str) : (sg a).length = a.length := by simp [Str.length]
theorem app_len (a b : Str) : (a ++ b).length = a.length + b.length := by rw [← sg_len, sg_app, List.length_append, sg_len, sg_len]
/-! ### cut at a sign -/
theorem cut_one {c : Nat} : ∀ {a b r s : List Nat}, c ∉ a → c ∉ b → a ++ c :: r = b ++ c :: s → a = b ∧ r = s
  | [], [], _, _, _, _, h => by simpa using h
  | [], y :: b, _, _, _, hb, h => by
    simp only [List.nil_append, List.cons_append, List.cons.injEq] at h
    exact absurd h.1 (fun z => hb (by rw [z]; exact List.mem_cons_self))
  | x :: a, [], _, _, ha, _, h => by
    simp only [List.nil_append, List.cons_append, List.cons.injEq] at h
    exact absurd h.1 (fun z => ha (by rw [← z]; exact List.mem_cons_self))
  | x :: a, y :: b, r, s, ha, hb, h => by
    simp only [List.cons_append, List.cons.injEq] at h
    obtain ⟨rfl, h⟩ := h
    obtain ⟨rfl, rfl⟩ := cut_one (fun z => ha (List.mem_cons_of_mem _ z)) (fun z => hb (List.mem_cons_of_mem _ z)) h
    exact ⟨rfl, rfl⟩
theorem sg_join_cons (c : Nat) (p q : Str) (r : List Str) : sg (Str.join ⟨#[c]⟩ (p :: q :: r)) = sg p ++ c :: sg (Str.join ⟨#[c]⟩ (q :: r)) := by
  show sg (p ++ ⟨#[c]⟩ ++ Str.join ⟨#[c]⟩ (q :: r)) = _
  rw [sg_app, sg_app, List.append_assoc]
  rfl
theorem join_inj (c : Nat) : ∀ (ps qs : List Str), ps ≠ [] → qs ≠ [] → (∀ p ∈ ps, c ∉ sg p) → (∀ q ∈ qs, c ∉ sg q) → Str.join ⟨#[c]⟩ ps = Str.join ⟨#[c]⟩ qs → ps = qs
  | [], _, h, _, _, _, _ => absurd rfl h
  | _, [], _, h, _, _, _ => absurd rfl h
  | [p], [q], _, _, _, _, h => by rw [show p = q from h]
  | [p], q :: q' :: qs, _, _, hp, _, h => by
    have e : sg p = sg q ++ c :: sg (Str.join ⟨#[c]⟩ (q' :: qs)) := by rw [← sg_join_cons]; exact congrArg sg h
    exact absurd (show c ∈ sg p by rw [e]; simp) (hp p List.mem_cons_self)
  | p :: p' :: ps, [q], _, _, _, hq, h => by
    have e : sg p ++ c :: sg (Str.join ⟨#[c]⟩ (p' :: ps)) = sg q := by rw [← sg_join_cons]; exact congrArg sg h
    exact absurd (show c ∈ sg q by rw [← e]; simp) (hq q List.mem_cons_self)
  | p :: p' :: ps, q :: q' :: qs, _, _, hp, hq, h => by
    have e : sg p ++ c :: sg (Str.join ⟨#[c]⟩ (p' :: ps)) = sg q ++ c :: sg (Str.join ⟨#[c]⟩ (q' :: qs)) := by rw [← sg_join_cons, ← sg_join_cons]; exact congrArg sg h
    obtain ⟨e1, e2⟩ := cut_one (hp p List.mem_cons_self) (hq q List.mem_cons_self) e
    rw [sg_ext e1, join_inj c (p' :: ps) (q' :: qs) (by simp) (by simp) (fun x hx => hp x (List.mem_cons_of_mem _ hx)) (fun x hx => hq x (List.mem_cons_of_mem _ hx)) (sg_ext e2)]
theorem split_parts {c : Nat} {ps : List Str} (h : ps ≠ []) (hf : ∀ p ∈ ps, c ∉ sg p) : Txt.split (Str.join ⟨#[c]⟩ ps) ⟨#[c]⟩ = ps := by
  refine join_inj c _ ps (fun z => ?_) h (StrLaws.split_free _ c) hf (StrLaws.join_split _ _)
  have := PyProof.Rows.split_pos (Str.join ⟨#[c]⟩ ps) ⟨#[c]⟩
  rw [z] at this
  exact absurd this (by decide)
theorem join_ends (c : Nat) : ∀ ts : List Str, Str.join Str.empty (ts.map fun t => t ++ ⟨#[c]⟩) = Str.join ⟨#[c]⟩ (ts ++ [Str.empty])
  | [] => rfl
  | [t] => by
    show t ++ ⟨#[c]⟩ = t ++ ⟨#[c]⟩ ++ Str.empty
    rw [Str.append_empty]
  | t :: u :: ts => by
    show t ++ ⟨#[c]⟩ ++ Str.empty ++ Str.join Str.empty ((u :: ts).map fun t => t ++ ⟨#[c]⟩) = t ++ ⟨#[c]⟩ ++ Str.join ⟨#[c]⟩ ((u :: ts) ++ [Str.empty])
    rw [join_ends c (u :: ts), Str.append_empty]
theorem split_lines {c : Nat} {ts : List Str} (hf : ∀ t ∈ ts, c ∉ sg t) : Txt.split (Txt.join Str.empty (ts.map fun t => t ++ ⟨#[c]⟩)) ⟨#[c]⟩ = ts ++ [Str.empty] := by
  show Txt.split (glued Str.empty (ts.map fun t => t ++ ⟨#[c]⟩)) ⟨#[c]⟩ = _
  rw [StrLaws.glued_eq_join, join_ends]
  refine split_parts (by simp) fun p hp => ?_
  rcases List.mem_append.mp hp with h | h
  · exact hf p h
  · rw [List.mem_singleton.mp h]; simp [Str.empty]
/-! ### numbers written -/
open PySem.NumText in
theorem digs_all (m : Nat) : AllDigits ((Nat.toDigits 10 m).map Char.toNat) := by
  intro c hc
  obtain ⟨ch, hch, e⟩ := List.mem_map.mp hc
  have r := PyProof.Rows.digit_range (Nat.isDigit_of_mem_toDigits (by decide) (by decide) hch)
  rw [← e]
  exact r
noncomputable def digs (m : Nat) : List Nat := (Nat.toDigits 10 m).map Char.toNat
theorem digs_lt {m : Nat} (h : m < 10) : digs m = [48 + m] := by
  unfold digs
  rw [Nat.toDigits_of_lt_base h]
  have : ∀ d : Nat, d < 10 → (Nat.digitChar d).toNat = 48 + d := by decide
  rw [List.map_singleton, this m h]
theorem digs_ge {m : Nat} (h : 10 ≤ m) : digs m = digs (m / 10) ++ digs (m % 10) := by
  unfold digs
  have hm : m % 10 < 10 := Nat.mod_lt m (by decide)
  have t : Nat.toDigits 10 (m / 10) ++ Nat.toDigits 10 (m % 10) = Nat.toDigits 10 (10 * (m / 10) + m % 10) := Nat.toDigits_append_toDigits (by decide) (by omega) hm
  rw [Nat.div_add_mod] at t
  rw [← t, List.map_append]
theorem digs_head : ∀ (m : Nat), 0 < m → ∃ c r, digs m = c :: r ∧ 49 ≤ c ∧ c ≤ 57 := fun m => by
  induction m using Nat.strongRecOn with
  | _ m ih =>
    intro h0
    by_cases h : m < 10
    · exact ⟨48 + m, [], digs_lt h, by omega, by omega⟩
    · obtain ⟨c, r, e, h1, h2⟩ := ih (m / 10) (by omega) (by omega)
      exact ⟨c, r ++ digs (m % 10), by rw [digs_ge (by omega), e]; rfl, h1, h2⟩
theorem digs_len : ∀ (k m : Nat), m < 10 ^ (k + 1) → (digs m).length ≤ k + 1
  | 0, m, h => by rw [digs_lt (by simpa using h)]; exact Nat.le_refl 1
  | k + 1, m, h => by
    by_cases h1 : m < 10
    · rw [digs_lt h1]; exact Nat.le_add_left _ _
    · rw [digs_ge (by omega), List.length_append, digs_lt (Nat.mod_lt m (by decide))]
      have e : 10 ^ (k + 1 + 1) = 10 ^ (k + 1) * 10 := rfl
      have := digs_len k (m / 10) (by omega)
      simp only [List.length_singleton]
      omega
theorem digs_ne (m : Nat) : digs m ≠ [] := by
  rcases Nat.eq_zero_or_pos m with rfl | h
  · rw [digs_lt (by decide)]; simp
  · obtain ⟨c, r, e, _⟩ := digs_head m h
    rw [e]; simp
theorem digs_val (m : Nat) : NumText.digitsVal (digs m) = m := by
  induction m using Nat.strongRecOn with
  | _ m ih =>
    by_cases h : m < 10
    · rw [digs_lt h]
      show 0 * 10 + (48 + m - 48) = m
      omega
    · rw [digs_ge (by omega), digs_lt (Nat.mod_lt m (by decide)), NumText.digitsVal_snoc, ih (m / 10) (by omega)]
      omega
noncomputable abbrev numT (i : Int) : Str := Str.ofString (toString i)
theorem num_nat (m : Nat) : sg (numT (m : Int)) = digs m := by
  unfold numT
  show (Str.ofString (toString ((m : Nat) : Int))).cps.toList = _
  rw [PyProof.Rows.signs_ofString]
  show (Nat.repr m).toList.map Char.toNat = _
  rw [Nat.toList_repr]
  rfl
theorem num_neg (m : Nat) : sg (numT (Int.negSucc m)) = 45 :: digs (m + 1) := by
  unfold numT
  show (Str.ofString (toString (Int.negSucc m))).cps.toList = _
  rw [PyProof.Rows.signs_ofString]
  show ("-" ++ Nat.repr (m + 1)).toList.map Char.toNat = _
  rw [String.toList_append, List.map_append, Nat.toList_repr]
  rfl
theorem num_cases (i : Int) : (∃ m : Nat, i = (m : Int) ∧ sg (numT i) = digs m) ∨ ∃ m : Nat, i = -((m : Int) + 1) ∧ sg (numT i) = 45 :: digs (m + 1) := by
  cases i with
  | ofNat m => exact .inl ⟨m, rfl, num_nat m⟩
  | negSucc m => exact .inr ⟨m, by omega, num_neg m⟩
theorem num_signs {i : Int} {c : Nat} (h : c ∈ sg (numT i)) : c = 45 ∨ (48 ≤ c ∧ c ≤ 57) := by
  rcases num_cases i with ⟨m, _, e⟩ | ⟨m, _, e⟩
  · rw [e] at h; exact .inr (digs_all m c h)
  · rw [e] at h
    rcases List.mem_cons.mp h with h | h
    · exact .inl h
    · exact .inr (digs_all (m + 1) c h)
theorem num_len {i : Int} (h1 : -(10 ^ 30) < i) (h2 : i < 10 ^ 30) : (numT i).length ≤ 31 := by
  rw [← sg_len]
  rcases num_cases i with ⟨m, rfl, e⟩ | ⟨m, rfl, e⟩
  · rw [e]
    have := digs_len 29 m (by omega)
    omega
  · rw [e, List.length_cons]
    have := digs_len 29 (m + 1) (by omega)
    omega
/-! ### the lines of a note -/
theorem sp_eq : (" " : Str) = ⟨#[32]⟩ := by decide +kernel
theorem nl_eq : ("\n" : Str) = ⟨#[10]⟩ := by decide +kernel
theorem mi_eq : ("-" : Str) = ⟨#[45]⟩ := by decide +kernel
theorem no_eq : ("" : Str) = Str.empty := by decide +kernel
theorem ze_eq : ("0" : Str) = ⟨#[48]⟩ := by decide +kernel
theorem tie_eq : ("tie " : Str) = ("tie" : Str) ++ (" " : Str) := by decide +kernel
theorem deeds_eq : ("deeds " : Str) = ("deeds" : Str) ++ (" " : Str) := by decide +kernel
noncomputable def tieT (t : Nat × Nat × Int) : Str := ("tie " : Str) ++ numT t.1 ++ (" " : Str) ++ numT t.2.1 ++ (" " : Str) ++ numT t.2.2
noncomputable def headT (n : Nat) : Str := ("deeds " : Str) ++ numT n
theorem tie_parts (t : Nat × Nat × Int) : tieT t = Str.join ⟨#[32]⟩ [("tie" : Str), numT t.1, numT t.2.1, numT t.2.2] := by
  unfold tieT
  rw [← sp_eq, tie_eq]
  show _ = ("tie" : Str) ++ (" " : Str) ++ (numT t.1 ++ (" " : Str) ++ (numT t.2.1 ++ (" " : Str) ++ numT t.2.2))
  simp only [Str.append_assoc]
theorem head_parts (n : Nat) : headT n = Str.join ⟨#[32]⟩ [("deeds" : Str), numT n] := by
  unfold headT
  rw [← sp_eq, deeds_eq]
  rfl
theorem num_free {i : Int} {c : Nat} (h : c < 45) : c ∉ sg (numT i) := fun z => by
  rcases num_signs z with e | e <;> omega
theorem tie_free (t : Nat × Nat × Int) : 10 ∉ sg (tieT t) := by
  unfold tieT
  simp only [sg_app, List.mem_append, not_or]
  exact ⟨⟨⟨⟨⟨by decide +kernel, num_free (by decide)⟩, by decide +kernel⟩, num_free (by decide)⟩, by decide +kernel⟩, num_free (by decide)⟩
theorem head_free (n : Nat) : 10 ∉ sg (headT n) := by
  unfold headT
  simp only [sg_app, List.mem_append, not_or]
  exact ⟨by decide +kernel, num_free (by decide)⟩
theorem tie_len {t : Nat × Nat × Int} (h1 : t.1 < 40) (h2 : t.2.1 < 40) (h3 : -(10 ^ 30) < t.2.2) (h4 : t.2.2 < 10 ^ 30) : (tieT t).length ≤ 99 := by
  unfold tieT
  simp only [app_len]
  have e1 : ("tie " : Str).length = 4 := by decide +kernel
  have e2 : (" " : Str).length = 1 := by decide +kernel
  have a1 := num_len (i := (t.1 : Int)) (by omega) (by omega)
  have a2 := num_len (i := (t.2.1 : Int)) (by omega) (by omega)
  have a3 := num_len h3 h4
  omega
theorem head_len {n : Nat} (h : n ≤ 40) : (headT n).length ≤ 37 := by
  unfold headT
  simp only [app_len]
  have e1 : ("deeds " : Str).length = 6 := by decide +kernel
  have a1 := num_len (i := (n : Int)) (by omega) (by omega)
  omega
theorem log_ok {i : Int} (h1 : -(10 ^ 30) < i) (h2 : i < 10 ^ 30) : i.natAbs.log2 < 1920 := by
  by_cases h0 : i.natAbs = 0
  · rw [h0]; decide
  · rw [Nat.log2_lt h0]
    have a : i.natAbs < 10 ^ 30 := by omega
    exact Nat.lt_of_lt_of_le a (Nat.le_trans (show 10 ^ 30 ≤ 2 ^ 100 by decide) (Nat.pow_le_pow_right (by decide) (by decide)))
/-! ### is_number -/
theorem starts_one (x : Str) (c : Nat) : Txt.startswith x ⟨#[c]⟩ = ((sg x).head? == some c) := by
  obtain ⟨⟨l⟩⟩ := x
  unfold Txt.startswith
  cases l with
  | nil => rfl
  | cons a r =>
    have e : (⟨a :: r⟩ : Array Nat).extract 0 (0 + (⟨#[c]⟩ : Str).length) = #[a] := by
      apply Array.ext'
      simp [Str.length]
    unfold subAt
    show (decide (0 + (⟨#[c]⟩ : Str).length ≤ (a :: r).length) && ((⟨a :: r⟩ : Array Nat).extract 0 (0 + (⟨#[c]⟩ : Str).length) == #[c])) = (some a == some c)
    rw [e, decide_eq_true (by simp [Str.length]), Bool.true_and]
    by_cases h : a = c
    · subst h; simp
    · simp [h]
end Ww

set_option Elab.async false
set_option linter.all false
namespace Ww
open PySem PySem.Builtin.Str
/-! ### numbers read -/
noncomputable def figsL : List Nat → List Nat
  | 45 :: r => r
  | l => l
noncomputable def isNumL (l : List Nat) : Bool := !(figsL l).isEmpty && decide ((figsL l).length ≤ 30) && (figsL l).all (fun c => decide (48 ≤ c) && decide (c ≤ 57)) && (l == [48] || (figsL l).head? != some 48)
noncomputable def numL : List Nat → Int
  | 45 :: r => -((NumText.digitsVal r : Nat) : Int)
  | l => ((NumText.digitsVal l : Nat) : Int)
noncomputable def isNum (z : Str) : Bool := isNumL (sg z)
noncomputable def numV (z : Str) : Int := numL (sg z)
theorem figsL_ne {l : List Nat} (h : l.head? ≠ some 45) : figsL l = l := by
  unfold figsL
  split
  · exact absurd rfl h
  · rfl
theorem figsL_len (l : List Nat) : (figsL l).length ≤ l.length := by
  unfold figsL
  split
  · simp
  · exact Nat.le_refl _
theorem figsL_mem {l : List Nat} {c : Nat} (h : c ∈ figsL l) : c ∈ l := by
  unfold figsL at h
  split at h
  · exact List.mem_cons_of_mem _ h
  · exact h
theorem numL_ne {l : List Nat} (h : l.head? ≠ some 45) : numL l = ((NumText.digitsVal l : Nat) : Int) := by
  unfold numL
  split
  · exact absurd rfl h
  · rfl
theorem digs_no45 (m : Nat) : (digs m).head? ≠ some 45 := fun z => by
  cases h : digs m with
  | nil => exact digs_ne m h
  | cons c r =>
    have := digs_all m c (by show c ∈ digs m; rw [h]; exact List.mem_cons_self)
    rw [h] at z
    injection z with z
    omega
theorem digs_isNum {m : Nat} (h : m < 10 ^ 30) : (!(digs m).isEmpty && decide ((digs m).length ≤ 30) && (digs m).all (fun c => decide (48 ≤ c) && decide (c ≤ 57))) = true := by
  simp only [Bool.and_eq_true, Bool.not_eq_true', decide_eq_true_eq, List.all_eq_true]
  refine ⟨⟨?_, digs_len 29 m h⟩, fun c hc => ?_⟩
  · have := digs_ne m
    cases q : digs m with
    | nil => exact absurd q this
    | cons _ _ => rfl
  · exact digs_all m c hc
theorem num_isNum {i : Int} (h1 : -(10 ^ 30) < i) (h2 : i < 10 ^ 30) : isNum (numT i) = true ∧ numV (numT i) = i := by
  unfold isNum numV
  rcases num_cases i with ⟨m, rfl, e⟩ | ⟨m, rfl, e⟩
  · rw [e]
    unfold isNumL
    rw [figsL_ne (digs_no45 m), digs_isNum (by omega), Bool.true_and, numL_ne (digs_no45 m), digs_val]
    refine ⟨?_, rfl⟩
    rcases Nat.eq_zero_or_pos m with rfl | hp
    · rw [digs_lt (by decide)]; rfl
    · obtain ⟨c, r, ec, c1, c2⟩ := digs_head m hp
      rw [ec]
      simp only [Bool.or_eq_true, bne_iff_ne, ne_eq]
      right
      intro z
      injection z with z
      omega
  · rw [e]
    unfold isNumL
    rw [show figsL (45 :: digs (m + 1)) = digs (m + 1) from rfl, digs_isNum (by omega), Bool.true_and]
    refine ⟨?_, ?_⟩
    · obtain ⟨c, r, ec, c1, c2⟩ := digs_head (m + 1) (by omega)
      rw [ec]
      simp only [Bool.or_eq_true, bne_iff_ne, ne_eq]
      right
      intro z
      injection z with z
      omega
    · show -((NumText.digitsVal (digs (m + 1)) : Nat) : Int) = _
      rw [digs_val]
      omega
theorem isNum_reads {z : Str} (h : isNum z = true) : intText? z = some (numV z) ∧ z.length ≤ 31 := by
  unfold isNum isNumL at h
  simp only [Bool.and_eq_true, Bool.not_eq_true', decide_eq_true_eq, List.all_eq_true] at h
  obtain ⟨⟨⟨h1, h2⟩, h3⟩, _⟩ := h
  have ad : NumText.AllDigits (figsL (sg z)) := fun c hc => h3 c hc
  have ne : figsL (sg z) ≠ [] := fun q => by rw [q] at h1; cases h1
  unfold numV
  by_cases q : (sg z).head? = some 45
  · obtain ⟨r, er⟩ : ∃ r, sg z = 45 :: r := by
      cases g : sg z with
      | nil => rw [g] at q; cases q
      | cons a b => rw [g] at q; injection q with q; exact ⟨b, by rw [q]⟩
    rw [er] at ad ne h2 ⊢
    have l31 : z.length ≤ 31 := by
      rw [← sg_len, er, List.length_cons]
      have : r.length ≤ 30 := h2
      omega
    refine ⟨?_, l31⟩
    exact intText_neg (x := z) (cs := r) er ad ne (by omega)
  · rw [figsL_ne q] at ad ne h2
    rw [numL_ne q]
    have l31 : z.length ≤ 31 := by rw [← sg_len]; omega
    exact ⟨intText_digits (x := z) ad ne (by omega), l31⟩
/-! ### lines read -/
noncomputable def parseL (word : Str) (many : Nat) (z : Str) : Option (List Int) := match Txt.split z ⟨#[32]⟩ with
  | [] => none
  | w :: ws => if w = word ∧ ws.length = many ∧ ws.all isNum = true then some (ws.map numV) else none
noncomputable def lineT (word : Str) (is : List Int) : Str := Str.join ⟨#[32]⟩ (word :: is.map numT)
theorem line_words {word : Str} {is : List Int} (h : 32 ∉ sg word) : Txt.split (lineT word is) ⟨#[32]⟩ = word :: is.map numT := by
  refine split_parts (by simp) fun p hp => ?_
  rcases List.mem_cons.mp hp with rfl | hp
  · exact h
  · obtain ⟨i, _, rfl⟩ := List.mem_map.mp hp
    exact num_free (by decide)
theorem parse_line {word : Str} {is : List Int} (h : 32 ∉ sg word) (hb : ∀ i ∈ is, -(10 ^ 30) < i ∧ i < 10 ^ 30) : parseL word is.length (lineT word is) = some is := by
  unfold parseL
  rw [line_words h]
  dsimp only
  have al : (is.map numT).all isNum = true := by
    rw [List.all_eq_true]
    intro x hx
    obtain ⟨i, hi, rfl⟩ := List.mem_map.mp hx
    exact (num_isNum (hb i hi).1 (hb i hi).2).1
  rw [if_pos ⟨rfl, by rw [List.length_map], al⟩, List.map_map]
  congr 1
  exact (List.map_congr_left fun i hi => (num_isNum (hb i hi).1 (hb i hi).2).2).trans (List.map_id is)
theorem parse_word {word : Str} {is : List Int} {w' : Str} {k : Nat} (h : 32 ∉ sg word) (ne : word ≠ w') : parseL w' k (lineT word is) = none := by
  unfold parseL
  rw [line_words h]
  dsimp only
  rw [if_neg fun z => ne z.1]
/-! ### parts of a text -/
theorem join_mem (sep : Str) : ∀ {ps : List Str} {p : Str} {c : Nat}, p ∈ ps → c ∈ sg p → c ∈ sg (Str.join sep ps)
  | [q], p, c, hp, hc => by rw [List.mem_singleton.mp hp] at hc; exact hc
  | q :: r :: ps, p, c, hp, hc => by
    show c ∈ sg (q ++ sep ++ Str.join sep (r :: ps))
    rw [sg_app, sg_app]
    rcases List.mem_cons.mp hp with rfl | h
    · exact List.mem_append_left _ (List.mem_append_left _ hc)
    · exact List.mem_append_right _ (join_mem sep h hc)
noncomputable def Asc (z : Str) : Prop := ∀ c ∈ sg z, c < 128
theorem Asc.part {z sep p : Str} (h : Asc z) (hp : p ∈ Txt.split z sep) : Asc p := fun c hc => h c (by
  have := join_mem sep hp hc
  rw [StrLaws.join_split] at this
  exact this)
theorem Asc.app {a b : Str} (h : Asc a) (h' : Asc b) : Asc (a ++ b) := fun c hc => by
  rw [sg_app] at hc
  rcases List.mem_append.mp hc with q | q
  · exact h c q
  · exact h' c q
theorem num_asc (i : Int) : Asc (numT i) := fun c hc => by
  rcases num_signs hc with e | e <;> omega
/-! ### the bad lines -/
noncomputable def badB (l : Str) : Bool := match parseL ("tie" : Str) 3 l with
  | none => true
  | some [a, b, _] => decide (a < 0) || decide (b < 0) || decide (9 < a) || decide (9 < b)
  | _ => false
noncomputable def badF (l : Str) : Bool := match parseL ("deeds" : Str) 1 l with
  | none => true
  | some [n] => decide (n < 1) || decide (40 < n)
  | _ => false
end Ww

set_option Elab.async false
set_option linter.all false
set_option maxRecDepth 100000
namespace Ww
open PySem PySem.W PySem.Spec PyProof.Rows L2
noncomputable def repS (z : Str) (k : Nat) : Str := ⟨(List.replicate k z.cps).foldl (· ++ ·) #[]⟩
section
variable {X : Cx}
theorem op_mul_str : OpR X (binaryOp .Mult) (fun x y H Q => ∃ (z : Str) (k : Nat), x = .str z ∧ y = .int (k : Int) ∧ 2 ≤ k ∧ k ≤ 1000 ∧ z.length = 1 ∧ (repS z k).length ≤ sizeLine ∧ Q (.str (repS z k)) H) := by
  intro pins s σ H x y v u Q I rx ry h
  obtain ⟨z, k, rfl, rfl, k2, k1, z1, hz, q⟩ := h
  obtain ⟨t, rfl⟩ := rx
  obtain ⟨t', rfl⟩ := ry
  have line := line1000
  refine P.mul_str (by rw [decide_eq_false (by omega), decide_eq_false (by omega)]; rfl) (fun _ _ => ?_) (fun _ _ => ?_) ?_
  · rw [z1]
    have : (2 ^ 63 - 1 : Int) / (k : Int) ≥ 1 := Int.le_ediv_of_mul_le (by omega) (by omega)
    omega
  · rw [z1, Int.toNat_natCast]
    unfold Builtin.Str.tooLong
    exact decide_eq_false (by omega)
  · rw [if_neg (by omega), if_neg (by rw [z1]; simp; omega), Int.toNat_natCast]
    exact ⟨hz, .str _, H, I.tok _, ⟨_, rfl⟩, q⟩
instance iN119 : C2 (fun x y H Q => ∃ (z : Str) (k : Nat), x = V.str z ∧ y = V.int (k : Int) ∧ 2 ≤ k ∧ k ≤ 1000 ∧ z.length = 1 ∧ (repS z k).length ≤ sizeLine ∧ Q (.str (repS z k)) H) := ⟨fun _ _ _ _ _ kk ⟨z, k, a, b, c, d, e, f, q⟩ => ⟨z, k, a, b, c, d, e, f, kk _ _ q⟩⟩
end
/-! ### a comprehension one of whose items raises -/
theorem comp_bad {J : It} {H1 : Hp} {n k : Nat} {Y : Nat → V → Hp → Prop} (fd : Feeds J H1 n Y) (hk : k < n) {g : TG} {te : TE} [CG g] [CE te] {σ0 : L2.St} {Q : VK} (Sh : L2.St → Prop) (hz : n < sizeLine) (s0 : Sh σ0)
    (hs : ∀ i x σ H', i < k → Sh σ → Same H1 H' → Y i x H' → g x σ H' fun σ2 H2 => te σ2 H2 fun y H4 => Sh σ2 ∧ Same H' H4)
    (hb : ∀ x σ H', Sh σ → Same H1 H' → Y k x H' → g x σ H' fun σ2 H2 => ∀ Q' : VK, te σ2 H2 Q') : ∀ acc, H1 acc = none →
    ∃ W : Nat → Nat → List V → L2.St → Hp → Prop, (∃ m, W 0 m [] σ0 (upd H1 acc (.lst []))) ∧ ∀ i m ys σ' H', W i m ys σ' H' → H' acc = some (.lst ys) ∧ ys.length < sizeLine ∧
    ((J.stop i H' ∧ Q (.ref acc) H') ∨ (J.go i H' ∧ ∀ x H'', J.yld i H' x H'' → g x σ' H'' fun σ2 H2 => tTrue σ2 H2 fun b H3 =>
      if b = true then te σ2 H3 fun y H4 => H4 acc = some (.lst ys) ∧ ∃ m', m' < m ∧ W (i + 1) m' (ys ++ [y]) σ2 (upd H4 acc (.lst (ys ++ [y]))) else ∃ m', m' < m ∧ W (i + 1) m' ys σ2 H3)) := by
  intro acc hacc
  refine ⟨fun i m ys σ H => m = n - i ∧ i ≤ k ∧ Same H1 H ∧ Sh σ ∧ ys.length = i ∧ H acc = some (.lst ys), ⟨n, by simp, Nat.zero_le _, Same.new hacc, s0, rfl, upd_same⟩, ?_⟩
  rintro i m ys σ H ⟨rfl, hi, S, hsh, hl, ha⟩
  refine ⟨ha, by omega, .inr ?_⟩
  obtain ⟨g1, g2⟩ := fd.go i H (by omega) S
  refine ⟨g1, fun x H'' hy => ?_⟩
  obtain ⟨S1, y1⟩ := g2 x H'' hy
  by_cases hlt : i < k
  · refine CG.m (g := g) _ _ _ _ _ (fun σ2 H2 z => ?_) (hs i x σ H'' hlt hsh (S.trans S1) y1)
    refine yesT ?_
    refine CE.m (t := te) _ _ _ _ (fun y H4 z => ?_) z
    obtain ⟨sh2, S2⟩ := z
    exact ⟨S2 _ _ (S1 _ _ ha), n - (i + 1), by omega, rfl, hlt, ((S.trans S1).trans S2).wr hacc, sh2, by rw [List.length_append, hl]; rfl, upd_same⟩
  · have e : i = k := by omega
    subst e
    refine CG.m (g := g) _ _ _ _ _ (fun σ2 H2 z => ?_) (hb x σ H'' hsh (S.trans S1) y1)
    exact yesT (z _)
inductive I_cx_list (K : Frag) (cap : List (Option Nat)) (g : TG) (te : TE) (σ : L2.St) (x : V) (H1 : Hp) : Prop
  | mk (a xs) (h1 : x = .ref a) (h2 : SqL K H1 a xs) (h3 : xs.length < sizeLine) (k : Nat) (hk : k < xs.length) (Sh : L2.St → Prop) (h4 : Sh (capSt cap σ)) (h5 : ∀ i x σ H', i < k → Sh σ → Same H1 H' → xs[i]? = some x → g x σ H' fun σ2 H2 => te σ2 H2 fun y H4 => Sh σ2 ∧ Same H' H4) (h6 : ∀ x σ H', Sh σ → Same H1 H' → xs[k]? = some x → g x σ H' fun σ2 H2 => ∀ Q' : VK, te σ2 H2 Q')
theorem cx_list {K : Frag} {tl : TE} {cap : List (Option Nat)} {g : TG} {te : TE} [CE tl] [CG g] [CE te] {σ : L2.St} {H : Hp} {Q : VK}
    (h : tl σ H fun x H1 => I_cx_list K cap g te σ x H1) : tComp (iList K tl) cap g tTrue te σ H Q :=
  CE.m (t := tl) _ _ _ _ (fun x H1 hh => by obtain ⟨a, xs, e, hq, hz, k, hk, Sh, s0, hs, hb⟩ := hh; exact ⟨a, e, ⟨xs, hq⟩, comp_bad (feeds_list hq) hk Sh hz s0 hs hb⟩) h
end Ww

set_option Elab.async false
set_option linter.all false
set_option maxRecDepth 100000
namespace W16
open PySem PySem.W PyProof.Rows L2 Ww
noncomputable def top (i : Nat) : Stmt := PySem.Challenge.pw_waitwheel_k16_notes_refused.main.body.getD i (.Pass ⟨0, 0, 0, 0⟩)
noncomputable abbrev s_check_deed : Stmt := top 8
noncomputable abbrev s_check_ties : Stmt := top 9
noncomputable abbrev s_init : Stmt := inClass (top 10) 0
noncomputable abbrev s_size : Stmt := inClass (top 10) 1
noncomputable abbrev s_ties : Stmt := inClass (top 10) 2
section
variable {P : Program} {w : World} {K : Frag} {mg : Str → Option Value} {base : Heap}
/-! ### check_deed -/
theorem sc_check_deed : FnScope ["size", "deed"] ["size", "deed"] (defScope s_check_deed) := ⟨rfl, rfl, rfl, by decide +kernel, rfl, by decide +kernel, by decide +kernel⟩
inductive I_spCheckDeed  (vs : List V) (H : Hp) (Q : VK) : Prop
  | mk (n d : Nat) (h1 : vs = [.int n, .int d]) (h2 : d < n) (h3 : Q .non H)
noncomputable def spCheckDeed : Sp := fun vs H Q _ => I_spCheckDeed  vs H Q
theorem ok_check_deed {f : Addr} {fd : FuncData} (F : L2.Fun K "check_deed" "check_deed" s_check_deed f fd) : FnOk P w K mg base CX0 1 f fd ["size", "deed"] spCheckDeed := by
  refine F.ok sc_check_deed (fun vs H Q E h => ?_) (fun cdv A outer s H vs Q E hr h => ?_)
  · obtain ⟨n, d, rfl, _⟩ := h
    rfl
  · obtain ⟨n, d, rfl, hd, q⟩ := h
    have hu := hu_of hr
    have nd := sc_check_deed.nd
    (try first | refine hZ _ _ ?_ | refine hZn _ _ ?_); (try refine seq_hide fun Z hZ => ?_); refine ⟨_, (pss_one (ps_if (PW.pt (pw_or (pt_cmpR op_lt (pv 1) pe_int (nomark _)) (pw_or1 (pt_cmpR op_ge (pv 1) (pv 0) (nomark _))))) (pss_one ps_never) pss_nil)), ?_⟩
    (try first | refine hZ _ _ ?_ | refine hZn _ _ ?_); (try refine seq_hide fun Z hZ => ?_); refine ⟨_, rfl, _, _, rfl, rfl, _, rfl, ?_⟩
    rw [decide_eq_false (by omega)]
    refine iteF ?_; (try first | refine hZ _ _ ?_ | refine hZn _ _ ?_); refine ⟨_, rfl, _, rfl, _, _, rfl, rfl, _, rfl, ?_⟩
    rw [decide_eq_false (by omega)]
    exact iteF q
/-! ### check_ties -/
theorem sc_check_ties : FnScope ["size", "ties", "tied", "a", "b", "w"] ["size", "ties"] (defScope s_check_ties) := ⟨rfl, rfl, rfl, by decide +kernel, rfl, by decide +kernel, by decide +kernel⟩
inductive I_spCheckTies (K : Frag) (vs : List V) (H : Hp) (Q : VK) : Prop
  | mk (n : Nat) (l : Addr) (as : List Addr) (ts : List Tie) (h1 : vs = [.int n, .ref l]) (h2 : H l = some (.lst (as.map V.ref))) (h3 : TupsAt H as (ts.map tri)) (h4 : OkT n ts) (h5 : ts.length < 1000) (h6 : ∀ H', Same H H' → Q .non H')
noncomputable def spCheckTies (K : Frag) : Sp := fun vs H Q _ => I_spCheckTies K vs H Q
theorem ok_check_ties {f : Addr} {fd : FuncData} (F : L2.Fun K "check_ties" "check_ties" s_check_ties f fd) (D_check_deed : DefOk P w K mg base CX0 1 "check_deed" ["size", "deed"] spCheckDeed) : FnOk P w K mg base CX0 2 f fd ["size", "ties"] (spCheckTies K) := by
  refine F.ok sc_check_ties (fun vs H Q E h => ?_) (fun cdv A outer s H vs Q E hr h => ?_)
  · obtain ⟨n, l, as, ts, rfl, _⟩ := h
    rfl
  · obtain ⟨n, l, as, ts, rfl, hl, ht, ok, hz, q⟩ := h
    have hu := hu_of hr
    have nd := sc_check_ties.nd
    have line := line1000
    (try first | refine hZ _ _ ?_ | refine hZn _ _ ?_); refine ⟨_, (pss_cons (ps_set (i := 2) nd rfl (Or.inl rfl) pe_dnewT)
      (pss_one (ps_for PassesOwn.never rfl (pi_listK (K := K) rfl (pv 1)) (pg_tup rfl (pgs_cons (pg_name (i := 3) nd rfl (Or.inl rfl)) (pgs_cons (pg_name (i := 4) nd rfl (Or.inl rfl)) (pgs_cons (pg_name (i := 5) nd rfl (Or.inl rfl)) pgs_nil)))) (pss_cons (ps_expr (pe_def D_check_deed pass0 hr (by decide) rfl (pa_cons (pv 0) (pa_cons (pv 3) pa_nil))))
      (pss_cons (ps_expr (pe_def D_check_deed pass0 hr (by decide) rfl (pa_cons (pv 0) (pa_cons (pv 4) pa_nil))))
      (pss_cons (ps_if (pt_cmp (pc_din hu (pe_tup (pa_cons (pv 3) (pa_cons (pv 4) pa_nil))) (pv 2))) (pss_one ps_never) pss_nil)
      (pss_one (ps_dput hu (pv 2) (pe_tup (pa_cons (pv 3) (pa_cons (pv 4) pa_nil))) pe_bl rfl)))))))), ?_⟩
    -- tied = {}
    (try first | refine hZ _ _ ?_ | refine hZn _ _ ?_); (try refine seq_hide fun Z hZ => ?_); intro d hd
    have la : as.length = ts.length := by rw [ht.len, List.length_map]
    (try first | refine hZ _ _ ?_ | refine hZn _ _ ?_); refine ⟨_, rfl, l, rfl, ⟨_, SqL.of (Same.new hd _ _ hl)⟩, for_list (K := K) (xs := as.map V.ref)
      (fun i σ H' => ∃ (kvs : List (List Key × V)) (a b w : Option V), σ = [some (.int n), some (.ref l), some (.ref d), a, b, w] ∧ Same H H' ∧ H' d = some (.dT kvs) ∧ kvs.map (·.1) = (ts.take i).map keyT) ?_ ?_ ?_ ?_⟩
    · (try first | refine hZ _ _ ?_ | refine hZn _ _ ?_); exact ⟨[], none, none, none, rfl, Same.new hd, upd_same, rfl⟩
    · rintro i σ H' _ ⟨_, _, _, _, _, S, _⟩
      exact SqL.of (S _ _ hl)
    · rintro i x σ H' hx ⟨kvs, a0, b0, w0, rfl, S, hd', ek⟩
      obtain ⟨hi, rfl⟩ := refs_get hx
      obtain ⟨t, ti, ht'⟩ := (S.tups ht).item hi
      have okt := ok.lt t (List.mem_of_getElem? ti)
      have klen : kvs.length ≤ i := by have := congrArg List.length ek; rw [List.length_map, List.length_map, List.length_take] at this; omega
      (try first | refine hZ _ _ ?_ | refine hZn _ _ ?_); (try refine seq_hide fun Z hZ => ?_); refine ⟨_, _, rfl, SqT.of ht', rfl, _, _, rfl, _, _, rfl, _, _, rfl, rfl, ?_⟩
      -- check_deed(size, a); check_deed(size, b)
      (try first | refine hZ _ _ ?_ | refine hZn _ _ ?_); (try refine seq_hide fun Z hZ => ?_); refine ⟨_, rfl, _, rfl, n, t.1, rfl, okt.1, ?_⟩
      (try first | refine hZ _ _ ?_ | refine hZn _ _ ?_); (try refine seq_hide fun Z hZ => ?_); refine ⟨_, rfl, _, rfl, n, t.2.1, rfl, okt.2, ?_⟩
      -- if (a, b) in tied
      (try first | refine hZ _ _ ?_ | refine hZn _ _ ?_); (try refine seq_hide fun Z hZ => ?_); refine ⟨_, rfl, _, rfl, by show 2 ≤ sizeLine; decide, fun p hp => ?_⟩
      have nk : keyT t ∉ kvs.map (·.1) := by rw [ek]; exact new_key ok.nd ti
      have e0 : valV kvs (keyT t) = none := valV_none nk
      have S1 : Same H' (upd H' p (.tup [V.int (t.1 : Int), V.int (t.2.1 : Int)])) := Same.new hp
      (try first | refine hZ _ _ ?_ | refine hZn _ _ ?_); (try refine seq_hide fun Z hZ => ?_); refine ⟨_, rfl, d, _, rfl, DGet.t (k := keyT t) (S1 _ _ hd') upd_same, _, rfl, ?_⟩
      rw [e0]
      refine iteF ?_
      -- tied[a, b] = True
      (try first | refine hZ _ _ ?_ | refine hZn _ _ ?_); (try refine seq_hide fun Z hZ => ?_); refine ⟨_, rfl, _, rfl, _, rfl, by show 2 ≤ sizeLine; decide, fun p2 hp2 => ?_⟩
      have S2 := S1.trans (Same.new (o := .tup [V.int (t.1 : Int), V.int (t.2.1 : Int)]) hp2)
      have hd2 := S2 _ _ hd'
      (try first | refine hZ _ _ ?_ | refine hZn _ _ ?_); (try refine seq_hide fun Z hZ => ?_); refine ⟨d, _, rfl, DPut.t (k := keyT t) hd2 upd_same (by omega), ?_⟩
      rw [putK_new _ e0]
      (try first | refine hZ _ _ ?_ | refine hZn _ _ ?_); (try refine seq_hide fun Z hZ => ?_); refine ⟨_, _, _, _, rfl, ?_, upd_same, ?_⟩
      · intro b o e
        rw [upd_ne (ne_of_none e hd)]
        exact S2 _ _ (S b o e)
      · rw [List.map_append, ek, take_succ' ti, List.map_append]; rfl
    · rintro σ H' ⟨kvs, a, b, w, rfl, S, _⟩
      (try first | refine hZ _ _ ?_ | refine hZn _ _ ?_); exact q H' S
/-! ### Wheel -/
theorem sc_init : FnScope ["self", "size", "ties", "a", "b", "w"] ["self", "size", "ties"] (defScope s_init) := ⟨rfl, rfl, rfl, by decide +kernel, rfl, by decide +kernel, by decide +kernel⟩
noncomputable def SortedT (ts : List Tie) : Prop := (ts.map tri).Pairwise (fun a b => lexI b a = false)
inductive I_spInit (K : Frag) (C : Addr) (vs : List V) (H : Hp) (Q : VK) : Prop
  | mk (x dx : Addr) (n : Nat) (l : Addr) (as : List Addr) (ts : List Tie) (h1 : vs = [.ref x, .int n, .ref l]) (h2 : H x = some (.ins C dx [])) (h3 : H l = some (.lst (as.map V.ref))) (h4 : TupsAt H as (ts.map tri)) (h5 : OkT n ts) (h6 : Covers n ts) (h7 : 1 ≤ n) (h8 : n ≤ 40) (h9 : ts.length < 64) (h10 : ∀ ts' H', ts'.Perm ts → SortedT ts' → WheelAt C H' x n ts' → SameX x H H' → Q .non H')
noncomputable def spInit (K : Frag) (C : Addr) : Sp := fun vs H Q _ => I_spInit K C vs H Q
theorem unzip_tri : ∀ (as as' : List Addr) (ts : List Tie) (ks : List (List Int)), as.length = ts.length → as'.length = ks.length → (as'.zip ks).Perm (as.zip (ts.map tri)) → ∃ ts' : List Tie, ks = ts'.map tri ∧ ts'.Perm ts := by
  intro as as' ts ks hl hl' hp
  have e1 : ks.Perm (ts.map tri) := by
    have := hp.map (·.2)
    rw [List.map_snd_zip (by omega), List.map_snd_zip (by simp; omega)] at this
    exact this
  have inj : ∀ t u : Tie, tri t = tri u → t = u := fun t u e => by
    obtain ⟨a, b, c⟩ := t
    obtain ⟨a', b', c'⟩ := u
    unfold tri at e
    simp at e
    obtain ⟨e1, e2, e3⟩ := e
    rw [show a = a' by omega, show b = b' by omega, e3]
  refine ⟨ks.map fun k => (((k.getD 0 0).toNat, (k.getD 1 0).toNat, k.getD 2 0) : Tie), ?_, ?_⟩
  · have all : ∀ k ∈ ks, tri (((k.getD 0 0).toNat, (k.getD 1 0).toNat, k.getD 2 0) : Tie) = k := fun k hk => by
      obtain ⟨t, _, rfl⟩ := List.mem_map.mp (e1.mem_iff.mp hk)
      unfold tri; simp
    rw [List.map_map]
    exact (List.map_id' ks).symm.trans (List.map_congr_left fun k hk => (all k hk).symm)
  · have := e1.map fun k => (((k.getD 0 0).toNat, (k.getD 1 0).toNat, k.getD 2 0) : Tie)
    rw [List.map_map] at this
    have e : ts.map ((fun k => (((k.getD 0 0).toNat, (k.getD 1 0).toNat, k.getD 2 0) : Tie)) ∘ tri) = ts := by
      conv => rhs; rw [← List.map_id ts]
      refine List.map_congr_left fun t _ => ?_
      obtain ⟨a, b, c⟩ := t
      simp [tri]
    rw [e] at this
    exact this
theorem lists_full {K : Frag} {H : Hp} : ∀ (ls : List Addr), (∀ a ∈ ls, ∃ xs, SqL K H a xs ∧ xs ≠ []) → ∃ xss, ListsAt K H ls xss ∧ (xss.any fun x => x.isEmpty) = false
  | [], _ => ⟨[], .nil, rfl⟩
  | a :: ls, h => by
    obtain ⟨xs, h1, h2⟩ := h a List.mem_cons_self
    obtain ⟨xss, h3, h4⟩ := lists_full ls fun b hb => h b (List.mem_cons_of_mem _ hb)
    refine ⟨xs :: xss, .cons h1 h3, ?_⟩
    rw [List.any_cons, h4, Bool.or_false]
    cases xs with
    | nil => exact absurd rfl h2
    | cons _ _ => rfl
theorem ok_init {f C : Addr} {fd : FuncData} (F : L2.Fun K "__init__" "Wheel.__init__" s_init f fd) (nb : NB mg) (T : WTxt K mg C) (D_check_ties : DefOk P w K mg base CX0 2 "check_ties" ["size", "ties"] (spCheckTies K)) : FnOk P w K mg base CX0 3 f fd ["self", "size", "ties"] (spInit K C) := by
  obtain ⟨b_len, b_range, b_list, b_sorted, b_isinstance, b_all, b_bool, b_int, b_tuple, b_enumerate, b_reversed⟩ := nb
  refine F.ok sc_init (fun vs H Q E h => ?_) (fun cdv A outer s H vs Q E hr h => ?_)
  · obtain ⟨x, dx, n, l, as, ts, rfl, _⟩ := h
    rfl
  · obtain ⟨x, dx, n, l, as, ts, rfl, hx, hl, ht, ok, cov, n1, n40, h64, q⟩ := h
    have hu := hu_of hr
    have nd := sc_init.nd
    have line := line1000
    obtain ⟨tk, g_MOST_DEEDS⟩ := T.most
    have la : as.length = ts.length := by rw [ht.len, List.length_map]
    (try first | refine hZ _ _ ?_ | refine hZn _ _ ?_); refine ⟨_, (pss_cons (ps_if (PW.pt (pw_or (pt_cmpR op_lt (pv 1) pe_int (nomark _)) (pw_or1 (pt_cmpR op_gt (pv 1) (pe_gint rfl g_MOST_DEEDS) (nomark _))))) (pss_one ps_never) pss_nil)
      (pss_cons (ps_expr (pe_def D_check_ties pass0 hr (by decide) rfl (pa_cons (pv 1) (pa_cons (pv 2) pa_nil))))
      (pss_cons (ps_fld (pv 0) (pv 1) rfl)
      (pss_cons (ps_fld (pv 0) (pe_callB call_sortedT rfl b_sorted bb_sorted (pa_cons (pe_compD (CompScopeD.of (N' := ["a", "b", "w"]) (cap := [none, none, none]) (by rfl)) rfl (pi_listK (K := K) rfl (pv 2)) (by decide +kernel) (by intro cl C s₀ H₀ ex ndc; refine ⟨?_, ?_, ?_⟩; exact (pg_tup' (K := K) 3 rfl rfl (pgs_cons' (pg_name' 0 ndc rfl rfl) (pgs_cons' (pg_name' 1 ndc rfl rfl) (pgs_cons' (pg_name' 2 ndc rfl rfl) pgs_nil rfl) rfl) rfl) rfl rfl); exact pts_nil; exact (pe_tup (pa_cons (pv 0) (pa_cons (pv 1) (pa_cons (pv 2) pa_nil)))))) pa_nil)) rfl)
      (pss_cons (ps_fld (pv 0) (pe_compD (CompScopeD.of (N' := ["b"]) (cap := [none]) (by rfl)) rfl (pi_range1 rfl b_range (pa_cons (pv 1) pa_nil)) (by decide +kernel) (by intro cl C s₀ H₀ ex ndc; refine ⟨?_, ?_, ?_⟩; exact (pg_name' 0 ndc rfl rfl); exact pts_nil; exact (pe_lst pa_nil))) rfl)
      (pss_cons (ps_for PassesOwn.never rfl (pi_listK (K := K) rfl (pe_fldK (K := K) rfl (pv 0) rfl)) (pg_tup rfl (pgs_cons (pg_name (i := 3) nd rfl (Or.inl rfl)) (pgs_cons (pg_name (i := 4) nd rfl (Or.inl rfl)) (pgs_cons (pg_name (i := 5) nd rfl (Or.inl rfl)) pgs_nil)))) (pss_one (ps_expr (pe_bm PySem.F.plainAttrs_list PySem.F.slot_list_append PySem.F.type_list_append mt_append (pe_ix (ix_listK (K := K) rfl) (pe_fldK (K := K) rfl (pv 0) rfl) (pv 4) (fun _ _ => rfl)) (pa_cons (pe_tup (pa_cons (pv 3) (pa_cons (pv 5) pa_nil))) pa_nil)))))
      (pss_one (ps_if (pt_cmpR (op_in_empty hu) (pe_lst pa_nil) (pe_fldK (K := K) rfl (pv 0) rfl) (by with_unfolding_all rfl)) (pss_one ps_never) pss_nil)))))))), ?_⟩
    (try first | refine hZ _ _ ?_ | refine hZn _ _ ?_); (try refine seq_hide fun Z hZ => ?_); refine ⟨_, rfl, _, _, rfl, rfl, _, rfl, ?_⟩
    rw [decide_eq_false (by omega)]
    refine iteF ?_; (try first | refine hZ _ _ ?_ | refine hZn _ _ ?_); refine ⟨_, rfl, _, _, rfl, rfl, _, rfl, ?_⟩
    rw [decide_eq_false (by omega)]
    refine iteF ?_
    -- check_ties(size, ties)
    (try first | refine hZ _ _ ?_ | refine hZn _ _ ?_); (try refine seq_hide fun Z hZ => ?_); refine ⟨_, rfl, _, rfl, n, l, as, ts, rfl, hl, ht, ok, by omega, fun H1 S1 => ?_⟩
    -- self.deeds = size
    (try first | refine hZ _ _ ?_ | refine hZn _ _ ?_); (try refine seq_hide fun Z hZ => ?_); refine ⟨_, rfl, _, rfl, x, C, dx, [], rfl, S1 _ _ hx, T.cl, T.nD, by decide, ?_⟩
    rw [put1]
    have nl : l ≠ x := ne_of hl hx (by intro z; cases z)
    have X1 : SameX x H (upd H1 x (.ins C dx (wf1 n))) := fun b o hb e => by rw [upd_ne hb]; exact S1 b o e
    have x1 : (upd H1 x (.ins C dx (wf1 n))) x = some (.ins C dx (wf1 n)) := upd_same
    generalize upd H1 x (.ins C dx (wf1 n)) = H2 at X1 x1 ⊢
    have tX : ∀ {H' : Hp}, SameX x H H' → TupsAt H' as (ts.map tri) := fun S => tups_same ht S (tup_not_ins hx)
    -- self.in_order = sorted([(a, b, w) for a, b, w in ties])
    (try first | refine hZ _ _ ?_ | refine hZn _ _ ?_); dsimp only [tSeq, sFld, tCB, tCons, tNil]
    refine tcomp_list mon_var (mon_gtup (mon_gcons mon_gname (mon_gcons mon_gname (mon_gcons mon_gname mon_gnil)))) mon_true (mon_tup (mon_cons mon_var (mon_cons mon_var (mon_cons mon_var mon_nil)))) ⟨_, rfl, l, as.map V.ref, rfl, SqL.of (X1 _ _ nl hl), by rw [List.length_map]; omega, fun acc hacc =>
      ⟨fun i ys σ' H' => ∃ (bs : List Addr) (u1 u2 u3 : Option V), σ' = [u1, u2, u3] ∧ ys = bs.map V.ref ∧ SameX x H H' ∧ H' x = some (.ins C dx (wf1 n)) ∧ H' acc = some (.lst ys) ∧ TupsAt H' bs ((ts.take i).map tri) ∧ i ≤ ts.length, ?_, ?_, ?_, ?_⟩⟩
    · have nx : x ≠ acc := ne_of_none x1 hacc
      (try first | refine hZ _ _ ?_ | refine hZn _ _ ?_); exact ⟨[], none, none, none, rfl, rfl, fun b o hb e => by rw [upd_ne (ne_of_none (X1 b o hb e) hacc)]; exact X1 b o hb e, by rw [upd_ne nx]; exact x1, upd_same, .nil, Nat.zero_le _⟩
    · rintro i ys σ' H' ⟨bs, _, _, _, rfl, rfl, S, _, ha, tb, hi⟩
      (try first | refine hZ _ _ ?_ | refine hZn _ _ ?_); (try refine seq_hide fun Z hZ => ?_); refine ⟨SqL.of (S _ _ nl hl), ha, ?_⟩
      rw [List.length_map, tb.len, List.length_map, List.length_take]; omega
    · rintro i y ys σ' H' hy ⟨bs, u1, u2, u3, rfl, rfl, S, hx', ha, tb, hi⟩
      obtain ⟨hi2, rfl⟩ := refs_get hy
      obtain ⟨t, ti, ht'⟩ := (tX S).item hi2
      (try first | refine hZ _ _ ?_ | refine hZn _ _ ?_); (try refine seq_hide fun Z hZ => ?_); refine ⟨_, _, rfl, SqT.of ht', rfl, _, _, rfl, _, _, rfl, _, _, rfl, rfl, ?_⟩
      refine yesT ⟨_, rfl, _, rfl, _, rfl, by show 3 ≤ sizeLine; decide, fun p hp => ?_⟩
      have S2 : Same H' (upd H' p (.tup ((tri t).map V.int))) := Same.new hp
      have np : p ≠ acc := (ne_of_none ha hp).symm
      (try first | refine hZ _ _ ?_ | refine hZn _ _ ?_); (try refine seq_hide fun Z hZ => ?_); refine ⟨S2 _ _ ha, bs ++ [p], _, _, _, rfl, by rw [List.map_append]; rfl, fun b o hb e => ?_, ?_, upd_same, ?_, by omega⟩
      · have e2 := S b o hb e
        rw [upd_ne (ne_of_none (X1 b o hb e) hacc)]
        exact S2 _ _ e2
      · rw [upd_ne (ne_of hx' ha (by intro z; cases z))]; exact S2 _ _ hx'
      · rw [take_succ' ti, List.map_append]
        refine tups_same (TupsAt.snoc (tb.same S2) upd_same) SameX.upd (tup_not_lst (S2 _ _ ha))
    · rintro ys σ' H3 ⟨bs, _, _, _, rfl, rfl, S3, x3, ha3, tb, _⟩
      rw [List.length_map, la, List.take_length] at tb
      (try first | refine hZ _ _ ?_ | refine hZn _ _ ?_); (try refine seq_hide fun Z hZ => ?_); refine ⟨acc, bs, ts.map tri, rfl, SqL.of ha3, tb, ?_, by rw [tb.len, List.length_map]; exact h64, fun lo as' ks' hlo ta' perm srt => ?_⟩
      · intro k hk
        obtain ⟨t, _, rfl⟩ := List.mem_map.mp hk
        unfold tri; simp
      obtain ⟨ts', rfl, pm⟩ := unzip_tri bs as' ts ks' (by rw [tb.len, List.length_map]) ta'.len perm
      have S4 : Same H3 (upd H3 lo (.lst (as'.map V.ref))) := Same.new hlo
      (try first | refine hZ _ _ ?_ | refine hZn _ _ ?_); (try refine seq_hide fun Z hZ => ?_); refine ⟨_, rfl, x, C, dx, _, rfl, S4 _ _ x3, T.cl, T.nO, by show 1 < 1000; decide, ?_⟩
      rw [put2]
      have nlo : lo ≠ x := (ne_of_none x3 hlo).symm
      have X4 : SameX x H (upd (upd H3 lo (.lst (as'.map V.ref))) x (.ins C dx (wf2 n lo))) := fun b o hb e => by rw [upd_ne hb]; exact S4 _ _ (S3 b o hb e)
      have x4 : (upd (upd H3 lo (.lst (as'.map V.ref))) x (.ins C dx (wf2 n lo))) x = some (.ins C dx (wf2 n lo)) := upd_same
      have lo4 : (upd (upd H3 lo (.lst (as'.map V.ref))) x (.ins C dx (wf2 n lo))) lo = some (.lst (as'.map V.ref)) := by rw [upd_ne nlo, upd_same]
      have t4 : TupsAt (upd (upd H3 lo (.lst (as'.map V.ref))) x (.ins C dx (wf2 n lo))) as' (ts'.map tri) := tups_same (ta'.same S4) SameX.upd (tup_not_ins (S4 _ _ x3))
      generalize upd (upd H3 lo (.lst (as'.map V.ref))) x (.ins C dx (wf2 n lo)) = H4 at X4 x4 lo4 t4 ⊢
      have ok' : OkT n ts' := ⟨fun t ht => ok.lt t (pm.mem_iff.mp ht), ((pm.map pr).nodup_iff).mpr ok.nd⟩
      have cov' : Covers n ts' := fun b hb => let ⟨t, ht, e⟩ := cov b hb; ⟨t, pm.mem_iff.mpr ht, e⟩
      have len' : ts'.length = ts.length := pm.length_eq
      have la' : as'.length = ts'.length := by rw [ta'.len, List.length_map]
      -- self.into = [[] for b in range(size)]
      refine tcomp_range (mon_cons mon_var mon_nil) mon_gname mon_true (mon_lst mon_nil) ⟨_, rfl, n, rfl, by omega, fun li hli =>
        ⟨fun i ys σ' H' => ∃ (ls : List Addr) (u1 : Option V), σ' = [u1] ∧ ys = ls.map V.ref ∧ ls.length = i ∧ ls.Nodup ∧ Same H4 H' ∧ H' li = some (.lst ys) ∧ ∀ a ∈ ls, H4 a = none ∧ H' a = some (.lst []) ∧ a ≠ li, ?_, ?_, ?_, ?_⟩⟩
      · (try first | refine hZ _ _ ?_ | refine hZn _ _ ?_); exact ⟨[], none, rfl, rfl, rfl, List.nodup_nil, Same.new hli, upd_same, fun a ha => nomatch ha⟩
      · rintro i ys σ' H' ⟨ls, u1, rfl, rfl, hl2, nd2, S, hli', hls⟩
        (try first | refine hZ _ _ ?_ | refine hZn _ _ ?_); exact ⟨hli', by rw [List.length_map]; omega⟩
      · rintro i ys σ' H' hi ⟨ls, u1, rfl, rfl, hl2, nd2, S, hli', hls⟩

        refine g1T ⟨Nat.zero_le _, fun p hp => ?_⟩
        have S2 : Same H' (upd H' p (.lst [])) := Same.new hp
        have npl : p ≠ li := (ne_of_none hli' hp).symm
        (try first | refine hZ _ _ ?_ | refine hZn _ _ ?_); (try refine seq_hide fun Z hZ => ?_); refine ⟨S2 _ _ hli', ls ++ [p], _, rfl, by rw [List.map_append]; rfl, by simp [hl2], ?_, ?_, upd_same, fun a ha => ?_⟩
        · rw [List.nodup_append]
          (try first | refine hZ _ _ ?_ | refine hZn _ _ ?_); (try refine seq_hide fun Z hZ => ?_); refine ⟨nd2, by simp, fun a ha b hb => ?_⟩
          rw [List.mem_singleton.mp hb]
          exact ne_of_none (hls a ha).2.1 hp
        · intro b o e
          rw [upd_ne (ne_of_none e hli)]
          exact S2 _ _ (S b o e)
        · rcases List.mem_append.mp ha with z | z
          · obtain ⟨z1, z2, z3⟩ := hls a z
            (try first | refine hZ _ _ ?_ | refine hZn _ _ ?_); exact ⟨z1, by rw [upd_ne z3]; exact S2 _ _ z2, z3⟩
          · rw [List.mem_singleton.mp z]
            (try first | refine hZ _ _ ?_ | refine hZn _ _ ?_); exact ⟨S.free hp, by rw [upd_ne npl, upd_same], npl⟩
      · rintro ys σ' H5 ⟨ls, u1, rfl, rfl, hl2, nd2, S5, hli5, hls⟩
        have nli : li ≠ x := (ne_of_none x4 hli).symm
        (try first | refine hZ _ _ ?_ | refine hZn _ _ ?_); (try refine seq_hide fun Z hZ => ?_); refine ⟨_, rfl, x, C, dx, _, rfl, S5 _ _ x4, T.cl, T.nI, by show 2 < 1000; decide, ?_⟩
        rw [put3]
        -- for a, b, w in self.in_order
        (try first | refine hZ _ _ ?_ | refine hZn _ _ ?_); refine for_in (mon_fld mon_var) ⟨_, rfl, x, C, dx, _, _, rfl, upd_same, T.cl, T.nO, look_in_order n lo li, lo, as'.map V.ref, rfl, SqL.of (by rw [upd_ne nlo]; exact S5 _ _ lo4),
          fun i σ' H' => ∃ (u1 u2 u3 : Option V), σ' = [some (.ref x), some (.int n), some (.ref l), u1, u2, u3] ∧ SameX x H H' ∧ H' x = some (.ins C dx (wf n lo li)) ∧ H' lo = some (.lst (as'.map V.ref)) ∧ TupsAt H' as' (ts'.map tri) ∧ H' li = some (.lst (ls.map V.ref)) ∧ IntoAt H' n ls (ts'.take i), ?_, ?_, ?_, ?_⟩
        · (try first | refine hZ _ _ ?_ | refine hZn _ _ ?_); (try refine seq_hide fun Z hZ => ?_); refine ⟨none, none, none, rfl, fun b o hb e => ?_, upd_same, ?_, ?_, ?_, hl2, fun b hb => ⟨[], ?_, .nil⟩⟩
          · rw [upd_ne hb]; exact S5 _ _ (X4 b o hb e)
          · rw [upd_ne nlo]; exact S5 _ _ lo4
          · exact tups_same (t4.same S5) SameX.upd (tup_not_ins (S5 _ _ x4))
          · rw [upd_ne nli]; exact hli5
          · have hm : ls.getD b 0 ∈ ls := by simp [show b < ls.length by omega]
            obtain ⟨z1, z2, z3⟩ := hls _ hm
            rw [upd_ne (ne_of_none x4 z1).symm]; exact z2
        · rintro i σ' H' _ ⟨_, _, _, _, _, _, hlo', _⟩
          exact SqL.of hlo'
        · rintro i y σ' H' hy ⟨u1, u2, u3, rfl, S, hx', hlo', t', hli', hin⟩
          obtain ⟨hi2, rfl⟩ := refs_get hy
          obtain ⟨t, ti, ht'⟩ := t'.item hi2
          obtain ⟨okt1, okt2⟩ := ok'.lt t (List.mem_of_getElem? ti)
          obtain ⟨cs, hcs, tcs⟩ := hin.2 t.2.1 okt2
          have hbl : t.2.1 < ls.length := by omega
          have hm : ls.getD t.2.1 0 ∈ ls := by simp [hbl]
          obtain ⟨z1, z2, z3⟩ := hls _ hm
          have cl : cs.length ≤ 64 := by
            rw [tcs.len, List.length_map]
            have h1 := List.length_filter_le (fun t' : Tie => t'.2.1 == t.2.1) (ts'.take i)
            have h2 : (ts'.take i).length ≤ ts'.length := List.length_take_le' _ _
            omega
          (try first | refine hZ _ _ ?_ | refine hZn _ _ ?_); (try refine seq_hide fun Z hZ => ?_); refine ⟨_, _, rfl, SqT.of ht', rfl, _, _, rfl, _, _, rfl, _, _, rfl, rfl, ?_⟩
          (try first | refine hZ _ _ ?_ | refine hZn _ _ ?_); (try refine seq_hide fun Z hZ => ?_); refine ⟨_, rfl, x, C, dx, _, _, rfl, hx', T.cl, T.nI, look_into n lo li, _, rfl, li, _, _, _, rfl, rfl, SqL.of hli', atI_ref hbl, .inl ⟨rfl, _, SqL.of hcs⟩, _, rfl, _, rfl, by show 2 ≤ sizeLine; decide, fun p hp => ?_⟩
          have S2 : Same H' (upd H' p (.tup [V.int (t.1 : Int), V.int t.2.2])) := Same.new hp
          (try first | refine hZ _ _ ?_ | refine hZn _ _ ?_); (try refine seq_hide fun Z hZ => ?_); refine ⟨_, _, _, rfl, rfl, S2 _ _ hcs, by rw [List.length_map]; omega, ?_⟩
          have nb' : ∀ b o, H4 b = some o → b ≠ ls.getD t.2.1 0 := fun b o e => ne_of_none e z1
          have up : ∀ b o, b ≠ ls.getD t.2.1 0 → H' b = some o → (upd (upd H' p (.tup [V.int (t.1 : Int), V.int t.2.2])) (ls.getD t.2.1 0) (.lst (cs.map V.ref ++ [V.ref p]))) b = some o := fun b o hb e => by rw [upd_ne hb]; exact S2 _ _ e
          have tupX : ∀ {as : List Addr} {ks : List (List Int)}, TupsAt H' as ks → TupsAt (upd (upd H' p (.tup [V.int (t.1 : Int), V.int t.2.2])) (ls.getD t.2.1 0) (.lst (cs.map V.ref ++ [V.ref p]))) as ks := fun h => tups_same (h.same S2) SameX.upd (tup_not_lst (S2 _ _ hcs))
          (try first | refine hZ _ _ ?_ | refine hZn _ _ ?_); (try refine seq_hide fun Z hZ => ?_); refine ⟨_, _, _, rfl, fun b o hb e => up b o (nb' b o (X4 b o hb e)) (S b o hb e), up _ _ (nb' _ _ x4) hx', up _ _ (nb' _ _ lo4) hlo', tupX t', up _ _ z3.symm hli', hl2, fun b hb => ?_⟩
          rw [take_succ' ti, List.filter_append]
          by_cases eb : b = t.2.1
          · subst eb
            (try first | refine hZ _ _ ?_ | refine hZn _ _ ?_); (try refine seq_hide fun Z hZ => ?_); refine ⟨cs ++ [p], by rw [upd_same, List.map_append]; rfl, ?_⟩
            have : [t].filter (fun t' : Tie => t'.2.1 == t.2.1) = [t] := by simp
            rw [this, List.map_append]
            refine TupsAt.snoc (tupX tcs) ?_
            rw [upd_ne (fun z => by subst z; rw [hp] at hcs; cases hcs), upd_same]; rfl
          · obtain ⟨cs', hcs', tcs'⟩ := hin.2 b hb
            have : [t].filter (fun t' : Tie => t'.2.1 == b) = [] := by simp [Ne.symm eb]
            rw [this, List.append_nil]
            (try first | refine hZ _ _ ?_ | refine hZn _ _ ?_); (try refine seq_hide fun Z hZ => ?_); refine ⟨cs', up _ _ (fun z => ?_) hcs', tupX tcs'⟩
            have hb' : b < ls.length := by omega
            have e1 : ls.getD b 0 = ls[b] := by simp [hb']
            have e2 : ls.getD t.2.1 0 = ls[t.2.1] := by simp [hbl]
            rw [e1, e2] at z
            have pw := List.pairwise_iff_getElem.mp nd2
            rcases Nat.lt_or_gt_of_ne eb with hlt | hlt
            · exact pw b t.2.1 hb' hbl hlt z
            · exact pw t.2.1 b hbl hb' hlt z.symm
        · rintro σ' H6 ⟨u1, u2, u3, rfl, S6, x6, lo6, t6, li6, in6⟩
          rw [List.length_map, la', List.take_length] at in6
          -- if [] in self.into
          obtain ⟨xss, hxs, hany⟩ := lists_full (K := K) ls fun a ha => by
            obtain ⟨b, hb, rfl⟩ := List.getElem_of_mem ha
            obtain ⟨cs, hcs, tcs⟩ := in6.2 b (by omega)
            have eb : ls.getD b 0 = ls[b] := by simp [hb]
            rw [eb] at hcs
            (try first | refine hZ _ _ ?_ | refine hZn _ _ ?_); (try refine seq_hide fun Z hZ => ?_); refine ⟨cs.map V.ref, SqL.of hcs, fun z => ?_⟩
            obtain ⟨t, ht2, e⟩ := cov' b (by omega)
            have hf : t ∈ ts'.filter (fun t' : Tie => t'.2.1 == b) := List.mem_filter.mpr ⟨ht2, by simp [e]⟩
            have l1 := tcs.len
            rw [List.map_eq_nil_iff.mp z, List.length_map] at l1
            have := List.length_pos_of_mem hf
            simp at l1
            omega
          (try first | refine hZ _ _ ?_ | refine hZn _ _ ?_); first | (refine seq_hide fun Z hZ => ?_; refine ⟨Nat.zero_le _, fun e he => ⟨_, rfl, x, C, dx, _, _, rfl, Same.new he _ _ x6, T.cl, T.nI, look_into n lo li, e, li, ls, xss, rfl, rfl, SqL.of upd_same, SqL.of (Same.new he _ _ li6), (Same.new he).lists hxs, _, rfl, ?_⟩⟩) | refine ⟨Nat.zero_le _, fun e he => ⟨_, rfl, x, C, dx, _, _, rfl, Same.new he _ _ x6, T.cl, T.nI, look_into n lo li, e, li, ls, xss, rfl, rfl, SqL.of upd_same, SqL.of (Same.new he _ _ li6), (Same.new he).lists hxs, _, rfl, ?_⟩⟩
          rw [hany]
          refine iteF ?_
          (try first | refine hZ _ _ ?_ | refine hZn _ _ ?_); exact q ts' _ pm srt ⟨dx, lo, li, as', ls, Same.new he _ _ x6, Same.new he _ _ lo6, t6.same (Same.new he), Same.new he _ _ li6, in6.same (Same.new he)⟩ fun b o hb e' => Same.new he _ _ (S6 b o hb e')
end

end W16

set_option Elab.async false
set_option linter.all false
set_option maxRecDepth 100000
namespace W16
open PySem PySem.W PyProof.Rows L2 Ww
section
variable {P : Program} {w : World} {K : Frag} {mg : Str → Option Value} {base : Heap}
inductive I_spCheckDeedB (CN : Addr) (vs : List V) (H : Hp) (Q : VK) (E : XK) : Prop
  | mk (n d : Int) (h1 : vs = [.int n, .int d]) (h2 : ((0 ≤ d ∧ d < n) → Q .non H)) (h3 : (¬ (0 ≤ d ∧ d < n) → E (.ref CN) none H))
noncomputable def spCheckDeedB (CN : Addr) : Sp := fun vs H Q E => I_spCheckDeedB CN vs H Q E
set_option maxHeartbeats 0 in
theorem okx_check_deed {f C CWheelError CNoDeed CTieTwice CIdle CBadNote : Addr} {fd : FuncData} (F : L2.Fun K "check_deed" "check_deed" s_check_deed f fd) (nb : NB mg) (nb2 : NB2 mg) (T : WTxt K mg C) (XC_NoDeed : XCls K mg base "NoDeed" CNoDeed) : FnOk P w K mg base (CXE P w base) 1 f fd ["size", "deed"] (spCheckDeedB CNoDeed) := by
  obtain ⟨b_len, b_range, b_list, b_sorted, b_isinstance, b_all, b_bool, b_int, b_tuple, b_enumerate, b_reversed⟩ := nb
  obtain ⟨b_max, b_min, b_abs, b_zip, b_sum, b_str, b_set⟩ := nb2
  have line := line1000
  have nd := sc_check_deed.nd
  refine F.okX sc_check_deed (fun vs H Q E h => ?_) (fun cdv A outer s H vs Q E hr h => ?_)
  · obtain ⟨n, d, rfl, _⟩ := h
    rfl
  · obtain ⟨n, d, rfl, q, e⟩ := h
    (try first | refine hZ _ _ ?_ | refine hZn _ _ ?_); (try refine seq_hide fun Z hZ => ?_); refine ⟨_, (pss_one (ps_if (PW.pt (pw_or (pt_cmpR op_lt (pv 1) pe_int (nomark _)) (pw_or1 (pt_cmpR op_ge (pv 1) (pv 0) (nomark _))))) (pss_one (ps_raise XC_NoDeed throws_def rfl rfl)) pss_nil)), ?_⟩
    (try first | refine hZ _ _ ?_ | refine hZn _ _ ?_); (try refine seq_hide fun Z hZ => ?_); refine ⟨_, rfl, _, _, rfl, rfl, _, rfl, ?_⟩
    by_cases c : d < 0
    · rw [decide_eq_true c]
      exact iteT (iteT (e (by omega)))
    · rw [decide_eq_false c]
      refine iteF ?_; (try first | refine hZ _ _ ?_ | refine hZn _ _ ?_); refine ⟨_, rfl, _, rfl, _, _, rfl, rfl, _, rfl, ?_⟩
      by_cases c2 : n ≤ d
      · rw [decide_eq_true (by omega)]
        exact iteT (e (by omega))
      · rw [decide_eq_false (by omega)]
        exact iteF (q (by omega))

end

end W16

set_option Elab.async false
set_option linter.all false
set_option maxRecDepth 100000
namespace W16
open PySem PySem.W PyProof.Rows L2 Ww
section
variable {P : Program} {w : World} {K : Frag} {mg : Str → Option Value} {base : Heap}
noncomputable abbrev ITie := Int × Int × Int
noncomputable def itri (t : ITie) : List Int := [t.1, t.2.1, t.2.2]
noncomputable def ipr (t : ITie) : Int × Int := (t.1, t.2.1)
noncomputable def ikey (t : ITie) : List Key := [.inl t.1, .inl t.2.1]
noncomputable def Deed (n d : Int) : Prop := 0 ≤ d ∧ d < n
noncomputable def DeedsT (n : Int) (t : ITie) : Prop := Deed n t.1 ∧ Deed n t.2.1
noncomputable def Fault (n : Int) (ts : List ITie) (tw : Bool) : Prop := ∃ i t, ts[i]? = some t ∧ (∀ u ∈ ts.take i, DeedsT n u) ∧ ((ts.take i).map ipr).Nodup ∧
  ((tw = false ∧ ¬ DeedsT n t) ∨ (tw = true ∧ DeedsT n t ∧ ipr t ∈ (ts.take i).map ipr))
theorem tups_item {α : Type} {H : Hp} {as : List Addr} {ts : List α} {f : α → List Int} (h : TupsAt H as (ts.map f)) {i : Nat} (hi : i < as.length) : ∃ t, ts[i]? = some t ∧ H (as.getD i 0) = some (.tup ((f t).map V.int)) := by
  have l := h.len
  rw [List.length_map] at l
  have hit : i < ts.length := by omega
  refine ⟨ts[i], List.getElem?_eq_getElem hit, ?_⟩
  have := h.get i hi
  rw [this]
  simp [hit]
theorem ikey_ipr {t u : ITie} : ikey t = ikey u ↔ ipr t = ipr u := by
  unfold ikey ipr
  constructor
  · intro h
    injection h with h1 h2
    injection h2 with h2 _
    injection h1 with h1
    injection h2 with h2
    rw [h1, h2]
  · intro h
    injection h with h1 h2
    rw [h1, h2]
inductive I_spCheckTiesX (K : Frag) (CN CT : Addr) (vs : List V) (H : Hp) (E : XK) : Prop
  | mk (n : Int) (l : Addr) (as : List Addr) (ts : List ITie) (tw : Bool) (h1 : vs = [.int n, .ref l]) (h2 : H l = some (.lst (as.map V.ref))) (h3 : TupsAt H as (ts.map itri)) (h4 : ts.length < 1000) (h5 : Fault n ts tw) (h6 : ∀ H', Same H H' → E (.ref (if tw then CT else CN)) none H')
noncomputable def spCheckTiesX (K : Frag) (CN CT : Addr) : Sp := fun vs H _ E => I_spCheckTiesX K CN CT vs H E
set_option maxHeartbeats 0 in
theorem okx_check_ties {f C CWheelError CNoDeed CTieTwice CIdle CBadNote : Addr} {fd : FuncData} (F : L2.Fun K "check_ties" "check_ties" s_check_ties f fd) (nb : NB mg) (nb2 : NB2 mg) (T : WTxt K mg C) (XC_TieTwice : XCls K mg base "TieTwice" CTieTwice) (DX_check_deed : DefOk P w K mg base (CXE P w base) 1 "check_deed" ["size", "deed"] (spCheckDeedB CNoDeed)) : FnOk P w K mg base (CXE P w base) 2 f fd ["size", "ties"] (spCheckTiesX K CNoDeed CTieTwice) := by
  obtain ⟨b_len, b_range, b_list, b_sorted, b_isinstance, b_all, b_bool, b_int, b_tuple, b_enumerate, b_reversed⟩ := nb
  obtain ⟨b_max, b_min, b_abs, b_zip, b_sum, b_str, b_set⟩ := nb2
  have line := line1000
  have nd := sc_check_ties.nd
  refine F.okX sc_check_ties (fun vs H Q E h => ?_) (fun cdv A outer s H vs Q E hr h => ?_)
  · obtain ⟨n, l, as, ts, tw, rfl, _⟩ := h
    rfl
  · obtain ⟨n, l, as, ts, tw, rfl, hl, ht, hz, FL, q⟩ := h
    have hu := hu_of hr
    (try first | refine hZ _ _ ?_ | refine hZn _ _ ?_); refine ⟨_, (pss_cons (ps_set (i := 2) nd rfl (Or.inl rfl) pe_dnewT)
      (pss_one (ps_for PassesOwn.leaving rfl (pi_listK (K := K) rfl (pv 1)) (pg_tup rfl (pgs_cons (pg_name (i := 3) nd rfl (Or.inl rfl)) (pgs_cons (pg_name (i := 4) nd rfl (Or.inl rfl)) (pgs_cons (pg_name (i := 5) nd rfl (Or.inl rfl)) pgs_nil)))) (pss_cons (ps_expr (pe_def DX_check_deed passes_def hr (by decide) rfl (pa_cons (pv 0) (pa_cons (pv 3) pa_nil))))
      (pss_cons (ps_expr (pe_def DX_check_deed passes_def hr (by decide) rfl (pa_cons (pv 0) (pa_cons (pv 4) pa_nil))))
      (pss_cons (ps_if (pt_cmp (pc_din hu (pe_tup (pa_cons (pv 3) (pa_cons (pv 4) pa_nil))) (pv 2))) (pss_one (ps_raise XC_TieTwice throws_def rfl rfl)) pss_nil)
      (pss_one (ps_dput hu (pv 2) (pe_tup (pa_cons (pv 3) (pa_cons (pv 4) pa_nil))) pe_bl rfl)))))))), ?_⟩
    obtain ⟨m, tm, etm, deeds, nodup, bad⟩ := FL
    have hm : m < ts.length := (List.getElem?_eq_some_iff.mp etm).1
    -- tied = {}
    (try first | refine hZ _ _ ?_ | refine hZn _ _ ?_); (try refine seq_hide fun Z hZ => ?_); intro d hd
    have la : as.length = ts.length := by rw [ht.len, List.length_map]
    (try first | refine hZ _ _ ?_ | refine hZn _ _ ?_); try dsimp only [tNext, gName]
    (try first | refine hZ _ _ ?_ | refine hZn _ _ ?_); refine fo_listN ⟨_, rfl, l, _, rfl, SqL.of (Same.new hd _ _ hl),
      fun i σ' H' => ∃ (kvs : List (List Key × V)) (a b w : Option V), σ' = [some (.int n), some (.ref l), some (.ref d), a, b, w] ∧ Same H H' ∧ H' d = some (.dT kvs) ∧ kvs.map (·.1) = (ts.take i).map ikey ∧ i ≤ m, ?_, ?_, ?_, ?_⟩
    · (try first | refine hZ _ _ ?_ | refine hZn _ _ ?_); exact ⟨[], _, _, _, rfl, Same.new hd, upd_same, rfl, Nat.zero_le _⟩
    · rintro i σ' H' _ ⟨_, _, _, _, _, S, _⟩
      exact SqL.of (S _ _ hl)
    · rintro i x σ' H' hx hPv
      refine exE4 hPv fun kvs a0 b0 w0 hPv => ?_
      refine andE5 hPv fun hEq0 S hd' ek im => ?_
      clear hPv
      subst hEq0
      intro Zn hZn Zb
      have hil : i < ts.length := by omega
      obtain ⟨hi, rfl⟩ := refs_get hx
      obtain ⟨t, ti, ht'⟩ := tups_item (S.tups ht) hi
      have klen : kvs.length ≤ i := by have := congrArg List.length ek; rw [List.length_map, List.length_map, List.length_take] at this; omega
      (try first | refine hZ _ _ ?_ | refine hZn _ _ ?_); (try refine seq_hide fun Z hZ => ?_); refine ⟨_, _, rfl, SqT.of ht', rfl, _, _, rfl, _, _, rfl, _, _, rfl, rfl, ?_⟩
      -- check_deed(size, a); check_deed(size, b)
      have no : ¬ DeedsT n t → E (.ref (if tw then CTieTwice else CNoDeed)) none H' ∧ tw = false := fun c => by
        have im2 : i = m := by
          rcases Nat.lt_or_ge i m with z | z
          · refine absurd (deeds t ?_) c
            exact List.mem_of_getElem? (show (ts.take m)[i]? = some t by rw [List.getElem?_take_of_lt z]; exact ti)
          · omega
        subst im2
        rw [ti] at etm; cases etm
        rcases bad with ⟨b1, _⟩ | ⟨_, b2, _⟩
        · (try first | refine hZ _ _ ?_ | refine hZn _ _ ?_); exact ⟨q _ S, b1⟩
        · exact absurd b2 c
      (try first | refine hZ _ _ ?_ | refine hZn _ _ ?_); (try refine seq_hide fun Z hZ => ?_); refine ⟨_, rfl, _, rfl, n, t.1, rfl, fun c1 => ?_, fun c1 => ?_⟩
      rotate_left
      · obtain ⟨z, rfl⟩ := no fun z => c1 z.1
        exact z
      (try first | refine hZ _ _ ?_ | refine hZn _ _ ?_); (try refine seq_hide fun Z hZ => ?_); refine ⟨_, rfl, _, rfl, n, t.2.1, rfl, fun c2 => ?_, fun c2 => ?_⟩
      rotate_left
      · obtain ⟨z, rfl⟩ := no fun z => c2 z.2
        exact z
      -- if (a, b) in tied
      (try first | refine hZ _ _ ?_ | refine hZn _ _ ?_); (try refine seq_hide fun Z hZ => ?_); refine ⟨_, rfl, _, rfl, by show 2 ≤ sizeLine; decide, fun p hp => ?_⟩
      have S1 : Same H' (upd H' p (.tup [V.int t.1, V.int t.2.1])) := Same.new hp
      have hp1 : (upd H' p (.tup [V.int t.1, V.int t.2.1])) p = some (.tup ((ikey t).map kV)) := upd_same
      generalize upd H' p (.tup [V.int t.1, V.int t.2.1]) = H1 at S1 hp1 ⊢
      have dg := DGet.t (k := ikey t) (S1 _ _ hd') hp1
      (try first | refine hZ _ _ ?_ | refine hZn _ _ ?_); (try refine seq_hide fun Z hZ => ?_); refine ⟨_, rfl, d, _, rfl, dg, _, rfl, ?_⟩
      have kin : ikey t ∈ kvs.map (·.1) ↔ ipr t ∈ (ts.take i).map ipr := by
        rw [ek]
        constructor
        · intro z
          obtain ⟨u, hu1, hu2⟩ := List.mem_map.mp z
          exact List.mem_map.mpr ⟨u, hu1, ikey_ipr.mp hu2⟩
        · intro z
          obtain ⟨u, hu1, hu2⟩ := List.mem_map.mp z
          exact List.mem_map.mpr ⟨u, hu1, ikey_ipr.mpr hu2⟩
      cases ev : valV kvs (ikey t) with
      | some v =>
        refine iteT ?_
        have kt : ikey t ∈ kvs.map (·.1) := valV_in ev
        have im2 : i = m := by
          rcases Nat.lt_or_ge i m with z | z
          · exfalso
            obtain ⟨u, hu1, hu2⟩ := List.mem_map.mp (kin.mp kt)
            obtain ⟨j, hj, ej⟩ := List.getElem_of_mem hu1
            have hj2 : j < i := by rw [List.length_take] at hj; omega
            have pw := List.pairwise_iff_getElem.mp nodup
            have g1 : ((ts.take m).map ipr)[j]'(by rw [List.length_map, List.length_take]; omega) = ipr u := by
              rw [List.getElem_map, List.getElem_take, ← ej, List.getElem_take]
            have g2 : ((ts.take m).map ipr)[i]'(by rw [List.length_map, List.length_take]; omega) = ipr t := by
              rw [List.getElem_map, List.getElem_take]
              rw [List.getElem?_eq_getElem hil] at ti
              rw [Option.some.inj ti]
            have := pw j i (by rw [List.length_map, List.length_take]; omega) (by rw [List.length_map, List.length_take]; omega) hj2
            rw [g1, g2] at this
            exact this hu2
          · omega
        subst im2
        rw [ti] at etm; cases etm
        rcases bad with ⟨_, b2⟩ | ⟨rfl, _, _⟩
        · exact absurd ⟨c1, c2⟩ b2
        · (try first | refine hZ _ _ ?_ | refine hZn _ _ ?_); exact q _ (S.trans S1)
      | none =>
        refine iteF ?_
        have inot : i < m := by
          rcases Nat.lt_or_ge i m with z | z
          · exact z
          · exfalso
            obtain rfl : i = m := by omega
            rw [ti] at etm; cases etm
            rcases bad with ⟨_, b2⟩ | ⟨_, _, b3⟩
            · exact b2 ⟨c1, c2⟩
            · exact valV_not ev (kin.mpr b3)
        -- tied[a, b] = True
        (try first | refine hZ _ _ ?_ | refine hZn _ _ ?_); (try refine seq_hide fun Z hZ => ?_); refine ⟨_, rfl, _, rfl, _, rfl, by show 2 ≤ sizeLine; decide, fun p2 hp2 => ?_⟩
        have S2 := S1.trans (Same.new (o := .tup [V.int t.1, V.int t.2.1]) hp2)
        have hd2 := S2 _ _ hd'
        (try first | refine hZ _ _ ?_ | refine hZn _ _ ?_); (try refine seq_hide fun Z hZ => ?_); refine ⟨d, _, rfl, DPut.t (k := ikey t) hd2 upd_same (by omega), ?_⟩
        rw [putK_new _ ev]
        (try first | refine hZ _ _ ?_ | refine hZn _ _ ?_); (try refine seq_hide fun Z hZ => ?_); refine ⟨_, _, _, _, rfl, ?_, upd_same, ?_, inot⟩
        · intro b o e
          rw [upd_ne (ne_of_none e hd)]
          exact S2 _ _ (S b o e)
        · rw [List.map_append, ek, take_succ' ti, List.map_append]; rfl
    · rintro σ' H' hPv
      refine exE4 hPv fun kvs a b w hPv => ?_
      refine andE5 hPv fun hEq0 S _ _ im => ?_
      clear hPv
      subst hEq0
      rw [List.length_map, la] at im
      omega

end

end W16

set_option Elab.async false
set_option linter.all false
set_option maxRecDepth 100000
namespace W16
open PySem PySem.W PyProof.Rows L2 Ww
section
variable {P : Program} {w : World} {K : Frag} {mg : Str → Option Value} {base : Heap}
theorem lists_any {K : Frag} {H : Hp} : ∀ (ls : List Addr), (∀ a ∈ ls, ∃ xs, SqL K H a xs) → ∃ xss, ListsAt K H ls xss
  | [], _ => ⟨[], .nil⟩
  | a :: ls, h => by
    obtain ⟨xs, h1⟩ := h a List.mem_cons_self
    obtain ⟨xss, h3⟩ := lists_any ls fun b hb => h b (List.mem_cons_of_mem _ hb)
    exact ⟨xs :: xss, .cons h1 h3⟩
theorem lists_hole {K : Frag} {H : Hp} {a0 : Addr} (h0 : SqL K H a0 []) : ∀ (ls : List Addr), a0 ∈ ls → (∀ a ∈ ls, ∃ xs, SqL K H a xs) → ∃ xss, ListsAt K H ls xss ∧ (xss.any fun x => x.isEmpty) = true
  | [], z, _ => nomatch z
  | a :: ls, z, h => by
    by_cases e : a = a0
    · subst e
      obtain ⟨xss, h3⟩ := lists_any ls fun b hb => h b (List.mem_cons_of_mem _ hb)
      exact ⟨[] :: xss, .cons h0 h3, rfl⟩
    · obtain ⟨xs, h1⟩ := h a List.mem_cons_self
      have z' : a0 ∈ ls := by
        rcases List.mem_cons.mp z with z | z
        · exact absurd z.symm e
        · exact z
      obtain ⟨xss, h3, h4⟩ := lists_hole h0 ls z' fun b hb => h b (List.mem_cons_of_mem _ hb)
      exact ⟨xs :: xss, .cons h1 h3, by rw [List.any_cons, h4, Bool.or_true]⟩
noncomputable def toI (t : Tie) : ITie := ((t.1 : Int), (t.2.1 : Int), t.2.2)
theorem itri_toI (ts : List Tie) : (ts.map toI).map itri = ts.map tri := by
  rw [List.map_map]
  rfl
noncomputable def BadKind (s : Int) (ts : List ITie) (kd : Nat) : Prop :=
  (kd = 0 ∧ (s < 1 ∨ 40 < s)) ∨ (1 ≤ s ∧ s ≤ 40 ∧ ((kd = 0 ∧ Fault s ts false) ∨ (kd = 1 ∧ Fault s ts true) ∨ (kd = 2 ∧ ∃ (n : Nat) (nts : List Tie) (b : Nat), s = (n : Int) ∧ ts = nts.map toI ∧ OkT n nts ∧ b < n ∧ ∀ t ∈ nts, t.2.1 ≠ b)))
noncomputable def exC (CN CT CI : Addr) : Nat → Addr
  | 0 => CN
  | 1 => CT
  | _ => CI
inductive I_spInitX (K : Frag) (C CN CT CI : Addr) (vs : List V) (H : Hp) (E : XK) : Prop
  | mk (x dx : Addr) (s : Int) (l : Addr) (as : List Addr) (ts : List ITie) (kd : Nat) (h1 : vs = [.ref x, .int s, .ref l]) (h2 : H x = some (.ins C dx [])) (h3 : H l = some (.lst (as.map V.ref))) (h4 : TupsAt H as (ts.map itri)) (h5 : ts.length < 64) (h6 : BadKind s ts kd) (h7 : ∀ H', SameX x H H' → E (.ref (exC CN CT CI kd)) none H')
noncomputable def spInitX (K : Frag) (C CN CT CI : Addr) : Sp := fun vs H _ E => I_spInitX K C CN CT CI vs H E
set_option maxHeartbeats 0 in
theorem okx_init {f C CWheelError CNoDeed CTieTwice CIdle CBadNote : Addr} {fd : FuncData} (F : L2.Fun K "__init__" "Wheel.__init__" s_init f fd) (nb : NB mg) (nb2 : NB2 mg) (T : WTxt K mg C) (XC_NoDeed : XCls K mg base "NoDeed" CNoDeed) (XC_Idle : XCls K mg base "Idle" CIdle) (D_check_ties : DefOk P w K mg base CX0 2 "check_ties" ["size", "ties"] (spCheckTies K)) (DX_check_ties : DefOk P w K mg base (CXE P w base) 2 "check_ties" ["size", "ties"] (spCheckTiesX K CNoDeed CTieTwice)) : FnOk P w K mg base (CXE P w base) 3 f fd ["self", "size", "ties"] (spInitX K C CNoDeed CTieTwice CIdle) := by
  obtain ⟨b_len, b_range, b_list, b_sorted, b_isinstance, b_all, b_bool, b_int, b_tuple, b_enumerate, b_reversed⟩ := nb
  obtain ⟨b_max, b_min, b_abs, b_zip, b_sum, b_str, b_set⟩ := nb2
  have line := line1000
  have nd := sc_init.nd
  refine F.okX sc_init (fun vs H Q E h => ?_) (fun cdv A outer s H vs Q E hr h => ?_)
  · obtain ⟨x, dx, s, l, as, ts, kd, rfl, _⟩ := h
    rfl
  · obtain ⟨x, dx, sz, l, as, ts, kd, rfl, hx, hl, ht, h64, bad, q⟩ := h
    have hu := hu_of hr
    obtain ⟨tk, g_MOST_DEEDS⟩ := T.most
    rcases bad with ⟨rfl, hs⟩ | ⟨h1, h40, bad⟩
    · (try first | refine hZ _ _ ?_ | refine hZn _ _ ?_); refine ⟨_, (pss_cons (ps_if (PW.pt (pw_or (pt_cmpR op_lt (pv 1) pe_int (nomark _)) (pw_or1 (pt_cmpR op_gt (pv 1) (pe_gint rfl g_MOST_DEEDS) (nomark _))))) (pss_one (ps_raise XC_NoDeed throws_def rfl rfl)) pss_nil)
      (pss_cons (ps_expr (pe_def DX_check_ties passes_def hr (by decide) rfl (pa_cons (pv 1) (pa_cons (pv 2) pa_nil)))) pss_never)), ?_⟩
      (try first | refine hZ _ _ ?_ | refine hZn _ _ ?_); (try refine seq_hide fun Z hZ => ?_); refine ⟨_, rfl, _, _, rfl, rfl, _, rfl, ?_⟩
      by_cases c : sz < 1
      · rw [decide_eq_true c]
        exact iteT (iteT (q H fun b o _ e => e))
      · rw [decide_eq_false c]
        refine iteF ?_; (try first | refine hZ _ _ ?_ | refine hZn _ _ ?_); refine ⟨_, rfl, _, _, rfl, rfl, _, rfl, ?_⟩
        rw [decide_eq_true (by omega)]
        exact iteT (q H fun b o _ e => e)
    have flt : ∀ tw : Bool, kd = (if tw then 1 else 0) → Fault sz ts tw → ∃ t, PSs (cxOf (CXE P w base) P w K mg base ["self", "size", "ties", "a", "b", "w"] "Wheel.__init__" (defScope s_init) f cdv A outer s H E) (defBody s_init) t ∧ t { nx := fun _ H' => Q .non H', rt := Q } (start ["self", "size", "ties", "a", "b", "w"] [.ref x, .int sz, .ref l]) H := by
      intro tw ek FL
      (try first | refine hZ _ _ ?_ | refine hZn _ _ ?_); refine ⟨_, (pss_cons (ps_if (PW.pt (pw_or (pt_cmpR op_lt (pv 1) pe_int (nomark _)) (pw_or1 (pt_cmpR op_gt (pv 1) (pe_gint rfl g_MOST_DEEDS) (nomark _))))) (pss_one (ps_raise XC_NoDeed throws_def rfl rfl)) pss_nil)
      (pss_cons (ps_expr (pe_def DX_check_ties passes_def hr (by decide) rfl (pa_cons (pv 1) (pa_cons (pv 2) pa_nil)))) pss_never)), ?_⟩
      (try first | refine hZ _ _ ?_ | refine hZn _ _ ?_); (try refine seq_hide fun Z hZ => ?_); refine ⟨_, rfl, _, _, rfl, rfl, _, rfl, ?_⟩
      rw [decide_eq_false (by omega)]
      refine iteF ?_; (try first | refine hZ _ _ ?_ | refine hZn _ _ ?_); refine ⟨_, rfl, _, _, rfl, rfl, _, rfl, ?_⟩
      rw [decide_eq_false (by omega)]
      refine iteF ?_
      (try first | refine hZ _ _ ?_ | refine hZn _ _ ?_); (try refine seq_hide fun Z hZ => ?_); refine ⟨_, rfl, _, rfl, sz, l, as, ts, tw, rfl, hl, ht, by omega, FL, fun H' S => ?_⟩
      have := q H' fun b o _ e => S b o e
      rw [ek] at this
      cases tw <;> exact this
    rcases bad with ⟨ek, FL⟩ | ⟨ek, FL⟩ | ⟨rfl, n, nts, b0, rfl, rfl, ok, hb0, noT⟩
    · exact flt false ek FL
    · exact flt true ek FL
    · rw [List.length_map] at h64
      rw [itri_toI] at ht
      generalize nts = ts at *
      have n1 : 1 ≤ n := by omega
      have n40 : n ≤ 40 := by omega
      have la : as.length = ts.length := by rw [ht.len, List.length_map]
      (try first | refine hZ _ _ ?_ | refine hZn _ _ ?_); refine ⟨_, (pss_cons (ps_if (PW.pt (pw_or (pt_cmpR op_lt (pv 1) pe_int (nomark _)) (pw_or1 (pt_cmpR op_gt (pv 1) (pe_gint rfl g_MOST_DEEDS) (nomark _))))) (pss_one (ps_raise XC_NoDeed throws_def rfl rfl)) pss_nil)
      (pss_cons (ps_expr (pe_def D_check_ties pass0 hr (by decide) rfl (pa_cons (pv 1) (pa_cons (pv 2) pa_nil))))
      (pss_cons (ps_fld (pv 0) (pv 1) rfl)
      (pss_cons (ps_fld (pv 0) (pe_callB call_sortedT rfl b_sorted bb_sorted (pa_cons (pe_compD (CompScopeD.of (N' := ["a", "b", "w"]) (cap := [none, none, none]) (by rfl)) rfl (pi_listK (K := K) rfl (pv 2)) (by decide +kernel) (by intro cl C s₀ H₀ ex ndc; refine ⟨?_, ?_, ?_⟩; exact (pg_tup' (K := K) 3 rfl rfl (pgs_cons' (pg_name' 0 ndc rfl rfl) (pgs_cons' (pg_name' 1 ndc rfl rfl) (pgs_cons' (pg_name' 2 ndc rfl rfl) pgs_nil rfl) rfl) rfl) rfl rfl); exact pts_nil; exact (pe_tup (pa_cons (pv 0) (pa_cons (pv 1) (pa_cons (pv 2) pa_nil)))))) pa_nil)) rfl)
      (pss_cons (ps_fld (pv 0) (pe_compD (CompScopeD.of (N' := ["b"]) (cap := [none]) (by rfl)) rfl (pi_range1 rfl b_range (pa_cons (pv 1) pa_nil)) (by decide +kernel) (by intro cl C s₀ H₀ ex ndc; refine ⟨?_, ?_, ?_⟩; exact (pg_name' 0 ndc rfl rfl); exact pts_nil; exact (pe_lst pa_nil))) rfl)
      (pss_cons (ps_for PassesOwn.leaving rfl (pi_listK (K := K) rfl (pe_fldK (K := K) rfl (pv 0) rfl)) (pg_tup rfl (pgs_cons (pg_name (i := 3) nd rfl (Or.inl rfl)) (pgs_cons (pg_name (i := 4) nd rfl (Or.inl rfl)) (pgs_cons (pg_name (i := 5) nd rfl (Or.inl rfl)) pgs_nil)))) (pss_one (ps_expr (pe_bm PySem.F.plainAttrs_list PySem.F.slot_list_append PySem.F.type_list_append mt_append (pe_ix (ix_listK (K := K) rfl) (pe_fldK (K := K) rfl (pv 0) rfl) (pv 4) (fun _ _ => rfl)) (pa_cons (pe_tup (pa_cons (pv 3) (pa_cons (pv 5) pa_nil))) pa_nil)))))
      (pss_one (ps_if (pt_cmpR (op_in_empty hu) (pe_lst pa_nil) (pe_fldK (K := K) rfl (pv 0) rfl) (by with_unfolding_all rfl)) (pss_one (ps_raise XC_Idle throws_def rfl rfl)) pss_nil)))))))), ?_⟩
      (try first | refine hZ _ _ ?_ | refine hZn _ _ ?_); (try refine seq_hide fun Z hZ => ?_); refine ⟨_, rfl, _, _, rfl, rfl, _, rfl, ?_⟩
      rw [decide_eq_false (by omega)]
      refine iteF ?_; (try first | refine hZ _ _ ?_ | refine hZn _ _ ?_); refine ⟨_, rfl, _, _, rfl, rfl, _, rfl, ?_⟩
      rw [decide_eq_false (by omega)]
      refine iteF ?_
      (try first | refine hZ _ _ ?_ | refine hZn _ _ ?_); (try refine seq_hide fun Z hZ => ?_); refine ⟨_, rfl, _, rfl, n, l, as, ts, rfl, hl, ht, ok, by omega, fun H1 S1 => ?_⟩
      -- self.deeds = size
      (try first | refine hZ _ _ ?_ | refine hZn _ _ ?_); (try refine seq_hide fun Z hZ => ?_); refine ⟨_, rfl, _, rfl, x, C, dx, [], rfl, S1 _ _ hx, T.cl, T.nD, by decide, ?_⟩
      rw [put1]
      have nl : l ≠ x := ne_of hl hx (by intro z; cases z)
      have X1 : SameX x H (upd H1 x (.ins C dx (wf1 n))) := fun b o hb e => by rw [upd_ne hb]; exact S1 b o e
      have x1 : (upd H1 x (.ins C dx (wf1 n))) x = some (.ins C dx (wf1 n)) := upd_same
      generalize upd H1 x (.ins C dx (wf1 n)) = H2 at X1 x1 ⊢
      have tX : ∀ {H' : Hp}, SameX x H H' → TupsAt H' as (ts.map tri) := fun S => tups_same ht S (tup_not_ins hx)
      -- self.in_order = sorted([(a, b, w) for a, b, w in ties])
      (try first | refine hZ _ _ ?_ | refine hZn _ _ ?_); dsimp only [tSeq, sFld, tCB, tCons, tNil]
      refine tcomp_list mon_var (mon_gtup (mon_gcons mon_gname (mon_gcons mon_gname (mon_gcons mon_gname mon_gnil)))) mon_true (mon_tup (mon_cons mon_var (mon_cons mon_var (mon_cons mon_var mon_nil)))) ⟨_, rfl, l, as.map V.ref, rfl, SqL.of (X1 _ _ nl hl), by rw [List.length_map]; omega, fun acc hacc =>
        ⟨fun i ys σ' H' => ∃ (bs : List Addr) (u1 u2 u3 : Option V), σ' = [u1, u2, u3] ∧ ys = bs.map V.ref ∧ SameX x H H' ∧ H' x = some (.ins C dx (wf1 n)) ∧ H' acc = some (.lst ys) ∧ TupsAt H' bs ((ts.take i).map tri) ∧ i ≤ ts.length, ?_, ?_, ?_, ?_⟩⟩
      · have nx : x ≠ acc := ne_of_none x1 hacc
        (try first | refine hZ _ _ ?_ | refine hZn _ _ ?_); exact ⟨[], none, none, none, rfl, rfl, fun b o hb e => by rw [upd_ne (ne_of_none (X1 b o hb e) hacc)]; exact X1 b o hb e, by rw [upd_ne nx]; exact x1, upd_same, .nil, Nat.zero_le _⟩
      · rintro i ys σ' H' ⟨bs, _, _, _, rfl, rfl, S, _, ha, tb, hi⟩
        (try first | refine hZ _ _ ?_ | refine hZn _ _ ?_); (try refine seq_hide fun Z hZ => ?_); refine ⟨SqL.of (S _ _ nl hl), ha, ?_⟩
        rw [List.length_map, tb.len, List.length_map, List.length_take]; omega
      · rintro i y ys σ' H' hy ⟨bs, u1, u2, u3, rfl, rfl, S, hx', ha, tb, hi⟩
        obtain ⟨hi2, rfl⟩ := refs_get hy
        obtain ⟨t, ti, ht'⟩ := (tX S).item hi2
        (try first | refine hZ _ _ ?_ | refine hZn _ _ ?_); (try refine seq_hide fun Z hZ => ?_); refine ⟨_, _, rfl, SqT.of ht', rfl, _, _, rfl, _, _, rfl, _, _, rfl, rfl, ?_⟩
        refine yesT ⟨_, rfl, _, rfl, _, rfl, by show 3 ≤ sizeLine; decide, fun p hp => ?_⟩
        have S2 : Same H' (upd H' p (.tup ((tri t).map V.int))) := Same.new hp
        have np : p ≠ acc := (ne_of_none ha hp).symm
        (try first | refine hZ _ _ ?_ | refine hZn _ _ ?_); (try refine seq_hide fun Z hZ => ?_); refine ⟨S2 _ _ ha, bs ++ [p], _, _, _, rfl, by rw [List.map_append]; rfl, fun b o hb e => ?_, ?_, upd_same, ?_, by omega⟩
        · have e2 := S b o hb e
          rw [upd_ne (ne_of_none (X1 b o hb e) hacc)]
          exact S2 _ _ e2
        · rw [upd_ne (ne_of hx' ha (by intro z; cases z))]; exact S2 _ _ hx'
        · rw [take_succ' ti, List.map_append]
          refine tups_same (TupsAt.snoc (tb.same S2) upd_same) SameX.upd (tup_not_lst (S2 _ _ ha))
      · rintro ys σ' H3 ⟨bs, _, _, _, rfl, rfl, S3, x3, ha3, tb, _⟩
        rw [List.length_map, la, List.take_length] at tb
        (try first | refine hZ _ _ ?_ | refine hZn _ _ ?_); (try refine seq_hide fun Z hZ => ?_); refine ⟨acc, bs, ts.map tri, rfl, SqL.of ha3, tb, ?_, by rw [tb.len, List.length_map]; exact h64, fun lo as' ks' hlo ta' perm srt => ?_⟩
        · intro k hk
          obtain ⟨t, _, rfl⟩ := List.mem_map.mp hk
          unfold tri; simp
        obtain ⟨ts', rfl, pm⟩ := unzip_tri bs as' ts ks' (by rw [tb.len, List.length_map]) ta'.len perm
        have S4 : Same H3 (upd H3 lo (.lst (as'.map V.ref))) := Same.new hlo
        (try first | refine hZ _ _ ?_ | refine hZn _ _ ?_); (try refine seq_hide fun Z hZ => ?_); refine ⟨_, rfl, x, C, dx, _, rfl, S4 _ _ x3, T.cl, T.nO, by show 1 < 1000; decide, ?_⟩
        rw [put2]
        have nlo : lo ≠ x := (ne_of_none x3 hlo).symm
        have X4 : SameX x H (upd (upd H3 lo (.lst (as'.map V.ref))) x (.ins C dx (wf2 n lo))) := fun b o hb e => by rw [upd_ne hb]; exact S4 _ _ (S3 b o hb e)
        have x4 : (upd (upd H3 lo (.lst (as'.map V.ref))) x (.ins C dx (wf2 n lo))) x = some (.ins C dx (wf2 n lo)) := upd_same
        have lo4 : (upd (upd H3 lo (.lst (as'.map V.ref))) x (.ins C dx (wf2 n lo))) lo = some (.lst (as'.map V.ref)) := by rw [upd_ne nlo, upd_same]
        have t4 : TupsAt (upd (upd H3 lo (.lst (as'.map V.ref))) x (.ins C dx (wf2 n lo))) as' (ts'.map tri) := tups_same (ta'.same S4) SameX.upd (tup_not_ins (S4 _ _ x3))
        generalize upd (upd H3 lo (.lst (as'.map V.ref))) x (.ins C dx (wf2 n lo)) = H4 at X4 x4 lo4 t4 ⊢
        have ok' : OkT n ts' := ⟨fun t ht => ok.lt t (pm.mem_iff.mp ht), ((pm.map pr).nodup_iff).mpr ok.nd⟩
        have len' : ts'.length = ts.length := pm.length_eq
        have la' : as'.length = ts'.length := by rw [ta'.len, List.length_map]
        -- self.into = [[] for b in range(size)]
        refine tcomp_range (mon_cons mon_var mon_nil) mon_gname mon_true (mon_lst mon_nil) ⟨_, rfl, n, rfl, by omega, fun li hli =>
          ⟨fun i ys σ' H' => ∃ (ls : List Addr) (u1 : Option V), σ' = [u1] ∧ ys = ls.map V.ref ∧ ls.length = i ∧ ls.Nodup ∧ Same H4 H' ∧ H' li = some (.lst ys) ∧ ∀ a ∈ ls, H4 a = none ∧ H' a = some (.lst []) ∧ a ≠ li, ?_, ?_, ?_, ?_⟩⟩
        · (try first | refine hZ _ _ ?_ | refine hZn _ _ ?_); exact ⟨[], none, rfl, rfl, rfl, List.nodup_nil, Same.new hli, upd_same, fun a ha => nomatch ha⟩
        · rintro i ys σ' H' ⟨ls, u1, rfl, rfl, hl2, nd2, S, hli', hls⟩
          (try first | refine hZ _ _ ?_ | refine hZn _ _ ?_); exact ⟨hli', by rw [List.length_map]; omega⟩
        · rintro i ys σ' H' hi ⟨ls, u1, rfl, rfl, hl2, nd2, S, hli', hls⟩

          refine g1T ⟨Nat.zero_le _, fun p hp => ?_⟩
          have S2 : Same H' (upd H' p (.lst [])) := Same.new hp
          have npl : p ≠ li := (ne_of_none hli' hp).symm
          (try first | refine hZ _ _ ?_ | refine hZn _ _ ?_); (try refine seq_hide fun Z hZ => ?_); refine ⟨S2 _ _ hli', ls ++ [p], _, rfl, by rw [List.map_append]; rfl, by simp [hl2], ?_, ?_, upd_same, fun a ha => ?_⟩
          · rw [List.nodup_append]
            (try first | refine hZ _ _ ?_ | refine hZn _ _ ?_); (try refine seq_hide fun Z hZ => ?_); refine ⟨nd2, by simp, fun a ha b hb => ?_⟩
            rw [List.mem_singleton.mp hb]
            exact ne_of_none (hls a ha).2.1 hp
          · intro b o e
            rw [upd_ne (ne_of_none e hli)]
            exact S2 _ _ (S b o e)
          · rcases List.mem_append.mp ha with z | z
            · obtain ⟨z1, z2, z3⟩ := hls a z
              (try first | refine hZ _ _ ?_ | refine hZn _ _ ?_); exact ⟨z1, by rw [upd_ne z3]; exact S2 _ _ z2, z3⟩
            · rw [List.mem_singleton.mp z]
              (try first | refine hZ _ _ ?_ | refine hZn _ _ ?_); exact ⟨S.free hp, by rw [upd_ne npl, upd_same], npl⟩
        · rintro ys σ' H5 ⟨ls, u1, rfl, rfl, hl2, nd2, S5, hli5, hls⟩
          have nli : li ≠ x := (ne_of_none x4 hli).symm
          (try first | refine hZ _ _ ?_ | refine hZn _ _ ?_); (try refine seq_hide fun Z hZ => ?_); refine ⟨_, rfl, x, C, dx, _, rfl, S5 _ _ x4, T.cl, T.nI, by show 2 < 1000; decide, ?_⟩
          rw [put3]
          -- for a, b, w in self.in_order
          (try first | refine hZ _ _ ?_ | refine hZn _ _ ?_); refine for_in (mon_fld mon_var) ⟨_, rfl, x, C, dx, _, _, rfl, upd_same, T.cl, T.nO, look_in_order n lo li, lo, as'.map V.ref, rfl, SqL.of (by rw [upd_ne nlo]; exact S5 _ _ lo4),
            fun i σ' H' => ∃ (u1 u2 u3 : Option V), σ' = [some (.ref x), some (.int n), some (.ref l), u1, u2, u3] ∧ SameX x H H' ∧ H' x = some (.ins C dx (wf n lo li)) ∧ H' lo = some (.lst (as'.map V.ref)) ∧ TupsAt H' as' (ts'.map tri) ∧ H' li = some (.lst (ls.map V.ref)) ∧ IntoAt H' n ls (ts'.take i), ?_, ?_, ?_, ?_⟩
          · (try first | refine hZ _ _ ?_ | refine hZn _ _ ?_); (try refine seq_hide fun Z hZ => ?_); refine ⟨none, none, none, rfl, fun b o hb e => ?_, upd_same, ?_, ?_, ?_, hl2, fun b hb => ⟨[], ?_, .nil⟩⟩
            · rw [upd_ne hb]; exact S5 _ _ (X4 b o hb e)
            · rw [upd_ne nlo]; exact S5 _ _ lo4
            · exact tups_same (t4.same S5) SameX.upd (tup_not_ins (S5 _ _ x4))
            · rw [upd_ne nli]; exact hli5
            · have hm : ls.getD b 0 ∈ ls := by simp [show b < ls.length by omega]
              obtain ⟨z1, z2, z3⟩ := hls _ hm
              rw [upd_ne (ne_of_none x4 z1).symm]; exact z2
          · rintro i σ' H' _ ⟨_, _, _, _, _, _, hlo', _⟩
            exact SqL.of hlo'
          · rintro i y σ' H' hy ⟨u1, u2, u3, rfl, S, hx', hlo', t', hli', hin⟩
            obtain ⟨hi2, rfl⟩ := refs_get hy
            obtain ⟨t, ti, ht'⟩ := t'.item hi2
            obtain ⟨okt1, okt2⟩ := ok'.lt t (List.mem_of_getElem? ti)
            obtain ⟨cs, hcs, tcs⟩ := hin.2 t.2.1 okt2
            have hbl : t.2.1 < ls.length := by omega
            have hm : ls.getD t.2.1 0 ∈ ls := by simp [hbl]
            obtain ⟨z1, z2, z3⟩ := hls _ hm
            have cl : cs.length ≤ 64 := by
              rw [tcs.len, List.length_map]
              have h1 := List.length_filter_le (fun t' : Tie => t'.2.1 == t.2.1) (ts'.take i)
              have h2 : (ts'.take i).length ≤ ts'.length := List.length_take_le' _ _
              omega
            (try first | refine hZ _ _ ?_ | refine hZn _ _ ?_); (try refine seq_hide fun Z hZ => ?_); refine ⟨_, _, rfl, SqT.of ht', rfl, _, _, rfl, _, _, rfl, _, _, rfl, rfl, ?_⟩
            (try first | refine hZ _ _ ?_ | refine hZn _ _ ?_); (try refine seq_hide fun Z hZ => ?_); refine ⟨_, rfl, x, C, dx, _, _, rfl, hx', T.cl, T.nI, look_into n lo li, _, rfl, li, _, _, _, rfl, rfl, SqL.of hli', atI_ref hbl, .inl ⟨rfl, _, SqL.of hcs⟩, _, rfl, _, rfl, by show 2 ≤ sizeLine; decide, fun p hp => ?_⟩
            have S2 : Same H' (upd H' p (.tup [V.int (t.1 : Int), V.int t.2.2])) := Same.new hp
            (try first | refine hZ _ _ ?_ | refine hZn _ _ ?_); (try refine seq_hide fun Z hZ => ?_); refine ⟨_, _, _, rfl, rfl, S2 _ _ hcs, by rw [List.length_map]; omega, ?_⟩
            have nb' : ∀ b o, H4 b = some o → b ≠ ls.getD t.2.1 0 := fun b o e => ne_of_none e z1
            have up : ∀ b o, b ≠ ls.getD t.2.1 0 → H' b = some o → (upd (upd H' p (.tup [V.int (t.1 : Int), V.int t.2.2])) (ls.getD t.2.1 0) (.lst (cs.map V.ref ++ [V.ref p]))) b = some o := fun b o hb e => by rw [upd_ne hb]; exact S2 _ _ e
            have tupX : ∀ {as : List Addr} {ks : List (List Int)}, TupsAt H' as ks → TupsAt (upd (upd H' p (.tup [V.int (t.1 : Int), V.int t.2.2])) (ls.getD t.2.1 0) (.lst (cs.map V.ref ++ [V.ref p]))) as ks := fun h => tups_same (h.same S2) SameX.upd (tup_not_lst (S2 _ _ hcs))
            (try first | refine hZ _ _ ?_ | refine hZn _ _ ?_); (try refine seq_hide fun Z hZ => ?_); refine ⟨_, _, _, rfl, fun b o hb e => up b o (nb' b o (X4 b o hb e)) (S b o hb e), up _ _ (nb' _ _ x4) hx', up _ _ (nb' _ _ lo4) hlo', tupX t', up _ _ z3.symm hli', hl2, fun b hb => ?_⟩
            rw [take_succ' ti, List.filter_append]
            by_cases eb : b = t.2.1
            · subst eb
              (try first | refine hZ _ _ ?_ | refine hZn _ _ ?_); (try refine seq_hide fun Z hZ => ?_); refine ⟨cs ++ [p], by rw [upd_same, List.map_append]; rfl, ?_⟩
              have : [t].filter (fun t' : Tie => t'.2.1 == t.2.1) = [t] := by simp
              rw [this, List.map_append]
              refine TupsAt.snoc (tupX tcs) ?_
              rw [upd_ne (fun z => by subst z; rw [hp] at hcs; cases hcs), upd_same]; rfl
            · obtain ⟨cs', hcs', tcs'⟩ := hin.2 b hb
              have : [t].filter (fun t' : Tie => t'.2.1 == b) = [] := by simp [Ne.symm eb]
              rw [this, List.append_nil]
              (try first | refine hZ _ _ ?_ | refine hZn _ _ ?_); (try refine seq_hide fun Z hZ => ?_); refine ⟨cs', up _ _ (fun z => ?_) hcs', tupX tcs'⟩
              have hb' : b < ls.length := by omega
              have e1 : ls.getD b 0 = ls[b] := by simp [hb']
              have e2 : ls.getD t.2.1 0 = ls[t.2.1] := by simp [hbl]
              rw [e1, e2] at z
              have pw := List.pairwise_iff_getElem.mp nd2
              rcases Nat.lt_or_gt_of_ne eb with hlt | hlt
              · exact pw b t.2.1 hb' hbl hlt z
              · exact pw t.2.1 b hbl hb' hlt z.symm
          · rintro σ' H6 ⟨u1, u2, u3, rfl, S6, x6, lo6, t6, li6, in6⟩
            rw [List.length_map, la', List.take_length] at in6
            -- if [] in self.into
            obtain ⟨xss, hxs, hany⟩ := lists_hole (K := K) (a0 := ls.getD b0 0) (H := H6) (by
              obtain ⟨cs, hcs, tcs⟩ := in6.2 b0 hb0
              have ef : ts'.filter (fun t' : Tie => t'.2.1 == b0) = [] := by
                rw [List.filter_eq_nil_iff]
                intro t ht2 z
                exact noT t (pm.mem_iff.mp ht2) (by simpa using z)
              rw [ef] at tcs
              have l1 := tcs.len
              have : cs = [] := List.length_eq_zero_iff.mp (by simpa using l1)
              subst this
              exact SqL.of hcs) ls (by simp [show b0 < ls.length by omega]) fun a ha => by
                obtain ⟨b, hb, rfl⟩ := List.getElem_of_mem ha
                obtain ⟨cs, hcs, tcs⟩ := in6.2 b (by omega)
                have eb : ls.getD b 0 = ls[b] := by simp [hb]
                rw [eb] at hcs
                (try first | refine hZ _ _ ?_ | refine hZn _ _ ?_); exact ⟨cs.map V.ref, SqL.of hcs⟩
            (try first | refine hZ _ _ ?_ | refine hZn _ _ ?_); first | (refine seq_hide fun Z hZ => ?_; refine ⟨Nat.zero_le _, fun e he => ⟨_, rfl, x, C, dx, _, _, rfl, Same.new he _ _ x6, T.cl, T.nI, look_into n lo li, e, li, ls, xss, rfl, rfl, SqL.of upd_same, SqL.of (Same.new he _ _ li6), (Same.new he).lists hxs, _, rfl, ?_⟩⟩) | refine ⟨Nat.zero_le _, fun e he => ⟨_, rfl, x, C, dx, _, _, rfl, Same.new he _ _ x6, T.cl, T.nI, look_into n lo li, e, li, ls, xss, rfl, rfl, SqL.of upd_same, SqL.of (Same.new he _ _ li6), (Same.new he).lists hxs, _, rfl, ?_⟩⟩
            rw [hany]
            refine iteT ?_
            (try first | refine hZ _ _ ?_ | refine hZn _ _ ?_); exact q _ fun b o hb e' => Same.new he _ _ (S6 b o hb e')

end

end W16

set_option Elab.async false
set_option linter.all false
set_option maxRecDepth 100000
namespace W16
open PySem PySem.W PyProof.Rows L2 Ww
section
variable {P : Program} {w : World} {K : Frag} {mg : Str → Option Value} {base : Heap}
/-! ### size, ties -/
theorem sc_size : FnScope ["self"] ["self"] (defScope s_size) := ⟨rfl, rfl, rfl, by decide +kernel, rfl, by decide +kernel, by decide +kernel⟩
inductive I_spSize (C : Addr) (vs : List V) (H : Hp) (Q : VK) : Prop
  | mk (p : Addr) (n : Nat) (ts : List Tie) (h1 : vs = [.ref p]) (h2 : WheelAt C H p n ts) (h3 : Q (.int n) H)
noncomputable def spSize (C : Addr) : Sp := fun vs H Q _ => I_spSize C vs H Q
theorem monS_size {C : Addr} : MonS (spSize C) := fun _ _ _ _ _ k ⟨p, n, ts, a, b, c⟩ => ⟨p, n, ts, a, b, k _ _ c⟩
theorem ok_size {f C : Addr} {fd : FuncData} (F : L2.Fun K "size" "Wheel.size" s_size f fd) (T : WTxt K mg C) : FnOk P w K mg base CX0 1 f fd ["self"] (spSize C) := by
  refine F.ok sc_size (fun vs H Q E h => ?_) (fun cdv A outer s H vs Q E hr h => ?_)
  · obtain ⟨p, n, ts, rfl, _⟩ := h
    rfl
  · obtain ⟨p, n, ts, rfl, W, q⟩ := h
    obtain ⟨dx, lo, li, as, ls, h1, h2, h3, h4, h5⟩ := W.ex
    (try first | refine hZ _ _ ?_ | refine hZn _ _ ?_); (try refine seq_hide fun Z hZ => ?_); refine ⟨_, (pss_one (ps_ret (pe_fldK (K := K) rfl (pv 0) rfl))), ?_⟩
    (try first | refine hZ _ _ ?_ | refine hZn _ _ ?_); exact ⟨_, rfl, p, C, dx, _, _, rfl, h1, T.cl, T.nD, look_deeds n lo li, q⟩
theorem sc_ties : FnScope ["self"] ["self"] (defScope s_ties) := ⟨rfl, rfl, rfl, by decide +kernel, rfl, by decide +kernel, by decide +kernel⟩
inductive I_spTies (C : Addr) (vs : List V) (H : Hp) (Q : VK) : Prop
  | mk (p : Addr) (n : Nat) (ts : List Tie) (h1 : vs = [.ref p]) (h2 : WheelAt C H p n ts) (h3 : ∀ (l : Addr) (as : List Addr), H l = none → TupsAt H as (ts.map tri) → Q (.ref l) (upd H l (.lst (as.map V.ref))))
noncomputable def spTies (C : Addr) : Sp := fun vs H Q _ => I_spTies C vs H Q
theorem monS_ties {C : Addr} : MonS (spTies C) := fun _ _ _ _ _ k ⟨p, n, ts, a, b, c⟩ => ⟨p, n, ts, a, b, fun l as h1 h2 => k _ _ (c l as h1 h2)⟩
theorem ok_ties {f C : Addr} {fd : FuncData} (F : L2.Fun K "ties" "Wheel.ties" s_ties f fd) (nb : NB mg) (T : WTxt K mg C) : FnOk P w K mg base CX0 1 f fd ["self"] (spTies C) := by
  obtain ⟨b_len, b_range, b_list, b_sorted, b_isinstance, b_all, b_bool, b_int, b_tuple, b_enumerate, b_reversed⟩ := nb
  refine F.ok sc_ties (fun vs H Q E h => ?_) (fun cdv A outer s H vs Q E hr h => ?_)
  · obtain ⟨p, n, ts, rfl, _⟩ := h
    rfl
  · obtain ⟨p, n, ts, rfl, W, q⟩ := h
    obtain ⟨dx, lo, li, as, ls, h1, h2, h3, h4, h5⟩ := W.ex
    (try first | refine hZ _ _ ?_ | refine hZn _ _ ?_); (try refine seq_hide fun Z hZ => ?_); refine ⟨_, (pss_one (ps_ret (pe_callTy (call_list_ofK (K := K) rfl) rfl b_list bb_list (pa_cons (pe_fldK (K := K) rfl (pv 0) rfl) pa_nil)))), ?_⟩
    (try first | refine hZ _ _ ?_ | refine hZn _ _ ?_); exact ⟨_, rfl, p, C, dx, _, _, rfl, h1, T.cl, T.nO, look_in_order n lo li, lo, _, rfl, .inl (SqL.of h2), fun l hl => q l as hl h3⟩
end
instance iN120 {C : Addr} : CS (spSize C) := ⟨monS_size⟩
instance iN121 {C : Addr} : CS (spTies C) := ⟨monS_ties⟩

end W16

set_option Elab.async false
set_option linter.all false
set_option maxRecDepth 100000
namespace W16
open PySem PySem.W PyProof.Rows L2 Ww
section
variable {P : Program} {w : World} {K : Frag} {mg : Str → Option Value} {base : Heap}
noncomputable abbrev s_waits : Stmt := inClass (top 10) 3
theorem sc_waits : FnScope ["self", "b"] ["self", "b"] (defScope s_waits) := ⟨rfl, rfl, rfl, by decide +kernel, rfl, by decide +kernel, by decide +kernel⟩
-- self=0, b=1
inductive I_spWaits (C : Addr) (vs : List V) (H : Hp) (Q : VK) : Prop
  | mk (p : Addr) (n : Nat) (ts : List Tie) (b : Nat) (h1 : vs = [.ref p, .int b]) (h2 : WheelAt C H p n ts) (h3 : b < n) (h4 : ∀ (l : Addr) (cs : List Addr), H l = none → TupsAt H cs ((ts.filter fun t => t.2.1 == b).map two) → Q (.ref l) (upd H l (.lst (cs.map V.ref))))
noncomputable def spWaits (C : Addr) : Sp := fun vs H Q _ => I_spWaits C vs H Q
instance iN122 {C : Addr} : CS (spWaits C) := ⟨fun _ _ _ _ _ k hh => by obtain ⟨p, n, ts, b, a1, a2, a3, q⟩ := hh; exact ⟨p, n, ts, b, a1, a2, a3, fun l cs h1 h2 => k _ _ (q l cs h1 h2)⟩⟩
set_option maxHeartbeats 0 in
theorem ok_waits {f C  : Addr} {fd : FuncData} (F : L2.Fun K "waits" "Wheel.waits" s_waits f fd) (nb : NB mg) (nb2 : NB2 mg) (T : WTxt K mg C) (D_check_deed : DefOk P w K mg base CX0 1 "check_deed" ["size", "deed"] (spCheckDeed)) : FnOk P w K mg base CX0 2 f fd ["self", "b"] (spWaits C) := by
  obtain ⟨b_len, b_range, b_list, b_sorted, b_isinstance, b_all, b_bool, b_int, b_tuple, b_enumerate, b_reversed⟩ := nb
  obtain ⟨b_max, b_min, b_abs, b_zip, b_sum, b_str, b_set⟩ := nb2
  have line := line1000
  have nd := sc_waits.nd
  refine F.ok sc_waits (fun vs H Q E h => ?_) (fun cdv A outer s H vs Q E hr h => ?_)
  · obtain ⟨p, n, ts, b, rfl, _⟩ := h
    rfl
  · obtain ⟨p, n, ts, b, rfl, W, hb, q⟩ := h
    obtain ⟨dx, lo, li, as, ls, h1, h2, h3, h4, h5, h6⟩ := W.ex
    obtain ⟨cs, hcs, tcs⟩ := h6 b hb
    (try first | refine hZ _ _ ?_ | refine hZn _ _ ?_); refine ⟨_, (pss_cons (ps_expr (pe_def D_check_deed pass0 hr (by decide) rfl (pa_cons (pe_fldK (K := K) rfl (pv 0) rfl) (pa_cons (pv 1) pa_nil))))
      (pss_one (ps_ret (pe_callTy (call_list_ofK (K := K) rfl) rfl b_list bb_list (pa_cons (pe_ix (ix_listK (K := K) rfl) (pe_fldK (K := K) rfl (pv 0) rfl) (pv 1) (fun _ _ => rfl)) pa_nil))))), ?_⟩
    (try first | refine hZ _ _ ?_ | refine hZn _ _ ?_); (try refine seq_hide fun Z hZ => ?_); refine ⟨_, rfl, p, C, dx, _, _, rfl, h1, T.cl, T.nD, look_deeds n lo li, _, rfl, n, b, rfl, hb, ?_⟩
    (try first | refine hZ _ _ ?_ | refine hZn _ _ ?_); exact ⟨_, rfl, p, C, dx, _, _, rfl, h1, T.cl, T.nI, look_into n lo li, _, rfl, li, _, _, _, rfl, rfl, SqL.of h4, atI_ref (by omega), _, _, rfl, .inl (SqL.of hcs), fun l hl => q l cs hl tcs⟩

end

end W16

set_option Elab.async false
set_option linter.all false
set_option maxRecDepth 100000
namespace W16
open PySem PySem.W PyProof.Rows L2 Ww
section
variable {P : Program} {w : World} {K : Frag} {mg : Str → Option Value} {base : Heap}
noncomputable abbrev s_is_number : Stmt := top 14
theorem sc_is_number : FnScope ["word", "figures"] ["word"] (defScope s_is_number) := ⟨rfl, rfl, rfl, by decide +kernel, rfl, by decide +kernel, by decide +kernel⟩
-- word=0, figures=1
theorem line_len {x : Str} (h : x.length ≤ 2000) : x.length ≤ sizeLine := by
  have := line1000
  omega
theorem figs_asc : ∀ c : Fin 128, (!(Builtin.Str.occurrences ("0123456789" : Str) ⟨#[c.val]⟩ 0 ("0123456789" : Str).length 1).isEmpty) = (decide (48 ≤ c.val) && decide (c.val ≤ 57)) := by decide +kernel
theorem fig_is {c : Nat} (h : c < 128) : (!(Builtin.Str.occurrences ("0123456789" : Str) ⟨#[c]⟩ 0 ("0123456789" : Str).length 1).isEmpty) = (decide (48 ≤ c) && decide (c ≤ 57)) := figs_asc ⟨c, h⟩
theorem if_notall {r : List V → Hp → VK → Prop} {te : TE} {t u : TS} {D : Ends} {σ : L2.St} {H : Hp} (h : te σ H fun x H1 => r [x] H1 fun y H2 => I_tB y H2 fun d H3 => if (!d) = true then t D σ H3 else u D σ H3) : tIfS (tNot (tB (tCB r (tCons te tNil)))) t u D σ H := h
inductive I_spIsNumG (K : Frag) (vs : List V) (H : Hp) (Q : VK) : Prop
  | mk (z : Str) (h1 : vs = [.str z]) (h2 : Asc z) (h3 : z.length ≤ 1000) (h4 : ∀ H', Same H H' → Q (.bl (isNum z)) H')
noncomputable def spIsNumG (K : Frag) : Sp := fun vs H Q _ => I_spIsNumG K vs H Q
instance iN123 {K : Frag} : CS (spIsNumG K) := ⟨fun _ _ _ _ _ k hh => by obtain ⟨z, a1, a2, a3, q⟩ := hh; exact ⟨z, a1, a2, a3, fun H' b => k _ _ (q H' b)⟩⟩
theorem figs_slice {z : Str} (h : Txt.startswith z ("-" : Str) = true) : sg (StrLaws.sliceText z (some 1) none) = figsL (sg z) := by
  rw [mi_eq, starts_one] at h
  obtain ⟨r, e⟩ : ∃ r, sg z = 45 :: r := by
    cases g : sg z with
    | nil => rw [g] at h; cases h
    | cons a b =>
      rw [g] at h
      have : a = 45 := by simpa using h
      exact ⟨b, by rw [this]⟩
  rw [StrLaws.sliceText_from (i := 1) ⟨by decide, by show (1 : Int) ≤ ((sg z).length : Int); rw [e, List.length_cons]; omega⟩]
  show ((sg z).drop 1).take _ = _
  rw [show (z.cps.toList.length : Int) = ((45 :: r).length : Int) by rw [← e], e]
  refine List.take_of_length_le ?_
  show r.length ≤ _
  rw [List.length_cons]
  omega
set_option maxHeartbeats 0 in
theorem ok_is_number {f C  : Addr} {fd : FuncData} (F : L2.Fun K "is_number" "is_number" s_is_number f fd) (nb : NB mg) (nb2 : NB2 mg) (T : WTxt K mg C) (GI_MOST_FIGURES : ∃ tk, mg "MOST_FIGURES" = some (Value.int 30 tk)) (GI_FIGURES : ∃ tk, mg "FIGURES" = some (Value.str "0123456789" tk)) : FnOk P w K mg base CX0 1 f fd ["word"] (spIsNumG K) := by
  obtain ⟨b_len, b_range, b_list, b_sorted, b_isinstance, b_all, b_bool, b_int, b_tuple, b_enumerate, b_reversed⟩ := nb
  obtain ⟨b_max, b_min, b_abs, b_zip, b_sum, b_str, b_set⟩ := nb2
  have line := line1000
  have nd := sc_is_number.nd
  refine F.ok sc_is_number (fun vs H Q E h => ?_) (fun cdv A outer s H vs Q E hr h => ?_)
  · obtain ⟨z, rfl, _⟩ := h
    rfl
  · obtain ⟨z, rfl, az, lz, q⟩ := h
    obtain ⟨tk1, g_MOST_FIGURES⟩ := GI_MOST_FIGURES
    obtain ⟨tk2, g_FIGURES⟩ := GI_FIGURES
    have sz := sg_len z
    (try first | refine hZ _ _ ?_ | refine hZn _ _ ?_); refine ⟨_, (pss_cons (ps_set (i := 1) nd rfl (Or.inl rfl) (pe_ifExp (pt_val (pe_bmK (K := K) rfl PySem.F.plainAttrs_str PySem.F.slot_str_startswith PySem.F.type_str_startswith mt_startswith (pv 0) (pa_cons pe_str pa_nil))) (pe_slice sl_str (pv 0) (po_some pe_int) po_none) (pv 0)))
      (pss_cons (ps_if (PW.pt (pw_or (pt_cmpR op_eq (pv 1) pe_str (nomark _)) (pw_or1 (pt_cmpR op_gt (pe_callB call_len_str rfl b_len bb_len (pa_cons (pv 1) pa_nil)) (pe_gint rfl g_MOST_FIGURES) (nomark _))))) (pss_one (ps_ret pe_bl)) pss_nil)
      (pss_cons (ps_if (pt_not (pt_val (pe_callB (call_allB rfl) rfl b_all bb_all (pa_cons (pe_compD (CompScopeD.of (N' := ["sign"]) (cap := [none]) (by rfl)) rfl (pi_str (pv 1)) (by decide +kernel) (by intro cl C s₀ H₀ ex ndc; refine ⟨?_, ?_, ?_⟩; exact (pg_name' 0 ndc rfl rfl); exact pts_nil; exact (pe_cmpR op_in_str (pv 0) (pe_gstr rfl g_FIGURES) (by with_unfolding_all rfl)))) pa_nil)))) (pss_one (ps_ret pe_bl)) pss_nil)
      (pss_one (ps_ret (pe_or (pe_cmpR op_eq (pv 0) pe_str (nomark _)) (pe_one (pe_cmpR op_ne (pe_ix ix_str (pv 1) pe_int (fun _ _ => rfl)) pe_str (nomark _))))))))), ?_⟩
    -- word=0, figures=1
    (try first | refine hZ _ _ ?_ | refine hZn _ _ ?_); refine seq_at (fun σ' H' => ∃ F : Str, σ' = [some (.str z), some (.str F)] ∧ H = H' ∧ sg F = figsL (sg z)) ?_ ?_
    · (try first | refine hZ _ _ ?_ | refine hZn _ _ ?_); (try refine seq_hide fun Z hZ => ?_); refine ⟨_, rfl, rfl, _, _, rfl, rfl, _, rfl, ?_⟩
      cases hs : Txt.startswith z ("-" : Str) with
      | true =>
        have ef := figs_slice hs
        refine iteT ?_
        (try first | refine hZ _ _ ?_ | refine hZn _ _ ?_); refine ⟨_, rfl, _, rfl, _, rfl, line_len (by
          rw [← sg_len, ef]
          have := figsL_len (sg z)
          omega), ?_⟩
        (try first | refine hZ _ _ ?_ | refine hZn _ _ ?_); exact ⟨_, rfl, rfl, ef⟩
      | false =>
        refine iteF ?_
        (try first | refine hZ _ _ ?_ | refine hZn _ _ ?_); (try refine seq_hide fun Z hZ => ?_); refine ⟨_, rfl, ?_⟩
        (try first | refine hZ _ _ ?_ | refine hZn _ _ ?_); (try refine seq_hide fun Z hZ => ?_); refine ⟨_, rfl, rfl, (figsL_ne fun y => ?_).symm⟩
        rw [mi_eq, starts_one, y] at hs
        cases hs
    rintro σ' H' ⟨F, rfl, rfl, eF⟩
    have lF : F.length = (figsL (sg z)).length := by rw [← sg_len, eF]
    have lf := figsL_len (sg z)
    have aF : ∀ c ∈ figsL (sg z), c < 128 := fun c hc => az c (figsL_mem hc)
    unfold isNum isNumL at q
    -- figures == '' or len(figures) > MOST_FIGURES
    (try first | refine hZ _ _ ?_ | refine hZn _ _ ?_); (try refine seq_hide fun Z hZ => ?_); refine ⟨_, rfl, rfl, _, rfl, ?_⟩
    by_cases f0 : figsL (sg z) = []
    · rw [decide_eq_true (show V.str F = V.str ("" : Str) by rw [show F = ("" : Str) from sg_ext (by rw [eF, f0]; decide +kernel)])]
      refine iteT (iteT ?_)
      have := q H (Same.refl _)
      rw [f0] at this
      exact this
    rw [decide_eq_false (fun y => f0 (by injection y with y; rw [← eF, y]; decide +kernel))]
    have ne0 : (figsL (sg z)).isEmpty = false := by
      cases g : figsL (sg z) with
      | nil => exact absurd g f0
      | cons _ _ => rfl
    rw [ne0] at q
    refine iteF ?_; (try first | refine hZ _ _ ?_ | refine hZn _ _ ?_); refine ⟨_, rfl, F, rfl, line_len (by omega), _, _, rfl, rfl, _, rfl, ?_⟩
    by_cases f30 : (figsL (sg z)).length ≤ 30
    rotate_left
    · rw [decide_eq_true (by omega)]
      refine iteT ?_
      have := q H (Same.refl _)
      rw [decide_eq_false f30] at this
      exact this
    rw [decide_eq_false (by omega)]
    rw [decide_eq_true f30] at q
    refine iteF ?_
    -- all
    (try first | refine hZ _ _ ?_ | refine hZn _ _ ?_); try dsimp only [tNext, gName]
    (try first | refine hZ _ _ ?_ | refine hZn _ _ ?_); refine seq_at (fun σ' H' => σ' = [some (.str z), some (.str F)] ∧ Same H H' ∧ (figsL (sg z)).all (fun c => decide (48 ≤ c) && decide (c ≤ 57)) = true) ?_ ?_
    · refine if_notall ?_
      refine cv_str ⟨_, rfl, F, rfl, ?_, by show F.length < sizeLine; omega, fun σ => ∃ u, σ = [u], fun _ => true, fun k => .bl (decide (48 ≤ (figsL (sg z)).getD k 0) && decide ((figsL (sg z)).getD k 0 ≤ 57)), ⟨_, rfl⟩, ?_, fun la H1 S1 nla hla => ?_⟩
      · rw [← Array.all_toList, List.all_eq_true]
        intro c hcc
        exact decide_eq_true (aF c (by rw [← eF]; exact hcc))
      · rintro k y σ H' hk ⟨u, rfl⟩ S' ⟨c, hcc, rfl⟩
        have hck : (figsL (sg z))[k]? = some c := by rw [← eF]; simpa using hcc
        have hc1 := aF c (List.mem_of_getElem? hck)
        have hgd : (figsL (sg z)).getD k 0 = c := by rw [List.getD_eq_getElem?_getD, hck]; rfl
        (try first | refine hZ _ _ ?_ | refine hZn _ _ ?_); (try refine seq_hide fun Z hZ => ?_); refine ⟨rfl, Same.refl _, ⟨_, rfl⟩, fun _ => ?_⟩
        (try first | refine hZ _ _ ?_ | refine hZn _ _ ?_); exact ⟨_, rfl, _, _, rfl, rfl, by rw [fig_is hc1, hgd], Same.refl _⟩
      rw [range_true] at hla
      have eall : ((List.range F.cps.size).map fun k => decide (48 ≤ (figsL (sg z)).getD k 0) && decide ((figsL (sg z)).getD k 0 ≤ 57)).all id = (figsL (sg z)).all (fun c => decide (48 ≤ c) && decide (c ≤ 57)) := by
        rw [List.all_map]
        have hr : figsL (sg z) = (List.range F.cps.size).map fun k => (figsL (sg z)).getD k 0 := by
          refine List.ext_getElem (by rw [List.length_map, List.length_range]; exact lF.symm) fun i h1 h2 => ?_
          simp [h1]
        conv => rhs; rw [hr, List.all_map]
        rfl
      (try first | refine hZ _ _ ?_ | refine hZn _ _ ?_); (try refine seq_hide fun Z hZ => ?_); refine ⟨la, _, rfl, SqL.of (by rw [hla, List.map_map]; rfl), _, rfl, ?_⟩
      rw [eall]
      cases hall : (figsL (sg z)).all (fun c => decide (48 ≤ c) && decide (c ≤ 57)) with
      | false =>
        refine iteT ?_
        have := q H1 S1
        rw [hall] at this
        exact this
      | true =>
        refine iteF ?_
        (try first | refine hZ _ _ ?_ | refine hZn _ _ ?_); exact ⟨rfl, S1, rfl⟩
    rintro σ' H' ⟨rfl, S1, hall⟩
    rw [hall] at q
    have q := q _ S1
    -- word == '0' or figures[0] != '0'
    (try first | refine hZ _ _ ?_ | refine hZn _ _ ?_); (try refine seq_hide fun Z hZ => ?_); refine ⟨_, rfl, rfl, _, rfl, ?_⟩
    by_cases z0 : sg z = [48]
    · rw [decide_eq_true (show V.str z = V.str ("0" : Str) by rw [show z = ("0" : Str) from sg_ext (by rw [z0]; decide +kernel)])]
      refine iteT ?_
      rw [z0] at q
      (try first | refine hZ _ _ ?_ | refine hZn _ _ ?_); exact q
    · rw [decide_eq_false (fun y => z0 (by injection y with y; rw [y]; decide +kernel))]
      refine iteF ?_
      obtain ⟨d, r, ed⟩ : ∃ d r, figsL (sg z) = d :: r := by
        cases g : figsL (sg z) with
        | nil => exact absurd g f0
        | cons d r => exact ⟨d, r, rfl⟩
      (try first | refine hZ _ _ ?_ | refine hZn _ _ ?_); (try refine seq_hide fun Z hZ => ?_); refine ⟨_, rfl, F, 0, d, rfl, rfl, line_len (by omega), atI_nat (j := 0) (by show (sg F)[0]? = some d; rw [eF, ed]; rfl), rfl, ?_⟩
      rw [show (sg z == [48]) = false by simpa using z0, ed] at q
      by_cases d48 : d = 48
      · rw [decide_eq_true (show V.str ⟨#[d]⟩ = V.str ("0" : Str) by rw [d48, ze_eq])]
        rw [d48] at q
        (try first | refine hZ _ _ ?_ | refine hZn _ _ ?_); exact q
      · rw [decide_eq_false (show ¬ V.str ⟨#[d]⟩ = V.str ("0" : Str) from fun y => by
          rw [ze_eq] at y
          injection y with y
          have := congrArg sg y
          exact d48 (by simpa [sg] using this))]
        rw [show ((d :: r).head? != some 48) = true by simpa using d48] at q
        (try first | refine hZ _ _ ?_ | refine hZn _ _ ?_); exact q

end

end W16

set_option Elab.async false
set_option linter.all false
set_option maxRecDepth 100000
namespace W16
open PySem PySem.W PyProof.Rows L2 Ww
section
variable {P : Program} {w : World} {K : Frag} {mg : Str → Option Value} {base : Heap}
noncomputable abbrev s_number16 : Stmt := top 15
theorem sc_number16 : FnScope ["word"] ["word"] (defScope s_number16) := ⟨rfl, rfl, rfl, by decide +kernel, rfl, by decide +kernel, by decide +kernel⟩
-- word=0
inductive I_spNumX (CB : Addr) (vs : List V) (H : Hp) (Q : VK) (E : XK) : Prop
  | mk (z : Str) (h1 : vs = [.str z]) (h2 : Asc z) (h3 : z.length ≤ 1000) (h4 : (isNum z = true → ∀ H', Same H H' → Q (.int (numV z)) H')) (h5 : (isNum z = false → ∀ H', Same H H' → E (.ref CB) none H'))
noncomputable def spNumX (CB : Addr) : Sp := fun vs H Q E => I_spNumX CB vs H Q E
instance iN124 {CB : Addr} : CS (spNumX CB) := ⟨fun _ _ _ _ _ k hh => by obtain ⟨z, a1, a2, a3, q, e⟩ := hh; exact ⟨z, a1, a2, a3, fun h H' b => k _ _ (q h H' b), e⟩⟩
set_option maxHeartbeats 0 in
theorem okx_number16 {f C CWheelError CNoDeed CTieTwice CIdle CBadNote : Addr} {fd : FuncData} (F : L2.Fun K "number" "number" s_number16 f fd) (nb : NB mg) (nb2 : NB2 mg) (T : WTxt K mg C) (D_is_number : DefOk P w K mg base CX0 1 "is_number" ["word"] (spIsNumG K)) (XC_BadNote : XCls K mg base "BadNote" CBadNote) : FnOk P w K mg base (CXE P w base) 2 f fd ["word"] (spNumX CBadNote) := by
  obtain ⟨b_len, b_range, b_list, b_sorted, b_isinstance, b_all, b_bool, b_int, b_tuple, b_enumerate, b_reversed⟩ := nb
  obtain ⟨b_max, b_min, b_abs, b_zip, b_sum, b_str, b_set⟩ := nb2
  have line := line1000
  have nd := sc_number16.nd
  refine F.okX sc_number16 (fun vs H Q E h => ?_) (fun cdv A outer s H vs Q E hr h => ?_)
  · obtain ⟨z, rfl, _⟩ := h
    rfl
  · obtain ⟨z, rfl, az, lz, q, e⟩ := h
    (try first | refine hZ _ _ ?_ | refine hZn _ _ ?_); refine ⟨_, (pss_cons (ps_if (pt_not (pt_val (pe_def D_is_number pass0 hr (by decide) rfl (pa_cons (pv 0) pa_nil)))) (pss_one (ps_raise XC_BadNote throws_def rfl rfl)) pss_nil)
      (pss_one (ps_ret (pe_callTy call_intText rfl b_int bb_int (pa_cons (pv 0) pa_nil))))), ?_⟩
    (try first | refine hZ _ _ ?_ | refine hZn _ _ ?_); (try refine seq_hide fun Z hZ => ?_); refine ⟨_, rfl, z, rfl, az, lz, fun H1 S1 => ⟨_, rfl, ?_⟩⟩
    cases hn : isNum z with
    | false => exact iteT (e hn H1 S1)
    | true =>
      refine iteF ?_
      have hr := isNum_reads hn
      (try first | refine hZ _ _ ?_ | refine hZn _ _ ?_); exact ⟨_, rfl, z, numV z, rfl, hr.1, by omega, q hn H1 S1⟩

end

end W16

set_option Elab.async false
set_option linter.all false
set_option maxRecDepth 100000
namespace W16
open PySem PySem.W PyProof.Rows L2 Ww
section
variable {P : Program} {w : World} {K : Frag} {mg : Str → Option Value} {base : Heap}
noncomputable abbrev s_numbers : Stmt := top 16
theorem sc_numbers : FnScope ["line", "word", "many", "words"] ["line", "word", "many"] (defScope s_numbers) := ⟨rfl, rfl, rfl, by decide +kernel, rfl, by decide +kernel, by decide +kernel⟩
-- line=0, word=1, many=2, words=3
inductive I_spNumsX (K : Frag) (CB : Addr) (vs : List V) (H : Hp) (Q : VK) (E : XK) : Prop
  | mk (z word : Str) (many : Nat) (h1 : vs = [.str z, .str word, .int (many : Int)]) (h2 : Asc z) (h3 : z.length ≤ 1000) (h4 : (∀ is, parseL word many z = some is → ∀ (l : Addr) (H' : Hp), Same H H' → H l = none → H' l = some (.lst (is.map V.int)) → Q (.ref l) H')) (h5 : (parseL word many z = none → ∀ H', Same H H' → E (.ref CB) none H'))
noncomputable def spNumsX (K : Frag) (CB : Addr) : Sp := fun vs H Q E => I_spNumsX K CB vs H Q E
instance iN125 {K : Frag} {CB : Addr} : CS (spNumsX K CB) := ⟨fun _ _ _ _ _ k hh => by obtain ⟨z, word, many, a1, a2, a3, q, e⟩ := hh; exact ⟨z, word, many, a1, a2, a3, fun is h l H' b1 b2 b3 => k _ _ (q is h l H' b1 b2 b3), e⟩⟩
theorem cut_tail {α : Type} {f : α → V} (x : V) (l : List α) : cutV (x :: l.map f) (some 1) none = l.map f := by
  unfold cutV
  rw [show (1 : Int) = ((1 : Nat) : Int) from rfl, HT.sIx_none, HT.sIx_nat, List.length_cons, Nat.min_eq_left (by omega)]
  show (l.map f).take _ = _
  exact List.take_of_length_le (by omega)
theorem first_bad {ws : List Str} (h : ws.all isNum = false) : ∃ k, k < ws.length ∧ isNum (ws.getD k Str.empty) = false ∧ ∀ i, i < k → isNum (ws.getD i Str.empty) = true := by
  induction ws with
  | nil => cases h
  | cons w ws ih =>
    cases hw : isNum w with
    | false => exact ⟨0, by simp, hw, fun i hi => absurd hi (Nat.not_lt_zero i)⟩
    | true =>
      rw [List.all_cons, hw, Bool.true_and] at h
      obtain ⟨k, k1, k2, k3⟩ := ih h
      refine ⟨k + 1, by simpa using k1, by simpa using k2, fun i hi => ?_⟩
      cases i with
      | zero => exact hw
      | succ i => simpa using k3 i (by omega)
set_option maxHeartbeats 0 in
theorem okx_numbers {f C CWheelError CNoDeed CTieTwice CIdle CBadNote : Addr} {fd : FuncData} (F : L2.Fun K "numbers" "numbers" s_numbers f fd) (nb : NB mg) (nb2 : NB2 mg) (T : WTxt K mg C) (DX_number : DefOk P w K mg base (CXE P w base) 2 "number" ["word"] (spNumX CBadNote)) (XC_BadNote : XCls K mg base "BadNote" CBadNote) : FnOk P w K mg base (CXE P w base) 3 f fd ["line", "word", "many"] (spNumsX K CBadNote) := by
  obtain ⟨b_len, b_range, b_list, b_sorted, b_isinstance, b_all, b_bool, b_int, b_tuple, b_enumerate, b_reversed⟩ := nb
  obtain ⟨b_max, b_min, b_abs, b_zip, b_sum, b_str, b_set⟩ := nb2
  have line := line1000
  have nd := sc_numbers.nd
  refine F.okX sc_numbers (fun vs H Q E h => ?_) (fun cdv A outer s H vs Q E hr h => ?_)
  · obtain ⟨z, word, many, rfl, _⟩ := h
    rfl
  · obtain ⟨z, word, many, rfl, az, lz, q, e⟩ := h
    have hu := hu_of hr
    (try first | refine hZ _ _ ?_ | refine hZn _ _ ?_); refine ⟨_, (pss_cons (ps_set (i := 3) nd rfl (Or.inl rfl) (pe_bmK (K := K) rfl PySem.F.plainAttrs_str PySem.F.slot_str_split PySem.F.type_str_split mt_split (pv 0) (pa_cons pe_str pa_nil)))
      (pss_cons (ps_if (PW.pt (pw_or (pt_cmpR op_ne (pe_ix (ix_listK (K := K) rfl) (pv 3) pe_int (fun _ _ => rfl)) (pv 1) (nomark _)) (pw_or1 (pt_cmpR op_ne (pe_callB (call_lenK (K := K) rfl) rfl b_len bb_len (pa_cons (pv 3) pa_nil)) (pe_op op_add (pv 2) pe_int) (nomark _))))) (pss_one (ps_raise XC_BadNote throws_def rfl rfl)) pss_nil)
      (pss_one (ps_ret (pe_compX passesM_def rfl rfl (CompScopeD.of (N' := ["one"]) (cap := [none]) (by rfl)) rfl (pi_listK (K := K) rfl (pe_slice (sl_listK (K := K) rfl) (pv 3) (po_some pe_int) po_none)) (by decide +kernel) (by intro cl C s₀ H₀ ex ndc; refine ⟨?_, ?_, ?_⟩; exact (pg_name' 0 ndc rfl rfl); exact pts_nil; exact (pe_def DX_number passes_comp hr (by decide) rfl (pa_cons (pv 0) pa_nil)))))))), ?_⟩
    -- line=0, word=1, many=2, words=3
    (try first | refine hZ _ _ ?_ | refine hZn _ _ ?_); (try refine seq_hide fun Z hZ => ?_); refine ⟨_, rfl, rfl, _, (" " : Str), rfl, rfl, by decide +kernel, by omega, fun lw hlw => ?_⟩
    rw [sp_eq]
    have wpos := split_pos z ⟨#[32]⟩
    have wle := split_le z ⟨#[32]⟩
    have wasc : ∀ p ∈ Txt.split z ⟨#[32]⟩, Asc p := fun p hp => az.part hp
    have wlen : ∀ p ∈ Txt.split z ⟨#[32]⟩, p.length ≤ 1000 := fun p hp => Nat.le_trans (part_short hp) lz
    unfold parseL at q e
    obtain ⟨w, ws, ew⟩ : ∃ w ws, Txt.split z ⟨#[32]⟩ = w :: ws := by
      cases g : Txt.split z ⟨#[32]⟩ with
      | nil => rw [g] at wpos; cases wpos
      | cons w ws => exact ⟨w, ws, rfl⟩
    rw [ew] at q e wle wasc wlen ⊢
    dsimp only at q e
    rw [List.length_cons] at wle
    have S1 : Same H (upd H lw (.lst ((w :: ws).map V.str))) := Same.new hlw
    have e1 : (upd H lw (.lst ((w :: ws).map V.str))) lw = some (.lst ((w :: ws).map V.str)) := upd_same
    generalize upd H lw (.lst ((w :: ws).map V.str)) = H1 at S1 e1 ⊢
    (try first | refine hZ _ _ ?_ | refine hZn _ _ ?_); try dsimp only [tNext, gName]
    (try first | refine hZ _ _ ?_ | refine hZn _ _ ?_); (try refine seq_hide fun Z hZ => ?_); refine ⟨_, rfl, lw, _, _, _, rfl, rfl, SqL.of e1, atI_nat (j := 0) rfl, _, rfl, rfl, _, rfl, ?_⟩
    by_cases hw : w = word
    rotate_left
    · rw [decide_eq_false (fun y => hw (by injection y))]
      refine iteT (iteT ?_)
      exact e (if_neg fun y => hw y.1) H1 S1
    rw [decide_eq_true (by rw [hw])]
    refine iteF ?_; (try first | refine hZ _ _ ?_ | refine hZn _ _ ?_); refine ⟨_, rfl, lw, _, rfl, .inl (SqL.of e1), _, rfl, _, _, rfl, rfl, rfl, _, rfl, ?_⟩
    by_cases hm : ws.length = many
    rotate_left
    · rw [decide_eq_false (fun y => hm (by injection y with y; rw [List.length_map, List.length_cons] at y; omega))]
      refine iteT ?_
      exact e (if_neg fun y => hm y.2.1) H1 S1
    rw [decide_eq_true (show V.int (((w :: ws).map V.str).length : Int) = V.int ((many : Int) + 1) by rw [List.length_map, List.length_cons, hm]; rfl)]
    refine iteF ?_
    (try first | refine hZ _ _ ?_ | refine hZn _ _ ?_); try dsimp only [tNext, gName]
    (try first | refine hZ _ _ ?_ | refine hZn _ _ ?_); refine st_ret ?_
    cases hall : ws.all isNum with
    | true =>
      refine cv_list ⟨_, rfl, _, rfl, lw, _, rfl, SqL.of e1, fun lc hlc => ?_⟩
      rw [List.map_cons, cut_tail]
      have S2 : Same H1 (upd H1 lc (.lst (ws.map V.str))) := Same.new hlc
      have e2 : (upd H1 lc (.lst (ws.map V.str))) lc = some (.lst (ws.map V.str)) := upd_same
      generalize upd H1 lc (.lst (ws.map V.str)) = H2 at S2 e2 ⊢
      (try first | refine hZ _ _ ?_ | refine hZn _ _ ?_); (try refine seq_hide fun Z hZ => ?_); refine ⟨lc, _, rfl, SqL.of e2, by rw [List.length_map]; omega, fun σ => ∃ u, σ = [u], fun _ => true, fun i => .int (numV (ws.getD i Str.empty)), ⟨_, rfl⟩, ?_, fun l H3 S3 nl hl => ?_⟩
      · rintro i y σ H' hi ⟨u, rfl⟩ S' hy
        rw [List.length_map] at hi
        have ey : y = .str (ws.getD i Str.empty) := by simpa [hi] using hy.symm
        subst ey
        have hmem : ws.getD i Str.empty ∈ ws := by simp [hi]
        have hn := List.all_eq_true.mp hall _ hmem
        (try first | refine hZ _ _ ?_ | refine hZn _ _ ?_); (try refine seq_hide fun Z hZ => ?_); refine ⟨rfl, Same.refl _, ⟨_, rfl⟩, fun _ => ?_⟩
        (try first | refine hZ _ _ ?_ | refine hZn _ _ ?_); exact ⟨_, rfl, _, rfl, wasc _ (List.mem_cons_of_mem _ hmem), wlen _ (List.mem_cons_of_mem _ hmem), fun _ H4 S4 => ⟨rfl, S4⟩, fun y => by rw [hn] at y; cases y⟩
      refine q _ (if_pos ⟨hw, hm, hall⟩) l H3 ((S1.trans S2).trans S3) ((S1.trans S2).free nl) ?_
      rw [hl, range_true, List.length_map]
      congr 2
      refine List.ext_getElem (by simp) fun i h1 h2 => ?_
      simp at h1
      simp [h1]
    | false =>
      obtain ⟨k, k1, k2, k3⟩ := first_bad hall
      refine cx_list ⟨_, rfl, _, rfl, lw, _, rfl, SqL.of e1, fun lc hlc => ?_⟩
      rw [List.map_cons, cut_tail]
      have S2 : Same H1 (upd H1 lc (.lst (ws.map V.str))) := Same.new hlc
      have e2 : (upd H1 lc (.lst (ws.map V.str))) lc = some (.lst (ws.map V.str)) := upd_same
      generalize upd H1 lc (.lst (ws.map V.str)) = H2 at S2 e2 ⊢
      (try first | refine hZ _ _ ?_ | refine hZn _ _ ?_); (try refine seq_hide fun Z hZ => ?_); refine ⟨lc, _, rfl, SqL.of e2, by rw [List.length_map]; omega, k, by rw [List.length_map]; exact k1, fun σ => ∃ u, σ = [u], ⟨_, rfl⟩, ?_, ?_⟩
      · rintro i y σ H' hi ⟨u, rfl⟩ S' hy
        have hi' : i < ws.length := by omega
        have ey : y = .str (ws.getD i Str.empty) := by simpa [hi'] using hy.symm
        subst ey
        have hmem : ws.getD i Str.empty ∈ ws := by simp [hi']
        (try first | refine hZ _ _ ?_ | refine hZn _ _ ?_); exact ⟨_, rfl, _, rfl, wasc _ (List.mem_cons_of_mem _ hmem), wlen _ (List.mem_cons_of_mem _ hmem), fun _ H4 S4 => ⟨⟨_, rfl⟩, S4⟩, fun y => by rw [k3 i hi] at y; cases y⟩
      · rintro y σ H' ⟨u, rfl⟩ S' hy Q'
        have ey : y = .str (ws.getD k Str.empty) := by simpa [k1] using hy.symm
        subst ey
        have hmem : ws.getD k Str.empty ∈ ws := by simp [k1]
        (try first | refine hZ _ _ ?_ | refine hZn _ _ ?_); exact ⟨_, rfl, _, rfl, wasc _ (List.mem_cons_of_mem _ hmem), wlen _ (List.mem_cons_of_mem _ hmem), (fun y => by rw [k2] at y; cases y), fun _ H4 S4 => e (if_neg fun y => by rw [hall] at y; cases y.2.2) H4 (((S1.trans S2).trans S').trans S4)⟩

end

end W16

set_option Elab.async false
set_option linter.all false
set_option maxRecDepth 100000
namespace W16
open PySem PySem.W PyProof.Rows L2 Ww
section
variable {P : Program} {w : World} {K : Frag} {mg : Str → Option Value} {base : Heap}
noncomputable abbrev s_lines_of : Stmt := top 17
theorem sc_lines_of : FnScope ["text", "lines"] ["text"] (defScope s_lines_of) := ⟨rfl, rfl, rfl, by decide +kernel, rfl, by decide +kernel, by decide +kernel⟩
-- text=0, lines=1
inductive I_spLinesX (CB : Addr) (vs : List V) (H : Hp) (Q : VK) (E : XK) : Prop
  | mk (z : Str) (ls : List Str) (last : Str) (h1 : vs = [.str z]) (h2 : Txt.split z ⟨#[10]⟩ = ls ++ [last]) (h3 : z.length ≤ 90000) (h4 : ls.length < 1000) (h5 : (last = Str.empty → ls ≠ [] → ∀ (l : Addr) (H' : Hp), Same H H' → H l = none → H' l = some (.lst (ls.map V.str)) → Q (.ref l) H')) (h6 : ((last ≠ Str.empty ∨ ls = []) → ∀ H', Same H H' → E (.ref CB) none H'))
noncomputable def spLinesX (CB : Addr) : Sp := fun vs H Q E => I_spLinesX CB vs H Q E
instance iN126 {CB : Addr} : CS (spLinesX CB) := ⟨fun _ _ _ _ _ k hh => by obtain ⟨z, ls, last, a1, a2, a3, a4, q, e⟩ := hh; exact ⟨z, ls, last, a1, a2, a3, a4, fun h1 h2 l H' b1 b2 b3 => k _ _ (q h1 h2 l H' b1 b2 b3), e⟩⟩
set_option maxHeartbeats 0 in
theorem okx_lines_of {f C CWheelError CNoDeed CTieTwice CIdle CBadNote : Addr} {fd : FuncData} (F : L2.Fun K "lines_of" "lines_of" s_lines_of f fd) (nb : NB mg) (nb2 : NB2 mg) (T : WTxt K mg C) (XC_BadNote : XCls K mg base "BadNote" CBadNote) : FnOk P w K mg base (CXE P w base) 1 f fd ["text"] (spLinesX CBadNote) := by
  obtain ⟨b_len, b_range, b_list, b_sorted, b_isinstance, b_all, b_bool, b_int, b_tuple, b_enumerate, b_reversed⟩ := nb
  obtain ⟨b_max, b_min, b_abs, b_zip, b_sum, b_str, b_set⟩ := nb2
  have line := line1000
  have nd := sc_lines_of.nd
  refine F.okX sc_lines_of (fun vs H Q E h => ?_) (fun cdv A outer s H vs Q E hr h => ?_)
  · obtain ⟨z, ls, last, rfl, _⟩ := h
    rfl
  · obtain ⟨z, ls, last, rfl, hs, hz, hl1000, q, e⟩ := h
    have hu := hu_of hr
    (try first | refine hZ _ _ ?_ | refine hZn _ _ ?_); refine ⟨_, (pss_cons (ps_set (i := 1) nd rfl (Or.inl rfl) (pe_bmK (K := K) rfl PySem.F.plainAttrs_str PySem.F.slot_str_split PySem.F.type_str_split mt_split (pv 0) (pa_cons pe_str pa_nil)))
      (pss_cons (ps_if (pt_cmpR op_ne (pe_bm0 PySem.F.plainAttrs_list PySem.F.slot_list_pop PySem.F.type_list_pop mt_pop (pv 1)) pe_str (nomark _)) (pss_one (ps_raise XC_BadNote throws_def rfl rfl)) pss_nil)
      (pss_cons (ps_if (pt_cmpR (op_eq_empty (K := K) rfl hu) (pv 1) (pe_lst pa_nil) (nomark _)) (pss_one (ps_raise XC_BadNote throws_def rfl rfl)) pss_nil)
      (pss_one (ps_ret (pv 1)))))), ?_⟩
    (try first | refine hZ _ _ ?_ | refine hZn _ _ ?_); (try refine seq_hide fun Z hZ => ?_); refine ⟨_, rfl, rfl, _, ("\n" : Str), rfl, rfl, by decide +kernel, by omega, fun l hl => ?_⟩
    rw [nl_eq, hs, List.map_append, List.map_singleton]
    have e1 : (upd H l (.lst (ls.map V.str ++ [V.str last]))) l = some (.lst (ls.map V.str ++ [V.str last])) := upd_same
    have S1 : Same H (upd H l (.lst (ls.map V.str ++ [V.str last]))) := Same.new hl
    generalize upd H l (.lst (ls.map V.str ++ [V.str last])) = H1 at S1 e1 ⊢
    (try first | refine hZ _ _ ?_ | refine hZn _ _ ?_); try dsimp only [tNext, gName]
    (try first | refine hZ _ _ ?_ | refine hZn _ _ ?_); (try refine seq_hide fun Z hZ => ?_); refine ⟨_, rfl, .inl ⟨rfl, _, SqL.of e1⟩, l, _, V.str last, rfl, rfl, e1, by simp, rfl, _, rfl, ?_⟩
    rw [List.dropLast_concat]
    have S2 : Same H (upd H1 l (.lst (ls.map V.str))) := S1.wr hl
    have e2 : (upd H1 l (.lst (ls.map V.str))) l = some (.lst (ls.map V.str)) := upd_same
    generalize upd H1 l (.lst (ls.map V.str)) = H2 at S2 e2 ⊢
    by_cases hl0 : last = Str.empty
    rotate_left
    · rw [decide_eq_false (fun y => hl0 (by injection y))]
      refine iteT ?_
      exact e (.inl hl0) H2 S2
    rw [decide_eq_true (show V.str last = V.str ("" : Str) by rw [no_eq, hl0])]
    refine iteF ?_
    (try first | refine hZ _ _ ?_ | refine hZn _ _ ?_); try dsimp only [tNext, gName]
    (try first | refine hZ _ _ ?_ | refine hZn _ _ ?_); (try refine seq_hide fun Z hZ => ?_); refine ⟨_, rfl, Nat.zero_le _, fun le hle => ⟨l, le, _, rfl, rfl, SqL.of (Same.new hle _ _ e2), SqL.of upd_same, flat_strs _, _, rfl, ?_⟩⟩
    by_cases hn : ls = []
    · rw [decide_eq_true (by rw [hn]; try rfl)]
      refine iteT ?_
      exact e (.inr hn) _ (S2.trans (Same.new hle))
    · rw [decide_eq_false (by rw [List.length_map]; intro y; exact hn (List.length_eq_zero_iff.mp y))]
      refine iteF ?_
      (try first | refine hZ _ _ ?_ | refine hZn _ _ ?_); exact ⟨_, rfl, q hl0 hn l _ (S2.trans (Same.new hle)) hl (Same.new hle _ _ e2)⟩

end

end W16

set_option Elab.async false
set_option linter.all false
set_option maxRecDepth 100000
namespace W16
open PySem PySem.W PyProof.Rows L2 Ww
section
variable {P : Program} {w : World} {K : Frag} {mg : Str → Option Value} {base : Heap}
noncomputable abbrev s_read : Stmt := top 18
theorem sc_read : FnScope ["text", "lines", "size", "ties", "fault"] ["text"] (defScope s_read) := ⟨rfl, rfl, rfl, by decide +kernel, rfl, by decide +kernel, by decide +kernel⟩
-- text=0, lines=1, size=2, ties=3, fault=4
noncomputable def BadText (z : Str) : Prop := ∃ (ls : List Str) (last : Str), Txt.split z ⟨#[10]⟩ = ls ++ [last] ∧ ls.length < 100 ∧ (∀ p ∈ ls, p.length ≤ 1000) ∧ (last ≠ Str.empty ∨ ls = [] ∨ (last = Str.empty ∧ ∃ l0 rest, ls = l0 :: rest ∧ (parseL ("deeds" : Str) 1 l0 = none ∨ ∃ s, parseL ("deeds" : Str) 1 l0 = some [s] ∧
  ((∃ l ∈ rest, parseL ("tie" : Str) 3 l = none) ∨ ∃ (its : List ITie) (kd : Nat), rest.map (parseL ("tie" : Str) 3) = its.map (fun t => some (itri t)) ∧ its.length < 64 ∧ kd < 3 ∧ BadKind s its kd))))
inductive I_spReadX (K : Frag) (C CB : Addr) (vs : List V) (H : Hp) (E : XK) : Prop
  | mk (z : Str) (h1 : vs = [.str z]) (h2 : Asc z) (h3 : z.length ≤ 90000) (h4 : BadText z) (h5 : ∀ c H', Same H H' → E (.ref CB) c H')
noncomputable def spReadX (K : Frag) (C CB : Addr) : Sp := fun vs H _ E => I_spReadX K C CB vs H E
instance iN127 {K : Frag} {C CB : Addr} : CS (spReadX K C CB) := ⟨fun _ _ _ _ _ k hh => by obtain ⟨z, a1, a2, a3, a4, e⟩ := hh; exact ⟨z, a1, a2, a3, a4, e⟩⟩
theorem first_none {ws : List Str} {f : Str → Option (List Int)} (h : ∃ l ∈ ws, f l = none) : ∃ k, k < ws.length ∧ f (ws.getD k Str.empty) = none ∧ ∀ i, i < k → ∃ v, f (ws.getD i Str.empty) = some v := by
  induction ws with
  | nil => obtain ⟨l, hl, _⟩ := h; cases hl
  | cons w ws ih =>
    cases hw : f w with
    | none => exact ⟨0, by simp, hw, fun i hi => absurd hi (Nat.not_lt_zero i)⟩
    | some v =>
      have h' : ∃ l ∈ ws, f l = none := by
        obtain ⟨l, hl, e⟩ := h
        rcases List.mem_cons.mp hl with rfl | hl
        · rw [hw] at e; cases e
        · exact ⟨l, hl, e⟩
      obtain ⟨k, k1, k2, k3⟩ := ih h'
      refine ⟨k + 1, by simpa using k1, by simpa using k2, fun i hi => ?_⟩
      cases i with
      | zero => exact ⟨v, hw⟩
      | succ i => simpa using k3 i (by omega)
set_option maxHeartbeats 0 in
theorem okx_read {f C CWheelError CNoDeed CTieTwice CIdle CBadNote : Addr} {fd : FuncData} (F : L2.Fun K "read" "read" s_read f fd) (nb : NB mg) (nb2 : NB2 mg) (T : WTxt K mg C) (DX_lines_of : DefOk P w K mg base (CXE P w base) 1 "lines_of" ["text"] (spLinesX CBadNote)) (DX_numbers : DefOk P w K mg base (CXE P w base) 3 "numbers" ["line", "word", "many"] (spNumsX K CBadNote)) (CX_Wheel : ClassOk P w K mg base (CXE P w base) 3 C "Wheel" ["self", "size", "ties"] (spInitX K C CNoDeed CTieTwice CIdle)) (XC_WheelError : XCls K mg base "WheelError" CWheelError) (XC_BadNote : XCls K mg base "BadNote" CBadNote) (XR_NoDeed : ExRel K CWheelError CNoDeed [CBadNote, CNoDeed, CTieTwice, CIdle] [false, true, false, false]) (XR_TieTwice : ExRel K CWheelError CTieTwice [CBadNote, CNoDeed, CTieTwice, CIdle] [false, false, true, false]) (XR_Idle : ExRel K CWheelError CIdle [CBadNote, CNoDeed, CTieTwice, CIdle] [false, false, false, true]) (XR_BadNote : ExRel K CWheelError CBadNote [CBadNote, CNoDeed, CTieTwice, CIdle] [true, false, false, false]) : FnOk P w K mg base (CXE P w base) 5 f fd ["text"] (spReadX K C CBadNote) := by
  obtain ⟨b_len, b_range, b_list, b_sorted, b_isinstance, b_all, b_bool, b_int, b_tuple, b_enumerate, b_reversed⟩ := nb
  obtain ⟨b_max, b_min, b_abs, b_zip, b_sum, b_str, b_set⟩ := nb2
  have line := line1000
  have nd := sc_read.nd
  refine F.okX sc_read (fun vs H Q E h => ?_) (fun cdv A outer s H vs Q E hr h => ?_)
  · obtain ⟨z, rfl, _⟩ := h
    rfl
  · obtain ⟨z, rfl, az, lz, bad, e⟩ := h
    have hu := hu_of hr
    let EX : XK := fun cls c H' => c = none ∧ Same H H' ∧ ∃ kd, kd < 3 ∧ cls = .ref (exC CNoDeed CTieTwice CIdle kd)
    obtain ⟨ls, last, es, ln, pl, hc⟩ := bad
    have pasc : ∀ p ∈ ls, Asc p := fun p hp => az.part (sep := ⟨#[10]⟩) (by rw [es]; exact List.mem_append_left _ hp)
    (try first | refine hZ _ _ ?_ | refine hZn _ _ ?_); refine ⟨_, (pss_cons (ps_set (i := 1) nd rfl (Or.inl rfl) (pe_def DX_lines_of passes_def hr (by decide) rfl (pa_cons (pv 0) pa_nil)))
      (pss_cons (ps_set (i := 2) nd rfl (Or.inl rfl) (pe_ix (ix_listK (K := K) rfl) (pe_def DX_numbers passes_def hr (by decide) rfl (pa_cons (pe_ix (ix_listK (K := K) rfl) (pv 1) pe_int (fun _ _ => rfl)) (pa_cons pe_str (pa_cons pe_int pa_nil)))) pe_int (fun _ _ => rfl)))
      (pss_cons (ps_setCompX (i := 3) passesM_def rfl rfl (CompScopeD.of (N' := ["line"]) (cap := [none]) (by rfl)) rfl nd rfl rfl (pi_listK (K := K) rfl (pe_slice (sl_listK (K := K) rfl) (pv 1) (po_some pe_int) po_none)) (by decide +kernel) (by intro cl C s₀ H₀ ex ndc; refine ⟨?_, ?_, ?_⟩; exact (pg_name' 0 ndc rfl rfl); exact pts_nil; exact (pe_callTy (call_tuple_ofK (K := K) rfl) rfl b_tuple bb_tuple (pa_cons (pe_def DX_numbers passes_comp hr (by decide) rfl (pa_cons (pv 0) (pa_cons pe_str (pa_cons pe_int pa_nil)))) pa_nil))))
      (pss_one (ps_tryFrom (EX := EX) (i := 4) (psx_ret (px_new (E := EX) CX_Wheel hr (by decide) rfl (pa_cons (pv 2) (pa_cons (pv 3) pa_nil)) rfl)) XC_WheelError.own.bound rfl rfl rfl passesM_def nd rfl rfl XC_BadNote rfl XR_BadNote.exc.bex))))), ?_⟩
    -- text=0, lines=1, size=2, ties=3, fault=4
    rcases (show (last ≠ Str.empty ∨ ls = []) ∨ _ from by
      rcases hc with h | h | h
      · exact .inl (.inl h)
      · exact .inl (.inr h)
      · exact .inr h) with h0 | ⟨l0e, l0, rest, rfl, hq⟩
    · (try first | refine hZ _ _ ?_ | refine hZn _ _ ?_); exact ⟨_, rfl, z, ls, last, rfl, es, lz, by omega, fun y1 y2 => Or.elim h0 (fun y => absurd y1 y) (fun y => absurd y y2), fun _ H1 S1 => e _ H1 S1⟩
    (try first | refine hZ _ _ ?_ | refine hZn _ _ ?_); (try refine seq_hide fun Z hZ => ?_); refine ⟨_, rfl, z, l0 :: rest, last, rfl, es, lz, by omega, fun _ _ l H1 S1 nl hl => ?_, fun y => Or.elim y (fun y => absurd l0e y) (fun y => nomatch y)⟩
    have l0m := pl l0 List.mem_cons_self
    have l0a := pasc l0 List.mem_cons_self
    -- size
    (try first | refine hZ _ _ ?_ | refine hZn _ _ ?_); try dsimp only [tNext, gName]
    (try first | refine hZ _ _ ?_ | refine hZn _ _ ?_); (try refine seq_hide fun Z hZ => ?_); refine ⟨_, rfl, l, _, _, _, rfl, rfl, SqL.of hl, atI_nat (j := 0) rfl, l0, ("deeds" : Str), 1, rfl, l0a, l0m, fun is his l2 H2 S2 nl2 hl2 => ?_, fun hn H2 S2 => e _ H2 (S1.trans S2)⟩
    clear hc
    rcases hq with hc | ⟨s0, hs0, hc⟩
    · rw [hc] at his; cases his
    obtain rfl : is = [s0] := by rw [hs0] at his; injection his with his; exact his.symm
    (try first | refine hZ _ _ ?_ | refine hZn _ _ ?_); (try refine seq_hide fun Z hZ => ?_); refine ⟨l2, _, _, _, rfl, rfl, SqL.of hl2, atI_nat (j := 0) rfl, ?_⟩
    have rl : rest.length < 100 := by rw [List.length_cons] at ln; omega
    have rmem : ∀ i, i < rest.length → rest.getD i Str.empty ∈ rest := fun i hi => by simp [hi]
    -- ties
    (try first | refine hZ _ _ ?_ | refine hZn _ _ ?_); try dsimp only [tNext, gName]
    (try first | refine hZ _ _ ?_ | refine hZn _ _ ?_); first | (refine seq_hide fun Z hZ => ?_; refine st_asg1 ?_) | refine st_asg ?_
    rcases hc with hc | ⟨its, kd, hits, il, k3, bk⟩
    · obtain ⟨k, k1, k2, k3⟩ := first_none hc
      refine cx_list ⟨_, rfl, _, rfl, l, _, rfl, SqL.of (S2 _ _ hl), fun lc hlc => ?_⟩
      rw [List.map_cons, cut_tail]
      have S3 : Same H2 (upd H2 lc (.lst (rest.map V.str))) := Same.new hlc
      have e3 : (upd H2 lc (.lst (rest.map V.str))) lc = some (.lst (rest.map V.str)) := upd_same
      generalize upd H2 lc (.lst (rest.map V.str)) = H3 at S3 e3 ⊢
      (try first | refine hZ _ _ ?_ | refine hZn _ _ ?_); (try refine seq_hide fun Z hZ => ?_); refine ⟨lc, _, rfl, SqL.of e3, by rw [List.length_map]; omega, k, by rw [List.length_map]; exact k1, fun σ => ∃ u, σ = [u], ⟨_, rfl⟩, ?_, ?_⟩
      · rintro i y σ H' hi ⟨u, rfl⟩ S' hy
        have hi' : i < rest.length := by omega
        have ey : y = .str (rest.getD i Str.empty) := by simpa [hi'] using hy.symm
        subst ey
        have hm := List.mem_cons_of_mem l0 (rmem i hi')
        obtain ⟨v, hv⟩ := k3 i hi
        (try first | refine hZ _ _ ?_ | refine hZn _ _ ?_); exact ⟨_, rfl, _, ("tie" : Str), 3, rfl, pasc _ hm, pl _ hm, fun is his l3 H5 S5 nl3 hl3 => ⟨l3, _, rfl, .inl ⟨SqL.of hl3, fun pt hpt => ⟨⟨_, rfl⟩, S5.trans (Same.new hpt)⟩⟩⟩, fun hn => by rw [hv] at hn; cases hn⟩
      · rintro y σ H' ⟨u, rfl⟩ S' hy Q'
        have ey : y = .str (rest.getD k Str.empty) := by simpa [k1] using hy.symm
        subst ey
        have hm := List.mem_cons_of_mem l0 (rmem k k1)
        (try first | refine hZ _ _ ?_ | refine hZn _ _ ?_); exact ⟨_, rfl, _, ("tie" : Str), 3, rfl, pasc _ hm, pl _ hm, (fun is his => by rw [k2] at his; cases his), fun _ H5 S5 => e _ H5 ((((S1.trans S2).trans S3).trans S').trans S5)⟩
    have lr : rest.length = its.length := by have := congrArg List.length hits; simpa using this
    have hget : ∀ i, i < rest.length → parseL ("tie" : Str) 3 (rest.getD i Str.empty) = some (itri (its.getD i (0, 0, 0))) := fun i hi => by
      have h1 : (rest.map (parseL ("tie" : Str) 3))[i]? = (its.map fun t => some (itri t))[i]? := by rw [hits]
      rw [List.getElem?_map, List.getElem?_map, List.getElem?_eq_getElem hi, List.getElem?_eq_getElem (show i < its.length by omega)] at h1
      simp only [Option.map_some] at h1
      injection h1 with h1
      rw [show rest.getD i Str.empty = rest[i] by simp [hi], show its.getD i (0, 0, 0) = its[i]'(by omega) by simp [show i < its.length by omega]]
      exact h1
    refine ct_list ⟨_, rfl, _, rfl, l, _, rfl, SqL.of (S2 _ _ hl), fun lc hlc => ?_⟩
    rw [List.map_cons, cut_tail]
    have S3 : Same H2 (upd H2 lc (.lst (rest.map V.str))) := Same.new hlc
    have e3 : (upd H2 lc (.lst (rest.map V.str))) lc = some (.lst (rest.map V.str)) := upd_same
    generalize upd H2 lc (.lst (rest.map V.str)) = H3 at S3 e3 ⊢
    (try first | refine hZ _ _ ?_ | refine hZn _ _ ?_); (try refine seq_hide fun Z hZ => ?_); refine ⟨lc, _, rfl, SqL.of e3, by rw [List.length_map]; omega, fun σ => ∃ u, σ = [u], fun _ => true, fun i => itri (its.getD i (0, 0, 0)), ⟨_, rfl⟩, ?_, fun lt ps H4 S4 nlt hlt tp => ?_⟩
    · rintro i y σ H' hi ⟨u, rfl⟩ S' hy
      rw [List.length_map] at hi
      have ey : y = .str (rest.getD i Str.empty) := by simpa [hi] using hy.symm
      subst ey
      have hm := List.mem_cons_of_mem l0 (rmem i hi)
      (try first | refine hZ _ _ ?_ | refine hZn _ _ ?_); (try refine seq_hide fun Z hZ => ?_); refine ⟨rfl, Same.refl _, ⟨_, rfl⟩, fun _ => ?_⟩
      (try first | refine hZ _ _ ?_ | refine hZn _ _ ?_); (try refine seq_hide fun Z hZ => ?_); refine ⟨_, rfl, _, ("tie" : Str), 3, rfl, pasc _ hm, pl _ hm, fun is his l3 H5 S5 nl3 hl3 => ?_, fun hn => by rw [hget i hi] at hn; cases hn⟩
      obtain rfl : is = itri (its.getD i (0, 0, 0)) := by rw [hget i hi] at his; injection his with his; exact his.symm
      (try first | refine hZ _ _ ?_ | refine hZn _ _ ?_); exact ⟨l3, _, rfl, .inl ⟨SqL.of hl3, fun pt hpt => ⟨S5.trans (Same.new hpt), pt, rfl, upd_same⟩⟩⟩
    rw [range_true, List.length_map] at tp
    have tp4 : TupsAt H4 ps (its.map itri) := by
      have e : (List.range rest.length).map (fun i => itri (its.getD i (0, 0, 0))) = its.map itri := by
        rw [lr]
        refine List.ext_getElem (by simp) fun i h1 h2 => ?_
        simp at h1
        simp [h1]
      rw [← e]; exact tp
    have S04 := (S1.trans S2).trans (S3.trans S4)
    -- Wheel
    (try first | refine hZ _ _ ?_ | refine hZn _ _ ?_); try dsimp only [tNext, gName]
    refine And.intro ?_ ?_
    · (try first | refine hZ _ _ ?_ | refine hZn _ _ ?_); (try refine seq_hide fun Z hZ => ?_); refine ⟨_, rfl, _, rfl, fun x dx nx ndx nex => ?_⟩
      have S5 : Same H4 (upd (upd H4 dx (.own x)) x (.ins C dx [])) := fun b o q => by rw [upd_ne (ne_of_none q nx), upd_ne (ne_of_none q ndx)]; exact q
      (try first | refine hZ _ _ ?_ | refine hZn _ _ ?_); (try refine seq_hide fun Z hZ => ?_); refine ⟨x, dx, s0, lt, ps, its, kd, rfl, upd_same, S5 _ _ hlt, tp4.same S5, il, bk, fun H' X' => ⟨rfl, fun b o q => X' b o (ne_of_none (S04 b o q) nx) (S5 _ _ (S04 b o q)), kd, k3, rfl⟩⟩
    · rintro cls c H5 ⟨rfl, S5, kd, k3, rfl⟩
      obtain ⟨C1, bs, e1, R⟩ : ∃ (C1 : Addr) (bs : List Bool), exC CNoDeed CTieTwice CIdle kd = C1 ∧ ExRel K CWheelError C1 [CBadNote, CNoDeed, CTieTwice, CIdle] bs := by
        rcases (show kd = 0 ∨ kd = 1 ∨ kd = 2 by omega) with rfl | rfl | rfl
        · (try first | refine hZ _ _ ?_ | refine hZn _ _ ?_); exact ⟨_, _, rfl, XR_NoDeed⟩
        · (try first | refine hZ _ _ ?_ | refine hZn _ _ ?_); exact ⟨_, _, rfl, XR_TieTwice⟩
        · (try first | refine hZ _ _ ?_ | refine hZn _ _ ?_); exact ⟨_, _, rfl, XR_Idle⟩
      (try first | refine hZ _ _ ?_ | refine hZn _ _ ?_); exact ⟨C1, by rw [e1], rfl, R.sub, R.exc.bex, fun a ha => e _ _ (S5.trans (Same.new ha))⟩

end

end W16

set_option Elab.async false
set_option linter.all false
set_option maxRecDepth 100000
namespace W16
open PySem PySem.W PyProof.Rows L2 Ww
section
variable {P : Program} {w : World} {K : Frag} {mg : Str → Option Value} {base : Heap}
noncomputable abbrev s_cell_at : Stmt := top 20
noncomputable abbrev s_number : Stmt := top 21
noncomputable abbrev s_ties_by : Stmt := top 22
section
variable {P : Program} {w : World} {K : Frag} {mg : Str → Option Value} {base : Heap}
/-! ### the law's own helpers -/
theorem sc_cell_at : FnScope ["script", "k"] ["script", "k"] (defScope s_cell_at) := ⟨rfl, rfl, rfl, by decide +kernel, rfl, by decide +kernel, by decide +kernel⟩
inductive I_spCellAt (K : Frag) (vs : List V) (H : Hp) (Q : VK) : Prop
  | mk (a : Addr) (ns : List Int) (k : Nat) (h1 : vs = [.ref a, .int k]) (h2 : SqL K H a (ns.map V.int)) (h3 : Q (.int (ns.getD k 0)) H)
noncomputable def spCellAt (K : Frag) : Sp := fun vs H Q _ => I_spCellAt K vs H Q
theorem monS_cell_at {K : Frag} : MonS (spCellAt K) := fun _ _ _ _ _ k ⟨a, b, c, d, e, f⟩ => ⟨a, b, c, d, e, k _ _ f⟩
theorem ok_cell_at {f : Addr} {fd : FuncData} (F : L2.Fun K "_law_cell_at" "_law_cell_at" s_cell_at f fd) (nb : NB mg) : FnOk P w K mg base CX0 1 f fd ["script", "k"] (spCellAt K) := by
  obtain ⟨b_len, b_range, b_list, b_sorted, b_isinstance, b_all, b_bool, b_int, b_tuple, b_enumerate, b_reversed⟩ := nb
  refine F.ok sc_cell_at (fun vs H Q E h => ?_) (fun cdv A outer s H vs Q E hr h => ?_)
  · obtain ⟨a, ns, k, rfl, _⟩ := h
    rfl
  · obtain ⟨a, ns, k, rfl, ha, q⟩ := h
    (try first | refine hZ _ _ ?_ | refine hZn _ _ ?_); refine ⟨_, (pss_cons (ps_if (pt_cmpR op_lt (pv 1) (pe_callB (call_lenK (K := K) rfl) rfl b_len bb_len (pa_cons (pv 0) pa_nil)) (nomark _)) (pss_one (ps_ret (pe_ix (ix_listK (K := K) rfl) (pv 0) (pv 1) (fun _ _ => rfl)))) pss_nil)
      (pss_one (ps_ret pe_int))), ?_⟩
    (try first | refine hZ _ _ ?_ | refine hZn _ _ ?_); (try refine seq_hide fun Z hZ => ?_); refine ⟨_, rfl, _, rfl, a, _, rfl, .inl ha, _, _, rfl, rfl, _, rfl, ?_⟩
    rw [List.length_map]
    refine ite2 (fun hc => ?_) (fun hc => ?_)
    · have hk : k < ns.length := by have := of_decide_eq_true hc; omega
      (try first | refine hZ _ _ ?_ | refine hZn _ _ ?_); (try refine seq_hide fun Z hZ => ?_); refine ⟨_, rfl, _, rfl, a, _, _, _, rfl, rfl, ha, atI_nat (v := V.int (ns.getD k 0)) (by simp [hk]), q⟩
    · have hk : ¬ k < ns.length := fun z => hc (decide_eq_true (by omega))
      have e : ns.getD k 0 = 0 := by simp [List.getD_eq_getElem?_getD, Nat.le_of_not_lt hk]
      rw [e] at q
      (try first | refine hZ _ _ ?_ | refine hZn _ _ ?_); exact q
theorem sc_number : FnScope ["cell", "wide"] ["cell", "wide"] (defScope s_number) := ⟨rfl, rfl, rfl, by decide +kernel, rfl, by decide +kernel, by decide +kernel⟩
inductive I_spNumber  (vs : List V) (H : Hp) (Q : VK) : Prop
  | mk (c wd : Int) (h1 : vs = [.int c, .int wd]) (h2 : ∀ z : Int, -(10 ^ 30) < z → z < 10 ^ 30 → Q (.int z) H)
noncomputable def spNumber : Sp := fun vs H Q _ => I_spNumber  vs H Q
theorem monS_number : MonS spNumber := fun _ _ _ _ _ k ⟨a, b, c, d⟩ => ⟨a, b, c, fun z h1 h2 => k _ _ (d z h1 h2)⟩
theorem ok_number {f : Addr} {fd : FuncData} (F : L2.Fun K "_law_number" "_law_number" s_number f fd) : FnOk P w K mg base CX0 1 f fd ["cell", "wide"] spNumber := by
  refine F.ok sc_number (fun vs H Q E h => ?_) (fun cdv A outer s H vs Q E hr h => ?_)
  · obtain ⟨a, b, rfl, _⟩ := h
    rfl
  · obtain ⟨c, wd, rfl, q⟩ := h
    (try first | refine hZ _ _ ?_ | refine hZn _ _ ?_); refine ⟨_, (pss_cons (ps_if (pt_cmpR op_eq (pe_op op_mod (pv 1) pe_int) pe_int (nomark _)) (pss_one (ps_ret (pe_op op_add (pe_op op_sub (pe_op op_mod (pv 0) (pe_op op_sub (pe_op op_mul pe_int (pe_op op_pow pe_int pe_int)) pe_int)) (pe_op op_pow pe_int pe_int)) pe_int))) pss_nil)
      (pss_one (ps_ret (pe_op op_sub (pe_op op_sub (pe_op op_mod (pv 0) (pe_op op_add (pe_op op_mul pe_int (pe_op op_add pe_int (pe_op op_mod (pv 1) pe_int))) pe_int)) pe_int) (pe_op op_mod (pv 1) pe_int))))), ?_⟩
    (try first | refine hZ _ _ ?_ | refine hZn _ _ ?_); (try refine seq_hide fun Z hZ => ?_); refine ⟨_, rfl, _, _, rfl, rfl, (by show (0 : Int) < 5; decide), rfl, _, rfl, ?_⟩
    refine ite2 (fun hc => ?_) (fun hc => ?_)
    · (try first | refine hZ _ _ ?_ | refine hZn _ _ ?_); (try refine seq_hide fun Z hZ => ?_); refine ⟨_, rfl, _, _, rfl, rfl, ⟨by decide, by decide, by decide⟩, _, _, rfl, rfl, .inl ⟨by decide, by decide⟩, _, _, rfl, rfl, _, _, rfl, rfl, (show (0 : Int) < 2 * 10 ^ Int.toNat 30 - 1 by decide), _, _, rfl, rfl, ⟨by decide, by decide, by decide⟩, _, _, rfl, rfl, _, _, rfl, rfl, ?_⟩
      have h1 := Int.emod_nonneg c (show (2 * 10 ^ Int.toNat 30 - 1 : Int) ≠ 0 by decide)
      have h2 := Int.emod_lt_of_pos c (show (0 : Int) < 2 * 10 ^ Int.toNat 30 - 1 by decide)
      have e : (10 : Int) ^ Int.toNat 30 = 1000000000000000000000000000000 := by decide
      have e2 : (10 : Int) ^ 30 = 1000000000000000000000000000000 := by decide
      rw [e] at h1 h2 ⊢
      (try first | refine hZ _ _ ?_ | refine hZn _ _ ?_); exact q _ (by rw [e2]; omega) (by rw [e2]; omega)
    · (try first | refine hZ _ _ ?_ | refine hZn _ _ ?_); (try refine seq_hide fun Z hZ => ?_); refine ⟨_, rfl, _, rfl, _, _, rfl, rfl, (by show (0 : Int) < 40; decide), _, _, rfl, rfl, _, _, rfl, rfl, .inl ⟨by decide, by decide⟩, _, _, rfl, rfl, _, _, rfl, rfl, ?_, _, _, rfl, rfl, _, rfl, _, _, rfl, rfl, (by show (0 : Int) < 40; decide), _, _, rfl, rfl, ?_⟩
      · have := Int.emod_nonneg wd (show (40 : Int) ≠ 0 by decide)
        omega
      · have h1 := Int.emod_nonneg wd (show (40 : Int) ≠ 0 by decide)
        have h2 := Int.emod_lt_of_pos wd (show (0 : Int) < 40 by decide)
        have h3 := Int.emod_nonneg c (show (2 * (1 + wd % 40) + 1 : Int) ≠ 0 by omega)
        have h4 := Int.emod_lt_of_pos c (show (0 : Int) < 2 * (1 + wd % 40) + 1 by omega)
        have e2 : (10 : Int) ^ 30 = 1000000000000000000000000000000 := by decide
        (try first | refine hZ _ _ ?_ | refine hZn _ _ ?_); exact q _ (by rw [e2]; omega) (by rw [e2]; omega)
theorem mod_nat (c : Int) {n : Nat} (h : 1 ≤ n) : ∃ k : Nat, c % (n : Int) = (k : Int) ∧ k < n := by
  have h1 := Int.emod_nonneg c (show (n : Int) ≠ 0 by omega)
  have h2 := Int.emod_lt_of_pos c (show (0 : Int) < n by omega)
  exact ⟨(c % n).toNat, by omega, by omega⟩
theorem sc_ties_by : FnScope ["script", "start", "size", "count", "wide", "known", "cell", "b", "k", "pair"] ["script", "start", "size", "count", "wide"] (defScope s_ties_by) := ⟨rfl, rfl, rfl, by decide +kernel, rfl, by decide +kernel, by decide +kernel⟩
noncomputable def Small (ts : List Tie) : Prop := ∀ t ∈ ts, -(10 ^ 30) < t.2.2 ∧ t.2.2 < 10 ^ 30
theorem small_put {ts : List Tie} {u : Tie} (h : Small ts) (h1 : -(10 ^ 30) < u.2.2 ∧ u.2.2 < 10 ^ 30) : Small (putT ts u) := fun t ht => by
  unfold putT at ht
  split at ht
  · obtain ⟨t', ht', rfl⟩ := List.mem_map.mp ht
    split
    · exact h1
    · exact h t' ht'
  · rcases List.mem_append.mp ht with z | z
    · exact h t z
    · rw [List.mem_singleton.mp z]; exact h1
inductive I_spTiesBy (K : Frag) (vs : List V) (H : Hp) (Q : VK) : Prop
  | mk (a : Addr) (ns : List Int) (st n cnt : Nat) (wd : Int) (h1 : vs = [.ref a, .int st, .int n, .int cnt, .int wd]) (h2 : SqL K H a (ns.map V.int)) (h3 : 1 ≤ n) (h4 : n ≤ 40) (h5 : cnt ≤ 100) (h6 : ∀ (l : Addr) (as : List Addr) (ts : List Tie) (H' : Hp), Same H H' → H' l = some (.lst (as.map V.ref)) → TupsAt H' as (ts.map tri) → OkT n ts → Covers n ts → ts.length ≤ n + cnt → Small ts → H l = none → Q (.ref l) H')
noncomputable def spTiesBy (K : Frag) : Sp := fun vs H Q _ => I_spTiesBy K vs H Q
theorem ok_ties_by {f : Addr} {fd : FuncData} (F : L2.Fun K "_law_ties_by" "_law_ties_by" s_ties_by f fd) (nb : NB mg) (D__law_cell_at : DefOk P w K mg base CX0 1 "_law_cell_at" ["script", "k"] (spCellAt K)) (D__law_number : DefOk P w K mg base CX0 1 "_law_number" ["cell", "wide"] spNumber) : FnOk P w K mg base CX0 2 f fd ["script", "start", "size", "count", "wide"] (spTiesBy K) := by
  obtain ⟨b_len, b_range, b_list, b_sorted, b_isinstance, b_all, b_bool, b_int, b_tuple, b_enumerate, b_reversed⟩ := nb
  refine F.ok sc_ties_by (fun vs H Q E h => ?_) (fun cdv A outer s H vs Q E hr h => ?_)
  · obtain ⟨a, ns, st, n, cnt, wd, rfl, _⟩ := h
    rfl
  · obtain ⟨a, ns, st, n, cnt, wd, rfl, ha, n1, n40, hcnt, q⟩ := h
    have hu := hu_of hr
    have nd := sc_ties_by.nd
    have line := line1000
    (try first | refine hZ _ _ ?_ | refine hZn _ _ ?_); refine ⟨_, (pss_cons (ps_set (i := 5) nd rfl (Or.inr rfl) pe_dnewT)
      (pss_cons (ps_set (i := 6) nd rfl (Or.inl rfl) (pe_def D__law_cell_at pass0 hr (by decide) rfl (pa_cons (pv 0) (pa_cons (pv 1) pa_nil))))
      (pss_cons (ps_for PassesOwn.never rfl (pi_range1 rfl b_range (pa_cons (pv 2) pa_nil)) (pg_name (i := 7) nd rfl (Or.inl rfl)) (pss_cons (ps_set (i := 6) nd rfl (Or.inl rfl) (pe_op op_mod (pe_op op_add (pe_op op_mul (pv 6) pe_int) pe_int) pe_int))
      (pss_one (ps_dput hu (pv 5) (pe_tup (pa_cons (pe_op op_mod (pe_op op_fdiv (pv 6) pe_int) (pv 2)) (pa_cons (pv 7) pa_nil))) (pe_def D__law_number pass0 hr (by decide) rfl (pa_cons (pe_op op_mul (pe_op op_fdiv (pv 6) pe_int) (pe_op op_add (pe_op op_mod (pv 6) (pe_op op_pow pe_int pe_int)) pe_int)) (pa_cons (pv 4) pa_nil))) rfl))))
      (pss_cons (ps_for PassesOwn.never rfl (pi_range1 rfl b_range (pa_cons (pv 3) pa_nil)) (pg_name (i := 8) nd rfl (Or.inl rfl)) (pss_cons (ps_set (i := 6) nd rfl (Or.inl rfl) (pe_def D__law_cell_at pass0 hr (by decide) rfl (pa_cons (pv 0) (pa_cons (pe_op op_add (pe_op op_add (pv 1) pe_int) (pv 8)) pa_nil))))
      (pss_cons (ps_set (i := 9) nd rfl (Or.inl rfl) (pe_tup (pa_cons (pe_op op_mod (pv 6) (pv 2)) (pa_cons (pe_op op_mod (pe_op op_fdiv (pv 6) (pv 2)) (pv 2)) pa_nil))))
      (pss_one (ps_dput hu (pv 5) (pv 9) (pe_def D__law_number pass0 hr (by decide) rfl (pa_cons (pe_op op_fdiv (pv 6) (pe_op op_mul (pv 2) (pv 2))) (pa_cons (pv 4) pa_nil))) rfl)))))
      (pss_one (ps_ret (pe_compD (CompScopeD.of (N' := ["pair", "known"]) (cap := [none, some 5]) (by rfl)) rfl (pi_listK (K := K) rfl (pe_callTy (call_list_dT rfl) rfl b_list bb_list (pa_cons (pv 5) pa_nil))) (by decide +kernel) (by intro cl C s₀ H₀ ex ndc; refine ⟨?_, ?_, ?_⟩; exact (pg_name' 0 ndc rfl rfl); exact pts_nil; exact (pe_tup (pa_cons (pe_ix (ix_tupK (K := K) rfl) (pv 0) pe_int (fun _ _ => rfl)) (pa_cons (pe_ix (ix_tupK (K := K) rfl) (pv 0) pe_int (fun _ _ => rfl)) (pa_cons (pe_dget hu (pv 1) (pv 0) (fun _ _ => rfl)) pa_nil)))))))))))), ?_⟩
    -- known = {}
    (try first | refine hZ _ _ ?_ | refine hZn _ _ ?_); (try refine seq_hide fun Z hZ => ?_); intro d hd
    have S0 : Same H (upd H d (.dT [])) := Same.new hd
    -- cell = _law_cell_at(script, start)
    (try first | refine hZ _ _ ?_ | refine hZn _ _ ?_); (try refine seq_hide fun Z hZ => ?_); refine ⟨_, rfl, _, rfl, a, ns, st, rfl, S0.seq ha, ?_⟩
    -- for b in range(size)
    (try first | refine hZ _ _ ?_ | refine hZn _ _ ?_); refine for_upto (mon_cons mon_var mon_nil) ⟨_, rfl, n, rfl, by omega,
      fun i σ' H' => ∃ (ts : List Tie) (c : Int) (u1 u2 u3 : Option V), σ' = [some (.ref a), some (.int st), some (.int n), some (.int cnt), some (.int wd), some (.ref d), some (.int c), u1, u2, u3] ∧ Same H H' ∧ H' d = some (.dT (ts.map kvT)) ∧ OkT n ts ∧ CovTo i ts ∧ ts.length ≤ i ∧ Small ts, ?_, ?_, ?_⟩
    · (try first | refine hZ _ _ ?_ | refine hZn _ _ ?_); exact ⟨[], _, none, none, none, rfl, S0, upd_same, ⟨(fun t ht => nomatch ht), List.nodup_nil⟩, fun b hb => absurd hb (by omega), Nat.le_refl _, (fun t ht => nomatch ht)⟩
    · rintro i σ' H' hi ⟨ts, c, u1, u2, u3, rfl, S, hd', ok, cov, hl, sm⟩
      (try first | refine hZ _ _ ?_ | refine hZn _ _ ?_); (try refine seq_hide fun Z hZ => ?_); refine ⟨_, rfl, _, _, rfl, rfl, .inr ⟨by decide, by decide⟩, _, _, rfl, rfl, _, _, rfl, rfl, (show (0 : Int) < 2147483647 by decide), ?_⟩
      try dsimp only
      generalize (c * 48271 + 11) % 2147483647 = c'
      have b1 := Int.emod_nonneg c' (show (10 ^ Int.toNat 9 : Int) ≠ 0 by decide)
      have b2 := Int.emod_lt_of_pos c' (show (0 : Int) < 10 ^ Int.toNat 9 by decide)
      have e9 : (10 : Int) ^ Int.toNat 9 = 1000000000 := by decide
      (try first | refine hZ _ _ ?_ | refine hZn _ _ ?_); (try refine seq_hide fun Z hZ => ?_); refine ⟨_, rfl, _, _, rfl, rfl, ⟨by decide, by decide⟩, _, rfl, _, _, rfl, rfl, ⟨by decide, by decide, by decide⟩, _, _, rfl, rfl, (show (0 : Int) < 10 ^ Int.toNat 9 by decide), _, _, rfl, rfl, _, _, rfl, rfl, .inr ⟨by rw [e9] at b1 b2 ⊢; omega, by rw [e9] at b1 b2 ⊢; omega⟩, _, rfl, _, _, rfl, fun z hz1 hz2 => ?_⟩
      obtain ⟨k, hk, hkn⟩ := mod_nat (c' / 7) n1
      (try first | refine hZ _ _ ?_ | refine hZn _ _ ?_); (try refine seq_hide fun Z hZ => ?_); refine ⟨_, rfl, _, rfl, _, _, rfl, rfl, ⟨by decide, by decide⟩, _, rfl, _, _, rfl, rfl, (show (0 : Int) < n by omega), ?_⟩
      try dsimp only
      rw [hk]
      (try first | refine hZ _ _ ?_ | refine hZn _ _ ?_); (try refine seq_hide fun Z hZ => ?_); refine ⟨_, rfl, by show 2 ≤ sizeLine; decide, fun p hp => ?_⟩
      have S2 : Same H' (upd H' p (.tup [V.int (k : Int), V.int (i : Int)])) := Same.new hp
      (try first | refine hZ _ _ ?_ | refine hZn _ _ ?_); (try refine seq_hide fun Z hZ => ?_); refine ⟨d, _, rfl, DPut.t (k := keyT (k, i, z)) (S2 _ _ hd') upd_same (by rw [List.length_map]; omega), ?_⟩
      rw [putK_T ts (k, i, z)]
      (try first | refine hZ _ _ ?_ | refine hZn _ _ ?_); (try refine seq_hide fun Z hZ => ?_); refine ⟨putT ts (k, i, z), _, _, _, _, rfl, fun b o e => ?_, upd_same, putT_ok ok hkn (by omega), cov.next rfl, ?_, small_put sm ⟨hz1, hz2⟩⟩
      · rw [upd_ne (ne_of_none e hd)]; exact S2 _ _ (S b o e)
      · have := putT_len ts (k, i, z); omega
    · rintro σ' H1 ⟨ts1, c1, u1, u2, u3, rfl, S1, hd1, ok1, cov1, hl1, sm1⟩
      -- for k in range(count)
      (try first | refine hZ _ _ ?_ | refine hZn _ _ ?_); refine for_upto (mon_cons mon_var mon_nil) ⟨_, rfl, cnt, rfl, by omega,
        fun i σ' H' => ∃ (ts : List Tie) (c : Int) (u1 u2 u3 : Option V), σ' = [some (.ref a), some (.int st), some (.int n), some (.int cnt), some (.int wd), some (.ref d), some (.int c), u1, u2, u3] ∧ Same H H' ∧ H' d = some (.dT (ts.map kvT)) ∧ OkT n ts ∧ CovTo n ts ∧ ts.length ≤ n + i ∧ Small ts, ?_, ?_, ?_⟩
      · (try first | refine hZ _ _ ?_ | refine hZn _ _ ?_); exact ⟨ts1, _, _, _, _, rfl, S1, hd1, ok1, cov1, hl1, sm1⟩
      · rintro i σ' H' hi ⟨ts, c, u1, u2, u3, rfl, S, hd', ok, cov, hl, sm⟩
        (try first | refine hZ _ _ ?_ | refine hZn _ _ ?_); (try refine seq_hide fun Z hZ => ?_); refine ⟨_, rfl, _, rfl, _, _, rfl, rfl, _, rfl, _, _, rfl, rfl, a, ns, st + 1 + i, by simp, S.seq ha, ?_⟩
        generalize ns.getD (st + 1 + i) 0 = c'
        obtain ⟨k1, hk1, hkn1⟩ := mod_nat c' n1
        obtain ⟨k2, hk2, hkn2⟩ := mod_nat (c' / n) n1
        have np : (0 : Int) < n := by omega
        (try first | refine hZ _ _ ?_ | refine hZn _ _ ?_); (try refine seq_hide fun Z hZ => ?_); refine ⟨_, rfl, _, rfl, _, _, rfl, rfl, np, ?_⟩
        try dsimp only
        rw [hk1]
        (try first | refine hZ _ _ ?_ | refine hZn _ _ ?_); (try refine seq_hide fun Z hZ => ?_); refine ⟨_, rfl, _, rfl, _, _, rfl, rfl, ⟨np, by omega⟩, _, rfl, _, _, rfl, rfl, np, ?_⟩
        try dsimp only
        rw [hk2]
        (try first | refine hZ _ _ ?_ | refine hZn _ _ ?_); (try refine seq_hide fun Z hZ => ?_); refine ⟨by show 2 ≤ sizeLine; decide, fun p hp => ?_⟩
        have S2 : Same H' (upd H' p (.tup [V.int (k1 : Int), V.int (k2 : Int)])) := Same.new hp
        have nn : (0 : Int) < (n : Int) * n ∧ (n : Int) * n ≤ 1600 := ⟨Int.mul_pos np np, by
          have : (n : Int) * n ≤ 40 * 40 := Int.mul_le_mul (by omega) (by omega) (by omega) (by omega)
          omega⟩
        (try first | refine hZ _ _ ?_ | refine hZn _ _ ?_); (try refine seq_hide fun Z hZ => ?_); refine ⟨_, rfl, _, rfl, _, rfl, _, _, rfl, rfl, .inl ⟨by omega, by omega⟩, _, _, rfl, rfl, ⟨nn.1, by omega⟩, _, rfl, _, _, rfl, fun z hz1 hz2 => ?_⟩
        (try first | refine hZ _ _ ?_ | refine hZn _ _ ?_); (try refine seq_hide fun Z hZ => ?_); refine ⟨_, rfl, _, rfl, d, _, rfl, DPut.t (k := keyT (k1, k2, z)) (S2 _ _ hd') upd_same (by rw [List.length_map]; omega), ?_⟩
        rw [putK_T ts (k1, k2, z)]
        (try first | refine hZ _ _ ?_ | refine hZn _ _ ?_); (try refine seq_hide fun Z hZ => ?_); refine ⟨putT ts (k1, k2, z), _, _, _, _, rfl, fun b o e => ?_, upd_same, putT_ok ok hkn1 hkn2, cov.put, ?_, small_put sm ⟨hz1, hz2⟩⟩
        · rw [upd_ne (ne_of_none e hd)]; exact S2 _ _ (S b o e)
        · have := putT_len ts (k1, k2, z); omega
      · rintro σ' H2 ⟨ts, c, u1, u2, u3, rfl, S2, hd2, ok, cov, hl, sm⟩
        refine known_list (j := 5) rfl rfl hd2 ok.nd (by omega) fun l bs H3 S3 nl hl3 tb => ?_
        (try first | refine hZ _ _ ?_ | refine hZn _ _ ?_); exact q l bs ts H3 (S2.trans S3) hl3 tb ok cov.covers hl sm (S2.free nl)
end

end
instance iN128 {K : Frag} : CS (spCellAt K) := ⟨monS_cell_at⟩
instance iN129 : CS spNumber := ⟨monS_number⟩
instance iN130 {K : Frag} : CS (spTiesBy K) := ⟨fun _ _ _ _ _ k hh => by obtain ⟨a, ns, st, n, cnt, wd, a1, a2, a3, a4, a5, q⟩ := hh; exact ⟨a, ns, st, n, cnt, wd, a1, a2, a3, a4, a5, fun l as ts H' b1 b2 b3 b4 b5 b6 b7 b8 => k _ _ (q l as ts H' b1 b2 b3 b4 b5 b6 b7 b8)⟩⟩
end W16

set_option Elab.async false
set_option linter.all false
set_option maxRecDepth 100000
namespace W16
open PySem PySem.W PyProof.Rows L2 Ww
seal L2.PE L2.PT L2.PW L2.PA L2.PS L2.PSs L2.OpR L2.CallR Ww.PX Ww.PSX
section
variable {P : Program} {w : World} {K : Frag} {mg : Str → Option Value} {base : Heap}
noncomputable abbrev s_bad_line : Stmt := top 23
theorem sc_bad_line : FnScope ["cell", "some"] ["cell"] (defScope s_bad_line) := ⟨rfl, rfl, rfl, by decide +kernel, rfl, by decide +kernel, by decide +kernel⟩
-- cell=0, some=1
noncomputable def badLines : List Str := [("" : Str), (" " : Str), ("tie" : Str), ("tie 0" : Str), ("tie 0 0" : Str), ("tie 0 0 1 2" : Str), ("Tie 0 0 1" : Str), ("tie 0 0 1 " : Str), (" tie 0 0 1" : Str), ("tie  0 0 1" : Str), ("tie 0 0 +1" : Str), ("tie 0 0 01" : Str), ("tie 0 0 -0" : Str), ("tie 0 0 -" : Str), ("tie 0 0 1_0" : Str), ("tie 0 0 1.0" : Str), ("tie 0 0 x" : Str), ("tie 00 0 1" : Str), ("tie 0 00 1" : Str), ("tie -1 0 1" : Str), ("tie 0 -1 1" : Str), ("tie 40 0 1" : Str), ("tie 0 40 1" : Str), ("ties 0 0 1" : Str), ("deeds 3" : Str), ("tie 0 0 1" : Str) ++ repS ("0" : Str) 30, ("tie 0 0 -1" : Str) ++ repS ("0" : Str) 30, ("tie,0,0,1" : Str), ("tie 0 0 --1" : Str), ("0 0 1" : Str), ("tie 0 0 1e3" : Str), ("tie 0 0 0x1" : Str)]
noncomputable def LineOk (l : Str) : Prop := 10 ∉ sg l ∧ Asc l ∧ l.length ≤ 200
noncomputable def okB (l : Str) : Bool := !((sg l).contains 10) && (sg l).all (fun c => decide (c < 128)) && decide (l.length ≤ 200)
theorem okB_ok {l : Str} (h : okB l = true) : LineOk l := by
  unfold okB at h
  simp only [Bool.and_eq_true, Bool.not_eq_true', decide_eq_true_eq, List.all_eq_true] at h
  obtain ⟨⟨h1, h2⟩, h3⟩ := h
  exact ⟨(fun z => by rw [List.contains_iff_mem.mpr z] at h1; cases h1), fun c hc => h2 c hc, h3⟩
theorem bad_all : badLines.all (fun l => badB l && okB l) = true := by decide +kernel
inductive I_spBadLine (K : Frag) (vs : List V) (H : Hp) (Q : VK) : Prop
  | mk (c : Int) (h1 : vs = [.int c]) (h2 : ∀ (l : Str) (H' : Hp), Same H H' → l ∈ badLines → Q (.str (l ++ ⟨#[10]⟩)) H')
noncomputable def spBadLine (K : Frag) : Sp := fun vs H Q _ => I_spBadLine K vs H Q
instance iN131 {K : Frag} : CS (spBadLine K) := ⟨fun _ _ _ _ _ k hh => by obtain ⟨c, a1, q⟩ := hh; exact ⟨c, a1, fun l H' b1 b2 => k _ _ (q l H' b1 b2)⟩⟩
theorem line_at {ls : List Str} {k : Nat} (h : k < ls.length) : ∃ l, l ∈ ls ∧ (ls.map V.str)[k]? = some (V.str l) := ⟨ls[k], List.getElem_mem h, by simp [h]⟩
theorem len_z : ("0" : Str).length = 1 := by decide +kernel
theorem len_r : (repS ("0" : Str) 30).length = 30 := by decide +kernel
theorem len_a : ("tie 0 0 1" : Str).length = 9 := by decide +kernel
theorem len_b : ("tie 0 0 -1" : Str).length = 10 := by decide +kernel
theorem len_n : ("\n" : Str).length = 1 := by decide +kernel
set_option maxHeartbeats 0 in
theorem ok_bad_line {f C  : Addr} {fd : FuncData} (F : L2.Fun K "_law_bad_line" "_law_bad_line" s_bad_line f fd) (nb : NB mg) (nb2 : NB2 mg) (T : WTxt K mg C)  : FnOk P w K mg base CX0 1 f fd ["cell"] (spBadLine K) := by
  obtain ⟨b_len, b_range, b_list, b_sorted, b_isinstance, b_all, b_bool, b_int, b_tuple, b_enumerate, b_reversed⟩ := nb
  obtain ⟨b_max, b_min, b_abs, b_zip, b_sum, b_str, b_set⟩ := nb2
  have line := line1000
  have nd := sc_bad_line.nd
  refine F.ok sc_bad_line (fun vs H Q E h => ?_) (fun cdv A outer s H vs Q E hr h => ?_)
  · obtain ⟨c, rfl, _⟩ := h
    rfl
  · obtain ⟨c, rfl, q⟩ := h
    have hu := hu_of hr
    (try first | refine hZ _ _ ?_ | refine hZn _ _ ?_); refine ⟨_, (pss_cons (ps_set (i := 1) nd rfl (Or.inl rfl) (pe_lst (pa_cons pe_str (pa_cons pe_str (pa_cons pe_str (pa_cons pe_str (pa_cons pe_str (pa_cons pe_str (pa_cons pe_str (pa_cons pe_str (pa_cons pe_str (pa_cons pe_str pa_nil))))))))))))
      (pss_cons (ps_set (i := 1) nd rfl (Or.inl rfl) (pe_op op_cat (pv 1) (pe_lst (pa_cons pe_str (pa_cons pe_str (pa_cons pe_str (pa_cons pe_str (pa_cons pe_str (pa_cons pe_str (pa_cons pe_str pa_nil))))))))))
      (pss_cons (ps_set (i := 1) nd rfl (Or.inl rfl) (pe_op op_cat (pv 1) (pe_lst (pa_cons pe_str (pa_cons pe_str (pa_cons pe_str (pa_cons pe_str (pa_cons pe_str (pa_cons pe_str (pa_cons pe_str pa_nil))))))))))
      (pss_cons (ps_set (i := 1) nd rfl (Or.inl rfl) (pe_op op_cat (pv 1) (pe_lst (pa_cons pe_str (pa_cons (pe_op op_add_str pe_str (pe_op op_mul_str pe_str pe_int)) (pa_cons (pe_op op_add_str pe_str (pe_op op_mul_str pe_str pe_int)) (pa_cons pe_str (pa_cons pe_str (pa_cons pe_str pa_nil)))))))))
      (pss_cons (ps_set (i := 1) nd rfl (Or.inl rfl) (pe_op op_cat (pv 1) (pe_lst (pa_cons pe_str (pa_cons pe_str pa_nil)))))
      (pss_one (ps_ret (pe_op op_add_str (pe_ix (ix_listK (K := K) rfl) (pv 1) (pe_op op_mod (pv 0) (pe_callB (call_lenK (K := K) rfl) rfl b_len bb_len (pa_cons (pv 1) pa_nil))) (fun _ _ => rfl)) pe_str)))))))), ?_⟩
    (try first | refine hZ _ _ ?_ | refine hZn _ _ ?_); (try refine seq_hide fun Z hZ => ?_); refine ⟨by show 10 ≤ sizeLine; decide, fun l1 hl1 => ?_⟩
    have S1 : Same H (upd H l1 (.lst [V.str (("" : Str)), V.str ((" " : Str)), V.str (("tie" : Str)), V.str (("tie 0" : Str)), V.str (("tie 0 0" : Str)), V.str (("tie 0 0 1 2" : Str)), V.str (("Tie 0 0 1" : Str)), V.str (("tie 0 0 1 " : Str)), V.str ((" tie 0 0 1" : Str)), V.str (("tie  0 0 1" : Str))])) := Same.new hl1
    have e1 : (upd H l1 (.lst [V.str (("" : Str)), V.str ((" " : Str)), V.str (("tie" : Str)), V.str (("tie 0" : Str)), V.str (("tie 0 0" : Str)), V.str (("tie 0 0 1 2" : Str)), V.str (("Tie 0 0 1" : Str)), V.str (("tie 0 0 1 " : Str)), V.str ((" tie 0 0 1" : Str)), V.str (("tie  0 0 1" : Str))])) l1 = some (.lst ([("" : Str), (" " : Str), ("tie" : Str), ("tie 0" : Str), ("tie 0 0" : Str), ("tie 0 0 1 2" : Str), ("Tie 0 0 1" : Str), ("tie 0 0 1 " : Str), (" tie 0 0 1" : Str), ("tie  0 0 1" : Str)].map V.str)) := upd_same
    generalize upd H l1 (.lst [V.str (("" : Str)), V.str ((" " : Str)), V.str (("tie" : Str)), V.str (("tie 0" : Str)), V.str (("tie 0 0" : Str)), V.str (("tie 0 0 1 2" : Str)), V.str (("Tie 0 0 1" : Str)), V.str (("tie 0 0 1 " : Str)), V.str ((" tie 0 0 1" : Str)), V.str (("tie  0 0 1" : Str))]) = H1 at S1 e1 ⊢
    (try first | refine hZ _ _ ?_ | refine hZn _ _ ?_); try dsimp only [tNext, gName]
    (try first | refine hZ _ _ ?_ | refine hZn _ _ ?_); (try refine seq_hide fun Z hZ => ?_); refine ⟨_, rfl, by show 7 ≤ sizeLine; decide, fun p2 hp2 => ?_⟩
    (try first | refine hZ _ _ ?_ | refine hZn _ _ ?_); (try refine seq_hide fun Z hZ => ?_); refine ⟨l1, p2, _, _, rfl, rfl, Same.new hp2 _ _ e1, upd_same, by rw [List.length_map]; show 17 ≤ sizeLine; decide, fun l2 hl2 => ?_⟩
    obtain ⟨H2, S2, e2, eH⟩ : ∃ G, Same H1 G ∧ G l2 = some (.lst (([("" : Str), (" " : Str), ("tie" : Str), ("tie 0" : Str), ("tie 0 0" : Str), ("tie 0 0 1 2" : Str), ("Tie 0 0 1" : Str), ("tie 0 0 1 " : Str), (" tie 0 0 1" : Str), ("tie  0 0 1" : Str)] ++ [("tie 0 0 +1" : Str), ("tie 0 0 01" : Str), ("tie 0 0 -0" : Str), ("tie 0 0 -" : Str), ("tie 0 0 1_0" : Str), ("tie 0 0 1.0" : Str), ("tie 0 0 x" : Str)]).map V.str)) ∧ G = upd (upd H1 p2 (.lst [V.str (("tie 0 0 +1" : Str)), V.str (("tie 0 0 01" : Str)), V.str (("tie 0 0 -0" : Str)), V.str (("tie 0 0 -" : Str)), V.str (("tie 0 0 1_0" : Str)), V.str (("tie 0 0 1.0" : Str)), V.str (("tie 0 0 x" : Str))])) l2 (.lst (([("" : Str), (" " : Str), ("tie" : Str), ("tie 0" : Str), ("tie 0 0" : Str), ("tie 0 0 1 2" : Str), ("Tie 0 0 1" : Str), ("tie 0 0 1 " : Str), (" tie 0 0 1" : Str), ("tie  0 0 1" : Str)]).map V.str ++ [V.str (("tie 0 0 +1" : Str)), V.str (("tie 0 0 01" : Str)), V.str (("tie 0 0 -0" : Str)), V.str (("tie 0 0 -" : Str)), V.str (("tie 0 0 1_0" : Str)), V.str (("tie 0 0 1.0" : Str)), V.str (("tie 0 0 x" : Str))])) := ⟨_, (Same.new hp2).trans (Same.new hl2), upd_same, rfl⟩
    rw [← eH]
    clear eH
    (try first | refine hZ _ _ ?_ | refine hZn _ _ ?_); try dsimp only [tNext, gName]
    (try first | refine hZ _ _ ?_ | refine hZn _ _ ?_); (try refine seq_hide fun Z hZ => ?_); refine ⟨_, rfl, by show 7 ≤ sizeLine; decide, fun p3 hp3 => ?_⟩
    (try first | refine hZ _ _ ?_ | refine hZn _ _ ?_); (try refine seq_hide fun Z hZ => ?_); refine ⟨l2, p3, _, _, rfl, rfl, Same.new hp3 _ _ e2, upd_same, by rw [List.length_map]; show 24 ≤ sizeLine; decide, fun l3 hl3 => ?_⟩
    obtain ⟨H3, S3, e3, eH⟩ : ∃ G, Same H2 G ∧ G l3 = some (.lst (([("" : Str), (" " : Str), ("tie" : Str), ("tie 0" : Str), ("tie 0 0" : Str), ("tie 0 0 1 2" : Str), ("Tie 0 0 1" : Str), ("tie 0 0 1 " : Str), (" tie 0 0 1" : Str), ("tie  0 0 1" : Str)] ++ [("tie 0 0 +1" : Str), ("tie 0 0 01" : Str), ("tie 0 0 -0" : Str), ("tie 0 0 -" : Str), ("tie 0 0 1_0" : Str), ("tie 0 0 1.0" : Str), ("tie 0 0 x" : Str)] ++ [("tie 00 0 1" : Str), ("tie 0 00 1" : Str), ("tie -1 0 1" : Str), ("tie 0 -1 1" : Str), ("tie 40 0 1" : Str), ("tie 0 40 1" : Str), ("ties 0 0 1" : Str)]).map V.str)) ∧ G = upd (upd H2 p3 (.lst [V.str (("tie 00 0 1" : Str)), V.str (("tie 0 00 1" : Str)), V.str (("tie -1 0 1" : Str)), V.str (("tie 0 -1 1" : Str)), V.str (("tie 40 0 1" : Str)), V.str (("tie 0 40 1" : Str)), V.str (("ties 0 0 1" : Str))])) l3 (.lst (([("" : Str), (" " : Str), ("tie" : Str), ("tie 0" : Str), ("tie 0 0" : Str), ("tie 0 0 1 2" : Str), ("Tie 0 0 1" : Str), ("tie 0 0 1 " : Str), (" tie 0 0 1" : Str), ("tie  0 0 1" : Str)] ++ [("tie 0 0 +1" : Str), ("tie 0 0 01" : Str), ("tie 0 0 -0" : Str), ("tie 0 0 -" : Str), ("tie 0 0 1_0" : Str), ("tie 0 0 1.0" : Str), ("tie 0 0 x" : Str)]).map V.str ++ [V.str (("tie 00 0 1" : Str)), V.str (("tie 0 00 1" : Str)), V.str (("tie -1 0 1" : Str)), V.str (("tie 0 -1 1" : Str)), V.str (("tie 40 0 1" : Str)), V.str (("tie 0 40 1" : Str)), V.str (("ties 0 0 1" : Str))])) := ⟨_, (Same.new hp3).trans (Same.new hl3), upd_same, rfl⟩
    rw [← eH]
    clear eH
    (try first | refine hZ _ _ ?_ | refine hZn _ _ ?_); try dsimp only [tNext, gName]
    (try first | refine hZ _ _ ?_ | refine hZn _ _ ?_); (try refine seq_hide fun Z hZ => ?_); refine ⟨_, rfl, _, 30, rfl, rfl, by decide, by decide, len_z, by rw [len_r]; omega, _, _, rfl, rfl, by rw [len_a, len_r]; omega, _, 30, rfl, rfl, by decide, by decide, len_z, by rw [len_r]; omega, _, _, rfl, rfl, by rw [len_b, len_r]; omega, by show 6 ≤ sizeLine; decide, fun p4 hp4 => ?_⟩
    (try first | refine hZ _ _ ?_ | refine hZn _ _ ?_); (try refine seq_hide fun Z hZ => ?_); refine ⟨l3, p4, _, _, rfl, rfl, Same.new hp4 _ _ e3, upd_same, by rw [List.length_map]; show 30 ≤ sizeLine; decide, fun l4 hl4 => ?_⟩
    obtain ⟨H4, S4, e4, eH⟩ : ∃ G, Same H3 G ∧ G l4 = some (.lst (([("" : Str), (" " : Str), ("tie" : Str), ("tie 0" : Str), ("tie 0 0" : Str), ("tie 0 0 1 2" : Str), ("Tie 0 0 1" : Str), ("tie 0 0 1 " : Str), (" tie 0 0 1" : Str), ("tie  0 0 1" : Str)] ++ [("tie 0 0 +1" : Str), ("tie 0 0 01" : Str), ("tie 0 0 -0" : Str), ("tie 0 0 -" : Str), ("tie 0 0 1_0" : Str), ("tie 0 0 1.0" : Str), ("tie 0 0 x" : Str)] ++ [("tie 00 0 1" : Str), ("tie 0 00 1" : Str), ("tie -1 0 1" : Str), ("tie 0 -1 1" : Str), ("tie 40 0 1" : Str), ("tie 0 40 1" : Str), ("ties 0 0 1" : Str)] ++ [("deeds 3" : Str), ("tie 0 0 1" : Str) ++ repS ("0" : Str) 30, ("tie 0 0 -1" : Str) ++ repS ("0" : Str) 30, ("tie,0,0,1" : Str), ("tie 0 0 --1" : Str), ("0 0 1" : Str)]).map V.str)) ∧ G = upd (upd H3 p4 (.lst [V.str (("deeds 3" : Str)), V.str (("tie 0 0 1" : Str) ++ repS ("0" : Str) 30), V.str (("tie 0 0 -1" : Str) ++ repS ("0" : Str) 30), V.str (("tie,0,0,1" : Str)), V.str (("tie 0 0 --1" : Str)), V.str (("0 0 1" : Str))])) l4 (.lst (([("" : Str), (" " : Str), ("tie" : Str), ("tie 0" : Str), ("tie 0 0" : Str), ("tie 0 0 1 2" : Str), ("Tie 0 0 1" : Str), ("tie 0 0 1 " : Str), (" tie 0 0 1" : Str), ("tie  0 0 1" : Str)] ++ [("tie 0 0 +1" : Str), ("tie 0 0 01" : Str), ("tie 0 0 -0" : Str), ("tie 0 0 -" : Str), ("tie 0 0 1_0" : Str), ("tie 0 0 1.0" : Str), ("tie 0 0 x" : Str)] ++ [("tie 00 0 1" : Str), ("tie 0 00 1" : Str), ("tie -1 0 1" : Str), ("tie 0 -1 1" : Str), ("tie 40 0 1" : Str), ("tie 0 40 1" : Str), ("ties 0 0 1" : Str)]).map V.str ++ [V.str (("deeds 3" : Str)), V.str (("tie 0 0 1" : Str) ++ repS ("0" : Str) 30), V.str (("tie 0 0 -1" : Str) ++ repS ("0" : Str) 30), V.str (("tie,0,0,1" : Str)), V.str (("tie 0 0 --1" : Str)), V.str (("0 0 1" : Str))])) := ⟨_, (Same.new hp4).trans (Same.new hl4), upd_same, rfl⟩
    rw [← eH]
    clear eH
    (try first | refine hZ _ _ ?_ | refine hZn _ _ ?_); try dsimp only [tNext, gName]
    (try first | refine hZ _ _ ?_ | refine hZn _ _ ?_); (try refine seq_hide fun Z hZ => ?_); refine ⟨_, rfl, by show 2 ≤ sizeLine; decide, fun p5 hp5 => ?_⟩
    (try first | refine hZ _ _ ?_ | refine hZn _ _ ?_); (try refine seq_hide fun Z hZ => ?_); refine ⟨l4, p5, _, _, rfl, rfl, Same.new hp5 _ _ e4, upd_same, by rw [List.length_map]; show 32 ≤ sizeLine; decide, fun l5 hl5 => ?_⟩
    obtain ⟨H5, S5, e5, eH⟩ : ∃ G, Same H4 G ∧ G l5 = some (.lst (([("" : Str), (" " : Str), ("tie" : Str), ("tie 0" : Str), ("tie 0 0" : Str), ("tie 0 0 1 2" : Str), ("Tie 0 0 1" : Str), ("tie 0 0 1 " : Str), (" tie 0 0 1" : Str), ("tie  0 0 1" : Str)] ++ [("tie 0 0 +1" : Str), ("tie 0 0 01" : Str), ("tie 0 0 -0" : Str), ("tie 0 0 -" : Str), ("tie 0 0 1_0" : Str), ("tie 0 0 1.0" : Str), ("tie 0 0 x" : Str)] ++ [("tie 00 0 1" : Str), ("tie 0 00 1" : Str), ("tie -1 0 1" : Str), ("tie 0 -1 1" : Str), ("tie 40 0 1" : Str), ("tie 0 40 1" : Str), ("ties 0 0 1" : Str)] ++ [("deeds 3" : Str), ("tie 0 0 1" : Str) ++ repS ("0" : Str) 30, ("tie 0 0 -1" : Str) ++ repS ("0" : Str) 30, ("tie,0,0,1" : Str), ("tie 0 0 --1" : Str), ("0 0 1" : Str)] ++ [("tie 0 0 1e3" : Str), ("tie 0 0 0x1" : Str)]).map V.str)) ∧ G = upd (upd H4 p5 (.lst [V.str (("tie 0 0 1e3" : Str)), V.str (("tie 0 0 0x1" : Str))])) l5 (.lst (([("" : Str), (" " : Str), ("tie" : Str), ("tie 0" : Str), ("tie 0 0" : Str), ("tie 0 0 1 2" : Str), ("Tie 0 0 1" : Str), ("tie 0 0 1 " : Str), (" tie 0 0 1" : Str), ("tie  0 0 1" : Str)] ++ [("tie 0 0 +1" : Str), ("tie 0 0 01" : Str), ("tie 0 0 -0" : Str), ("tie 0 0 -" : Str), ("tie 0 0 1_0" : Str), ("tie 0 0 1.0" : Str), ("tie 0 0 x" : Str)] ++ [("tie 00 0 1" : Str), ("tie 0 00 1" : Str), ("tie -1 0 1" : Str), ("tie 0 -1 1" : Str), ("tie 40 0 1" : Str), ("tie 0 40 1" : Str), ("ties 0 0 1" : Str)] ++ [("deeds 3" : Str), ("tie 0 0 1" : Str) ++ repS ("0" : Str) 30, ("tie 0 0 -1" : Str) ++ repS ("0" : Str) 30, ("tie,0,0,1" : Str), ("tie 0 0 --1" : Str), ("0 0 1" : Str)]).map V.str ++ [V.str (("tie 0 0 1e3" : Str)), V.str (("tie 0 0 0x1" : Str))])) := ⟨_, (Same.new hp5).trans (Same.new hl5), upd_same, rfl⟩
    rw [← eH]
    clear eH
    have e6 : H5 l5 = some (.lst (badLines.map V.str)) := e5
    obtain ⟨k, hk, hk1⟩ := mod_nat c (show 1 ≤ badLines.length by decide)
    obtain ⟨l, lm, hl⟩ := line_at hk1
    have ol := okB_ok ((Bool.and_eq_true _ _ ▸ List.all_eq_true.mp bad_all l lm).2)
    (try first | refine hZ _ _ ?_ | refine hZn _ _ ?_); try dsimp only [tNext, gName]
    (try first | refine hZ _ _ ?_ | refine hZn _ _ ?_); (try refine seq_hide fun Z hZ => ?_); refine ⟨_, rfl, _, rfl, _, rfl, l5, _, rfl, .inl (SqL.of e6), _, _, rfl, rfl, (show (0 : Int) < ((badLines.map V.str).length : Int) by decide), ?_⟩
    rw [List.length_map, show c % (badLines.length : Int) = (k : Int) from hk]
    (try first | refine hZ _ _ ?_ | refine hZn _ _ ?_); (try refine seq_hide fun Z hZ => ?_); refine ⟨l5, _, _, _, rfl, rfl, SqL.of e6, atI_nat (j := k) hl, _, _, rfl, rfl, by rw [len_n]; have := ol.2.2; omega, ?_⟩
    rw [nl_eq]
    (try first | refine hZ _ _ ?_ | refine hZn _ _ ?_); exact q l H5 ((((S1.trans S2).trans S3).trans S4).trans S5) lm

end

end W16

set_option Elab.async false
set_option linter.all false
set_option maxRecDepth 100000
namespace W16
open PySem PySem.W PyProof.Rows L2 Ww
seal L2.PE L2.PT L2.PW L2.PA L2.PS L2.PSs L2.OpR L2.CallR Ww.PX Ww.PSX
section
variable {P : Program} {w : World} {K : Frag} {mg : Str → Option Value} {base : Heap}
noncomputable abbrev s_bad_first : Stmt := top 24
theorem sc_bad_first : FnScope ["cell", "some"] ["cell"] (defScope s_bad_first) := ⟨rfl, rfl, rfl, by decide +kernel, rfl, by decide +kernel, by decide +kernel⟩
-- cell=0, some=1
noncomputable def badFirsts : List Str := [("deeds" : Str), ("deeds 0" : Str), ("deeds 41" : Str), ("deeds 01" : Str), ("deeds -1" : Str), ("deed 3" : Str), ("deeds 3 " : Str), ("Deeds 3" : Str), ("deeds 3 3" : Str), ("deeds  3" : Str), ("" : Str), ("deeds x" : Str), ("deeds 1_0" : Str)]
theorem firsts_all : badFirsts.all (fun l => badF l && okB l) = true := by decide +kernel
inductive I_spBadFirst (K : Frag) (vs : List V) (H : Hp) (Q : VK) : Prop
  | mk (c : Int) (h1 : vs = [.int c]) (h2 : ∀ (l : Str) (H' : Hp), Same H H' → l ∈ badFirsts → Q (.str (l ++ ⟨#[10]⟩)) H')
noncomputable def spBadFirst (K : Frag) : Sp := fun vs H Q _ => I_spBadFirst K vs H Q
instance iN132 {K : Frag} : CS (spBadFirst K) := ⟨fun _ _ _ _ _ k hh => by obtain ⟨c, a1, q⟩ := hh; exact ⟨c, a1, fun l H' b1 b2 => k _ _ (q l H' b1 b2)⟩⟩
set_option maxHeartbeats 0 in
theorem ok_bad_first {f C  : Addr} {fd : FuncData} (F : L2.Fun K "_law_bad_first" "_law_bad_first" s_bad_first f fd) (nb : NB mg) (nb2 : NB2 mg) (T : WTxt K mg C)  : FnOk P w K mg base CX0 1 f fd ["cell"] (spBadFirst K) := by
  obtain ⟨b_len, b_range, b_list, b_sorted, b_isinstance, b_all, b_bool, b_int, b_tuple, b_enumerate, b_reversed⟩ := nb
  obtain ⟨b_max, b_min, b_abs, b_zip, b_sum, b_str, b_set⟩ := nb2
  have line := line1000
  have nd := sc_bad_first.nd
  refine F.ok sc_bad_first (fun vs H Q E h => ?_) (fun cdv A outer s H vs Q E hr h => ?_)
  · obtain ⟨c, rfl, _⟩ := h
    rfl
  · obtain ⟨c, rfl, q⟩ := h
    have hu := hu_of hr
    (try first | refine hZ _ _ ?_ | refine hZn _ _ ?_); refine ⟨_, (pss_cons (ps_set (i := 1) nd rfl (Or.inl rfl) (pe_lst (pa_cons pe_str (pa_cons pe_str (pa_cons pe_str (pa_cons pe_str (pa_cons pe_str (pa_cons pe_str (pa_cons pe_str (pa_cons pe_str (pa_cons pe_str pa_nil)))))))))))
      (pss_cons (ps_set (i := 1) nd rfl (Or.inl rfl) (pe_op op_cat (pv 1) (pe_lst (pa_cons pe_str (pa_cons pe_str (pa_cons pe_str (pa_cons pe_str pa_nil)))))))
      (pss_one (ps_ret (pe_op op_add_str (pe_ix (ix_listK (K := K) rfl) (pv 1) (pe_op op_mod (pv 0) (pe_callB (call_lenK (K := K) rfl) rfl b_len bb_len (pa_cons (pv 1) pa_nil))) (fun _ _ => rfl)) pe_str))))), ?_⟩
    (try first | refine hZ _ _ ?_ | refine hZn _ _ ?_); (try refine seq_hide fun Z hZ => ?_); refine ⟨by show 9 ≤ sizeLine; decide, fun l1 hl1 => ?_⟩
    have S1 : Same H (upd H l1 (.lst [V.str (("deeds" : Str)), V.str (("deeds 0" : Str)), V.str (("deeds 41" : Str)), V.str (("deeds 01" : Str)), V.str (("deeds -1" : Str)), V.str (("deed 3" : Str)), V.str (("deeds 3 " : Str)), V.str (("Deeds 3" : Str)), V.str (("deeds 3 3" : Str))])) := Same.new hl1
    have e1 : (upd H l1 (.lst [V.str (("deeds" : Str)), V.str (("deeds 0" : Str)), V.str (("deeds 41" : Str)), V.str (("deeds 01" : Str)), V.str (("deeds -1" : Str)), V.str (("deed 3" : Str)), V.str (("deeds 3 " : Str)), V.str (("Deeds 3" : Str)), V.str (("deeds 3 3" : Str))])) l1 = some (.lst ([("deeds" : Str), ("deeds 0" : Str), ("deeds 41" : Str), ("deeds 01" : Str), ("deeds -1" : Str), ("deed 3" : Str), ("deeds 3 " : Str), ("Deeds 3" : Str), ("deeds 3 3" : Str)].map V.str)) := upd_same
    generalize upd H l1 (.lst [V.str (("deeds" : Str)), V.str (("deeds 0" : Str)), V.str (("deeds 41" : Str)), V.str (("deeds 01" : Str)), V.str (("deeds -1" : Str)), V.str (("deed 3" : Str)), V.str (("deeds 3 " : Str)), V.str (("Deeds 3" : Str)), V.str (("deeds 3 3" : Str))]) = H1 at S1 e1 ⊢
    (try first | refine hZ _ _ ?_ | refine hZn _ _ ?_); try dsimp only [tNext, gName]
    (try first | refine hZ _ _ ?_ | refine hZn _ _ ?_); (try refine seq_hide fun Z hZ => ?_); refine ⟨_, rfl, by show 4 ≤ sizeLine; decide, fun p2 hp2 => ?_⟩
    (try first | refine hZ _ _ ?_ | refine hZn _ _ ?_); (try refine seq_hide fun Z hZ => ?_); refine ⟨l1, p2, _, _, rfl, rfl, Same.new hp2 _ _ e1, upd_same, by rw [List.length_map]; show 13 ≤ sizeLine; decide, fun l2 hl2 => ?_⟩
    obtain ⟨H2, S2, e2, eH⟩ : ∃ G, Same H1 G ∧ G l2 = some (.lst (([("deeds" : Str), ("deeds 0" : Str), ("deeds 41" : Str), ("deeds 01" : Str), ("deeds -1" : Str), ("deed 3" : Str), ("deeds 3 " : Str), ("Deeds 3" : Str), ("deeds 3 3" : Str)] ++ [("deeds  3" : Str), ("" : Str), ("deeds x" : Str), ("deeds 1_0" : Str)]).map V.str)) ∧ G = upd (upd H1 p2 (.lst [V.str (("deeds  3" : Str)), V.str (("" : Str)), V.str (("deeds x" : Str)), V.str (("deeds 1_0" : Str))])) l2 (.lst (([("deeds" : Str), ("deeds 0" : Str), ("deeds 41" : Str), ("deeds 01" : Str), ("deeds -1" : Str), ("deed 3" : Str), ("deeds 3 " : Str), ("Deeds 3" : Str), ("deeds 3 3" : Str)]).map V.str ++ [V.str (("deeds  3" : Str)), V.str (("" : Str)), V.str (("deeds x" : Str)), V.str (("deeds 1_0" : Str))])) := ⟨_, (Same.new hp2).trans (Same.new hl2), upd_same, rfl⟩
    rw [← eH]
    clear eH
    have e6 : H2 l2 = some (.lst (badFirsts.map V.str)) := e2
    obtain ⟨k, hk, hk1⟩ := mod_nat c (show 1 ≤ badFirsts.length by decide)
    obtain ⟨l, lm, hl⟩ := line_at hk1
    have ol := okB_ok ((Bool.and_eq_true _ _ ▸ List.all_eq_true.mp firsts_all l lm).2)
    (try first | refine hZ _ _ ?_ | refine hZn _ _ ?_); try dsimp only [tNext, gName]
    (try first | refine hZ _ _ ?_ | refine hZn _ _ ?_); (try refine seq_hide fun Z hZ => ?_); refine ⟨_, rfl, _, rfl, _, rfl, l2, _, rfl, .inl (SqL.of e6), _, _, rfl, rfl, (show (0 : Int) < ((badFirsts.map V.str).length : Int) by decide), ?_⟩
    rw [List.length_map, show c % (badFirsts.length : Int) = (k : Int) from hk]
    (try first | refine hZ _ _ ?_ | refine hZn _ _ ?_); (try refine seq_hide fun Z hZ => ?_); refine ⟨l2, _, _, _, rfl, rfl, SqL.of e6, atI_nat (j := k) hl, _, _, rfl, rfl, by rw [len_n]; have := ol.2.2; omega, ?_⟩
    rw [nl_eq]
    (try first | refine hZ _ _ ?_ | refine hZn _ _ ?_); exact q l H2 (S1.trans S2) lm

end

end W16

set_option Elab.async false
set_option linter.all false
set_option maxRecDepth 100000
namespace W16
open PySem PySem.W PyProof.Rows L2 Ww
seal L2.PE L2.PT L2.PW L2.PA L2.PS L2.PSs L2.OpR L2.CallR Ww.PX Ww.PSX
noncomputable def putAt (ts : List ITie) (k : Nat) (t : ITie) : List ITie := ts.take k ++ [t] ++ ts.drop k
theorem deeds_toI {n : Nat} {ts : List Tie} (ok : OkT n ts) {u : ITie} (h : u ∈ ts.map toI) : DeedsT n u := by
  obtain ⟨t, ht, rfl⟩ := List.mem_map.mp h
  obtain ⟨h1, h2⟩ := ok.lt t ht
  exact ⟨⟨by show (0 : Int) ≤ (t.1 : Int); omega, by show (t.1 : Int) < n; omega⟩, ⟨by show (0 : Int) ≤ (t.2.1 : Int); omega, by show (t.2.1 : Int) < n; omega⟩⟩
theorem nodup_toI {n : Nat} {ts : List Tie} (ok : OkT n ts) : ((ts.map toI).map ipr).Nodup := by
  have e : (ts.map toI).map ipr = (ts.map pr).map fun p => ((p.1 : Int), (p.2 : Int)) := by
    rw [List.map_map, List.map_map]; rfl
  rw [e]
  refine ok.nd.map _ fun p q h z => h ?_
  obtain ⟨p1, p2⟩ := p
  obtain ⟨q1, q2⟩ := q
  injection z with z1 z2
  rw [show p1 = q1 by omega, show p2 = q2 by omega]
theorem take_put {ts : List ITie} {k : Nat} {t : ITie} (hk : k ≤ ts.length) : (putAt ts k t).take k = ts.take k := by
  unfold putAt
  rw [List.append_assoc, List.take_append_of_le_length (by rw [List.length_take]; omega), List.take_take, Nat.min_self]
theorem get_put {ts : List ITie} {k : Nat} {t : ITie} (hk : k ≤ ts.length) : (putAt ts k t)[k]? = some t := by
  unfold putAt
  rw [List.append_assoc, List.getElem?_append_right (by rw [List.length_take]; omega), List.length_take, Nat.min_eq_left hk, Nat.sub_self]
  rfl
theorem len_put {ts : List ITie} {k : Nat} {t : ITie} : (putAt ts k t).length = ts.length + 1 := by
  unfold putAt
  rw [List.length_append, List.length_append, List.length_take, List.length_drop, List.length_singleton]
  omega
theorem bad_put {n : Nat} {ts : List Tie} (ok : OkT n ts) {k : Nat} (hk : k ≤ ts.length) {t : ITie} (ht : ¬ DeedsT n t) : Fault n (putAt (ts.map toI) k t) false := by
  have hk' : k ≤ (ts.map toI).length := by rw [List.length_map]; exact hk
  refine ⟨k, t, get_put hk', fun u hu => ?_, ?_, .inl ⟨rfl, ht⟩⟩
  · rw [take_put hk'] at hu
    exact deeds_toI ok (List.mem_of_mem_take hu)
  · rw [take_put hk', List.map_take]
    exact (nodup_toI ok).sublist (List.take_sublist _ _)
theorem twice_put {n : Nat} {ts : List Tie} (ok : OkT n ts) {k j : Nat} (hk : k ≤ ts.length) {o : Tie} (ho : ts[j]? = some o) {w : Int} : Fault n (putAt (ts.map toI) k ((o.1 : Int), (o.2.1 : Int), w)) true := by
  have hk' : k ≤ (ts.map toI).length := by rw [List.length_map]; exact hk
  have hj : j < ts.length := (List.getElem?_eq_some_iff.mp ho).1
  have om : toI o ∈ ts.map toI := List.mem_map.mpr ⟨o, List.mem_of_getElem? ho, rfl⟩
  have dd : DeedsT n ((o.1 : Int), (o.2.1 : Int), w) := deeds_toI (u := toI o) ok om
  have hoI : (ts.map toI)[j]? = some (toI o) := by rw [List.getElem?_map, ho]; rfl
  rcases Nat.lt_or_ge j k with c | c
  · refine ⟨k, _, get_put hk', fun u hu => ?_, ?_, .inr ⟨rfl, dd, ?_⟩⟩
    · rw [take_put hk'] at hu
      exact deeds_toI ok (List.mem_of_mem_take hu)
    · rw [take_put hk', List.map_take]
      exact (nodup_toI ok).sublist (List.take_sublist _ _)
    · rw [take_put hk']
      refine List.mem_map.mpr ⟨toI o, ?_, rfl⟩
      exact List.mem_of_getElem? (show ((ts.map toI).take k)[j]? = some (toI o) by rw [List.getElem?_take_of_lt c]; exact hoI)
  · have etk : (putAt (ts.map toI) k ((o.1 : Int), (o.2.1 : Int), w)).take (j + 1) = (ts.map toI).take k ++ [((o.1 : Int), (o.2.1 : Int), w)] ++ ((ts.map toI).drop k).take (j - k) := by
      unfold putAt
      rw [List.take_append, List.length_append, List.length_take, List.length_singleton, Nat.min_eq_left hk', List.take_of_length_le (by rw [List.length_append, List.length_take, List.length_singleton]; omega), show j + 1 - (k + 1) = j - k by omega]
    have sub : ((ts.map toI).take k ++ ((ts.map toI).drop k).take (j - k)) = (ts.map toI).take j := by
      have e : k + (j - k) = j := by omega
      rw [← List.take_add, e]
    have nin : ipr (toI o) ∉ ((ts.map toI).take j).map ipr := fun z => by
      obtain ⟨u, hu, eu⟩ := List.mem_map.mp z
      obtain ⟨i, hi, ei⟩ := List.getElem_of_mem hu
      have hij : i < j := by rw [List.length_take] at hi; omega
      have pw := List.pairwise_iff_getElem.mp (nodup_toI ok)
      have := pw i j (by rw [List.length_map, List.length_map]; omega) (by rw [List.length_map, List.length_map]; omega) hij
      have ej : ts[j] = o := by rw [List.getElem?_eq_getElem hj] at ho; exact Option.some.inj ho
      simp only [List.getElem_map] at this
      rw [List.getElem_take, List.getElem_map] at ei
      rw [ei, ej] at this
      exact this eu
    refine ⟨j + 1, toI o, ?_, fun u hu => ?_, ?_, .inr ⟨rfl, dd, ?_⟩⟩
    · unfold putAt
      rw [List.getElem?_append_right (by rw [List.length_append, List.length_take, List.length_singleton]; omega), List.length_append, List.length_take, List.length_singleton, Nat.min_eq_left hk', List.getElem?_drop, show k + (j + 1 - (k + 1)) = j by omega]
      exact hoI
    · rw [etk] at hu
      rcases List.mem_append.mp hu with z | z
      · rcases List.mem_append.mp z with z | z
        · exact deeds_toI ok (List.mem_of_mem_take z)
        · rw [List.mem_singleton.mp z]; exact dd
      · exact deeds_toI ok (List.mem_of_mem_drop (List.mem_of_mem_take z))
    · rw [etk]
      have pm : ((ts.map toI).take k ++ [((o.1 : Int), (o.2.1 : Int), w)] ++ ((ts.map toI).drop k).take (j - k)).Perm (((o.1 : Int), (o.2.1 : Int), w) :: (ts.map toI).take j) := by
        rw [← sub, List.append_assoc]
        exact List.perm_middle
      rw [(pm.map ipr).nodup_iff, List.map_cons, List.nodup_cons]
      exact ⟨nin, by rw [List.map_take]; exact (nodup_toI ok).sublist (List.take_sublist _ _)⟩
    · rw [etk]
      exact List.mem_map.mpr ⟨((o.1 : Int), (o.2.1 : Int), w), List.mem_append_left _ (List.mem_append_right _ (List.mem_singleton.mpr rfl)), rfl⟩

noncomputable def nlS (t : Str) : Str := t ++ ⟨#[10]⟩
noncomputable def jn (ls : List Str) : Str := Txt.join Str.empty (ls.map nlS)
theorem jn_eq (ls : List Str) : jn ls = Str.join ⟨#[10]⟩ (ls ++ [Str.empty]) := by
  show Builtin.Str.glued Str.empty (ls.map fun t => t ++ ⟨#[10]⟩) = _
  rw [StrLaws.glued_eq_join, join_ends]
theorem jn_split {ls : List Str} (h : ∀ t ∈ ls, LineOk t) : Txt.split (jn ls) ⟨#[10]⟩ = ls ++ [Str.empty] := split_lines fun t ht => (h t ht).1
theorem join_chars (sep : Str) : ∀ {ps : List Str} {c : Nat}, c ∈ sg (Str.join sep ps) → (∃ p ∈ ps, c ∈ sg p) ∨ c ∈ sg sep
  | [], c, h => by simp [Str.join, Str.empty] at h
  | [p], c, h => .inl ⟨p, List.mem_cons_self, h⟩
  | p :: q :: ps, c, h => by
    have h : c ∈ sg (p ++ sep ++ Str.join sep (q :: ps)) := h
    rw [sg_app, sg_app] at h
    rcases List.mem_append.mp h with h | h
    · rcases List.mem_append.mp h with h | h
      · exact .inl ⟨p, List.mem_cons_self, h⟩
      · exact .inr h
    · rcases join_chars sep h with ⟨r, hr, hc⟩ | hc
      · exact .inl ⟨r, List.mem_cons_of_mem _ hr, hc⟩
      · exact .inr hc
theorem join_asc {ls : List Str} (h : ∀ t ∈ ls, Asc t) : Asc (Str.join ⟨#[10]⟩ ls) := fun c hc => by
  rcases join_chars _ hc with ⟨p, hp, hc⟩ | hc
  · exact h p hp c hc
  · have : c = 10 := by simpa using hc
    omega
theorem jn_asc {ls : List Str} (h : ∀ t ∈ ls, LineOk t) : Asc (jn ls) := by
  rw [jn_eq]
  refine join_asc fun t ht => ?_
  rcases List.mem_append.mp ht with h1 | h1
  · exact (h t h1).2.1
  · rw [List.mem_singleton.mp h1]
    intro c hc
    simp [Str.empty] at hc
theorem jn_sum {ls : List Str} (h : ∀ t ∈ ls, LineOk t) (l : ls.length < 100) : ((ls.map nlS).map (·.length)).sum ≤ 20100 := by
  have := StrLaws.sumLen_le (B := 201) (ls.map nlS) fun y hy => by
    obtain ⟨t, ht, rfl⟩ := List.mem_map.mp hy
    unfold nlS
    rw [app_len]
    have := (h t ht).2.2
    have e : (⟨#[10]⟩ : Str).length = 1 := rfl
    omega
  rw [List.length_map] at this
  omega
theorem jn_len {ls : List Str} (h : ∀ t ∈ ls, LineOk t) (l : ls.length < 100) : (jn ls).length ≤ 20100 := by
  show (Builtin.Str.glued Str.empty (ls.map nlS)).length ≤ 20100
  rw [size_glued, show Str.empty.length = 0 from rfl, Nat.mul_zero, Nat.add_zero]
  exact jn_sum h l
noncomputable def BadLs (ls : List Str) : Prop := ∃ l0 rest, ls = l0 :: rest ∧ (parseL ("deeds" : Str) 1 l0 = none ∨ ∃ s, parseL ("deeds" : Str) 1 l0 = some [s] ∧
  ((∃ l ∈ rest, parseL ("tie" : Str) 3 l = none) ∨ ∃ (its : List ITie) (kd : Nat), rest.map (parseL ("tie" : Str) 3) = its.map (fun t => some (itri t)) ∧ its.length < 64 ∧ kd < 3 ∧ BadKind s its kd))
theorem bad_jn {ls : List Str} (ok : ∀ t ∈ ls, LineOk t) (l : ls.length < 100) (b : BadLs ls) : BadText (jn ls) :=
  ⟨ls, Str.empty, jn_split ok, l, fun p hp => by have := (ok p hp).2.2; omega, .inr (.inr ⟨rfl, b⟩)⟩
theorem fin_join {K : Frag} {H H' : Hp} {Q : VK} {l : Addr} {ls : List Str} (q : ∀ (z : Str) (H' : Hp), Same H H' → Asc z → z.length ≤ 90000 → BadText z → Q (.str z) H') (S : Same H H') (e : H' l = some (.lst ((ls.map nlS).map V.str))) (ok : ∀ t ∈ ls, LineOk t) (ln : ls.length < 100) (b : BadLs ls) : rJoin K (.str ("" : Str)) [.ref l] H' Q := by
  refine ⟨_, l, ls.map nlS, rfl, rfl, SqL.of e, ?_, ?_⟩
  · have := jn_sum ok ln
    rw [no_eq, show Str.empty.length = 0 from rfl]
    omega
  · rw [no_eq]
    exact q _ H' S (jn_asc ok) (Nat.le_trans (jn_len ok ln) (by decide)) (bad_jn ok ln b)
theorem tie_lineT (t : Tie) : tieT t = lineT ("tie" : Str) (tri t) := by rw [tie_parts]; rfl
theorem head_lineT (n : Nat) : headT n = lineT ("deeds" : Str) [(n : Int)] := by rw [head_parts]; rfl
theorem parse_head {n : Nat} (h : n ≤ 40) : parseL ("deeds" : Str) 1 (headT n) = some [(n : Int)] := by
  rw [head_lineT]
  exact parse_line (by decide +kernel) fun i hi => by rw [List.mem_singleton.mp hi]; exact ⟨by omega, by omega⟩
noncomputable def SmallT (ts : List Tie) : Prop := ∀ t ∈ ts, -(10 ^ 30) < t.2.2 ∧ t.2.2 < 10 ^ 30
theorem parse_tie {t : Tie} (h1 : t.1 < 40) (h2 : t.2.1 < 40) (h3 : -(10 ^ 30) < t.2.2 ∧ t.2.2 < 10 ^ 30) : parseL ("tie" : Str) 3 (tieT t) = some (itri (toI t)) := by
  rw [tie_lineT]
  refine parse_line (is := tri t) (by decide +kernel) fun i hi => ?_
  unfold tri at hi
  simp only [List.mem_cons, List.not_mem_nil, or_false] at hi
  rcases hi with rfl | rfl | rfl
  · exact ⟨by omega, by omega⟩
  · exact ⟨by omega, by omega⟩
  · exact h3
theorem asc_lit {x : Str} (h : (sg x).all (fun c => decide (c < 128)) = true) : Asc x := fun c hc => of_decide_eq_true (List.all_eq_true.mp h c hc)
theorem tie_ok {t : Tie} (h1 : t.1 < 40) (h2 : t.2.1 < 40) (h3 : -(10 ^ 30) < t.2.2 ∧ t.2.2 < 10 ^ 30) : LineOk (tieT t) := by
  refine ⟨tie_free t, ?_, Nat.le_trans (tie_len h1 h2 h3.1 h3.2) (by decide)⟩
  unfold tieT
  have a1 : Asc ("tie " : Str) := asc_lit (by decide +kernel)
  have a2 : Asc (" " : Str) := asc_lit (by decide +kernel)
  exact ((((a1.app (num_asc _)).app a2).app (num_asc _)).app a2).app (num_asc _)
theorem head_ok {n : Nat} (h : n ≤ 40) : LineOk (headT n) := by
  refine ⟨head_free n, ?_, Nat.le_trans (head_len h) (by decide)⟩
  unfold headT
  exact (asc_lit (by decide +kernel)).app (num_asc _)
theorem map_parse {ts : List Tie} {n : Nat} (ok : OkT n ts) (n9 : n ≤ 40) (sm : SmallT ts) : ∀ us : List Tie, (∀ t ∈ us, t ∈ ts) → (us.map tieT).map (parseL ("tie" : Str) 3) = (us.map toI).map fun t => some (itri t) := fun us hs => by
  rw [List.map_map, List.map_map]
  refine List.map_congr_left fun t ht => ?_
  have hm := hs t ht
  obtain ⟨h1, h2⟩ := ok.lt t hm
  exact parse_tie (by omega) (by omega) (sm t hm)
theorem put_parse {ts : List Tie} {n k : Nat} (ok : OkT n ts) (n9 : n ≤ 40) (sm : SmallT ts) {b : Str} {u : ITie} (hb : parseL ("tie" : Str) 3 b = some (itri u)) : ((ts.map tieT).take k ++ [b] ++ (ts.map tieT).drop k).map (parseL ("tie" : Str) 3) = (putAt (ts.map toI) k u).map fun t => some (itri t) := by
  unfold putAt
  rw [List.map_append, List.map_append, List.map_append, List.map_append, ← List.map_take, ← List.map_drop, ← List.map_take, ← List.map_drop, map_parse ok n9 sm _ (fun t ht => List.mem_of_mem_take ht), map_parse ok n9 sm _ (fun t ht => List.mem_of_mem_drop ht)]
  rw [show [b].map (parseL ("tie" : Str) 3) = [u].map fun t => some (itri t) by rw [List.map_singleton, List.map_singleton, hb]]
theorem cut_loS {ys : List Str} {k : Nat} (h : k ≤ ys.length) : cutV (ys.map V.str) none (some (k : Int)) = (ys.take k).map V.str := by
  unfold cutV
  rw [HT.sIx_none, HT.sIx_nat, List.length_map, Nat.min_eq_left h, List.map_take, List.drop_zero, Nat.sub_zero]
theorem cut_hiS {ys : List Str} {k : Nat} (h : k ≤ ys.length) : cutV (ys.map V.str) (some (k : Int)) none = (ys.drop k).map V.str := by
  unfold cutV
  rw [HT.sIx_none, HT.sIx_nat, List.length_map, Nat.min_eq_left h, List.map_drop]
  refine List.take_of_length_le ?_
  rw [List.length_drop, List.length_map]; exact Nat.le_refl _
theorem ex_put16 {K : Frag} {σ : L2.St} {H : Hp} {Q : VK} {l : Addr} {ys : List Str} {k j : Nat} {hs b : Str} (h1 : σ[1]? = some (some (.str hs))) (h3 : σ[3]? = some (some (.ref l))) (h5 : σ[5]? = some (some (.int (k : Int)))) (hj : σ[j]? = some (some (.str b))) (hl : H l = some (.lst (ys.map V.str))) (hk : k ≤ ys.length) (sz : ys.length < 1000)
    (h : ∀ l' H3, Same H H3 → H3 l' = some (.lst ((hs :: (ys.take k ++ [b] ++ ys.drop k)).map V.str)) → Q (.ref l') H3) :
    tOp rCat (tOp rCat (tOp rCat (tLst (tCons (tVar 1) tNil)) (tSl (rSlL K) (tVar 3) tNoPart (tPart (tVar 5)))) (tLst (tCons (tVar j) tNil))) (tSl (rSlL K) (tVar 3) (tPart (tVar 5)) tNoPart) σ H Q := by
  have line := line1000
  refine ⟨_, h1, by show 1 ≤ sizeLine; decide, fun p0 hp0 => ?_⟩
  have S0 : Same H (upd H p0 (.lst [V.str hs])) := Same.new hp0
  have e0 : (upd H p0 (.lst [V.str hs])) p0 = some (.lst [V.str hs]) := upd_same
  generalize upd H p0 (.lst [V.str hs]) = H0 at S0 e0 ⊢
  refine ⟨_, h3, _, h5, _, rfl, l, _, rfl, SqL.of (S0 _ _ hl), fun p1 hp1 => ?_⟩
  rw [cut_loS hk]
  have S1 : Same H0 (upd H0 p1 (.lst ((ys.take k).map V.str))) := Same.new hp1
  have e1 : (upd H0 p1 (.lst ((ys.take k).map V.str))) p1 = some (.lst ((ys.take k).map V.str)) := upd_same
  generalize upd H0 p1 (.lst ((ys.take k).map V.str)) = H1 at S1 e1 ⊢
  refine ⟨p0, p1, _, _, rfl, rfl, S1 _ _ e0, e1, by rw [List.length_map, List.length_take]; simp only [List.length_singleton]; omega, fun p2 hp2 => ?_⟩
  have S2 : Same H1 (upd H1 p2 (.lst ([V.str hs] ++ (ys.take k).map V.str))) := Same.new hp2
  have e2 : (upd H1 p2 (.lst ([V.str hs] ++ (ys.take k).map V.str))) p2 = some (.lst ([V.str hs] ++ (ys.take k).map V.str)) := upd_same
  generalize upd H1 p2 (.lst ([V.str hs] ++ (ys.take k).map V.str)) = H2 at S2 e2 ⊢
  refine ⟨_, hj, by show 1 ≤ sizeLine; decide, fun p3 hp3 => ?_⟩
  have S3 : Same H2 (upd H2 p3 (.lst [V.str b])) := Same.new hp3
  have e3 : (upd H2 p3 (.lst [V.str b])) p3 = some (.lst [V.str b]) := upd_same
  generalize upd H2 p3 (.lst [V.str b]) = H3 at S3 e3 ⊢
  refine ⟨p2, p3, _, _, rfl, rfl, S3 _ _ e2, e3, by rw [List.length_append, List.length_map, List.length_take]; simp only [List.length_singleton]; omega, fun p4 hp4 => ?_⟩
  have S4 : Same H3 (upd H3 p4 (.lst ([V.str hs] ++ (ys.take k).map V.str ++ [V.str b]))) := Same.new hp4
  have e4 : (upd H3 p4 (.lst ([V.str hs] ++ (ys.take k).map V.str ++ [V.str b]))) p4 = some (.lst ([V.str hs] ++ (ys.take k).map V.str ++ [V.str b])) := upd_same
  generalize upd H3 p4 (.lst ([V.str hs] ++ (ys.take k).map V.str ++ [V.str b])) = H4 at S4 e4 ⊢
  have S04 := (((S0.trans S1).trans S2).trans S3).trans S4
  refine ⟨_, h3, _, h5, _, rfl, l, _, rfl, SqL.of (S04 _ _ hl), fun p5 hp5 => ?_⟩
  rw [cut_hiS hk]
  have S5 : Same H4 (upd H4 p5 (.lst ((ys.drop k).map V.str))) := Same.new hp5
  refine ⟨p4, p5, _, _, rfl, rfl, S5 _ _ e4, upd_same, by simp only [List.length_append, List.length_map, List.length_take, List.length_drop, List.length_singleton]; omega, fun p6 hp6 => ?_⟩
  refine h p6 _ ((S04.trans S5).trans (Same.new hp6)) ?_
  rw [upd_same]
  simp only [List.map_cons, List.map_append, List.map_nil, List.append_assoc, List.cons_append, List.nil_append]
inductive I_spSpoil16 (K : Frag) (vs : List V) (H : Hp) (Q : VK) : Prop
  | mk (n : Nat) (lr ll : Addr) (as : List Addr) (ts : List Tie) (c : Int) (h1 : vs = [.int n, .str (nlS (headT n)), .ref lr, .ref ll, .int c]) (h2 : 1 ≤ n) (h3 : n ≤ 9) (h4 : H lr = some (.lst (as.map V.ref))) (h5 : TupsAt H as (ts.map tri)) (h6 : OkT n ts) (h7 : Covers n ts) (h8 : ts.length ≤ 30) (h9 : SmallT ts) (h10 : H ll = some (.lst (((ts.map tieT).map nlS).map V.str))) (h11 : ∀ (z : Str) (H' : Hp), Same H H' → Asc z → z.length ≤ 90000 → BadText z → Q (.str z) H')
noncomputable def spSpoil16 (K : Frag) : Sp := fun vs H Q _ => I_spSpoil16 K vs H Q
theorem str_1 : (" 1\n" : Str) = (" " : Str) ++ numT 1 ++ ⟨#[10]⟩ := by decide +kernel
theorem str_01 : (" 0 1\n" : Str) = (" " : Str) ++ numT 0 ++ (" " : Str) ++ numT 1 ++ ⟨#[10]⟩ := by decide +kernel
theorem str_t0 : ("tie 0 " : Str) = ("tie " : Str) ++ numT 0 ++ (" " : Str) := by decide +kernel
theorem odd_1 (n : Nat) : ("tie 0 " : Str) ++ numT (n : Int) ++ (" 1\n" : Str) = nlS (tieT (0, n, 1)) := by
  unfold nlS tieT
  rw [str_1, str_t0]
  simp only [Str.append_assoc]
  rfl
theorem odd_2 (n : Nat) : ("tie " : Str) ++ numT (n : Int) ++ (" 0 1\n" : Str) = nlS (tieT (n, 0, 1)) := by
  unfold nlS tieT
  rw [str_01]
  simp only [Str.append_assoc]
  rfl
theorem len_l1 : (" 1\n" : Str).length = 3 := by decide +kernel
theorem len_l2 : (" 0 1\n" : Str).length = 5 := by decide +kernel
theorem len_l3 : ("tie 0 " : Str).length = 6 := by decide +kernel
theorem len_l4 : ("tie " : Str).length = 4 := by decide +kernel
theorem slice_last {x : Str} {l : List Nat} {c : Nat} (h : sg x = l ++ [c]) : sg (StrLaws.sliceText x none (some (-1))) = l := by
  have hl : x.cps.toList.length = l.length + 1 := by show (sg x).length = _; rw [h, List.length_append]; rfl
  have hx : x.length = l.length + 1 := by rw [← sg_len]; exact hl
  have e : StrLaws.sliceText x none (some (-1)) = StrLaws.sliceText x none (some ((-1 : Int) + x.length)) := by
    unfold StrLaws.sliceText
    rw [StrLaws.sliceIdx_neg_hi none x.length (by decide) (by omega)]
  rw [e, StrLaws.sliceText_to ⟨by omega, by omega⟩]
  show ((sg x).drop 0).take _ = l
  rw [List.drop_zero, h, hx, show ((-1 : Int) + ((l.length + 1 : Nat) : Int) - 0).toNat = l.length by omega, List.take_left]
theorem sg_jn_snoc (ls : List Str) (h : ls ≠ []) : sg (jn ls) = sg (Str.join ⟨#[10]⟩ ls) ++ [10] := by
  rw [jn_eq]
  induction ls with
  | nil => exact absurd rfl h
  | cons a r ih =>
    cases r with
    | nil =>
      show sg (a ++ ⟨#[10]⟩ ++ Str.empty) = sg a ++ [10]
      rw [Str.append_empty, sg_app]
    | cons b r =>
      show sg (a ++ ⟨#[10]⟩ ++ Str.join ⟨#[10]⟩ ((b :: r) ++ [Str.empty])) = sg (a ++ ⟨#[10]⟩ ++ Str.join ⟨#[10]⟩ (b :: r)) ++ [10]
      rw [sg_app, ih (by simp), sg_app (a ++ ⟨#[10]⟩), List.append_assoc]
theorem tie_ne (t : Tie) : tieT t ≠ Str.empty := fun z => by
  have := congrArg Str.length z
  unfold tieT at this
  simp only [app_len, len_l4] at this
  have e : Str.empty.length = 0 := rfl
  omega
theorem cut_bad {ls : List Str} {l : Str} (ok : ∀ t ∈ ls ++ [l], LineOk t) (ln : ls.length < 99) (hl : l ≠ Str.empty) : Asc (StrLaws.sliceText (jn (ls ++ [l])) none (some (-1))) ∧ (StrLaws.sliceText (jn (ls ++ [l])) none (some (-1))).length ≤ 90000 ∧ BadText (StrLaws.sliceText (jn (ls ++ [l])) none (some (-1))) := by
  have lt : (ls ++ [l]).length < 100 := by rw [List.length_append, List.length_singleton]; omega
  have ne : ls ++ [l] ≠ [] := by simp
  have e0 := sg_jn_snoc (ls ++ [l]) ne
  have e := slice_last e0
  have e1 : StrLaws.sliceText (jn (ls ++ [l])) none (some (-1)) = Str.join ⟨#[10]⟩ (ls ++ [l]) := sg_ext e
  rw [e1]
  refine ⟨join_asc fun t ht => (ok t ht).2.1, ?_, ls, l, split_parts ne fun t ht => (ok t ht).1, by omega, fun t ht => by have := (ok t (List.mem_append_left _ ht)).2.2; omega, .inl hl⟩
  have h1 := jn_len ok lt
  rw [← sg_len, e0, List.length_append, sg_len] at h1
  omega
theorem snoc_of {α : Type} {xs : List α} (h : 1 ≤ xs.length) : ∃ ys y, xs = ys ++ [y] := by
  cases hx : xs.reverse with
  | nil => rw [List.reverse_eq_nil_iff] at hx; rw [hx] at h; simp at h
  | cons y ys => exact ⟨ys.reverse, y, by rw [← List.reverse_reverse xs, hx, List.reverse_cons]⟩
theorem range_filter {α β : Type} (ts : List α) (d : α) (P : α → Bool) (f : α → β) : ((List.range ts.length).filter fun i => P (ts.getD i d)).map (fun i => f (ts.getD i d)) = (ts.filter P).map f := by
  have e : (List.range ts.length).map (fun i => ts.getD i d) = ts := by
    refine List.ext_getElem (by simp) fun i h1 h2 => ?_
    simp [h2]
  have e2 : (ts.filter P).map f = (((List.range ts.length).map (fun i => ts.getD i d)).filter P).map f := by rw [e]
  rw [e2, List.filter_map, List.map_map]
  rfl
theorem jn_one (x : Str) : jn [x] = nlS x := by
  show Builtin.Str.glued Str.empty [nlS x] = _
  rw [StrLaws.glued_eq_join]
  rfl
theorem one_bad {z : Str} (h : LineOk z) : BadText z := by
  refine ⟨[], z, ?_, by decide, fun p hp => (by cases hp), .inr (.inl rfl)⟩
  exact split_parts (ps := [z]) (by simp) fun p hp => by rw [List.mem_singleton.mp hp]; exact h.1
theorem no_tie_head (t : Tie) : parseL ("deeds" : Str) 1 (tieT t) = none := by
  rw [tie_lineT]
  exact parse_word (by decide +kernel) (by decide +kernel)
theorem nl_jn : ("\n" : Str) = jn [Str.empty] := by rw [jn_one]; decide +kernel
theorem ok_e : LineOk Str.empty := okB_ok (by decide +kernel)
theorem ok_d1 : LineOk ("deeds 1" : Str) := okB_ok (by decide +kernel)
theorem parse_e : parseL ("deeds" : Str) 1 Str.empty = none := by decide +kernel

end W16

set_option Elab.async false
set_option linter.all false
set_option maxRecDepth 100000
namespace W16
open PySem PySem.W PyProof.Rows L2 Ww
seal L2.PE L2.PT L2.PW L2.PA L2.PS L2.PSs L2.OpR L2.CallR Ww.PX Ww.PSX
section
variable {P : Program} {w : World} {K : Frag} {mg : Str → Option Value} {base : Heap}
noncomputable abbrev s_spoiled : Stmt := top 25
theorem sc_spoiled : FnScope ["size", "head", "rows", "lines", "cell", "at", "way", "again", "odd", "gone", "bad"] ["size", "head", "rows", "lines", "cell"] (defScope s_spoiled) := ⟨rfl, rfl, rfl, by decide +kernel, rfl, by decide +kernel, by decide +kernel⟩
-- size=0, head=1, rows=2c, lines=3c, cell=4, at=5, way=6, again=7, odd=8, gone=9c, bad=10
set_option maxHeartbeats 0 in
theorem ok_spoiled {f C  : Addr} {fd : FuncData} (F : L2.Fun K "_law_spoiled" "_law_spoiled" s_spoiled f fd) (nb : NB mg) (nb2 : NB2 mg) (T : WTxt K mg C) (D__law_bad_first : DefOk P w K mg base CX0 1 "_law_bad_first" ["cell"] (spBadFirst K)) (D__law_bad_line : DefOk P w K mg base CX0 1 "_law_bad_line" ["cell"] (spBadLine K)) : FnOk P w K mg base CX0 2 f fd ["size", "head", "rows", "lines", "cell"] (spSpoil16 K) := by
  obtain ⟨b_len, b_range, b_list, b_sorted, b_isinstance, b_all, b_bool, b_int, b_tuple, b_enumerate, b_reversed⟩ := nb
  obtain ⟨b_max, b_min, b_abs, b_zip, b_sum, b_str, b_set⟩ := nb2
  have line := line1000
  have nd := sc_spoiled.nd
  refine F.ok sc_spoiled (fun vs H Q E h => ?_) (fun cdv A outer s H vs Q E hr h => ?_)
  · obtain ⟨n, lr, ll, as, ts, c, rfl, _⟩ := h
    rfl
  · obtain ⟨n, lr, ll, as, ts, c, rfl, n1, n9, hlr, ht, ok, cov, t30, sm, hll, q⟩ := h
    have hu := hu_of hr
    have n40 : n ≤ 40 := by omega
    have la : as.length = ts.length := by rw [ht.len, List.length_map]
    have tpos : 1 ≤ ts.length := by
      obtain ⟨t, h, _⟩ := cov 0 (by omega)
      exact List.length_pos_of_mem h
    have tok : ∀ t ∈ ts, LineOk (tieT t) := fun t h => tie_ok (by have := ok.lt t h; omega) (by have := ok.lt t h; omega) (sm t h)
    have lok : ∀ x ∈ ts.map tieT, LineOk x := fun x hx => by
      obtain ⟨t, h, rfl⟩ := List.mem_map.mp hx
      exact tok t h
    have hok := head_ok n40
    have llen : ((ts.map tieT).map nlS).length = ts.length := by rw [List.length_map, List.length_map]
    have pts := map_parse ok n40 sm ts fun t h => h
    have fits : ∀ {u : ITie} {k : Nat}, (putAt (ts.map toI) k u).length < 64 := fun {u k} => by rw [len_put, List.length_map]; omega
    have putOk : ∀ {b : Str} {k : Nat}, LineOk b → ∀ x ∈ headT n :: ((ts.map tieT).take k ++ [b] ++ (ts.map tieT).drop k), LineOk x := fun {b k} hb x hx => by
      rcases List.mem_cons.mp hx with rfl | hx
      · exact hok
      · rcases List.mem_append.mp hx with hx | hx
        · rcases List.mem_append.mp hx with hx | hx
          · exact lok x (List.mem_of_mem_take hx)
          · rw [List.mem_singleton.mp hx]; exact hb
        · exact lok x (List.mem_of_mem_drop hx)
    have putLen : ∀ {b : Str} {k : Nat}, (headT n :: ((ts.map tieT).take k ++ [b] ++ (ts.map tieT).drop k)).length < 100 := fun {b k} => by
      simp only [List.length_cons, List.length_append, List.length_take, List.length_drop, List.length_map, List.length_nil]
      omega
    have putMap : ∀ {b : Str} {k : Nat}, nlS (headT n) :: (((ts.map tieT).map nlS).take k ++ [nlS b] ++ ((ts.map tieT).map nlS).drop k) = (headT n :: ((ts.map tieT).take k ++ [b] ++ (ts.map tieT).drop k)).map nlS := fun {b k} => by
      simp only [List.map_cons, List.map_append, List.map_take, List.map_drop, List.map_nil]
    (try first | refine hZ _ _ ?_ | refine hZn _ _ ?_); refine ⟨_, (pss_cons (ps_set (i := 5) nd rfl (Or.inl rfl) (pe_op op_mod (pe_op op_fdiv (pv 4) pe_int) (pe_op op_add (pe_callB (call_lenK (K := K) rfl) rfl b_len bb_len (pa_cons (pv 3) pa_nil)) pe_int)))
      (pss_cons (ps_set (i := 6) nd rfl (Or.inl rfl) (pe_op op_mod (pv 4) pe_int))
      (pss_cons (ps_if (pt_cmpR op_eq (pv 6) pe_int (nomark _)) (pss_one (ps_ret (pe_bmK (K := K) rfl PySem.F.plainAttrs_str PySem.F.slot_str_join PySem.F.type_str_join (mt_join (K := K) rfl) pe_str (pa_cons (pe_op op_cat (pe_lst (pa_cons (pe_def D__law_bad_first pass0 hr (by decide) rfl (pa_cons (pe_op op_fdiv (pv 4) pe_int) pa_nil)) pa_nil)) (pv 3)) pa_nil)))) pss_nil)
      (pss_cons (ps_if (pt_cmpR op_eq (pv 6) pe_int (nomark _)) (pss_one (ps_ret (pe_slice sl_str (pe_bmK (K := K) rfl PySem.F.plainAttrs_str PySem.F.slot_str_join PySem.F.type_str_join (mt_join (K := K) rfl) pe_str (pa_cons (pe_op op_cat (pe_lst (pa_cons (pv 1) pa_nil)) (pv 3)) pa_nil)) po_none (po_some (pe_un un_neg pe_int))))) pss_nil)
      (pss_cons (ps_if (pt_cmpR op_eq (pv 6) pe_int (nomark _)) (pss_cons (ps_set (i := 7) nd rfl (Or.inl rfl) (pe_ix (ix_listK (K := K) rfl) (pv 3) (pe_op op_mod (pe_op op_fdiv (pv 4) pe_int) (pe_callB (call_lenK (K := K) rfl) rfl b_len bb_len (pa_cons (pv 3) pa_nil))) (fun _ _ => rfl)))
      (pss_one (ps_ret (pe_bmK (K := K) rfl PySem.F.plainAttrs_str PySem.F.slot_str_join PySem.F.type_str_join (mt_join (K := K) rfl) pe_str (pa_cons (pe_op op_cat (pe_op op_cat (pe_op op_cat (pe_lst (pa_cons (pv 1) pa_nil)) (pe_slice (sl_listK (K := K) rfl) (pv 3) po_none (po_some (pv 5)))) (pe_lst (pa_cons (pv 7) pa_nil))) (pe_slice (sl_listK (K := K) rfl) (pv 3) (po_some (pv 5)) po_none)) pa_nil))))) pss_nil)
      (pss_cons (ps_if (pt_cmpR op_eq (pv 6) pe_int (nomark _)) (pss_cons (ps_set (i := 8) nd rfl (Or.inl rfl) (pe_ix (ix_listK (K := K) rfl) (pe_lst (pa_cons (pe_op op_add_str (pe_op op_add_str pe_str (pe_callTy call_str_int rfl b_str bb_str (pa_cons (pv 0) pa_nil))) pe_str) (pa_cons (pe_op op_add_str (pe_op op_add_str pe_str (pe_callTy call_str_int rfl b_str bb_str (pa_cons (pv 0) pa_nil))) pe_str) pa_nil))) (pe_op op_mod (pe_op op_fdiv (pv 4) pe_int) pe_int) (fun _ _ => rfl)))
      (pss_one (ps_ret (pe_bmK (K := K) rfl PySem.F.plainAttrs_str PySem.F.slot_str_join PySem.F.type_str_join (mt_join (K := K) rfl) pe_str (pa_cons (pe_op op_cat (pe_op op_cat (pe_op op_cat (pe_lst (pa_cons (pv 1) pa_nil)) (pe_slice (sl_listK (K := K) rfl) (pv 3) po_none (po_some (pv 5)))) (pe_lst (pa_cons (pv 8) pa_nil))) (pe_slice (sl_listK (K := K) rfl) (pv 3) (po_some (pv 5)) po_none)) pa_nil))))) pss_nil)
      (pss_cons (ps_if (pt_cmpR op_eq (pv 6) pe_int (nomark _)) (pss_cons (ps_set (i := 9) nd rfl (Or.inr rfl) (pe_op op_mod (pe_op op_fdiv (pv 4) pe_int) (pv 0)))
      (pss_one (ps_ret (pe_bmK (K := K) rfl PySem.F.plainAttrs_str PySem.F.slot_str_join PySem.F.type_str_join (mt_join (K := K) rfl) pe_str (pa_cons (pe_op op_cat (pe_lst (pa_cons (pv 1) pa_nil)) (pe_compD (CompScopeD.of (N' := ["k", "lines", "gone", "rows"]) (cap := [none, some 3, some 9, some 2]) (by rfl)) rfl (pi_range1 rfl b_range (pa_cons (pe_callB (call_lenK (K := K) rfl) rfl b_len bb_len (pa_cons (pv 3) pa_nil)) pa_nil)) (by decide +kernel) (by intro cl C s₀ H₀ ex ndc; refine ⟨?_, ?_, ?_⟩; exact (pg_name' 0 ndc rfl rfl); exact (pts_one (pt_cmpR op_ne (pe_ix (ix_tupK (K := K) rfl) (pe_ix (ix_listK (K := K) rfl) (pv 3) (pv 0) (fun _ _ => rfl)) pe_int (fun _ _ => rfl)) (pv 2) (nomark _))); exact (pe_ix (ix_listK (K := K) rfl) (pv 1) (pv 0) (fun _ _ => rfl))))) pa_nil))))) pss_nil)
      (pss_cons (ps_if (pt_cmpR op_eq (pv 6) pe_int (nomark _)) (pss_one (ps_ret (pe_bmK (K := K) rfl PySem.F.plainAttrs_str PySem.F.slot_str_join PySem.F.type_str_join (mt_join (K := K) rfl) pe_str (pa_cons (pe_op op_cat (pe_lst (pa_cons (pe_ix (ix_listK (K := K) rfl) (pv 3) pe_int (fun _ _ => rfl)) (pa_cons (pv 1) pa_nil))) (pe_slice (sl_listK (K := K) rfl) (pv 3) (po_some pe_int) po_none)) pa_nil)))) pss_nil)
      (pss_cons (ps_if (pt_cmpR op_eq (pv 6) pe_int (nomark _)) (pss_one (ps_ret (pe_ix (ix_listK (K := K) rfl) (pe_lst (pa_cons pe_str (pa_cons pe_str (pa_cons pe_str (pa_cons (pe_bmK (K := K) rfl PySem.F.plainAttrs_str PySem.F.slot_str_join PySem.F.type_str_join (mt_join (K := K) rfl) pe_str (pa_cons (pv 3) pa_nil)) (pa_cons (pv 1) pa_nil)))))) (pe_op op_mod (pe_op op_fdiv (pv 4) pe_int) pe_int) (fun _ _ => rfl)))) pss_nil)
      (pss_cons (ps_set (i := 10) nd rfl (Or.inl rfl) (pe_def D__law_bad_line pass0 hr (by decide) rfl (pa_cons (pe_op op_fdiv (pv 4) pe_int) pa_nil)))
      (pss_one (ps_ret (pe_bmK (K := K) rfl PySem.F.plainAttrs_str PySem.F.slot_str_join PySem.F.type_str_join (mt_join (K := K) rfl) pe_str (pa_cons (pe_op op_cat (pe_op op_cat (pe_op op_cat (pe_lst (pa_cons (pv 1) pa_nil)) (pe_slice (sl_listK (K := K) rfl) (pv 3) po_none (po_some (pv 5)))) (pe_lst (pa_cons (pv 10) pa_nil))) (pe_slice (sl_listK (K := K) rfl) (pv 3) (po_some (pv 5)) po_none)) pa_nil)))))))))))))), ?_⟩
    -- size=0, head=1, rows=2, lines=3, cell=4, at=5, way=6, again=7, odd=8, gone=9, bad=10
    obtain ⟨k, hk, hk1⟩ := mod_nat (c / 9) (show 1 ≤ ts.length + 1 by omega)
    (try first | refine hZ _ _ ?_ | refine hZn _ _ ?_); (try refine seq_hide fun Z hZ => ?_); refine ⟨_, rfl, _, _, rfl, rfl, ⟨by decide, by decide⟩, _, rfl, ll, _, rfl, .inl (SqL.of hll), _, _, rfl, rfl, _, _, rfl, rfl, by rw [List.length_map]; omega, ?_⟩
    (try first | refine hZ _ _ ?_ | refine hZn _ _ ?_); try dsimp only [tNext, gName]
    rw [List.length_map, llen, show c / 9 % ((ts.length : Int) + 1) = (k : Int) from hk]
    have kl : k ≤ ((ts.map tieT).map nlS).length := by rw [llen]; omega
    obtain ⟨wy, hwy, hwy1⟩ := mod_nat c (show 1 ≤ 9 by decide)
    (try first | refine hZ _ _ ?_ | refine hZn _ _ ?_); (try refine seq_hide fun Z hZ => ?_); refine ⟨_, rfl, _, _, rfl, rfl, (show (0 : Int) < 9 by decide), ?_⟩
    (try first | refine hZ _ _ ?_ | refine hZn _ _ ?_); try dsimp only [tNext, gName]
    rw [show c % 9 = (wy : Int) from hwy]
    -- way == 0
    (try first | refine hZ _ _ ?_ | refine hZn _ _ ?_); (try refine seq_hide fun Z hZ => ?_); refine ⟨_, rfl, rfl, _, rfl, ?_⟩
    by_cases w0 : wy = 0
    · subst w0
      rw [decide_eq_true (show V.int ((0 : Nat) : Int) = V.int 0 from rfl)]
      refine iteT ?_
      (try first | refine hZ _ _ ?_ | refine hZn _ _ ?_); (try refine seq_hide fun Z hZ => ?_); refine ⟨rfl, _, rfl, _, _, rfl, rfl, ⟨by decide, by decide⟩, c / 9, rfl, fun l0 H1 S1 lm => ?_⟩
      (try first | refine hZ _ _ ?_ | refine hZn _ _ ?_); (try refine seq_hide fun Z hZ => ?_); refine ⟨by show 1 ≤ sizeLine; decide, fun p0 hp0 => ?_⟩
      (try first | refine hZ _ _ ?_ | refine hZn _ _ ?_); (try refine seq_hide fun Z hZ => ?_); refine ⟨_, rfl, p0, ll, _, _, rfl, rfl, upd_same, Same.new hp0 _ _ (S1 _ _ hll), by rw [List.length_map, llen]; simp only [List.length_singleton]; omega, fun lj hlj => ?_⟩
      have hb := List.all_eq_true.mp firsts_all l0 lm
      rw [Bool.and_eq_true] at hb
      have l0k := okB_ok hb.2
      refine fin_join (ls := l0 :: ts.map tieT) q ((S1.trans (Same.new hp0)).trans (Same.new hlj)) (by rw [upd_same]; rfl) (fun x hx => (List.mem_cons.mp hx).elim (fun e => e ▸ l0k) (lok x)) (by rw [List.length_cons, List.length_map]; omega) ⟨l0, _, rfl, ?_⟩
      have hb1 := hb.1
      unfold badF at hb1
      cases hp : parseL ("deeds" : Str) 1 l0 with
      | none => exact .inl rfl
      | some is =>
        rw [hp] at hb1
        match is, hb1 with
        | [s0], hb1 =>
          simp only [Bool.or_eq_true, decide_eq_true_eq] at hb1
          exact .inr ⟨s0, rfl, .inr ⟨ts.map toI, 0, pts, by rw [List.length_map]; omega, by decide, .inl ⟨rfl, hb1⟩⟩⟩
    rw [decide_eq_false (by intro z; injection z with z; omega)]
    refine iteF ?_
    -- way == 1
    (try first | refine hZ _ _ ?_ | refine hZn _ _ ?_); (try refine seq_hide fun Z hZ => ?_); refine ⟨_, rfl, rfl, _, rfl, ?_⟩
    by_cases w1 : wy = 1
    · subst w1
      rw [decide_eq_true (show V.int ((1 : Nat) : Int) = V.int 1 from rfl)]
      refine iteT ?_
      (try first | refine hZ _ _ ?_ | refine hZn _ _ ?_); (try refine seq_hide fun Z hZ => ?_); refine ⟨rfl, _, rfl, by show 1 ≤ sizeLine; decide, fun p0 hp0 => ?_⟩
      (try first | refine hZ _ _ ?_ | refine hZn _ _ ?_); (try refine seq_hide fun Z hZ => ?_); refine ⟨_, rfl, p0, ll, _, _, rfl, rfl, upd_same, Same.new hp0 _ _ hll, by rw [List.length_map, llen]; simp only [List.length_singleton]; omega, fun lj hlj => ?_⟩
      (try first | refine hZ _ _ ?_ | refine hZn _ _ ?_); (try refine seq_hide fun Z hZ => ?_); refine ⟨_, lj, (headT n :: ts.map tieT).map nlS, rfl, rfl, SqL.of (by rw [upd_same]; rfl), ?_, ?_⟩
      · have := jn_sum (ls := headT n :: ts.map tieT) (fun x hx => (List.mem_cons.mp hx).elim (fun e => e ▸ hok) (lok x)) (by rw [List.length_cons, List.length_map]; omega)
        rw [no_eq, show Str.empty.length = 0 from rfl]
        omega
      rw [no_eq]
      show _
      obtain ⟨ys, y, ey⟩ := snoc_of tpos
      have em : headT n :: ts.map tieT = (headT n :: ys.map tieT) ++ [tieT y] := by rw [ey, List.map_append]; rfl
      obtain ⟨c1, c2, c3⟩ := cut_bad (ls := headT n :: ys.map tieT) (l := tieT y) (em ▸ fun x hx => (List.mem_cons.mp hx).elim (fun e => e ▸ hok) (lok x)) (by rw [ey, List.length_append, List.length_singleton] at t30; rw [List.length_cons, List.length_map]; omega) (tie_ne y)
      rw [← em] at c1 c2 c3
      (try first | refine hZ _ _ ?_ | refine hZn _ _ ?_); (try refine seq_hide fun Z hZ => ?_); refine ⟨_, rfl, _, rfl, _, rfl, Nat.le_trans c2 (Nat.le_trans (by decide) line), q _ _ ((Same.new hp0).trans (Same.new hlj)) c1 c2 c3⟩
    rw [decide_eq_false (by intro z; injection z with z; omega)]
    refine iteF ?_
    -- way == 2
    (try first | refine hZ _ _ ?_ | refine hZn _ _ ?_); (try refine seq_hide fun Z hZ => ?_); refine ⟨_, rfl, rfl, _, rfl, ?_⟩
    by_cases w2 : wy = 2
    · subst w2
      rw [decide_eq_true (show V.int ((2 : Nat) : Int) = V.int 2 from rfl)]
      refine iteT ?_
      obtain ⟨j, hj, hj1⟩ := mod_nat (c / 171) tpos
      have ho : ts[j]? = some ts[j] := List.getElem?_eq_getElem hj1
      have om : ts[j] ∈ ts := List.getElem_mem hj1
      generalize ts[j] = o at ho om
      (try first | refine hZ _ _ ?_ | refine hZn _ _ ?_); (try refine seq_hide fun Z hZ => ?_); refine ⟨_, rfl, _, rfl, _, _, rfl, rfl, ⟨by decide, by decide⟩, _, rfl, ll, _, rfl, .inl (SqL.of hll), _, _, rfl, rfl, (show (0 : Int) < ((((ts.map tieT).map nlS).map V.str).length : Int) by rw [List.length_map, llen]; omega), ?_⟩
      rw [List.length_map, llen, show c / 171 % (ts.length : Int) = (j : Int) from hj]
      (try first | refine hZ _ _ ?_ | refine hZn _ _ ?_); (try refine seq_hide fun Z hZ => ?_); refine ⟨ll, _, _, _, rfl, rfl, SqL.of hll, atI_nat (j := j) (v := V.str (nlS (tieT o))) (by rw [List.getElem?_map, List.getElem?_map, List.getElem?_map, ho]; rfl), ?_⟩
      (try first | refine hZ _ _ ?_ | refine hZn _ _ ?_); try dsimp only [tNext, gName]
      (try first | refine hZ _ _ ?_ | refine hZn _ _ ?_); (try refine seq_hide fun Z hZ => ?_); refine ⟨rfl, ?_⟩
      refine ex_put16 (ys := (ts.map tieT).map nlS) (k := k) (j := 7) (hs := nlS (headT n)) (b := nlS (tieT o)) rfl rfl rfl rfl hll kl (by rw [llen]; omega) fun l' H3 S3 e3 => ?_
      exact fin_join (ls := headT n :: ((ts.map tieT).take k ++ [tieT o] ++ (ts.map tieT).drop k)) q S3 (by rw [e3, putMap]) (putOk (tok o om)) putLen ⟨headT n, _, rfl, .inr ⟨n, parse_head n40, .inr ⟨putAt (ts.map toI) k (toI o), 1, put_parse ok n40 sm (parse_tie (by have := ok.lt o om; omega) (by have := ok.lt o om; omega) (sm o om)), fits, by decide, .inr ⟨by omega, by omega, .inr (.inl ⟨rfl, twice_put ok (by omega) ho⟩)⟩⟩⟩⟩
    rw [decide_eq_false (by intro z; injection z with z; omega)]
    refine iteF ?_
    -- way == 3
    (try first | refine hZ _ _ ?_ | refine hZn _ _ ?_); (try refine seq_hide fun Z hZ => ?_); refine ⟨_, rfl, rfl, _, rfl, ?_⟩
    by_cases w3 : wy = 3
    · subst w3
      rw [decide_eq_true (show V.int ((3 : Nat) : Int) = V.int 3 from rfl)]
      refine iteT ?_
      obtain ⟨k2, hk2, hk21⟩ := mod_nat (c / 171) (show 1 ≤ 2 by decide)
      have nl31 : (numT (n : Int)).length ≤ 31 := num_len (by omega) (by omega)
      have lg : (n : Int).natAbs.log2 < 1920 := log_ok (by omega) (by omega)
      obtain ⟨od, hod, nod, od1, od2, od3⟩ : ∃ od : Tie, atI [V.str (("tie 0 " : Str) ++ numT (n : Int) ++ (" 1\n" : Str)), V.str (("tie " : Str) ++ numT (n : Int) ++ (" 0 1\n" : Str))] (c / 171 % 2) = some (V.str (nlS (tieT od))) ∧ ¬ DeedsT n (toI od) ∧ od.1 < 40 ∧ od.2.1 < 40 ∧ od.2.2 = 1 := by
        rw [show c / 171 % 2 = (k2 : Int) from hk2, odd_1, odd_2]
        rcases (show k2 = 0 ∨ k2 = 1 by omega) with rfl | rfl
        · (try first | refine hZ _ _ ?_ | refine hZn _ _ ?_); exact ⟨(0, n, 1), atI_nat (j := 0) rfl, fun z => by have h := z.2.2; exact absurd h (Int.lt_irrefl _), by show 0 < 40; omega, by show n < 40; omega, rfl⟩
        · (try first | refine hZ _ _ ?_ | refine hZn _ _ ?_); exact ⟨(n, 0, 1), atI_nat (j := 1) rfl, fun z => by have h := z.1.2; exact absurd h (Int.lt_irrefl _), by show n < 40; omega, by show 0 < 40; omega, rfl⟩
      (try first | refine hZ _ _ ?_ | refine hZn _ _ ?_); (try refine seq_hide fun Z hZ => ?_); refine ⟨_, rfl, _, rfl, lg, _, _, rfl, rfl, ?_, _, _, rfl, rfl, ?_, _, rfl, _, rfl, lg, _, _, rfl, rfl, ?_, _, _, rfl, rfl, ?_, by show 2 ≤ sizeLine; decide, fun l0 hl0 => ?_⟩
      · rw [len_l3]; exact Nat.le_trans (Nat.add_le_add_left nl31 6) (by omega)
      · rw [app_len, len_l3, len_l1]; exact Nat.le_trans (Nat.add_le_add_right (Nat.add_le_add_left nl31 6) 3) (by omega)
      · rw [len_l4]; exact Nat.le_trans (Nat.add_le_add_left nl31 4) (by omega)
      · rw [app_len, len_l4, len_l2]; exact Nat.le_trans (Nat.add_le_add_right (Nat.add_le_add_left nl31 4) 5) (by omega)
      (try first | refine hZ _ _ ?_ | refine hZn _ _ ?_); (try refine seq_hide fun Z hZ => ?_); refine ⟨_, rfl, _, _, rfl, rfl, ⟨by decide, by decide⟩, _, _, rfl, rfl, (show (0 : Int) < 2 by decide), l0, _, _, _, rfl, rfl, SqL.of upd_same, hod, ?_⟩
      (try first | refine hZ _ _ ?_ | refine hZn _ _ ?_); try dsimp only [tNext, gName]
      (try first | refine hZ _ _ ?_ | refine hZn _ _ ?_); (try refine seq_hide fun Z hZ => ?_); refine ⟨rfl, ?_⟩
      refine ex_put16 (ys := (ts.map tieT).map nlS) (k := k) (j := 8) (hs := nlS (headT n)) (b := nlS (tieT od)) rfl rfl rfl rfl (Same.new hl0 _ _ hll) kl (by rw [llen]; omega) fun l' H3 S3 e3 => ?_
      have sm3 : -(10 ^ 30) < od.2.2 ∧ od.2.2 < 10 ^ 30 := by rw [od3]; exact ⟨by decide, by decide⟩
      exact fin_join (ls := headT n :: ((ts.map tieT).take k ++ [tieT od] ++ (ts.map tieT).drop k)) q ((Same.new hl0).trans S3) (by rw [e3, putMap]) (putOk (tie_ok od1 od2 sm3)) putLen ⟨headT n, _, rfl, .inr ⟨n, parse_head n40, .inr ⟨putAt (ts.map toI) k (toI od), 0, put_parse ok n40 sm (parse_tie od1 od2 sm3), fits, by decide, .inr ⟨by omega, by omega, .inl ⟨rfl, bad_put ok (by omega) nod⟩⟩⟩⟩⟩
    rw [decide_eq_false (by intro z; injection z with z; omega)]
    refine iteF ?_
    -- way == 4
    (try first | refine hZ _ _ ?_ | refine hZn _ _ ?_); (try refine seq_hide fun Z hZ => ?_); refine ⟨_, rfl, rfl, _, rfl, ?_⟩
    by_cases w4 : wy = 4
    · subst w4
      rw [decide_eq_true (show V.int ((4 : Nat) : Int) = V.int 4 from rfl)]
      refine iteT ?_
      obtain ⟨g, hg, hg1⟩ := mod_nat (c / 9) n1
      (try first | refine hZ _ _ ?_ | refine hZn _ _ ?_); (try refine seq_hide fun Z hZ => ?_); refine ⟨_, rfl, _, _, rfl, rfl, ⟨by decide, by decide⟩, _, rfl, _, _, rfl, rfl, (show (0 : Int) < n by omega), ?_⟩
      (try first | refine hZ _ _ ?_ | refine hZn _ _ ?_); try dsimp only [tNext, gName]
      rw [show c / 9 % (n : Int) = (g : Int) from hg]
      (try first | refine hZ _ _ ?_ | refine hZn _ _ ?_); (try refine seq_hide fun Z hZ => ?_); refine ⟨rfl, _, rfl, by show 1 ≤ sizeLine; decide, fun p0 hp0 => ?_⟩
      have S0 : Same H (upd H p0 (.lst [V.str (nlS (headT n))])) := Same.new hp0
      have e0 : (upd H p0 (.lst [V.str (nlS (headT n))])) p0 = some (.lst [V.str (nlS (headT n))]) := upd_same
      generalize upd H p0 (.lst [V.str (nlS (headT n))]) = H0 at S0 e0 ⊢
      refine cv_range ⟨_, rfl, ll, _, rfl, .inl (SqL.of (S0 _ _ hll)), ts.length, by rw [List.length_map, llen], by omega, fun σ => ∃ u, σ = [u, some (.ref ll), some (.int (g : Int)), some (.ref lr)], fun i => (ts.getD i (0, 0, 0)).2.1 != g, fun i => .str (nlS (tieT (ts.getD i (0, 0, 0)))), ⟨_, rfl⟩, ?_, fun l' H5 S5 nl5 hl5 => ?_⟩
      · rintro i y σ H' hi ⟨u, rfl⟩ S' rfl
        obtain ⟨t, hti, hta⟩ := tups_item ht (i := i) (by omega)
        have ed : ts.getD i (0, 0, 0) = t := by simp [hti]
        (try first | refine hZ _ _ ?_ | refine hZn _ _ ?_); (try refine seq_hide fun Z hZ => ?_); refine ⟨_, rfl, _, rfl, lr, _, _, _, rfl, rfl, SqL.of (S' _ _ (S0 _ _ hlr)), atI_ref (j := i) (by omega), _, _, _, _, rfl, rfl, SqT.of (S' _ _ (S0 _ _ hta)), atI_nat (j := 1) rfl, _, rfl, rfl, _, rfl, ?_, Same.refl _, ⟨_, rfl⟩, fun _ => ⟨_, rfl, _, rfl, ll, _, _, _, rfl, rfl, SqL.of (S' _ _ (S0 _ _ hll)), atI_nat (j := i) (v := V.str (nlS (tieT t))) (by rw [List.getElem?_map, List.getElem?_map, List.getElem?_map, hti]; rfl), by rw [ed], Same.refl _⟩⟩
        rw [ed, Bool.eq_iff_iff]
        simp only [bne_iff_ne, Bool.not_eq_true', decide_eq_false_iff_not, ne_eq]
        (try first | refine hZ _ _ ?_ | refine hZn _ _ ?_); exact ⟨fun z e => z (by rw [e]), fun z e => z (by injection e with e; omega)⟩
      rw [range_filter ts (0, 0, 0) (fun t => t.2.1 != g) (fun t => V.str (nlS (tieT t)))] at hl5
      have fm : ∀ t ∈ ts.filter (fun t => t.2.1 != g), t ∈ ts := fun t h => (List.mem_filter.mp h).1
      have fl : (ts.filter (fun t => t.2.1 != g)).length ≤ ts.length := List.length_filter_le _ _
      have fok : OkT n (ts.filter fun t => t.2.1 != g) := ⟨fun t h => ok.lt t (fm t h), ok.nd.sublist (List.filter_sublist.map _)⟩
      (try first | refine hZ _ _ ?_ | refine hZn _ _ ?_); (try refine seq_hide fun Z hZ => ?_); refine ⟨p0, l', _, _, rfl, rfl, S5 _ _ e0, hl5, by rw [List.length_map]; simp only [List.length_singleton]; omega, fun lj hlj => ?_⟩
      exact fin_join (ls := headT n :: (ts.filter fun t => t.2.1 != g).map tieT) q ((S0.trans S5).trans (Same.new hlj)) (by rw [upd_same, List.map_cons, List.map_cons, List.map_map, List.map_map]; rfl) (fun x hx => (List.mem_cons.mp hx).elim (fun e => e ▸ hok) fun h => lok x (List.map_subset _ fm h)) (by rw [List.length_cons, List.length_map]; omega) ⟨headT n, _, rfl, .inr ⟨n, parse_head n40, .inr ⟨(ts.filter fun t => t.2.1 != g).map toI, 2, map_parse ok n40 sm _ fm, by rw [List.length_map]; omega, by decide, .inr ⟨by omega, by omega, .inr (.inr ⟨rfl, n, _, g, rfl, rfl, fok, hg1, fun t h => by have := (List.mem_filter.mp h).2; simpa using this⟩)⟩⟩⟩⟩
    rw [decide_eq_false (by intro z; injection z with z; omega)]
    refine iteF ?_
    -- way == 5
    obtain ⟨t0, tr, ets⟩ : ∃ t0 tr, ts = t0 :: tr := by
      cases ts with
      | nil => simp at tpos
      | cons t0 tr => exact ⟨t0, tr, rfl⟩
    (try first | refine hZ _ _ ?_ | refine hZn _ _ ?_); (try refine seq_hide fun Z hZ => ?_); refine ⟨_, rfl, rfl, _, rfl, ?_⟩
    by_cases w5 : wy = 5
    · subst w5
      rw [decide_eq_true (show V.int ((5 : Nat) : Int) = V.int 5 from rfl)]
      refine iteT ?_
      (try first | refine hZ _ _ ?_ | refine hZn _ _ ?_); (try refine seq_hide fun Z hZ => ?_); refine ⟨rfl, _, rfl, ll, _, _, _, rfl, rfl, SqL.of hll, atI_nat (j := 0) (v := V.str (nlS (tieT t0))) (by rw [ets]; rfl), _, rfl, by show 2 ≤ sizeLine; decide, fun p0 hp0 => ?_⟩
      have S0 : Same H (upd H p0 (.lst [V.str (nlS (tieT t0)), V.str (nlS (headT n))])) := Same.new hp0
      have e0 : (upd H p0 (.lst [V.str (nlS (tieT t0)), V.str (nlS (headT n))])) p0 = some (.lst [V.str (nlS (tieT t0)), V.str (nlS (headT n))]) := upd_same
      generalize upd H p0 (.lst [V.str (nlS (tieT t0)), V.str (nlS (headT n))]) = H0 at S0 e0 ⊢
      have cut : cutV (((ts.map tieT).map nlS).map V.str) (some 1) none = ((tr.map tieT).map nlS).map V.str := by
        have := cut_hiS (ys := (ts.map tieT).map nlS) (k := 1) (by rw [llen]; omega)
        rw [ets] at this ⊢
        exact this
      (try first | refine hZ _ _ ?_ | refine hZn _ _ ?_); (try refine seq_hide fun Z hZ => ?_); refine ⟨_, rfl, _, rfl, ll, _, rfl, SqL.of (S0 _ _ hll), fun p1 hp1 => ?_⟩
      rw [cut]
      have S1 : Same H0 (upd H0 p1 (.lst (((tr.map tieT).map nlS).map V.str))) := Same.new hp1
      (try first | refine hZ _ _ ?_ | refine hZn _ _ ?_); (try refine seq_hide fun Z hZ => ?_); refine ⟨p0, p1, _, _, rfl, rfl, S1 _ _ e0, upd_same, by rw [ets] at t30; simp only [List.length_cons, List.length_map, List.length_nil] at t30 ⊢; omega, fun p2 hp2 => ?_⟩
      exact fin_join (ls := tieT t0 :: headT n :: tr.map tieT) q ((S0.trans S1).trans (Same.new hp2)) (by rw [upd_same]; rfl) (fun x hx => (List.mem_cons.mp hx).elim (fun e => e ▸ tok t0 (by rw [ets]; exact List.mem_cons_self)) fun hx => (List.mem_cons.mp hx).elim (fun e => e ▸ hok) fun hx => lok x (by rw [ets]; exact List.mem_cons_of_mem _ hx)) (by rw [ets] at t30; simp only [List.length_cons, List.length_map] at t30 ⊢; omega) ⟨tieT t0, _, rfl, .inl (no_tie_head t0)⟩
    rw [decide_eq_false (by intro z; injection z with z; omega)]
    refine iteF ?_
    -- way == 6
    (try first | refine hZ _ _ ?_ | refine hZn _ _ ?_); (try refine seq_hide fun Z hZ => ?_); refine ⟨_, rfl, rfl, _, rfl, ?_⟩
    by_cases w6 : wy = 6
    · subst w6
      rw [decide_eq_true (show V.int ((6 : Nat) : Int) = V.int 6 from rfl)]
      refine iteT ?_
      obtain ⟨k5, hk5, hk51⟩ := mod_nat (c / 9) (show 1 ≤ 5 by decide)
      obtain ⟨z, hz, z1, z2, z3⟩ : ∃ z : Str, atI [V.str ("" : Str), V.str ("\n" : Str), V.str ("deeds 1" : Str), V.str (jn (ts.map tieT)), V.str (nlS (headT n))] (c / 9 % 5) = some (V.str z) ∧ Asc z ∧ z.length ≤ 90000 ∧ BadText z := by
        rw [show c / 9 % 5 = (k5 : Int) from hk5]
        rcases (show k5 = 0 ∨ k5 = 1 ∨ k5 = 2 ∨ k5 = 3 ∨ k5 = 4 by omega) with rfl | rfl | rfl | rfl | rfl
        · (try first | refine hZ _ _ ?_ | refine hZn _ _ ?_); exact ⟨_, atI_nat (j := 0) rfl, no_eq ▸ ok_e.2.1, by decide +kernel, no_eq ▸ one_bad ok_e⟩
        · (try first | refine hZ _ _ ?_ | refine hZn _ _ ?_); (try refine seq_hide fun Z hZ => ?_); refine ⟨_, atI_nat (j := 1) rfl, ?_⟩
          rw [nl_jn]
          have o1 : ∀ t ∈ [Str.empty], LineOk t := fun t h => by rw [List.mem_singleton.mp h]; exact ok_e
          (try first | refine hZ _ _ ?_ | refine hZn _ _ ?_); exact ⟨jn_asc o1, Nat.le_trans (jn_len o1 (by decide)) (by decide), bad_jn o1 (by decide) ⟨_, _, rfl, .inl parse_e⟩⟩
        · (try first | refine hZ _ _ ?_ | refine hZn _ _ ?_); exact ⟨_, atI_nat (j := 2) rfl, ok_d1.2.1, Nat.le_trans ok_d1.2.2 (by decide), one_bad ok_d1⟩
        · have l1 : (ts.map tieT).length < 100 := by rw [List.length_map]; omega
          (try first | refine hZ _ _ ?_ | refine hZn _ _ ?_); (try refine seq_hide fun Z hZ => ?_); refine ⟨_, atI_nat (j := 3) rfl, jn_asc lok, Nat.le_trans (jn_len lok l1) (by decide), bad_jn lok l1 ⟨tieT t0, tr.map tieT, by rw [ets]; rfl, .inl (no_tie_head t0)⟩⟩
        · (try first | refine hZ _ _ ?_ | refine hZn _ _ ?_); (try refine seq_hide fun Z hZ => ?_); refine ⟨_, atI_nat (j := 4) rfl, ?_⟩
          rw [← jn_one]
          have o1 : ∀ t ∈ [headT n], LineOk t := fun t h => by rw [List.mem_singleton.mp h]; exact hok
          (try first | refine hZ _ _ ?_ | refine hZn _ _ ?_); exact ⟨jn_asc o1, Nat.le_trans (jn_len o1 (by show 1 < 100; decide)) (by decide), bad_jn o1 (by show 1 < 100; decide) ⟨_, _, rfl, .inr ⟨n, parse_head n40, .inr ⟨[], 2, rfl, by decide, by decide, .inr ⟨by omega, by omega, .inr (.inr ⟨rfl, n, [], 0, rfl, rfl, ⟨fun t h => (by cases h), .nil⟩, by omega, fun t h => (by cases h)⟩)⟩⟩⟩⟩⟩
      have sz : ((((ts.map tieT).map nlS)).map (·.length)).sum + ((ts.map tieT).map nlS).length * ("" : Str).length ≤ 16777216 := by
        have := jn_sum lok (by rw [List.length_map]; omega)
        rw [no_eq, show Str.empty.length = 0 from rfl]
        omega
      (try first | refine hZ _ _ ?_ | refine hZn _ _ ?_); (try refine seq_hide fun Z hZ => ?_); refine ⟨rfl, _, rfl, _, ll, (ts.map tieT).map nlS, rfl, rfl, SqL.of hll, sz, _, rfl, by show 5 ≤ sizeLine; decide, fun l0 hl0 => ?_⟩
      (try first | refine hZ _ _ ?_ | refine hZn _ _ ?_); exact ⟨_, rfl, _, _, rfl, rfl, ⟨by decide, by decide⟩, _, _, rfl, rfl, (show (0 : Int) < 5 by decide), l0, _, _, _, rfl, rfl, SqL.of upd_same, hz, q z _ (Same.new hl0) z1 z2 z3⟩
    rw [decide_eq_false (by intro z; injection z with z; omega)]
    refine iteF ?_
    -- bad
    (try first | refine hZ _ _ ?_ | refine hZn _ _ ?_); (try refine seq_hide fun Z hZ => ?_); refine ⟨_, rfl, _, _, rfl, rfl, ⟨by decide, by decide⟩, c / 9, rfl, fun b H1 S1 bm => ?_⟩
    (try first | refine hZ _ _ ?_ | refine hZn _ _ ?_); try dsimp only [tNext, gName]
    have hb := List.all_eq_true.mp bad_all b bm
    rw [Bool.and_eq_true] at hb
    have bk := okB_ok hb.2
    have hb1 := hb.1
    (try first | refine hZ _ _ ?_ | refine hZn _ _ ?_); (try refine seq_hide fun Z hZ => ?_); refine ⟨rfl, ?_⟩
    refine ex_put16 (ys := (ts.map tieT).map nlS) (k := k) (j := 10) (hs := nlS (headT n)) (b := nlS b) rfl rfl rfl rfl (S1 _ _ hll) kl (by rw [llen]; omega) fun l' H3 S3 e3 => ?_
    refine fin_join (ls := headT n :: ((ts.map tieT).take k ++ [b] ++ (ts.map tieT).drop k)) q (S1.trans S3) (by rw [e3, putMap]) (putOk bk) putLen ⟨headT n, _, rfl, .inr ⟨n, parse_head n40, ?_⟩⟩
    unfold badB at hb1
    cases hp : parseL ("tie" : Str) 3 b with
    | none => exact .inl ⟨b, List.mem_append_left _ (List.mem_append_right _ (List.mem_singleton.mpr rfl)), hp⟩
    | some is =>
      rw [hp] at hb1
      match is, hb1, hp with
      | [x, y, v], hb1, hp =>
        simp only [Bool.or_eq_true, decide_eq_true_eq] at hb1
        exact .inr ⟨putAt (ts.map toI) k (x, y, v), 0, put_parse ok n40 sm hp, fits, by decide, .inr ⟨by omega, by omega, .inl ⟨rfl, bad_put ok (by omega) fun z => by have h1 : 0 ≤ x ∧ x < (n : Int) := z.1; have h2 : 0 ≤ y ∧ y < (n : Int) := z.2; omega⟩⟩⟩

end

end W16

set_option Elab.async false
set_option linter.all false
set_option maxRecDepth 100000
namespace W16
open PySem PySem.W PyProof.Rows L2 Ww
seal L2.PE L2.PT L2.PW L2.PA L2.PS L2.PSs L2.OpR L2.CallR Ww.PX Ww.PSX
section
variable {P : Program} {w : World} {K : Frag} {mg : Str → Option Value} {base : Heap}
noncomputable abbrev s_law : Stmt := top 26
theorem sc_law : FnScope ["script", "size", "rows", "lines", "head", "marks", "e"] ["script"] (defScope s_law) := ⟨rfl, rfl, rfl, by decide +kernel, rfl, by decide +kernel, by decide +kernel⟩
-- script=0, size=1, rows=2, lines=3, head=4, marks=5, e=6
theorem feeds_tup {K : Frag} {a : Addr} {xs : List V} {H1 : Hp} (h : H1 a = some (.tup xs)) : Feeds (Itt K a) H1 xs.length (fun i x _ => xs[i]? = some x) where
  go := fun i H' hi S => ⟨⟨xs, xs[i], SqT.of (S _ _ h), by simp [hi]⟩, fun x H'' ⟨e, y⟩ => ⟨e ▸ fun _ _ z => z, y xs (SqT.of (S _ _ h))⟩⟩
  stop := fun H' S => ⟨xs, SqT.of (S _ _ h), Nat.le_refl _⟩
inductive I_cv_tup (cap : List (Option Nat)) (g : TG) (tt : TT) (te : TE) (σ : L2.St) (Q : VK) (x : V) (H1 : Hp) : Prop
  | mk (a xs) (h1 : x = .ref a) (h2 : H1 a = some (.tup xs)) (h3 : xs.length < sizeLine) (Sh : L2.St → Prop) (c : Nat → Bool) (f : Nat → V) (h4 : Sh (capSt cap σ)) (h5 : (∀ i x σ H', i < xs.length → Sh σ → Same H1 H' → xs[i]? = some x → g x σ H' fun σ2 H2 => tt σ2 H2 fun b H3 => b = c i ∧ Same H' H3 ∧ Sh σ2 ∧ (c i = true → te σ2 H3 fun y H4 => y = f i ∧ Same H3 H4))) (h6 : ∀ l H', Same H1 H' → H1 l = none → H' l = some (.lst (((List.range xs.length).filter c).map f)) → Q (.ref l) H')
theorem cv_tup {K : Frag} {tl : TE} {cap : List (Option Nat)} {g : TG} {tt : TT} {te : TE} [CE tl] [CG g] [CT tt] [CE te] {σ : L2.St} {H : Hp} {Q : VK}
    (h : tl σ H fun x H1 => I_cv_tup cap g tt te σ Q x H1) : tComp (iTup K tl) cap g tt te σ H Q :=
  CE.m (t := tl) _ _ _ _ (fun x H1 hh => by obtain ⟨a, xs, e, hq, hz, Sh, c, f, s0, hs, hd⟩ := hh; exact ⟨a, e, ⟨xs, SqT.of hq⟩, comp_vals (feeds_tup hq) Sh c f hz s0 hs hd⟩) h
theorem range_all {α β : Type} (ts : List α) (d : α) (f : α → β) : (List.range ts.length).map (fun i => f (ts.getD i d)) = ts.map f := by
  refine List.ext_getElem (by simp) fun i h1 h2 => ?_
  have h3 : i < ts.length := by simpa using h2
  simp [h3]
theorem tri_small {t : Tie} (h1 : t.1 < 40) (h2 : t.2.1 < 40) (h3 : -(10 ^ 30) < t.2.2 ∧ t.2.2 < 10 ^ 30) (j : Nat) : -(10 ^ 30) < (tri t).getD j 0 ∧ (tri t).getD j 0 < 10 ^ 30 := by
  unfold tri
  match j with
  | 0 => show -(10 ^ 30) < (t.1 : Int) ∧ (t.1 : Int) < 10 ^ 30; omega
  | 1 => show -(10 ^ 30) < (t.2.1 : Int) ∧ (t.2.1 : Int) < 10 ^ 30; omega
  | 2 => exact h3
  | j + 3 => show -(10 ^ 30) < (0 : Int) ∧ (0 : Int) < 10 ^ 30; decide
theorem row_join (t : Tie) : Txt.join (" " : Str) ((tri t).map numT) = numT t.1 ++ (" " : Str) ++ (numT t.2.1 ++ (" " : Str) ++ numT t.2.2) := by
  show Builtin.Str.glued (" " : Str) ((tri t).map numT) = _
  rw [StrLaws.glued_eq_join]
  rfl
theorem row_len (t : Tie) : (Txt.join (" " : Str) ((tri t).map numT)).length = (numT t.1).length + 1 + ((numT t.2.1).length + 1 + (numT t.2.2).length) := by
  rw [row_join, app_len, app_len, app_len, app_len]
  rfl
theorem row_text (t : Tie) : ("tie " : Str) ++ Txt.join (" " : Str) ((tri t).map numT) ++ ("\n" : Str) = nlS (tieT t) := by
  unfold nlS tieT
  rw [row_join, nl_eq]
  simp only [Str.append_assoc]
theorem head_text (n : Nat) : ("deeds " : Str) ++ numT (n : Int) ++ ("\n" : Str) = nlS (headT n) := by
  unfold nlS headT
  rw [nl_eq]
theorem len_deeds : ("deeds " : Str).length = 6 := by decide +kernel
inductive I_spLaw (K : Frag) (vs : List V) (H : Hp) (Q : VK) : Prop
  | mk (a : Addr) (ns : List Int) (h1 : vs = [.ref a]) (h2 : SqL K H a (ns.map V.int)) (h3 : ns.length ≤ 63) (h4 : ∀ H', Q (.bl true) H')
noncomputable def spLaw (K : Frag) : Sp := fun vs H Q _ => I_spLaw K vs H Q
set_option maxHeartbeats 0 in
theorem ok_law {f C CWheelError CNoDeed CTieTwice CIdle CBadNote : Addr} {fd : FuncData} (F : L2.Fun K "law" "law" s_law f fd) (nb : NB mg) (nb2 : NB2 mg) (T : WTxt K mg C) (D__law_cell_at : DefOk P w K mg base CX0 1 "_law_cell_at" ["script", "k"] (spCellAt K)) (D__law_ties_by : DefOk P w K mg base CX0 2 "_law_ties_by" ["script", "start", "size", "count", "wide"] (spTiesBy K)) (D__law_spoiled : DefOk P w K mg base CX0 2 "_law_spoiled" ["size", "head", "rows", "lines", "cell"] (spSpoil16 K)) (DX_read : DefOk P w K mg base (CXE P w base) 5 "read" ["text"] (spReadX K C CBadNote)) (XC_WheelError : XCls K mg base "WheelError" CWheelError) (XC_BadNote : XCls K mg base "BadNote" CBadNote) (XC_NoDeed : XCls K mg base "NoDeed" CNoDeed) (XC_TieTwice : XCls K mg base "TieTwice" CTieTwice) (XC_Idle : XCls K mg base "Idle" CIdle) (XR_BadNote : ExRel K CWheelError CBadNote [CBadNote, CNoDeed, CTieTwice, CIdle] [true, false, false, false]) (b_ValueError : mg "ValueError" = none) : FnOk P w K mg base CX0 6 f fd ["script"] (spLaw K) := by
  obtain ⟨b_len, b_range, b_list, b_sorted, b_isinstance, b_all, b_bool, b_int, b_tuple, b_enumerate, b_reversed⟩ := nb
  obtain ⟨b_max, b_min, b_abs, b_zip, b_sum, b_str, b_set⟩ := nb2
  have line := line1000
  have nd := sc_law.nd
  refine F.ok sc_law (fun vs H Q E h => ?_) (fun cdv A outer s H vs Q E hr h => ?_)
  · obtain ⟨a, ns, rfl, _⟩ := h
    rfl
  · obtain ⟨a, ns, rfl, ha, hlen, q⟩ := h
    have hu := hu_of hr
    have line := line1000
    let EX : XK := fun cls _ H' => Same H H' ∧ cls = .ref CBadNote
    (try first | refine hZ _ _ ?_ | refine hZn _ _ ?_); refine ⟨_, (pss_cons (ps_set (i := 1) nd rfl (Or.inl rfl) (pe_op op_add pe_int (pe_op op_mod (pe_def D__law_cell_at pass0 hr (by decide) rfl (pa_cons (pv 0) (pa_cons pe_int pa_nil))) pe_int)))
      (pss_cons (ps_set (i := 2) nd rfl (Or.inl rfl) (pe_def D__law_ties_by pass0 hr (by decide) rfl (pa_cons (pv 0) (pa_cons pe_int (pa_cons (pv 1) (pa_cons (pe_op op_mod (pe_def D__law_cell_at pass0 hr (by decide) rfl (pa_cons (pv 0) (pa_cons pe_int pa_nil))) pe_int) (pa_cons (pe_def D__law_cell_at pass0 hr (by decide) rfl (pa_cons (pv 0) (pa_cons pe_int pa_nil))) pa_nil)))))))
      (pss_cons (ps_setCompD (i := 3) (CompScopeD.of (N' := ["row"]) (cap := [none]) (by rfl)) rfl nd rfl rfl (pi_listK (K := K) rfl (pv 2)) (by decide +kernel) (by intro cl C s₀ H₀ ex ndc; refine ⟨?_, ?_, ?_⟩; exact (pg_name' 0 ndc rfl rfl); exact pts_nil; exact (pe_op op_add_str (pe_op op_add_str pe_str (pe_bmK (K := K) rfl PySem.F.plainAttrs_str PySem.F.slot_str_join PySem.F.type_str_join (mt_join (K := K) rfl) pe_str (pa_cons (pe_compD (CompScopeD.of (N' := ["part"]) (cap := [none]) (by rfl)) rfl (pi_tupK (K := K) rfl (pv 0)) (by decide +kernel) (by intro cl C s₀ H₀ ex ndc; refine ⟨?_, ?_, ?_⟩; exact (pg_name' 0 ndc rfl rfl); exact pts_nil; exact (pe_callTy call_str_int rfl b_str bb_str (pa_cons (pv 0) pa_nil)))) pa_nil))) pe_str)))
      (pss_cons (ps_set (i := 4) nd rfl (Or.inl rfl) (pe_op op_add_str (pe_op op_add_str pe_str (pe_callTy call_str_int rfl b_str bb_str (pa_cons (pv 1) pa_nil))) pe_str))
      (pss_cons (ps_set (i := 5) nd rfl (Or.inl rfl) (pe_lst pa_nil))
      (pss_cons (ps_tryAs (i := 6) (psx_expr (px_def (E := EX) DX_read hr (by decide) rfl (pa_cons (pe_def D__law_spoiled pass0 hr (by decide) rfl (pa_cons (pv 1) (pa_cons (pv 4) (pa_cons (pv 2) (pa_cons (pv 3) (pa_cons (pe_def D__law_cell_at pass0 hr (by decide) rfl (pa_cons (pv 0) (pa_cons pe_int pa_nil))) pa_nil)))))) pa_nil) rfl)) XC_WheelError.own.bound rfl rfl rfl rfl nd rfl rfl (fun _ => (pss_cons (ps_set (i := 5) nd rfl (Or.inl rfl) (pe_lst (pa_cons (pe_callB (call_isinstXK (K := K) rfl) rfl b_isinstance bb_isinstance (pa_cons (pv 6) (pa_cons (pe_glob (v := .ref CBadNote) rfl XC_BadNote.own.bound rfl) pa_nil))) (pa_cons (pe_callB (call_isinstXK (K := K) rfl) rfl b_isinstance bb_isinstance (pa_cons (pv 6) (pa_cons (pe_ty rfl b_ValueError bb_ValueError) pa_nil))) (pa_cons (pe_callB (call_isinstXK (K := K) rfl) rfl b_isinstance bb_isinstance (pa_cons (pv 6) (pa_cons (pe_glob (v := .ref CNoDeed) rfl XC_NoDeed.own.bound rfl) pa_nil))) pa_nil)))))
      (pss_one (ps_set (i := 5) nd rfl (Or.inl rfl) (pe_op op_cat (pv 5) (pe_lst (pa_cons (pe_callB (call_isinstXK (K := K) rfl) rfl b_isinstance bb_isinstance (pa_cons (pv 6) (pa_cons (pe_glob (v := .ref CTieTwice) rfl XC_TieTwice.own.bound rfl) pa_nil))) (pa_cons (pe_callB (call_isinstXK (K := K) rfl) rfl b_isinstance bb_isinstance (pa_cons (pv 6) (pa_cons (pe_glob (v := .ref CIdle) rfl XC_Idle.own.bound rfl) pa_nil))) pa_nil)))))))))
      (pss_one (ps_ret (pe_cmpR (op_eq_bools (K := K) rfl hu) (pv 5) (pe_lst (pa_cons pe_bl (pa_cons pe_bl (pa_cons pe_bl (pa_cons pe_bl (pa_cons pe_bl pa_nil)))))) (nomark _)))))))))), ?_⟩
    -- script=0, size=1, rows=2, lines=3, head=4, marks=5, e=6
    (try first | refine hZ _ _ ?_ | refine hZn _ _ ?_); (try refine seq_hide fun Z hZ => ?_); refine ⟨_, rfl, a, ns, 0, rfl, ha, _, _, rfl, rfl, (show (0 : Int) < 9 by decide), _, _, rfl, rfl, ?_⟩
    obtain ⟨n0, hn0, hn1⟩ := mod_nat (ns.getD 0 0) (show 1 ≤ 9 by decide)
    have en : (1 : Int) + ns.getD 0 0 % 9 = ((1 + n0 : Nat) : Int) := by
      have : ns.getD 0 0 % 9 = (n0 : Int) := hn0
      omega
    (try first | refine hZ _ _ ?_ | refine hZn _ _ ?_); try dsimp only [tNext, gName]
    rw [en]
    obtain ⟨n, en1⟩ : ∃ n, n = 1 + n0 := ⟨_, rfl⟩
    rw [← en1]
    have n1 : 1 ≤ n := by omega
    have n9 : n ≤ 9 := by omega
    clear en en1 hn0 hn1 n0
    obtain ⟨cn, hcn, hcn1⟩ := mod_nat (ns.getD 1 0) (show 1 ≤ 13 by decide)
    (try first | refine hZ _ _ ?_ | refine hZn _ _ ?_); (try refine seq_hide fun Z hZ => ?_); refine ⟨_, rfl, _, rfl, _, rfl, a, ns, 1, rfl, ha, _, _, rfl, rfl, (show (0 : Int) < 13 by decide), ?_⟩
    try dsimp only
    rw [show ns.getD 1 0 % 13 = (cn : Int) from hcn]
    (try first | refine hZ _ _ ?_ | refine hZn _ _ ?_); (try refine seq_hide fun Z hZ => ?_); refine ⟨_, rfl, a, ns, 2, rfl, ha, a, ns, 4, n, cn, ns.getD 2 0, rfl, ha, n1, by omega, by omega, fun l as ts H1 S1 hl1 t1 ok1 cov1 len1 sm1 nl => ?_⟩
    have la : as.length = ts.length := by rw [t1.len, List.length_map]
    have sm : SmallT ts := sm1
    -- lines
    (try first | refine hZ _ _ ?_ | refine hZn _ _ ?_); try dsimp only [tNext, gName]
    (try first | refine hZ _ _ ?_ | refine hZn _ _ ?_); first | (refine seq_hide fun Z hZ => ?_; refine st_asg1 ?_) | refine st_asg ?_
    refine cv_list ⟨_, rfl, l, _, rfl, SqL.of hl1, by rw [List.length_map]; omega, fun σ => ∃ u, σ = [u], fun _ => true, fun i => .str (nlS (tieT (ts.getD i (0, 0, 0)))), ⟨_, rfl⟩, ?_, fun ll H2 S2 nll hll => ?_⟩
    · rintro i y σ H' hi ⟨u, rfl⟩ S' hy
      rw [List.length_map] at hi
      have ey : y = .ref (as.getD i 0) := by simpa [hi] using hy.symm
      subst ey
      obtain ⟨t, hti, hta⟩ := tups_item t1 (i := i) hi
      have ed : ts.getD i (0, 0, 0) = t := by simp [hti]
      have tm := List.mem_of_getElem? hti
      (try first | refine hZ _ _ ?_ | refine hZn _ _ ?_); (try refine seq_hide fun Z hZ => ?_); refine ⟨rfl, Same.refl _, ⟨_, rfl⟩, fun _ => ?_⟩
      (try first | refine hZ _ _ ?_ | refine hZn _ _ ?_); (try refine seq_hide fun Z hZ => ?_); refine ⟨rfl, ?_⟩
      refine cv_tup ⟨_, rfl, _, _, rfl, S' _ _ hta, by show 3 < sizeLine; decide, fun σ => ∃ u, σ = [u], fun _ => true, fun j => .str (numT ((tri t).getD j 0)), ⟨_, rfl⟩, ?_, fun lp H4 S4 nlp hlp => ?_⟩
      · rintro j z σ H'' hj ⟨u, rfl⟩ S'' hz
        have hj3 : j < 3 := hj
        have ez : z = .int ((tri t).getD j 0) := by
          rw [List.getElem?_map] at hz
          rw [List.getD_eq_getElem?_getD]
          cases hg : (tri t)[j]? with
          | none => rw [hg] at hz; cases hz
          | some v => rw [hg] at hz; injection hz with hz; exact hz.symm
        subst ez
        have b := tri_small (t := t) (by have := ok1.lt t tm; omega) (by have := ok1.lt t tm; omega) (sm t tm) j
        (try first | refine hZ _ _ ?_ | refine hZn _ _ ?_); exact ⟨rfl, Same.refl _, ⟨_, rfl⟩, fun _ => ⟨_, rfl, (tri t).getD j 0, rfl, log_ok b.1 b.2, rfl, Same.refl _⟩⟩
      have elp : H4 lp = some (.lst (((tri t).map numT).map V.str)) := hlp
      have a1 : -(10 ^ 30 : Int) < (t.1 : Int) ∧ (t.1 : Int) < 10 ^ 30 := by have := ok1.lt t tm; omega
      have a2 : -(10 ^ 30 : Int) < (t.2.1 : Int) ∧ (t.2.1 : Int) < 10 ^ 30 := by have := ok1.lt t tm; omega
      have l1 := num_len a1.1 a1.2
      have l2 := num_len a2.1 a2.2
      have l3 := num_len (sm t tm).1 (sm t tm).2
      (try first | refine hZ _ _ ?_ | refine hZn _ _ ?_); (try refine seq_hide fun Z hZ => ?_); refine ⟨_, lp, (tri t).map numT, rfl, rfl, SqL.of elp, ?_, _, _, rfl, rfl, ?_, _, _, rfl, rfl, ?_, ?_, S4⟩
      · show (numT t.1).length + ((numT t.2.1).length + ((numT t.2.2).length + 0)) + 3 * 1 ≤ 16777216
        omega
      · rw [row_len, len_l4]
        omega
      · rw [app_len, row_len, len_l4, len_n]
        omega
      · rw [row_text, ed]
    have ell : H2 ll = some (.lst (((ts.map tieT).map nlS).map V.str)) := by
      rw [hll, List.length_map, la, List.filter_eq_self.mpr (fun _ _ => rfl), range_all ts (0, 0, 0) (fun t => V.str (nlS (tieT t))), List.map_map, List.map_map]
      rfl
    -- head
    have lg : (n : Int).natAbs.log2 < 1920 := log_ok (by omega) (by omega)
    have nl31 : (numT (n : Int)).length ≤ 31 := num_len (by omega) (by omega)
    (try first | refine hZ _ _ ?_ | refine hZn _ _ ?_); try dsimp only [tNext, gName]
    (try first | refine hZ _ _ ?_ | refine hZn _ _ ?_); (try refine seq_hide fun Z hZ => ?_); refine ⟨_, rfl, _, rfl, lg, _, _, rfl, rfl, ?_, _, _, rfl, rfl, ?_, ?_⟩
    · rw [len_deeds]; exact Nat.le_trans (Nat.add_le_add_left nl31 6) (by omega)
    · rw [app_len, len_deeds, len_n]; exact Nat.le_trans (Nat.add_le_add_right (Nat.add_le_add_left nl31 6) 1) (by omega)
    (try first | refine hZ _ _ ?_ | refine hZn _ _ ?_); try dsimp only [tNext, gName]
    rw [head_text]
    -- marks
    (try first | refine hZ _ _ ?_ | refine hZn _ _ ?_); (try refine seq_hide fun Z hZ => ?_); refine ⟨Nat.zero_le _, fun lm hlm => ?_⟩
    have Sm : Same H2 (upd H2 lm (.lst [])) := Same.new hlm
    generalize upd H2 lm (.lst []) = H3 at Sm ⊢
    have S03 := (S1.trans S2).trans Sm
    (try refine hZ _ _ ?_)
    refine seq_hide fun Z1 hZ1 => ?_
    refine And.intro ?_ ?_
    · (try first | refine hZ _ _ ?_ | refine hZn _ _ ?_); (try refine seq_hide fun Z hZ => ?_); refine ⟨_, rfl, _, rfl, _, rfl, _, rfl, _, rfl, a, ns, 3, rfl, S03.seq ha, n, l, ll, as, ts, ns.getD 3 0, rfl, n1, n9, (S2.trans Sm) _ _ hl1, t1.same (S2.trans Sm), ok1, cov1, by omega, sm, Sm _ _ ell, fun z H4 S4 za zl zb => ?_⟩
      (try first | refine hZ _ _ ?_ | refine hZn _ _ ?_); exact ⟨z, rfl, za, zl, zb, fun c H5 S5 => ⟨(S03.trans S4).trans S5, rfl⟩⟩
    · rintro cls H4 ⟨S4, rfl⟩
      have R := XR_BadNote
      (try first | refine hZ _ _ ?_ | refine hZn _ _ ?_); (try refine seq_hide fun Z hZ => ?_); refine ⟨_, rfl, R.sub, fun e he => ?_⟩
      have hea : (upd H4 e (.ext (OfCls e CBadNote))) e = some (.ext (OfCls e CBadNote)) := upd_same
      generalize upd H4 e (.ext (OfCls e CBadNote)) = H5 at hea ⊢
      (try first | refine hZ _ _ ?_ | refine hZn _ _ ?_); (try refine seq_hide fun Z hZ => ?_); refine ⟨_, rfl, e, .ref CBadNote, CBadNote, true, rfl, .inr ⟨_, rfl⟩, hea, R.exc, R.a0, _, rfl, e, .ty "ValueError", CBadNote, true, rfl, .inl ⟨_, rfl⟩, hea, R.exc, R.val, _, rfl, e, .ref CNoDeed, CBadNote, false, rfl, .inr ⟨_, rfl⟩, hea, R.exc, R.tl.a0, by show 3 ≤ sizeLine; decide, fun l3 hl3 => ?_⟩
      have S5 : Same H5 (upd H5 l3 (.lst [V.bl true, V.bl true, V.bl false])) := Same.new hl3
      have e5 : (upd H5 l3 (.lst [V.bl true, V.bl true, V.bl false])) l3 = some (.lst [V.bl true, V.bl true, V.bl false]) := upd_same
      generalize upd H5 l3 (.lst [V.bl true, V.bl true, V.bl false]) = H6 at S5 e5 ⊢
      (try first | refine hZ _ _ ?_ | refine hZn _ _ ?_); try dsimp only [tNext, gName]
      have hea6 := S5 _ _ hea
      (try first | refine hZ _ _ ?_ | refine hZn _ _ ?_); (try refine seq_hide fun Z hZ => ?_); refine ⟨_, rfl, _, rfl, e, .ref CTieTwice, CBadNote, false, rfl, .inr ⟨_, rfl⟩, hea6, R.exc, R.tl.tl.a0, _, rfl, e, .ref CIdle, CBadNote, false, rfl, .inr ⟨_, rfl⟩, hea6, R.exc, R.tl.tl.tl.a0, by show 2 ≤ sizeLine; decide, fun l4 hl4 => ?_⟩
      (try first | refine hZ _ _ ?_ | refine hZn _ _ ?_); (try refine seq_hide fun Z hZ => ?_); refine ⟨l3, l4, _, _, rfl, rfl, Same.new hl4 _ _ e5, upd_same, by show 5 ≤ sizeLine; decide, fun l5 hl5 => ?_⟩
      have e7 : (upd (upd H6 l4 (.lst [V.bl false, V.bl false])) l5 (.lst ([V.bl true, V.bl true, V.bl false] ++ [V.bl false, V.bl false]))) l5 = some (.lst ([true, true, false, false, false].map V.bl)) := upd_same
      generalize upd (upd H6 l4 (.lst [V.bl false, V.bl false])) l5 (.lst ([V.bl true, V.bl true, V.bl false] ++ [V.bl false, V.bl false])) = H7 at e7 ⊢
      refine hZ1 _ _ ?_
      (try first | refine hZ _ _ ?_ | refine hZn _ _ ?_); (try refine seq_hide fun Z hZ => ?_); refine ⟨_, rfl, by show 5 ≤ sizeLine; decide, fun l6 hl6 => ?_⟩
      (try first | refine hZ _ _ ?_ | refine hZn _ _ ?_); (try refine seq_hide fun Z hZ => ?_); refine ⟨l5, l6, [true, true, false, false, false], [true, true, false, false, false], rfl, rfl, SqL.of (Same.new hl6 _ _ e7), SqL.of upd_same, ?_⟩
      rw [decide_eq_true rfl]
      (try first | refine hZ _ _ ?_ | refine hZn _ _ ?_); exact q _

end

end W16

set_option Elab.async false
set_option linter.all false
set_option maxRecDepth 100000
namespace W16
open PySem PySem.W PyProof.Rows L2 Ww
set_option maxHeartbeats 0 in
theorem all_mk {l : PySem.W.OpenLaw} {w : World} {K : PySem.W.Frag} {h : Heap} {mg : Str → Option Value} {fa C0 CWheelError CNoDeed CTieTwice CIdle CBadNote f0 f1 f2 f3 f4 f5 f6 f7 f8 f9 f10 f11 f12 f13 f14 f15 f16 f17 : Addr} (X : K.In h) (G : h.Ns mainGlobals mg) (hfa : mg "law" = some (.ref fa))
    {od0 an0 od1 an1 od2 an2 od3 an3 od4 an4 od5 an5 od6 an6 od7 an7 od8 an8 od9 an9 od10 an10 od11 an11 od12 an12 od13 an13 od14 an14 od15 an15 od16 an16 od17 an17 : Option Addr} {sl0 sl1 sl2 sl3 sl4 sl5 sl6 sl7 sl8 sl9 sl10 sl11 sl12 sl13 sl14 sl15 sl16 sl17 : Array (Option Value)} {oc0 kV0 dc0 pm0 cd0 ct0 oc1 kV1 dc1 pm1 cd1 ct1 oc2 kV2 dc2 pm2 cd2 ct2 oc3 kV3 dc3 pm3 cd3 ct3 oc4 kV4 dc4 pm4 cd4 ct4 oc5 kV5 dc5 pm5 cd5 ct5 oc6 kV6 dc6 pm6 cd6 ct6 oc7 kV7 dc7 pm7 cd7 ct7 oc8 kV8 dc8 pm8 cd8 ct8 oc9 kV9 dc9 pm9 cd9 ct9 oc10 kV10 dc10 pm10 cd10 ct10 oc11 kV11 dc11 pm11 cd11 ct11 oc12 kV12 dc12 pm12 cd12 ct12 oc13 kV13 dc13 pm13 cd13 ct13 oc14 kV14 dc14 pm14 cd14 ct14 oc15 kV15 dc15 pm15 cd15 ct15 oc16 kV16 dc16 pm16 cd16 ct16 oc17 kV17 dc17 pm17 cd17 ct17 : Value} {tk_MOST_DEEDS : Tok} {tk_FIGURES : Tok} {tk_MOST_FIGURES : Tok}
    (aCC0 : PySem.W.nsIn K mainGlobals "Wheel" = some (some (.ref C0)))
    (pgC0 : PySem.W.plainGet K C0 Str.empty = true)
    (hdC0 : PySem.W.hasDictIn K C0 = true)
    (poC0 : PySem.W.plainOver K C0 = true)
    (saC0 : PySem.W.findIn K (.ref C0) "__setattr__" = some (some (.builtin "object.__setattr__")))
    (mkC0 : PySem.W.makesIn K C0 = true)
    (kcC0 : PySem.W.keepIn K (.ref C0) = true)
    (nC0_deeds : PySem.W.findIn K (.ref C0) "deeds" = some none)
    (nC0_in_order : PySem.W.findIn K (.ref C0) "in_order" = some none)
    (nC0_into : PySem.W.findIn K (.ref C0) "into" = some none)
    (aEWheelError : PySem.W.nsIn K mainGlobals "WheelError" = some (some (.ref CWheelError))) (xEWheelError : PySem.W.excIn K CWheelError [.type "ValueError", .type "Exception", .type "BaseException", .type "object"] "ValueError.__new__" = true)
    (aENoDeed : PySem.W.nsIn K mainGlobals "NoDeed" = some (some (.ref CNoDeed))) (xENoDeed : PySem.W.excIn K CNoDeed [.type "ValueError", .type "Exception", .type "BaseException", .type "object"] "ValueError.__new__" = true)
    (aETieTwice : PySem.W.nsIn K mainGlobals "TieTwice" = some (some (.ref CTieTwice))) (xETieTwice : PySem.W.excIn K CTieTwice [.type "ValueError", .type "Exception", .type "BaseException", .type "object"] "ValueError.__new__" = true)
    (aEIdle : PySem.W.nsIn K mainGlobals "Idle" = some (some (.ref CIdle))) (xEIdle : PySem.W.excIn K CIdle [.type "ValueError", .type "Exception", .type "BaseException", .type "object"] "ValueError.__new__" = true)
    (aEBadNote : PySem.W.nsIn K mainGlobals "BadNote" = some (some (.ref CBadNote))) (xEBadNote : PySem.W.excIn K CBadNote [.type "ValueError", .type "Exception", .type "BaseException", .type "object"] "ValueError.__new__" = true)
    (xc_BadNote : PySem.W.isClsIn K CBadNote = true) (xt_BadNote : PySem.W.typeIn K (.ref CBadNote) = some (.type "type"))
    (xc_Idle : PySem.W.isClsIn K CIdle = true) (xt_Idle : PySem.W.typeIn K (.ref CIdle) = some (.type "type"))
    (xc_NoDeed : PySem.W.isClsIn K CNoDeed = true) (xt_NoDeed : PySem.W.typeIn K (.ref CNoDeed) = some (.type "type"))
    (xc_TieTwice : PySem.W.isClsIn K CTieTwice = true) (xt_TieTwice : PySem.W.typeIn K (.ref CTieTwice) = some (.type "type"))
    (xc_WheelError : PySem.W.isClsIn K CWheelError = true) (xt_WheelError : PySem.W.typeIn K (.ref CWheelError) = some (.type "type"))
    (xm_NoDeed : PySem.W.mroIn K CNoDeed (.type "object") = some true) (xg_NoDeed : PySem.W.findIn K (.ref CNoDeed) "__getattribute__" = some (some (.builtin "BaseException.__getattribute__"))) (xh_NoDeed : PySem.W.findIn K (.ref CNoDeed) "__getattr__" = some none) (xe_NoDeed : PySem.W.subIn K (.ref CNoDeed) (.type "BaseException") = some true) (xa_NoDeed : PySem.W.findIn K (.ref CNoDeed) "__class__" = some (some (.builtin "object.__class__"))) (xv_NoDeed : PySem.W.subIn K (.ref CNoDeed) (.type "ValueError") = some true) (xw_NoDeed : PySem.W.subIn K (.ref CNoDeed) (.ref CWheelError) = some true)
    (xs_NoDeed_BadNote : PySem.W.subIn K (.ref CNoDeed) (.ref CBadNote) = some false)
    (xs_NoDeed_Idle : PySem.W.subIn K (.ref CNoDeed) (.ref CIdle) = some false)
    (xs_NoDeed_NoDeed : PySem.W.subIn K (.ref CNoDeed) (.ref CNoDeed) = some true)
    (xs_NoDeed_TieTwice : PySem.W.subIn K (.ref CNoDeed) (.ref CTieTwice) = some false)
    (xm_TieTwice : PySem.W.mroIn K CTieTwice (.type "object") = some true) (xg_TieTwice : PySem.W.findIn K (.ref CTieTwice) "__getattribute__" = some (some (.builtin "BaseException.__getattribute__"))) (xh_TieTwice : PySem.W.findIn K (.ref CTieTwice) "__getattr__" = some none) (xe_TieTwice : PySem.W.subIn K (.ref CTieTwice) (.type "BaseException") = some true) (xa_TieTwice : PySem.W.findIn K (.ref CTieTwice) "__class__" = some (some (.builtin "object.__class__"))) (xv_TieTwice : PySem.W.subIn K (.ref CTieTwice) (.type "ValueError") = some true) (xw_TieTwice : PySem.W.subIn K (.ref CTieTwice) (.ref CWheelError) = some true)
    (xs_TieTwice_BadNote : PySem.W.subIn K (.ref CTieTwice) (.ref CBadNote) = some false)
    (xs_TieTwice_Idle : PySem.W.subIn K (.ref CTieTwice) (.ref CIdle) = some false)
    (xs_TieTwice_NoDeed : PySem.W.subIn K (.ref CTieTwice) (.ref CNoDeed) = some false)
    (xs_TieTwice_TieTwice : PySem.W.subIn K (.ref CTieTwice) (.ref CTieTwice) = some true)
    (xm_Idle : PySem.W.mroIn K CIdle (.type "object") = some true) (xg_Idle : PySem.W.findIn K (.ref CIdle) "__getattribute__" = some (some (.builtin "BaseException.__getattribute__"))) (xh_Idle : PySem.W.findIn K (.ref CIdle) "__getattr__" = some none) (xe_Idle : PySem.W.subIn K (.ref CIdle) (.type "BaseException") = some true) (xa_Idle : PySem.W.findIn K (.ref CIdle) "__class__" = some (some (.builtin "object.__class__"))) (xv_Idle : PySem.W.subIn K (.ref CIdle) (.type "ValueError") = some true) (xw_Idle : PySem.W.subIn K (.ref CIdle) (.ref CWheelError) = some true)
    (xs_Idle_BadNote : PySem.W.subIn K (.ref CIdle) (.ref CBadNote) = some false)
    (xs_Idle_Idle : PySem.W.subIn K (.ref CIdle) (.ref CIdle) = some true)
    (xs_Idle_NoDeed : PySem.W.subIn K (.ref CIdle) (.ref CNoDeed) = some false)
    (xs_Idle_TieTwice : PySem.W.subIn K (.ref CIdle) (.ref CTieTwice) = some false)
    (xm_BadNote : PySem.W.mroIn K CBadNote (.type "object") = some true) (xg_BadNote : PySem.W.findIn K (.ref CBadNote) "__getattribute__" = some (some (.builtin "BaseException.__getattribute__"))) (xh_BadNote : PySem.W.findIn K (.ref CBadNote) "__getattr__" = some none) (xe_BadNote : PySem.W.subIn K (.ref CBadNote) (.type "BaseException") = some true) (xa_BadNote : PySem.W.findIn K (.ref CBadNote) "__class__" = some (some (.builtin "object.__class__"))) (xv_BadNote : PySem.W.subIn K (.ref CBadNote) (.type "ValueError") = some true) (xw_BadNote : PySem.W.subIn K (.ref CBadNote) (.ref CWheelError) = some true)
    (xs_BadNote_BadNote : PySem.W.subIn K (.ref CBadNote) (.ref CBadNote) = some true)
    (xs_BadNote_Idle : PySem.W.subIn K (.ref CBadNote) (.ref CIdle) = some false)
    (xs_BadNote_NoDeed : PySem.W.subIn K (.ref CBadNote) (.ref CNoDeed) = some false)
    (xs_BadNote_TieTwice : PySem.W.subIn K (.ref CBadNote) (.ref CTieTwice) = some false)
    (xn : PySem.W.specialIn K (.builtin "object.__class__") "__get__" = some (some (.builtin "getset_descriptor.__get__"))) (xk : PySem.W.takesIn K (.builtin "object.__class__") = some true) (xb : PySem.W.subIn K (.ref CWheelError) (.type "BaseException") = some true) (z_ValueError : PySem.W.nsIn K mainGlobals "ValueError" = some none)
    (a0 : PySem.W.nsIn K mainGlobals "check_deed" = some (some (.ref f0)))
    (l0 : K.lookup f0 = some ⟨oc0, od0, .func (PySem.W.fnOf "check_deed" "check_deed" (defArgs s_check_deed) (defBody s_check_deed) (defScope s_check_deed) .none kV0 dc0 pm0 an0 cd0 ct0), sl0⟩) (c0 : PySem.W.codeIn K cd0 "check_deed" = true) (k0 : PySem.W.keepIn K (.ref f0) = true)
    (a1 : PySem.W.nsIn K mainGlobals "check_ties" = some (some (.ref f1)))
    (l1 : K.lookup f1 = some ⟨oc1, od1, .func (PySem.W.fnOf "check_ties" "check_ties" (defArgs s_check_ties) (defBody s_check_ties) (defScope s_check_ties) .none kV1 dc1 pm1 an1 cd1 ct1), sl1⟩) (c1 : PySem.W.codeIn K cd1 "check_ties" = true) (k1 : PySem.W.keepIn K (.ref f1) = true)
    (a2 : PySem.W.findIn K (.ref C0) "__init__" = some (some (.ref f2))) (i2 : PySem.W.isFn K (.ref f2) = true)
    (l2 : K.lookup f2 = some ⟨oc2, od2, .func (PySem.W.fnOf "__init__" "Wheel.__init__" (defArgs s_init) (defBody s_init) (defScope s_init) .none kV2 dc2 pm2 an2 cd2 ct2), sl2⟩) (c2 : PySem.W.codeIn K cd2 "Wheel.__init__" = true) (k2 : PySem.W.keepIn K (.ref f2) = true)
    (a3 : PySem.W.findIn K (.ref C0) "size" = some (some (.ref f3))) (i3 : PySem.W.isFn K (.ref f3) = true)
    (l3 : K.lookup f3 = some ⟨oc3, od3, .func (PySem.W.fnOf "size" "Wheel.size" (defArgs s_size) (defBody s_size) (defScope s_size) .none kV3 dc3 pm3 an3 cd3 ct3), sl3⟩) (c3 : PySem.W.codeIn K cd3 "Wheel.size" = true) (k3 : PySem.W.keepIn K (.ref f3) = true)
    (a4 : PySem.W.findIn K (.ref C0) "ties" = some (some (.ref f4))) (i4 : PySem.W.isFn K (.ref f4) = true)
    (l4 : K.lookup f4 = some ⟨oc4, od4, .func (PySem.W.fnOf "ties" "Wheel.ties" (defArgs s_ties) (defBody s_ties) (defScope s_ties) .none kV4 dc4 pm4 an4 cd4 ct4), sl4⟩) (c4 : PySem.W.codeIn K cd4 "Wheel.ties" = true) (k4 : PySem.W.keepIn K (.ref f4) = true)
    (a5 : PySem.W.findIn K (.ref C0) "waits" = some (some (.ref f5))) (i5 : PySem.W.isFn K (.ref f5) = true)
    (l5 : K.lookup f5 = some ⟨oc5, od5, .func (PySem.W.fnOf "waits" "Wheel.waits" (defArgs s_waits) (defBody s_waits) (defScope s_waits) .none kV5 dc5 pm5 an5 cd5 ct5), sl5⟩) (c5 : PySem.W.codeIn K cd5 "Wheel.waits" = true) (k5 : PySem.W.keepIn K (.ref f5) = true)
    (a6 : PySem.W.nsIn K mainGlobals "is_number" = some (some (.ref f6)))
    (l6 : K.lookup f6 = some ⟨oc6, od6, .func (PySem.W.fnOf "is_number" "is_number" (defArgs s_is_number) (defBody s_is_number) (defScope s_is_number) .none kV6 dc6 pm6 an6 cd6 ct6), sl6⟩) (c6 : PySem.W.codeIn K cd6 "is_number" = true) (k6 : PySem.W.keepIn K (.ref f6) = true)
    (a7 : PySem.W.nsIn K mainGlobals "number" = some (some (.ref f7)))
    (l7 : K.lookup f7 = some ⟨oc7, od7, .func (PySem.W.fnOf "number" "number" (defArgs s_number16) (defBody s_number16) (defScope s_number16) .none kV7 dc7 pm7 an7 cd7 ct7), sl7⟩) (c7 : PySem.W.codeIn K cd7 "number" = true) (k7 : PySem.W.keepIn K (.ref f7) = true)
    (a8 : PySem.W.nsIn K mainGlobals "numbers" = some (some (.ref f8)))
    (l8 : K.lookup f8 = some ⟨oc8, od8, .func (PySem.W.fnOf "numbers" "numbers" (defArgs s_numbers) (defBody s_numbers) (defScope s_numbers) .none kV8 dc8 pm8 an8 cd8 ct8), sl8⟩) (c8 : PySem.W.codeIn K cd8 "numbers" = true) (k8 : PySem.W.keepIn K (.ref f8) = true)
    (a9 : PySem.W.nsIn K mainGlobals "lines_of" = some (some (.ref f9)))
    (l9 : K.lookup f9 = some ⟨oc9, od9, .func (PySem.W.fnOf "lines_of" "lines_of" (defArgs s_lines_of) (defBody s_lines_of) (defScope s_lines_of) .none kV9 dc9 pm9 an9 cd9 ct9), sl9⟩) (c9 : PySem.W.codeIn K cd9 "lines_of" = true) (k9 : PySem.W.keepIn K (.ref f9) = true)
    (a10 : PySem.W.nsIn K mainGlobals "read" = some (some (.ref f10)))
    (l10 : K.lookup f10 = some ⟨oc10, od10, .func (PySem.W.fnOf "read" "read" (defArgs s_read) (defBody s_read) (defScope s_read) .none kV10 dc10 pm10 an10 cd10 ct10), sl10⟩) (c10 : PySem.W.codeIn K cd10 "read" = true) (k10 : PySem.W.keepIn K (.ref f10) = true)
    (a11 : PySem.W.nsIn K mainGlobals "_law_cell_at" = some (some (.ref f11)))
    (l11 : K.lookup f11 = some ⟨oc11, od11, .func (PySem.W.fnOf "_law_cell_at" "_law_cell_at" (defArgs s_cell_at) (defBody s_cell_at) (defScope s_cell_at) .none kV11 dc11 pm11 an11 cd11 ct11), sl11⟩) (c11 : PySem.W.codeIn K cd11 "_law_cell_at" = true) (k11 : PySem.W.keepIn K (.ref f11) = true)
    (a12 : PySem.W.nsIn K mainGlobals "_law_number" = some (some (.ref f12)))
    (l12 : K.lookup f12 = some ⟨oc12, od12, .func (PySem.W.fnOf "_law_number" "_law_number" (defArgs s_number) (defBody s_number) (defScope s_number) .none kV12 dc12 pm12 an12 cd12 ct12), sl12⟩) (c12 : PySem.W.codeIn K cd12 "_law_number" = true) (k12 : PySem.W.keepIn K (.ref f12) = true)
    (a13 : PySem.W.nsIn K mainGlobals "_law_ties_by" = some (some (.ref f13)))
    (l13 : K.lookup f13 = some ⟨oc13, od13, .func (PySem.W.fnOf "_law_ties_by" "_law_ties_by" (defArgs s_ties_by) (defBody s_ties_by) (defScope s_ties_by) .none kV13 dc13 pm13 an13 cd13 ct13), sl13⟩) (c13 : PySem.W.codeIn K cd13 "_law_ties_by" = true) (k13 : PySem.W.keepIn K (.ref f13) = true)
    (a14 : PySem.W.nsIn K mainGlobals "_law_bad_line" = some (some (.ref f14)))
    (l14 : K.lookup f14 = some ⟨oc14, od14, .func (PySem.W.fnOf "_law_bad_line" "_law_bad_line" (defArgs s_bad_line) (defBody s_bad_line) (defScope s_bad_line) .none kV14 dc14 pm14 an14 cd14 ct14), sl14⟩) (c14 : PySem.W.codeIn K cd14 "_law_bad_line" = true) (k14 : PySem.W.keepIn K (.ref f14) = true)
    (a15 : PySem.W.nsIn K mainGlobals "_law_bad_first" = some (some (.ref f15)))
    (l15 : K.lookup f15 = some ⟨oc15, od15, .func (PySem.W.fnOf "_law_bad_first" "_law_bad_first" (defArgs s_bad_first) (defBody s_bad_first) (defScope s_bad_first) .none kV15 dc15 pm15 an15 cd15 ct15), sl15⟩) (c15 : PySem.W.codeIn K cd15 "_law_bad_first" = true) (k15 : PySem.W.keepIn K (.ref f15) = true)
    (a16 : PySem.W.nsIn K mainGlobals "_law_spoiled" = some (some (.ref f16)))
    (l16 : K.lookup f16 = some ⟨oc16, od16, .func (PySem.W.fnOf "_law_spoiled" "_law_spoiled" (defArgs s_spoiled) (defBody s_spoiled) (defScope s_spoiled) .none kV16 dc16 pm16 an16 cd16 ct16), sl16⟩) (c16 : PySem.W.codeIn K cd16 "_law_spoiled" = true) (k16 : PySem.W.keepIn K (.ref f16) = true)
    (a17 : PySem.W.nsIn K mainGlobals "law" = some (some (.ref f17)))
    (l17 : K.lookup f17 = some ⟨oc17, od17, .func (PySem.W.fnOf "law" "law" (defArgs s_law) (defBody s_law) (defScope s_law) .none kV17 dc17 pm17 an17 cd17 ct17), sl17⟩) (c17 : PySem.W.codeIn K cd17 "law" = true) (k17 : PySem.W.keepIn K (.ref f17) = true)
    (z_len : PySem.W.nsIn K mainGlobals "len" = some none)
    (z_range : PySem.W.nsIn K mainGlobals "range" = some none)
    (z_list : PySem.W.nsIn K mainGlobals "list" = some none)
    (z_sorted : PySem.W.nsIn K mainGlobals "sorted" = some none)
    (z_isinstance : PySem.W.nsIn K mainGlobals "isinstance" = some none)
    (z_all : PySem.W.nsIn K mainGlobals "all" = some none)
    (z_bool : PySem.W.nsIn K mainGlobals "bool" = some none)
    (z_int : PySem.W.nsIn K mainGlobals "int" = some none)
    (z_tuple : PySem.W.nsIn K mainGlobals "tuple" = some none)
    (z_enumerate : PySem.W.nsIn K mainGlobals "enumerate" = some none)
    (z_reversed : PySem.W.nsIn K mainGlobals "reversed" = some none)
    (z_max : PySem.W.nsIn K mainGlobals "max" = some none)
    (z_min : PySem.W.nsIn K mainGlobals "min" = some none)
    (z_abs : PySem.W.nsIn K mainGlobals "abs" = some none)
    (z_zip : PySem.W.nsIn K mainGlobals "zip" = some none)
    (z_sum : PySem.W.nsIn K mainGlobals "sum" = some none)
    (z_str : PySem.W.nsIn K mainGlobals "str" = some none)
    (z_set : PySem.W.nsIn K mainGlobals "set" = some none)
    (v_MOST_DEEDS : PySem.W.nsIn K mainGlobals "MOST_DEEDS" = some (some (.int 40 tk_MOST_DEEDS)))
    (v_FIGURES : PySem.W.nsIn K mainGlobals "FIGURES" = some (some (.str "0123456789" tk_FIGURES)))
    (v_MOST_FIGURES : PySem.W.nsIn K mainGlobals "MOST_FIGURES" = some (some (.int 30 tk_MOST_FIGURES))) :
    ∃ fd : FuncData, (∀ (s : Shared) (v : Value), BindsTo s fd ⟨[v], []⟩ [("script", v)]) ∧ ∀ base : Heap, K.In base → base.Ns mainGlobals mg → FnOk l.prog w K mg base CX0 6 fa fd ["script"] (spLaw K) := by
  have e := hfa.symm.trans (PySem.W.mg_of X G a17)
  cases e
  have nb : NB mg := ⟨PySem.W.mg_none_of X G z_len, PySem.W.mg_none_of X G z_range, PySem.W.mg_none_of X G z_list, PySem.W.mg_none_of X G z_sorted, PySem.W.mg_none_of X G z_isinstance, PySem.W.mg_none_of X G z_all, PySem.W.mg_none_of X G z_bool, PySem.W.mg_none_of X G z_int, PySem.W.mg_none_of X G z_tuple, PySem.W.mg_none_of X G z_enumerate, PySem.W.mg_none_of X G z_reversed⟩
  have nb2 : NB2 mg := ⟨PySem.W.mg_none_of X G z_max, PySem.W.mg_none_of X G z_min, PySem.W.mg_none_of X G z_abs, PySem.W.mg_none_of X G z_zip, PySem.W.mg_none_of X G z_sum, PySem.W.mg_none_of X G z_str, PySem.W.mg_none_of X G z_set⟩
  have F0 := fun_mk (st := s_check_deed) l0 c0 k0
  have b0 := binds2 (p1 := "size") (p2 := "deed") F0 (fun _ _ _ _ _ _ _ _ => rfl)
  have F1 := fun_mk (st := s_check_ties) l1 c1 k1
  have b1 := binds2 (p1 := "size") (p2 := "ties") F1 (fun _ _ _ _ _ _ _ _ => rfl)
  have F2 := fun_mk (st := s_init) l2 c2 k2
  have b2 := binds3 (p1 := "self") (p2 := "size") (p3 := "ties") F2 (fun _ _ _ _ _ _ _ _ _ => rfl)
  have F3 := fun_mk (st := s_size) l3 c3 k3
  have b3 := binds1 (p1 := "self") F3 (fun _ _ _ _ _ _ _ => rfl)
  have F4 := fun_mk (st := s_ties) l4 c4 k4
  have b4 := binds1 (p1 := "self") F4 (fun _ _ _ _ _ _ _ => rfl)
  have F5 := fun_mk (st := s_waits) l5 c5 k5
  have b5 := binds2 (p1 := "self") (p2 := "b") F5 (fun _ _ _ _ _ _ _ _ => rfl)
  have F6 := fun_mk (st := s_is_number) l6 c6 k6
  have b6 := binds1 (p1 := "word") F6 (fun _ _ _ _ _ _ _ => rfl)
  have F7 := fun_mk (st := s_number16) l7 c7 k7
  have b7 := binds1 (p1 := "word") F7 (fun _ _ _ _ _ _ _ => rfl)
  have F8 := fun_mk (st := s_numbers) l8 c8 k8
  have b8 := binds3 (p1 := "line") (p2 := "word") (p3 := "many") F8 (fun _ _ _ _ _ _ _ _ _ => rfl)
  have F9 := fun_mk (st := s_lines_of) l9 c9 k9
  have b9 := binds1 (p1 := "text") F9 (fun _ _ _ _ _ _ _ => rfl)
  have F10 := fun_mk (st := s_read) l10 c10 k10
  have b10 := binds1 (p1 := "text") F10 (fun _ _ _ _ _ _ _ => rfl)
  have F11 := fun_mk (st := s_cell_at) l11 c11 k11
  have b11 := binds2 (p1 := "script") (p2 := "k") F11 (fun _ _ _ _ _ _ _ _ => rfl)
  have F12 := fun_mk (st := s_number) l12 c12 k12
  have b12 := binds2 (p1 := "cell") (p2 := "wide") F12 (fun _ _ _ _ _ _ _ _ => rfl)
  have F13 := fun_mk (st := s_ties_by) l13 c13 k13
  have b13 := binds5 (p1 := "script") (p2 := "start") (p3 := "size") (p4 := "count") (p5 := "wide") F13 (fun _ _ _ _ _ _ _ _ _ _ _ => rfl)
  have F14 := fun_mk (st := s_bad_line) l14 c14 k14
  have b14 := binds1 (p1 := "cell") F14 (fun _ _ _ _ _ _ _ => rfl)
  have F15 := fun_mk (st := s_bad_first) l15 c15 k15
  have b15 := binds1 (p1 := "cell") F15 (fun _ _ _ _ _ _ _ => rfl)
  have F16 := fun_mk (st := s_spoiled) l16 c16 k16
  have b16 := binds5 (p1 := "size") (p2 := "head") (p3 := "rows") (p4 := "lines") (p5 := "cell") F16 (fun _ _ _ _ _ _ _ _ _ _ _ => rfl)
  have F17 := fun_mk (st := s_law) l17 c17 k17
  have b17 := binds1 (p1 := "script") F17 (fun _ _ _ _ _ _ _ => rfl)
  have XC_WheelError : ∀ base : Heap, K.In base → base.Ns mainGlobals mg → XCls K mg base "WheelError" CWheelError := fun base kb gb => xcls_of kb gb aEWheelError xEWheelError
  have XC_NoDeed : ∀ base : Heap, K.In base → base.Ns mainGlobals mg → XCls K mg base "NoDeed" CNoDeed := fun base kb gb => xcls_of kb gb aENoDeed xENoDeed
  have XC_TieTwice : ∀ base : Heap, K.In base → base.Ns mainGlobals mg → XCls K mg base "TieTwice" CTieTwice := fun base kb gb => xcls_of kb gb aETieTwice xETieTwice
  have XC_Idle : ∀ base : Heap, K.In base → base.Ns mainGlobals mg → XCls K mg base "Idle" CIdle := fun base kb gb => xcls_of kb gb aEIdle xEIdle
  have XC_BadNote : ∀ base : Heap, K.In base → base.Ns mainGlobals mg → XCls K mg base "BadNote" CBadNote := fun base kb gb => xcls_of kb gb aEBadNote xEBadNote
  have GN_ValueError : ∀ base : Heap, K.In base → base.Ns mainGlobals mg → mg "ValueError" = none := fun _ _ _ => PySem.W.mg_none_of X G z_ValueError
  have XR_NoDeed : ∀ base : Heap, K.In base → base.Ns mainGlobals mg → ExRel K CWheelError CNoDeed [CBadNote, CNoDeed, CTieTwice, CIdle] [false, true, false, false] := fun _ _ _ => exRel_mk xc_NoDeed xt_NoDeed xs_NoDeed_NoDeed xg_NoDeed xh_NoDeed xe_NoDeed xa_NoDeed xn xk xm_NoDeed xc_WheelError xt_WheelError xb xw_NoDeed xv_NoDeed (ex_cons (kitOne_no xs_NoDeed_NoDeed xc_BadNote xt_BadNote xs_NoDeed_BadNote) (ex_cons kitOne_self (ex_cons (kitOne_no xs_NoDeed_NoDeed xc_TieTwice xt_TieTwice xs_NoDeed_TieTwice) (ex_cons (kitOne_no xs_NoDeed_NoDeed xc_Idle xt_Idle xs_NoDeed_Idle) ex_nil))))
  have XR_TieTwice : ∀ base : Heap, K.In base → base.Ns mainGlobals mg → ExRel K CWheelError CTieTwice [CBadNote, CNoDeed, CTieTwice, CIdle] [false, false, true, false] := fun _ _ _ => exRel_mk xc_TieTwice xt_TieTwice xs_TieTwice_TieTwice xg_TieTwice xh_TieTwice xe_TieTwice xa_TieTwice xn xk xm_TieTwice xc_WheelError xt_WheelError xb xw_TieTwice xv_TieTwice (ex_cons (kitOne_no xs_TieTwice_TieTwice xc_BadNote xt_BadNote xs_TieTwice_BadNote) (ex_cons (kitOne_no xs_TieTwice_TieTwice xc_NoDeed xt_NoDeed xs_TieTwice_NoDeed) (ex_cons kitOne_self (ex_cons (kitOne_no xs_TieTwice_TieTwice xc_Idle xt_Idle xs_TieTwice_Idle) ex_nil))))
  have XR_Idle : ∀ base : Heap, K.In base → base.Ns mainGlobals mg → ExRel K CWheelError CIdle [CBadNote, CNoDeed, CTieTwice, CIdle] [false, false, false, true] := fun _ _ _ => exRel_mk xc_Idle xt_Idle xs_Idle_Idle xg_Idle xh_Idle xe_Idle xa_Idle xn xk xm_Idle xc_WheelError xt_WheelError xb xw_Idle xv_Idle (ex_cons (kitOne_no xs_Idle_Idle xc_BadNote xt_BadNote xs_Idle_BadNote) (ex_cons (kitOne_no xs_Idle_Idle xc_NoDeed xt_NoDeed xs_Idle_NoDeed) (ex_cons (kitOne_no xs_Idle_Idle xc_TieTwice xt_TieTwice xs_Idle_TieTwice) (ex_cons kitOne_self ex_nil))))
  have XR_BadNote : ∀ base : Heap, K.In base → base.Ns mainGlobals mg → ExRel K CWheelError CBadNote [CBadNote, CNoDeed, CTieTwice, CIdle] [true, false, false, false] := fun _ _ _ => exRel_mk xc_BadNote xt_BadNote xs_BadNote_BadNote xg_BadNote xh_BadNote xe_BadNote xa_BadNote xn xk xm_BadNote xc_WheelError xt_WheelError xb xw_BadNote xv_BadNote (ex_cons kitOne_self (ex_cons (kitOne_no xs_BadNote_BadNote xc_NoDeed xt_NoDeed xs_BadNote_NoDeed) (ex_cons (kitOne_no xs_BadNote_BadNote xc_TieTwice xt_TieTwice xs_BadNote_TieTwice) (ex_cons (kitOne_no xs_BadNote_BadNote xc_Idle xt_Idle xs_BadNote_Idle) ex_nil))))
  have T : WTxt K mg C0 := ⟨⟨pgC0, hdC0, poC0, saC0⟩, nC0_deeds, nC0_in_order, nC0_into, ⟨_, PySem.W.mg_of X G v_MOST_DEEDS⟩⟩
  have GI_MOST_DEEDS : ∀ base : Heap, K.In base → base.Ns mainGlobals mg → ∃ tk, mg "MOST_DEEDS" = some (Value.int 40 tk) := fun _ _ _ => ⟨_, PySem.W.mg_of X G v_MOST_DEEDS⟩
  have GI_FIGURES : ∀ base : Heap, K.In base → base.Ns mainGlobals mg → ∃ tk, mg "FIGURES" = some (Value.str "0123456789" tk) := fun _ _ _ => ⟨_, PySem.W.mg_of X G v_FIGURES⟩
  have GI_MOST_FIGURES : ∀ base : Heap, K.In base → base.Ns mainGlobals mg → ∃ tk, mg "MOST_FIGURES" = some (Value.int 30 tk) := fun _ _ _ => ⟨_, PySem.W.mg_of X G v_MOST_FIGURES⟩
  have D_check_deed : ∀ base : Heap, K.In base → base.Ns mainGlobals mg → DefOk l.prog w K mg base CX0 1 "check_deed" ["size", "deed"] (spCheckDeed) := fun base kb gb => def_ok F0 (PySem.W.mg_of X G a0) b0 (ok_check_deed F0)
  have DX_check_deed : ∀ base : Heap, K.In base → base.Ns mainGlobals mg → DefOk l.prog w K mg base (CXE l.prog w base) 1 "check_deed" ["size", "deed"] (spCheckDeedB CNoDeed) := fun base kb gb => def_okX F0 (PySem.W.mg_of X G a0) b0 (okx_check_deed (CWheelError := CWheelError) (CNoDeed := CNoDeed) (CTieTwice := CTieTwice) (CIdle := CIdle) (CBadNote := CBadNote) F0 nb nb2 T (XC_NoDeed base kb gb))
  have D_check_ties : ∀ base : Heap, K.In base → base.Ns mainGlobals mg → DefOk l.prog w K mg base CX0 2 "check_ties" ["size", "ties"] (spCheckTies K) := fun base kb gb => def_ok F1 (PySem.W.mg_of X G a1) b1 (ok_check_ties F1 (D_check_deed base kb gb))
  have DX_check_ties : ∀ base : Heap, K.In base → base.Ns mainGlobals mg → DefOk l.prog w K mg base (CXE l.prog w base) 2 "check_ties" ["size", "ties"] (spCheckTiesX K CNoDeed CTieTwice) := fun base kb gb => def_okX F1 (PySem.W.mg_of X G a1) b1 (okx_check_ties (CWheelError := CWheelError) (CNoDeed := CNoDeed) (CTieTwice := CTieTwice) (CIdle := CIdle) (CBadNote := CBadNote) F1 nb nb2 T (XC_TieTwice base kb gb) (DX_check_deed base kb gb))
  have C_Wheel : ∀ base : Heap, K.In base → base.Ns mainGlobals mg → ClassOk l.prog w K mg base CX0 3 C0 "Wheel" ["self", "size", "ties"] (spInit K C0) := fun base kb gb => ⟨⟨_, _, ok_init F2 nb T (D_check_ties base kb gb), ⟨mkC0, a2, i2, kcC0⟩, PySem.W.mg_of X G aCC0, b2⟩⟩
  have CX_Wheel : ∀ base : Heap, K.In base → base.Ns mainGlobals mg → ClassOk l.prog w K mg base (CXE l.prog w base) 3 C0 "Wheel" ["self", "size", "ties"] (spInitX K C0 CNoDeed CTieTwice CIdle) := fun base kb gb => ⟨⟨_, _, okx_init (CWheelError := CWheelError) (CNoDeed := CNoDeed) (CTieTwice := CTieTwice) (CIdle := CIdle) (CBadNote := CBadNote) F2 nb nb2 T (XC_NoDeed base kb gb) (XC_Idle base kb gb) (D_check_ties base kb gb) (DX_check_ties base kb gb), ⟨mkC0, a2, i2, kcC0⟩, PySem.W.mg_of X G aCC0, b2⟩⟩
  have M_size : ∀ base : Heap, K.In base → base.Ns mainGlobals mg → MethOk l.prog w K mg base CX0 1 C0 "size" ["self"] (spSize C0) := fun base kb gb => ⟨⟨_, _, ok_size F3 T, ⟨a3, i3, k3⟩, ⟨pgC0, hdC0, poC0, saC0⟩, b3⟩⟩
  have M_ties : ∀ base : Heap, K.In base → base.Ns mainGlobals mg → MethOk l.prog w K mg base CX0 1 C0 "ties" ["self"] (spTies C0) := fun base kb gb => ⟨⟨_, _, ok_ties F4 nb T, ⟨a4, i4, k4⟩, ⟨pgC0, hdC0, poC0, saC0⟩, b4⟩⟩
  have M_waits : ∀ base : Heap, K.In base → base.Ns mainGlobals mg → MethOk l.prog w K mg base CX0 2 C0 "waits" ["self", "b"] (spWaits C0) := fun base kb gb => ⟨⟨_, _, ok_waits F5 nb nb2 T (D_check_deed base kb gb), ⟨a5, i5, k5⟩, ⟨pgC0, hdC0, poC0, saC0⟩, b5⟩⟩
  have D_is_number : ∀ base : Heap, K.In base → base.Ns mainGlobals mg → DefOk l.prog w K mg base CX0 1 "is_number" ["word"] (spIsNumG K) := fun base kb gb => def_ok F6 (PySem.W.mg_of X G a6) b6 (ok_is_number F6 nb nb2 T (GI_MOST_FIGURES base kb gb) (GI_FIGURES base kb gb))
  have DX_number : ∀ base : Heap, K.In base → base.Ns mainGlobals mg → DefOk l.prog w K mg base (CXE l.prog w base) 2 "number" ["word"] (spNumX CBadNote) := fun base kb gb => def_okX F7 (PySem.W.mg_of X G a7) b7 (okx_number16 (CWheelError := CWheelError) (CNoDeed := CNoDeed) (CTieTwice := CTieTwice) (CIdle := CIdle) (CBadNote := CBadNote) F7 nb nb2 T (D_is_number base kb gb) (XC_BadNote base kb gb))
  have DX_numbers : ∀ base : Heap, K.In base → base.Ns mainGlobals mg → DefOk l.prog w K mg base (CXE l.prog w base) 3 "numbers" ["line", "word", "many"] (spNumsX K CBadNote) := fun base kb gb => def_okX F8 (PySem.W.mg_of X G a8) b8 (okx_numbers (CWheelError := CWheelError) (CNoDeed := CNoDeed) (CTieTwice := CTieTwice) (CIdle := CIdle) (CBadNote := CBadNote) F8 nb nb2 T (DX_number base kb gb) (XC_BadNote base kb gb))
  have DX_lines_of : ∀ base : Heap, K.In base → base.Ns mainGlobals mg → DefOk l.prog w K mg base (CXE l.prog w base) 1 "lines_of" ["text"] (spLinesX CBadNote) := fun base kb gb => def_okX F9 (PySem.W.mg_of X G a9) b9 (okx_lines_of (CWheelError := CWheelError) (CNoDeed := CNoDeed) (CTieTwice := CTieTwice) (CIdle := CIdle) (CBadNote := CBadNote) F9 nb nb2 T (XC_BadNote base kb gb))
  have DX_read : ∀ base : Heap, K.In base → base.Ns mainGlobals mg → DefOk l.prog w K mg base (CXE l.prog w base) 5 "read" ["text"] (spReadX K C0 CBadNote) := fun base kb gb => def_okX F10 (PySem.W.mg_of X G a10) b10 (okx_read (CWheelError := CWheelError) (CNoDeed := CNoDeed) (CTieTwice := CTieTwice) (CIdle := CIdle) (CBadNote := CBadNote) F10 nb nb2 T (DX_lines_of base kb gb) (DX_numbers base kb gb) (CX_Wheel base kb gb) (XC_WheelError base kb gb) (XC_BadNote base kb gb) (XR_NoDeed base kb gb) (XR_TieTwice base kb gb) (XR_Idle base kb gb) (XR_BadNote base kb gb))
  have D__law_cell_at : ∀ base : Heap, K.In base → base.Ns mainGlobals mg → DefOk l.prog w K mg base CX0 1 "_law_cell_at" ["script", "k"] (spCellAt K) := fun base kb gb => def_ok F11 (PySem.W.mg_of X G a11) b11 (ok_cell_at F11 nb)
  have D__law_number : ∀ base : Heap, K.In base → base.Ns mainGlobals mg → DefOk l.prog w K mg base CX0 1 "_law_number" ["cell", "wide"] (spNumber) := fun base kb gb => def_ok F12 (PySem.W.mg_of X G a12) b12 (ok_number F12)
  have D__law_ties_by : ∀ base : Heap, K.In base → base.Ns mainGlobals mg → DefOk l.prog w K mg base CX0 2 "_law_ties_by" ["script", "start", "size", "count", "wide"] (spTiesBy K) := fun base kb gb => def_ok F13 (PySem.W.mg_of X G a13) b13 (ok_ties_by F13 nb (D__law_cell_at base kb gb) (D__law_number base kb gb))
  have D__law_bad_line : ∀ base : Heap, K.In base → base.Ns mainGlobals mg → DefOk l.prog w K mg base CX0 1 "_law_bad_line" ["cell"] (spBadLine K) := fun base kb gb => def_ok F14 (PySem.W.mg_of X G a14) b14 (ok_bad_line F14 nb nb2 T )
  have D__law_bad_first : ∀ base : Heap, K.In base → base.Ns mainGlobals mg → DefOk l.prog w K mg base CX0 1 "_law_bad_first" ["cell"] (spBadFirst K) := fun base kb gb => def_ok F15 (PySem.W.mg_of X G a15) b15 (ok_bad_first F15 nb nb2 T )
  have D__law_spoiled : ∀ base : Heap, K.In base → base.Ns mainGlobals mg → DefOk l.prog w K mg base CX0 2 "_law_spoiled" ["size", "head", "rows", "lines", "cell"] (spSpoil16 K) := fun base kb gb => def_ok F16 (PySem.W.mg_of X G a16) b16 (ok_spoiled F16 nb nb2 T (D__law_bad_first base kb gb) (D__law_bad_line base kb gb))
  exact ⟨PySem.W.fnOf "law" "law" (defArgs s_law) (defBody s_law) (defScope s_law) .none kV17 dc17 pm17 an17 cd17 ct17, fun s v => .of_eq rfl, fun base kb gb => ok_law F17 nb nb2 T (D__law_cell_at base kb gb) (D__law_ties_by base kb gb) (D__law_spoiled base kb gb) (DX_read base kb gb) (XC_WheelError base kb gb) (XC_BadNote base kb gb) (XC_NoDeed base kb gb) (XC_TieTwice base kb gb) (XC_Idle base kb gb) (XR_BadNote base kb gb) (GN_ValueError base kb gb)⟩
theorem walk {l : PySem.W.OpenLaw} {q : Program} {loose : List Str} {XP : (Str → Option Value) → Heap → Prop} {YP : World → Heap → Prop} {d : DefRec} {K : Params → PySem.W.Frag} (hn : l.most = some 63) (hdf : d.params.defaults = [])
    (hY : ∀ (w : World) (h : Heap), YP w h → (K w.params).In h)
    (F : ∀ (w : World) (mg : Str → Option Value) (fa : Addr) (h : Heap), (K w.params).In h → h.Ns mainGlobals mg → mg d.name = some (.ref fa) →
      ∃ fd : FuncData, (∀ (s : Shared) (u : Value), BindsTo s fd ⟨[u], []⟩ [("script", u)]) ∧ ∀ base : Heap, (K w.params).In base → base.Ns mainGlobals mg → FnOk l.prog w (K w.params) mg base CX0 6 fa fd ["script"] (spLaw (K w.params))) :
    PySem.W.WalkO q loose XP YP l.row.toRowW d [] (fun f vs => PySem.call f vs) :=
  L2.walk_of (n := 63) (k := 6) (x := "script") (CX := fun _ => CX0) (sp := fun w => spLaw (K w.params)) hn (by decide) hdf ⟨rfl, by decide, by decide⟩ hY F (fun _ _ a ns hl _ hS => ⟨a, ns, rfl, hS, hl, fun _ => rfl⟩) fun _ _ _ _ _ z => z
end W16
open PySem PySem.W PyProof.Rows
set_option maxRecDepth 100000 in
set_option maxHeartbeats 0 in
theorem PySem.Challenge.cw_waitwheel_k16_notes_refused_holds : PySem.Challenge.rw_waitwheel_k16_notes_refused.Holds := by
  w_on; o_law; k_head; (case hw => w_witness2)
  k_fill
  refine W16.walk (l := PySem.Challenge.rw_waitwheel_k16_notes_refused) rfl rfl (fun w h Y => PySem.W.kIn_of Y) ?F
  case F =>
    intro w mg fa h KX G hmg
    refine' W16.all_mk KX G hmg ?aCC0 ?pgC0 ?hdC0 ?poC0 ?saC0 ?mkC0 ?kcC0 ?nC0_deeds ?nC0_in_order ?nC0_into ?aEWheelError ?xEWheelError ?aENoDeed ?xENoDeed ?aETieTwice ?xETieTwice ?aEIdle ?xEIdle ?aEBadNote ?xEBadNote ?xc_BadNote ?xt_BadNote ?xc_Idle ?xt_Idle ?xc_NoDeed ?xt_NoDeed ?xc_TieTwice ?xt_TieTwice ?xc_WheelError ?xt_WheelError ?xm_NoDeed ?xg_NoDeed ?xh_NoDeed ?xe_NoDeed ?xa_NoDeed ?xv_NoDeed ?xw_NoDeed ?xs_NoDeed_BadNote ?xs_NoDeed_Idle ?xs_NoDeed_NoDeed ?xs_NoDeed_TieTwice ?xm_TieTwice ?xg_TieTwice ?xh_TieTwice ?xe_TieTwice ?xa_TieTwice ?xv_TieTwice ?xw_TieTwice ?xs_TieTwice_BadNote ?xs_TieTwice_Idle ?xs_TieTwice_NoDeed ?xs_TieTwice_TieTwice ?xm_Idle ?xg_Idle ?xh_Idle ?xe_Idle ?xa_Idle ?xv_Idle ?xw_Idle ?xs_Idle_BadNote ?xs_Idle_Idle ?xs_Idle_NoDeed ?xs_Idle_TieTwice ?xm_BadNote ?xg_BadNote ?xh_BadNote ?xe_BadNote ?xa_BadNote ?xv_BadNote ?xw_BadNote ?xs_BadNote_BadNote ?xs_BadNote_Idle ?xs_BadNote_NoDeed ?xs_BadNote_TieTwice ?xn ?xk ?xb ?z_ValueError ?a0 ?l0 ?c0 ?k0 ?a1 ?l1 ?c1 ?k1 ?a2 ?i2 ?l2 ?c2 ?k2 ?a3 ?i3 ?l3 ?c3 ?k3 ?a4 ?i4 ?l4 ?c4 ?k4 ?a5 ?i5 ?l5 ?c5 ?k5 ?a6 ?l6 ?c6 ?k6 ?a7 ?l7 ?c7 ?k7 ?a8 ?l8 ?c8 ?k8 ?a9 ?l9 ?c9 ?k9 ?a10 ?l10 ?c10 ?k10 ?a11 ?l11 ?c11 ?k11 ?a12 ?l12 ?c12 ?k12 ?a13 ?l13 ?c13 ?k13 ?a14 ?l14 ?c14 ?k14 ?a15 ?l15 ?c15 ?k15 ?a16 ?l16 ?c16 ?k16 ?a17 ?l17 ?c17 ?k17 ?z_len ?z_range ?z_list ?z_sorted ?z_isinstance ?z_all ?z_bool ?z_int ?z_tuple ?z_enumerate ?z_reversed ?z_max ?z_min ?z_abs ?z_zip ?z_sum ?z_str ?z_set ?v_MOST_DEEDS ?v_FIGURES ?v_MOST_FIGURES
    (case aCC0 => k_is)
    (case pgC0 => k_is)
    (case hdC0 => k_is)
    (case poC0 => k_is)
    (case saC0 => k_is)
    (case mkC0 => k_is)
    (case kcC0 => k_is)
    (case nC0_deeds => k_is)
    (case nC0_in_order => k_is)
    (case nC0_into => k_is)
    (case aEWheelError => k_is)
    (case xEWheelError => k_exc)
    (case aENoDeed => k_is)
    (case xENoDeed => k_exc)
    (case aETieTwice => k_is)
    (case xETieTwice => k_exc)
    (case aEIdle => k_is)
    (case xEIdle => k_exc)
    (case aEBadNote => k_is)
    (case xEBadNote => k_exc)
    (case xc_BadNote => k_is)
    (case xt_BadNote => k_is)
    (case xc_Idle => k_is)
    (case xt_Idle => k_is)
    (case xc_NoDeed => k_is)
    (case xt_NoDeed => k_is)
    (case xc_TieTwice => k_is)
    (case xt_TieTwice => k_is)
    (case xc_WheelError => k_is)
    (case xt_WheelError => k_is)
    (case xm_NoDeed => k_is)
    (case xg_NoDeed => k_is)
    (case xh_NoDeed => k_is)
    (case xe_NoDeed => k_is)
    (case xa_NoDeed => k_is)
    (case xv_NoDeed => k_is)
    (case xw_NoDeed => k_is)
    (case xs_NoDeed_BadNote => k_is)
    (case xs_NoDeed_Idle => k_is)
    (case xs_NoDeed_NoDeed => k_is)
    (case xs_NoDeed_TieTwice => k_is)
    (case xm_TieTwice => k_is)
    (case xg_TieTwice => k_is)
    (case xh_TieTwice => k_is)
    (case xe_TieTwice => k_is)
    (case xa_TieTwice => k_is)
    (case xv_TieTwice => k_is)
    (case xw_TieTwice => k_is)
    (case xs_TieTwice_BadNote => k_is)
    (case xs_TieTwice_Idle => k_is)
    (case xs_TieTwice_NoDeed => k_is)
    (case xs_TieTwice_TieTwice => k_is)
    (case xm_Idle => k_is)
    (case xg_Idle => k_is)
    (case xh_Idle => k_is)
    (case xe_Idle => k_is)
    (case xa_Idle => k_is)
    (case xv_Idle => k_is)
    (case xw_Idle => k_is)
    (case xs_Idle_BadNote => k_is)
    (case xs_Idle_Idle => k_is)
    (case xs_Idle_NoDeed => k_is)
    (case xs_Idle_TieTwice => k_is)
    (case xm_BadNote => k_is)
    (case xg_BadNote => k_is)
    (case xh_BadNote => k_is)
    (case xe_BadNote => k_is)
    (case xa_BadNote => k_is)
    (case xv_BadNote => k_is)
    (case xw_BadNote => k_is)
    (case xs_BadNote_BadNote => k_is)
    (case xs_BadNote_Idle => k_is)
    (case xs_BadNote_NoDeed => k_is)
    (case xs_BadNote_TieTwice => k_is)
    (case xn => k_is)
    (case xk => k_is)
    (case xb => k_is)
    (case z_ValueError => k_is)
    (case a0 => k_is)
    (case l0 => k_is)
    (case c0 => k_is)
    (case k0 => k_is)
    (case a1 => k_is)
    (case l1 => k_is)
    (case c1 => k_is)
    (case k1 => k_is)
    (case a2 => k_is)
    (case i2 => k_is)
    (case l2 => k_is)
    (case c2 => k_is)
    (case k2 => k_is)
    (case a3 => k_is)
    (case i3 => k_is)
    (case l3 => k_is)
    (case c3 => k_is)
    (case k3 => k_is)
    (case a4 => k_is)
    (case i4 => k_is)
    (case l4 => k_is)
    (case c4 => k_is)
    (case k4 => k_is)
    (case a5 => k_is)
    (case i5 => k_is)
    (case l5 => k_is)
    (case c5 => k_is)
    (case k5 => k_is)
    (case a6 => k_is)
    (case l6 => k_is)
    (case c6 => k_is)
    (case k6 => k_is)
    (case a7 => k_is)
    (case l7 => k_is)
    (case c7 => k_is)
    (case k7 => k_is)
    (case a8 => k_is)
    (case l8 => k_is)
    (case c8 => k_is)
    (case k8 => k_is)
    (case a9 => k_is)
    (case l9 => k_is)
    (case c9 => k_is)
    (case k9 => k_is)
    (case a10 => k_is)
    (case l10 => k_is)
    (case c10 => k_is)
    (case k10 => k_is)
    (case a11 => k_is)
    (case l11 => k_is)
    (case c11 => k_is)
    (case k11 => k_is)
    (case a12 => k_is)
    (case l12 => k_is)
    (case c12 => k_is)
    (case k12 => k_is)
    (case a13 => k_is)
    (case l13 => k_is)
    (case c13 => k_is)
    (case k13 => k_is)
    (case a14 => k_is)
    (case l14 => k_is)
    (case c14 => k_is)
    (case k14 => k_is)
    (case a15 => k_is)
    (case l15 => k_is)
    (case c15 => k_is)
    (case k15 => k_is)
    (case a16 => k_is)
    (case l16 => k_is)
    (case c16 => k_is)
    (case k16 => k_is)
    (case a17 => k_is)
    (case l17 => k_is)
    (case c17 => k_is)
    (case k17 => k_is)
    (case z_len => k_is)
    (case z_range => k_is)
    (case z_list => k_is)
    (case z_sorted => k_is)
    (case z_isinstance => k_is)
    (case z_all => k_is)
    (case z_bool => k_is)
    (case z_int => k_is)
    (case z_tuple => k_is)
    (case z_enumerate => k_is)
    (case z_reversed => k_is)
    (case z_max => k_is)
    (case z_min => k_is)
    (case z_abs => k_is)
    (case z_zip => k_is)
    (case z_sum => k_is)
    (case z_str => k_is)
    (case z_set => k_is)
    (case v_MOST_DEEDS => k_is)
    (case v_FIGURES => k_is)
    (case v_MOST_FIGURES => k_is)

