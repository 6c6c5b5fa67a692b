import PyProof.Rows.All
import Wide.All
import OpenK.AllK
import Wide.FinOn
import Lean
import PyProof.EqAt
import PyProof.EqKinds
import PyProof.TupleCall
import PySem.Challenge.RW_lazyhoist_k14_texts_there_and_back
set_option Elab.async false
set_option linter.all false
set_option maxRecDepth 100000
namespace L2
open PySem PySem.Spec PyProof.Rows
noncomputable abbrev Key := Sum Int Str
noncomputable def keyIs : Key → Value → Bool
  | .inl k, v => Value.isInt k v
  | .inr x, v => Value.isStrOf x v
noncomputable def keyH (w : World) : Key → Int
  | .inl k => hashInt k
  | .inr x => hashStr w x
theorem keyIs_shape : ∀ {k : Key} {v : Value}, keyIs k v = true → (∃ i t, k = Sum.inl i ∧ v = Value.int i t) ∨ (∃ x t, k = Sum.inr x ∧ v = Value.str x t)
  | .inl i, v, h => by
    obtain ⟨t, e⟩ := Value.isInt_shape (k := i) (v := v) h
    exact .inl ⟨i, t, rfl, e⟩
  | .inr x, v, h => by
    obtain ⟨t, e⟩ := Value.isStrOf_shape (x := x) (v := v) h
    exact .inr ⟨x, t, rfl, e⟩
theorem keyIs_int (i : Int) (t : Tok) : keyIs (.inl i) (.int i t) = true := by simp [keyIs, Value.isInt]
theorem keyIs_str (x : Str) (t : Tok) : keyIs (.inr x) (.str x t) = true := by simp [keyIs, Value.isStrOf]
theorem key_ll (a b : Int) : decide ((Sum.inl a : Key) = Sum.inl b) = (a == b) := by
  by_cases e : a = b
  · subst e; simp
  · have h : ¬ (Sum.inl a : Key) = Sum.inl b := fun q => e (Sum.inl.inj q)
    rw [decide_eq_false h]
    exact (beq_eq_false_iff_ne.mpr e).symm
theorem key_rr (a b : Str) : decide ((Sum.inr a : Key) = Sum.inr b) = decide (a = b) := by
  by_cases e : a = b
  · subst e; simp
  · have h : ¬ (Sum.inr a : Key) = Sum.inr b := fun q => e (Sum.inr.inj q)
    rw [decide_eq_false h, decide_eq_false e]
theorem key_lr (a : Int) (b : Str) : decide ((Sum.inl a : Key) = Sum.inr b) = false := decide_eq_false (fun q => nomatch q)
theorem key_rl (a : Str) (b : Int) : decide ((Sum.inr a : Key) = Sum.inl b) = false := decide_eq_false (fun q => nomatch q)
noncomputable def mixKind (prog : Program) (w : World) : PySem.KeyKind prog w Key where
  is := keyIs
  hash := keyH w
  inj := fun v a b ha hb => by
    rcases keyIs_shape ha with ⟨i, t, rfl, rfl⟩ | ⟨x, t, rfl, rfl⟩
    · rcases keyIs_shape hb with ⟨j, u, rfl, e⟩ | ⟨y, u, rfl, e⟩
      · injection e with e1 _; rw [e1]
      · exact nomatch e
    · rcases keyIs_shape hb with ⟨j, u, rfl, e⟩ | ⟨y, u, rfl, e⟩
      · exact nomatch e
      · injection e with e1 _; rw [e1]
  byValue := fun k v h => by
    rcases keyIs_shape h with ⟨i, t, rfl, rfl⟩ | ⟨x, t, rfl, rfl⟩ <;> rfl
  pyHash := fun hv h => by
    rcases keyIs_shape hv with ⟨i, t, rfl, rfl⟩ | ⟨x, t, rfl, rfl⟩
    · exact wpAny_pyHash_int h
    · exact wpAny_pyHash_str h
  eqBool := fun hu hv h => by
    rcases keyIs_shape hu with ⟨i, t, rfl, rfl⟩ | ⟨x, t, rfl, rfl⟩
    · rcases keyIs_shape hv with ⟨j, u, rfl, rfl⟩ | ⟨y, u, rfl, rfl⟩
      · rw [key_ll] at h; exact wpAny_eqBool_int h
      · rw [key_lr] at h; exact SeqAt.EqAt.int_str i t y u _ _ _ _ h
    · rcases keyIs_shape hv with ⟨j, u, rfl, rfl⟩ | ⟨y, u, rfl, rfl⟩
      · rw [key_rl] at h; exact SeqAt.EqAt.str_int x t j u _ _ _ _ h
      · rw [key_rr] at h; exact wpAny_eqBool_str h
  «strs» := fun k x t v h => by
    rcases keyIs_shape h with ⟨i, u, rfl, e⟩ | ⟨y, u, rfl, e⟩
    · exact nomatch e
    · injection e with e1 _
      subst e1
      cases v <;> rfl
theorem mixKind_int (prog : Program) (w : World) (i : Int) (t : Tok) : (mixKind prog w).is (.inl i) (.int i t) = true := keyIs_int i t
theorem mixKind_str (prog : Program) (w : World) (x : Str) (t : Tok) : (mixKind prog w).is (.inr x) (.str x t) = true := keyIs_str x t
end L2
namespace L2
open PySem PySem.Spec PyProof.Rows
inductive V where
  | non | bl (b : Bool) | int (i : Int) | str (x : Str) | byt (b : Array UInt8) | flt (b : UInt64) | ref (a : Addr) | ty (n : String)
  deriving DecidableEq
noncomputable def RelV : V → Value → Prop
  | .non, u => u = Value.none
  | .bl b, u => u = Value.bool b
  | .int i, u => ∃ t, u = Value.int i t
  | .str x, u => ∃ t, u = Value.str x t
  | .byt b, u => ∃ t, u = Value.bytes b t
  | .flt b, u => ∃ t, u = Value.float b t
  | .ref a, u => u = Value.ref a
  | .ty n, u => u = Value.type n
noncomputable abbrev Vals : List V → List Value → Prop := Paired RelV
theorem Vals.length {xs : List V} {us : List Value} (r : Vals xs us) : xs.length = us.length := Paired.length r
theorem Vals.get : ∀ {xs : List V} {us : List Value} {i : Nat} {x : V}, Vals xs us → xs[i]? = some x → ∃ u, us[i]? = some u ∧ RelV x u
  | _, _, _, _, .nil, e => by simp at e
  | _, _, 0, _, .cons r _, e => by simp at e; subst e; exact ⟨_, rfl, r⟩
  | _, _, i + 1, x, .cons _ t, e => by
    obtain ⟨u, h1, h2⟩ := Vals.get (i := i) (x := x) t (by simpa using e)
    exact ⟨u, by simpa using h1, h2⟩
theorem Vals.set {x : V} {u : Value} (r : RelV x u) : ∀ {xs : List V} {us : List Value} (i : Nat), Vals xs us → Vals (xs.set i x) (us.set i u)
  | _, _, _, .nil => .nil
  | _, _, 0, .cons _ t => .cons r t
  | _, _, i + 1, .cons q t => .cons q (Vals.set r i t)
theorem Vals.append : ∀ {xs ys : List V} {us ws : List Value}, Vals xs us → Vals ys ws → Vals (xs ++ ys) (us ++ ws)
  | _, _, _, _, .nil, s => s
  | _, _, _, _, .cons r t, s => .cons r (Vals.append t s)
theorem Vals.take : ∀ {xs : List V} {us : List Value} (n : Nat), Vals xs us → Vals (xs.take n) (us.take n)
  | _, _, 0, _ => .nil
  | _, _, _ + 1, .nil => .nil
  | _, _, n + 1, .cons r t => .cons r (Vals.take n t)
theorem Vals.drop : ∀ {xs : List V} {us : List Value} (n : Nat), Vals xs us → Vals (xs.drop n) (us.drop n)
  | _, _, 0, r => r
  | _, _, _ + 1, .nil => .nil
  | _, _, n + 1, .cons _ t => Vals.drop n t
noncomputable def RelO : Option V → Option Value → Prop
  | some v, some u => RelV v u
  | none, none => True
  | _, _ => False
noncomputable def KV {κ : Type} : List (κ × V) → List (κ × Value) → Prop := Paired fun (p : κ × V) (q : κ × Value) => p.1 = q.1 ∧ RelV p.2 q.2
noncomputable def kV : Key → V
  | .inl i => .int i
  | .inr x => .str x
inductive HO where
  | lst (xs : List V)
  | tup (xs : List V)
  | dK (kvs : List (Key × V)) | dT (kvs : List (List Key × V))
  | set (S : Int → Bool) (n : Nat)
  | ins (C dx : Addr) (fs : List (Str × V))
  | own (x : Addr)
  | xd (fs : List (Str × V))
  | met (f x : Addr)
  | rng (lo hi : Int)
  | frz (o : Obj) (u : HO)
  | tbl (ps : Array Value)
  | ext (φ : Heap → Prop)
noncomputable abbrev Hp := Addr → Option HO
noncomputable def upd (H : Hp) (a : Addr) (o : HO) : Hp := fun b => if b = a then some o else H b
theorem upd_same {H : Hp} {a : Addr} {o : HO} : upd H a o a = some o := by unfold upd; rw [if_pos rfl]
theorem upd_ne {H : Hp} {a b : Addr} {o : HO} (h : b ≠ a) : upd H a o b = H b := by unfold upd; rw [if_neg h]
theorem ne_of_none {H : Hp} {a b : Addr} {o : HO} (h : H a = some o) (h' : H b = none) : a ≠ b := by
  intro e; subst e; rw [h] at h'; cases h'
section
variable (P : Program) (w : World)
noncomputable def ObjOk (H : Hp) (h : Heap) (a : Addr) : HO → Prop
  | .lst xs => xs.length ≤ sizeLine ∧ ∃ (its : List Value) (n : Nat), Vals xs its ∧ h.get? a = some { cls := .type "list", data := .seq its.toArray n }
  | .tup xs => xs.length ≤ sizeLine ∧ ∃ its : List Value, Vals xs its ∧ IsTup h a its.toArray
  | .dK kvs => kvs.length ≤ sizeLine ∧ (a == sysModules) = false ∧ ∃ vs, KV kvs vs ∧ h.DictOf (mixKind P w) a vs
  | .dT kvs => kvs.length ≤ sizeLine ∧ (a == sysModules) = false ∧ ∃ xs : List (List Key × Addr × Value),
      Paired (fun (p : List Key × V) (q : List Key × Addr × Value) => p.1 = q.1 ∧ H q.2.1 = some (.tup (p.1.map kV)) ∧ RelV p.2 q.2.2) kvs xs ∧
      ∃ o es ep, h.get? a = some o ∧ o.ExactDict ∧ o.data = .dict es ep ∧ es.toList = xs.map (entryOfKey (tupleKind (mixKind P w))) ∧ (xs.map (·.1)).Nodup
  | .set S n => h.SetOf (intKind P w) a S n
  | .ins C dx fs => H dx = some (.own a) ∧ fs.length ≤ 1000 ∧ dx ≠ a ∧ h.get? a = some (PySem.W.instObj C dx) ∧
      ∃ mA, h.Ns1 dx mA ∧ (∀ f, RelO (fs.lookup f) (mA f)) ∧ PySem.Within mA (fs.map (·.1))
  | .own _ => ∃ o, h.get? a = some o
  | .xd fs => ∃ mA, h.Ns1 a mA ∧ ∀ f, RelO (fs.lookup f) (mA f)
  | .rng lo hi => ∃ t u v, h.get? a = some { cls := .type "range", data := .fields #[.int lo t, .int hi u, .int 1 v] }
  | .frz o u => h.get? a = some o ∧ ObjOk H h a u
  | .tbl ps => h.get? a = some { cls := .none, data := .fields ps }
  | .met f x => h.get? a = some (PySem.W.methodObj (.ref f) (.ref x))
  | .ext φ => φ h ∧ (∃ o, h.get? a = some o) ∧ ∀ h1 h2 : Heap, φ h1 → (∀ o, h1.get? a = some o → h2.get? a = some o) → φ h2
noncomputable def HOk (H : Hp) (h : Heap) : Prop := ∀ a o, H a = some o → ObjOk P w H h a o
end
section
variable {P : Program} {w : World} {H H' : Hp} {h h' : Heap} {a : Addr} {o : HO}
theorem ObjOk.lt (x : ObjOk P w H h a o) : a < h.objs.size := by
  cases o with
  | lst xs => obtain ⟨_, _, _, _, e⟩ := x; exact Heap.lt_size e
  | tup xs => obtain ⟨_, _, _, p⟩ := x; exact p.lt
  | dK kvs => obtain ⟨_, _, _, _, o, _, _, e, _⟩ := x; exact Heap.lt_size e
  | dT kvs => obtain ⟨_, _, _, _, o, _, _, e, _⟩ := x; exact Heap.lt_size e
  | set S n => obtain ⟨o, _, _, _, e, _⟩ := x; exact Heap.lt_size e
  | ins C dx fs => obtain ⟨_, _, _, e, _⟩ := x; exact Heap.lt_size e
  | own y => obtain ⟨_, e⟩ := x; exact Heap.lt_size e
  | xd fs => obtain ⟨_, ⟨_, _, _, e, _⟩, _⟩ := x; exact Heap.lt_size e
  | rng lo hi => obtain ⟨_, _, _, e⟩ := x; exact Heap.lt_size e
  | frz ob u => obtain ⟨e, _⟩ := x; exact Heap.lt_size e
  | tbl ps => exact Heap.lt_size (show h.get? a = some _ from x)
  | met f y => exact Heap.lt_size (show h.get? a = some _ from x)
  | ext φ => obtain ⟨_, ⟨_, e⟩, _⟩ := x; exact Heap.lt_size e
theorem Paired.mapP {α β : Type} {F G : α → β → Prop} : ∀ {l₁ : List α} {l₂ : List β}, Paired F l₁ l₂ → (∀ a b, F a b → G a b) → Paired G l₁ l₂
  | _, _, .nil, _ => .nil
  | _, _, .cons r t, f => .cons (f _ _ r) (Paired.mapP t f)
theorem Paired.imp' {α β : Type} {F G : α → β → Prop} (f : ∀ a b, F a b → G a b) {l₁ : List α} {l₂ : List β} (r : Paired F l₁ l₂) : Paired G l₁ l₂ := Paired.mapP r f
theorem ObjOk.stay (x : ObjOk P w H h a o) (k : ∀ b u, (b = a ∨ H b = some (.own a)) → h.get? b = some u → h'.get? b = some u)
    (ho : ∀ b, H b = some (.own a) → H' b = some (.own a)) (ht : ∀ b xs, H b = some (.tup xs) → H' b = some (.tup xs)) : ObjOk P w H' h' a o := by
  induction o with
  | lst xs => obtain ⟨z, its, n, r, e⟩ := x; exact ⟨z, its, n, r, k _ _ (.inl rfl) e⟩
  | tup xs => obtain ⟨z, its, r, ob, e, c⟩ := x; exact ⟨z, its, r, ob, k _ _ (.inl rfl) e, c⟩
  | dK kvs => obtain ⟨z, y, vs, r, ob, es, ep, e, c⟩ := x; exact ⟨z, y, vs, r, ob, es, ep, k _ _ (.inl rfl) e, c⟩
  | dT kvs =>
    obtain ⟨z, y, xs, r, ob, es, ep, e, c⟩ := x
    exact ⟨z, y, xs, Paired.mapP r fun p q z => ⟨z.1, ht _ _ z.2.1, z.2.2⟩, ob, es, ep, k _ _ (.inl rfl) e, c⟩
  | set S n => obtain ⟨ob, es, ep, t, e, c⟩ := x; exact ⟨ob, es, ep, t, k _ _ (.inl rfl) e, c⟩
  | ins C dx fs =>
    obtain ⟨d, z, ne, e, mA, ⟨od, es, ep, e2, c⟩, r⟩ := x
    exact ⟨ho _ d, z, ne, k _ _ (.inl rfl) e, mA, ⟨od, es, ep, k _ _ (.inr d) e2, c⟩, r⟩
  | own y => obtain ⟨ob, e⟩ := x; exact ⟨ob, k _ _ (.inl rfl) e⟩
  | xd fs => obtain ⟨mA, ⟨od, es, ep, e, c⟩, r⟩ := x; exact ⟨mA, ⟨od, es, ep, k _ _ (.inl rfl) e, c⟩, r⟩
  | rng lo hi => obtain ⟨t, u, v, e⟩ := x; exact ⟨t, u, v, k _ _ (.inl rfl) e⟩
  | frz ob u ih => obtain ⟨e, q⟩ := x; exact ⟨k _ _ (.inl rfl) e, ih q⟩
  | tbl ps =>
    have e : h.get? a = some { cls := .none, data := .fields ps } := x
    show h'.get? a = some { cls := .none, data := .fields ps }
    exact k a _ (.inl rfl) e
  | met f y =>
    have e : h.get? a = some (PySem.W.methodObj (.ref f) (.ref y)) := x
    show h'.get? a = some (PySem.W.methodObj (.ref f) (.ref y))
    exact k a _ (.inl rfl) e
  | ext φ => obtain ⟨p, ⟨o, e⟩, st⟩ := x; exact ⟨st _ _ p fun o q => k _ _ (.inl rfl) q, ⟨o, k _ _ (.inl rfl) e⟩, st⟩
theorem HOk.lt (x : HOk P w H h) (e : H a = some o) : a < h.objs.size := (x a o e).lt
theorem HOk.fresh (x : HOk P w H h) (e : h.objs.size ≤ a) : H a = none := by
  cases q : H a with
  | none => rfl
  | some u => exact absurd (Nat.lt_of_lt_of_le (x.lt q) e) (Nat.lt_irrefl _)
theorem HOk.kept (x : HOk P w H h) (k : ∀ b u, h.get? b = some u → h'.get? b = some u) : HOk P w H h' := fun a o e =>
  (x a o e).stay (fun b u _ q => k b u q) (fun _ q => q) fun _ _ q => q
theorem HOk.laid (x : HOk P w H h) (k : ∀ b u, h.get? b = some u → h'.get? b = some u) (hp : h.objs.size ≤ a) (new : ObjOk P w (upd H a o) h' a o) : HOk P w (upd H a o) h' := fun b u e => by
  have hn := x.fresh hp
  by_cases hb : b = a
  · subst hb; rw [upd_same] at e; cases e; exact new
  · rw [upd_ne hb] at e
    exact (x b u e).stay (fun c v _ q => k c v q) (fun c q => by rw [upd_ne (ne_of_none q hn)]; exact q) fun c xs q => by rw [upd_ne (ne_of_none q hn)]; exact q
end
noncomputable def Rd (H : Hp) (a : Addr) (u : HO) : Prop := H a = some u ∨ ∃ o, H a = some (.frz o u)
theorem Rd.of {H : Hp} {a : Addr} {u : HO} (h : H a = some u) : Rd H a u := .inl h
theorem Rd.ok {P : Program} {w : World} {H : Hp} {h : Heap} {a : Addr} {u : HO} (r : Rd H a u) (x : HOk P w H h) : ObjOk P w H h a u := by
  rcases r with r | ⟨o, r⟩
  · exact x a u r
  · obtain ⟨_, q⟩ := x a _ r
    exact q
noncomputable def Mut : Option HO → Prop
  | some (.lst _) => True
  | some (.dK _) => True
  | some (.dT _) => True
  | some (.set _ _) => True
  | some (.ins _ _ _) => True
  | some (.ext _) => True
  | _ => False
section
variable {P : Program} {w : World} {H : Hp} {h h' : Heap} {x e : Addr} {o' : HO}
theorem HOk.write (ok : HOk P w H h) (mu : Mut (H x)) (he : e = x ∨ H e = some (.own x)) (k : ∀ b u, b ≠ e → h.get? b = some u → h'.get? b = some u) (heo : ∃ u, h'.get? e = some u)
    (new : ObjOk P w (upd H x o') h' x o') : HOk P w (upd H x o') h' := fun b u q => by
  have nown : ∀ c y, H c = some (.own y) → c ≠ x := fun c y r z => by subst z; rw [r] at mu; exact mu
  have ntup : ∀ c xs, H c = some (.tup xs) → c ≠ x := fun c xs r z => by subst z; rw [r] at mu; exact mu
  by_cases hb : b = x
  · subst hb; rw [upd_same] at q; cases q; exact new
  · rw [upd_ne hb] at q
    by_cases hbe : b = e
    · have q' : H b = some (.own x) := by
        rcases he with z | z
        · exact absurd (hbe.trans z) hb
        · rw [hbe]; exact z
      rw [q] at q'; cases q'
      obtain ⟨v, hv⟩ := heo
      exact ⟨v, by rw [hbe]; exact hv⟩
    · refine (ok b u q).stay (fun c v hc r => k c v ?_ r) (fun c r => by rw [upd_ne (nown c b r)]; exact r) fun c xs r => by rw [upd_ne (ntup c xs r)]; exact r
      rcases hc with rfl | hc
      · exact hbe
      · rintro rfl
        rcases he with z | z
        · exact nown c b hc z
        · rw [hc] at z; cases z; exact hb rfl
end
structure Un (fs ex : List Addr) (H H' : Hp) (h h' : Heap) : Prop where
  keep : ∀ b o, h.get? b = some o → H b = none → b ∉ fs → b ∉ ex → h'.get? b = some o
  slot : ∀ b o, h.get? b = some o → H b = none → b ∈ fs → b ∉ ex → ∃ sl, h'.get? b = some { o with slots := sl }
  free : ∀ b o, h.get? b = some o → H b = none → b ∉ ex → H' b = none
  there : ∀ b o, h.get? b = some o → b ∉ ex → ∃ o', h'.get? b = some o'
  tups : ∀ b xs, H b = some (.tup xs) → H' b = some (.tup xs)
  frzs : ∀ b o u, H b = some (.frz o u) → H' b = some (.frz o u)
  tbls : ∀ b ps, H b = some (.tbl ps) → ∃ more, H' b = some (.tbl (ps ++ more))
section
variable {fs fs' ex ex' : List Addr} {H H1 H2 : Hp} {h h1 h2 h' : Heap} {a x e : Addr} {o : HO}
theorem Un.any (u : Un fs ex H H1 h h1) {b : Addr} {ob : Obj} (q : h.get? b = some ob) (n : H b = none) (hx : b ∉ ex) : ∃ sl, h1.get? b = some { ob with slots := sl } := by
  by_cases hb : b ∈ fs
  · exact u.slot b ob q n hb hx
  · exact ⟨ob.slots, u.keep b ob q n hb hx⟩
theorem Un.trans (a : Un fs ex H H1 h h1) (b : Un fs ex H1 H2 h1 h2) : Un fs ex H H2 h h2 where
  keep := fun c ob q n hc hx => b.keep c ob (a.keep c ob q n hc hx) (a.free c ob q n hx) hc hx
  slot := fun c ob q n hc hx => by
    obtain ⟨sl, e1⟩ := a.slot c ob q n hc hx
    obtain ⟨sl', e2⟩ := b.slot c _ e1 (a.free c ob q n hx) hc hx
    exact ⟨sl', e2⟩
  free := fun c ob q n hx => by
    obtain ⟨o', e1⟩ := a.there c ob q hx
    exact b.free c o' e1 (a.free c ob q n hx) hx
  there := fun c ob q hx => by
    obtain ⟨o', e1⟩ := a.there c ob q hx
    exact b.there c o' e1 hx
  tups := fun c xs q => b.tups c xs (a.tups c xs q)
  frzs := fun c ob xs q => b.frzs c ob xs (a.frzs c ob xs q)
  tbls := fun c ps q => by
    obtain ⟨m1, e1⟩ := a.tbls c ps q
    obtain ⟨m2, e2⟩ := b.tbls c _ e1
    exact ⟨m1 ++ m2, by rw [e2, Array.append_assoc]⟩
theorem Un.kept (k : ∀ b u, h.get? b = some u → h'.get? b = some u) : Un fs ex H H h h' :=
  ⟨fun b ob q _ _ _ => k b ob q, fun b ob q _ _ _ => ⟨ob.slots, k b ob q⟩, fun _ _ _ n _ => n, fun b ob q _ => ⟨ob, k b ob q⟩, fun _ _ q => q, fun _ _ _ q => q, fun _ ps q => ⟨#[], by rw [q]; simp⟩⟩
theorem Un.refl : Un fs ex H H h h := Un.kept fun _ _ q => q
theorem Un.laid (k : ∀ b u, h.get? b = some u → h'.get? b = some u) (hp : h.objs.size ≤ a) (hn : H a = none) : Un fs ex H (upd H a o) h h' where
  keep := fun b u q _ _ _ => k b u q
  slot := fun b u q _ _ _ => ⟨u.slots, k b u q⟩
  free := fun b u q n _ => by rw [upd_ne (Nat.ne_of_lt (Nat.lt_of_lt_of_le (Heap.lt_size q) hp))]; exact n
  there := fun b u q _ => ⟨u, k b u q⟩
  tups := fun b xs q => by rw [upd_ne (ne_of_none q hn)]; exact q
  frzs := fun b u xs q => by rw [upd_ne (ne_of_none q hn)]; exact q
  tbls := fun b ps q => ⟨#[], by rw [upd_ne (ne_of_none q hn), q]; simp⟩
theorem Un.write (mu : Mut (H x)) (he : e = x ∨ H e = some (.own x)) (k : ∀ b u, b ≠ e → h.get? b = some u → h'.get? b = some u) (heo : ∃ u, h'.get? e = some u) : Un fs ex H (upd H x o) h h' := by
  have hx : ∀ b, H b = none → b ≠ x := fun b n z => by subst z; rw [n] at mu; exact mu
  have hb : ∀ b, H b = none → b ≠ e := fun b n z => by
    subst z
    rcases he with r | r
    · exact hx b n r
    · rw [n] at r; cases r
  have hm : ∀ b u, H b = some u → ¬ Mut (some u) → b ≠ x := fun b u q nm z => by subst z; rw [q] at mu; exact nm mu
  refine ⟨fun b u q n _ _ => k b u (hb b n) q, fun b u q n _ _ => ⟨u.slots, k b u (hb b n) q⟩, fun b u q n _ => by rw [upd_ne (hx b n)]; exact n, fun b u q _ => ?_,
    fun b xs q => by rw [upd_ne (hm b _ q fun z => z)]; exact q, fun b u xs q => by rw [upd_ne (hm b _ q fun z => z)]; exact q, fun b ps q => ⟨#[], by rw [upd_ne (hm b _ q fun z => z), q]; simp⟩⟩
  by_cases hbe : b = e
  · subst hbe; exact heo
  · exact ⟨u, k b u hbe q⟩
theorem Un.mono (u : Un fs ex H H1 h h1) (hs : ∀ b ∈ fs, b ∈ fs') (hx : ∀ b ∈ ex, b ∈ ex') : Un fs' ex' H H1 h h1 :=
  ⟨fun b ob q n hb he => u.keep b ob q n (fun z => hb (hs b z)) fun z => he (hx b z), fun _ _ q n _ he => u.any q n fun z => he (hx _ z), fun b ob q n he => u.free b ob q n fun z => he (hx b z), fun b ob q he => u.there b ob q fun z => he (hx b z), u.tups, u.frzs, u.tbls⟩
end
noncomputable def trk (h : Heap) (H : Hp) : List Addr := (List.range h.objs.size).filter fun a => (H a).isSome
noncomputable def hidT (h : Heap) (H : Hp) : Heap := PySem.W.hideAll h (trk h H)
theorem hidT_size (h : Heap) (H : Hp) : (hidT h H).objs.size = h.objs.size := PySem.W.hideAll_size _ _
theorem hidT_get {h : Heap} {H : Hp} {b : Addr} {o : Obj} (e : h.get? b = some o) (n : H b = none) : (hidT h H).get? b = some o :=
  PySem.W.hideAll_get _ e fun hm => by
    have q : (H b).isSome = true := (List.mem_filter.mp hm).2
    rw [n] at q; simp at q
theorem of_hidT {h : Heap} {H : Hp} {b : Addr} {o : Obj} (e : (hidT h H).get? b = some o) : h.get? b = some o ∧ H b = none := by
  have e' : h.get? b = some o := PySem.W.of_hideAll (trk h H) e
  refine ⟨e', ?_⟩
  cases q : H b with
  | none => rfl
  | some x =>
    have hm : b ∈ trk h H := List.mem_filter.mpr ⟨List.mem_range.mpr (Heap.lt_size e'), by simp [q]⟩
    have z : (hidT h H).get? b = none := PySem.W.hideAll_none (trk h H) hm
    rw [z] at e; cases e
noncomputable def allNews (g h : Heap) (L : Addr) : List (Addr × Obj) := (List.range h.objs.size).filterMap fun a => if a = L ∨ (g.get? a).isSome = true then none else (h.get? a).map fun o => (a, o)
noncomputable def rest (g h : Heap) (L d : Addr) : List (Addr × Obj) := (allNews g h L).filter fun p => decide (p.1 ≠ d)
end L2
namespace L2
open PySem PySem.Spec PyProof.Rows
structure Mod (K : PySem.W.Frag) (mg : Str → Option Value) (base : Heap) : Prop where
  kin : K.In base
  glob : base.Ns mainGlobals mg
  blt : ∃ mb, base.Ns builtinsNs mb ∧ ∀ x : Str, x ≠ "__name__" → mb x = bootBuiltins x
  nolimit : base.NoLimit
structure Cx where
  prog : Program
  w : World
  K : PySem.W.Frag
  mg : Str → Option Value
  base : Heap
  A : Around
  N : List Str
  s₀ : Shared
  H₀ : Hp
  env : Env
  outer : List Env
  stack : List Env
  ex : List Addr
  fn : Str → Bool
  calm : Bool
  pn : List (Addr × Obj)
  xe : Value → Shared → Prop
noncomputable def frs (l : List Env) : List Addr := l.filterMap (·.frame)
noncomputable abbrev Cx.fs (X : Cx) : List Addr := frs X.outer
noncomputable def Vis (sc : Scope) (x : Str) : Prop := sc.names.lookup x = some .local ∨ sc.names.lookup x = some .cell ∨ sc.names.lookup x = some .free
noncomputable def Loc (sc : Scope) (x : Str) : Prop := sc.names.lookup x = some .local ∨ sc.names.lookup x = some .cell
noncomputable def Look (env : Env) (h : Heap) (m : Str → Option Value) (x : Str) (u : Value) : Prop :=
  (env.kindOf x = some .local ∧ m x = some u) ∨ ((env.kindOf x = some .cell ∨ env.kindOf x = some .free) ∧ ∃ c, env.cells.lookup x = some c ∧ h.IsCell c (some u))
structure Cx.Ok (X : Cx) : Prop where
  mod : Mod X.K X.mg X.base
  kind : X.env.scope.kind = .function
  glob : X.env.globals = mainGlobals
  blt : X.env.builtins = builtinsNs
  above : X.s₀.heap.objs.size ≤ X.env.locals
  inj : ∀ x y c, X.env.cells.lookup x = some c → X.env.cells.lookup y = some c → x = y
  has : ∀ x, (X.env.kindOf x = some .cell ∨ X.env.kindOf x = some .free) → ∃ c, X.env.cells.lookup x = some c
  cab : ∀ x c, X.fn x = true → X.env.cells.lookup x = some c → X.s₀.heap.objs.size ≤ c
  hd : X.calm = true → X.A.handled = none
  frames : X.A.frames = some X.stack
  stk : X.stack = X.outer ∨ (X.stack = X.env :: X.outer ∧ X.env.frame = some X.env.locals)
  exf : ∀ b ∈ X.ex, b ≠ X.env.locals ∧ ∀ x c, X.env.cells.lookup x = some c → c ≠ b
  bs : ∀ b o, X.base.get? b = some o → X.s₀.heap.get? b = some o ∧ X.H₀ b = none
  bsz : X.base.objs.size ≤ X.s₀.heap.objs.size
  noex : ∀ b o, X.base.get? b = some o → b ∉ X.ex
  exfs : ∀ b ∈ X.ex, b ∉ X.fs
  funs : X.s₀.heap.FunFrames X.base X.outer
  frf : ∀ b ∈ X.fs, X.H₀ b = none
structure Inv (X : Cx) (pins : List (Addr × Obj)) (σ : List (Option V)) (H : Hp) (s : Shared) : Prop where
  ok : X.Ok
  os : s.os = X.s₀.os
  bare : AllBare s.gens
  base : Un X.fs X.ex X.H₀ H X.s₀.heap s.heap
  loc : ∃ m, s.heap.Ns X.env.locals m ∧ ∀ (i : Nat) (x : Str) (v : V), X.N[i]? = some x → σ[i]? = some (some v) → Vis X.env.scope x → ∃ u, RelV v u ∧ Look X.env s.heap m x u
  cell : ∀ x c, X.env.cells.lookup x = some c → ∃ v, s.heap.IsCell c v
  free : H X.env.locals = none
  freeC : ∀ x c, X.env.cells.lookup x = some c → H c = none
  pin : ∀ p ∈ X.pn ++ pins, s.heap.get? p.1 = some p.2 ∧ H p.1 = none ∧ p.1 ≠ X.env.locals ∧ p.1 ∉ X.fs ∧ ∀ v, p.2.data ≠ .cell v
  hok : HOk X.prog X.w H s.heap
  len : σ.length = X.N.length
section
variable {X : Cx} {pins : List (Addr × Obj)} {σ : List (Option V)} {H H' : Hp} {s : Shared} {h' : Heap}
theorem Cx.Ok.nofr (ok : X.Ok) {b : Addr} {o : Obj} (e : X.base.get? b = some o) : b ∉ X.fs := fun hb => by
  have := (ok.funs.mem hb).1
  rw [e] at this; cases this
theorem Inv.bs (I : Inv X pins σ H s) : ∀ b o, X.base.get? b = some o → s.heap.get? b = some o ∧ H b = none := fun b o e =>
  ⟨I.base.keep b o (I.ok.bs b o e).1 (I.ok.bs b o e).2 (I.ok.nofr e) (I.ok.noex b o e), I.base.free b o (I.ok.bs b o e).1 (I.ok.bs b o e).2 (I.ok.noex b o e)⟩
theorem Inv.bk (I : Inv X pins σ H s) : ∀ b o, X.base.get? b = some o → s.heap.get? b = some o := fun b o e => (I.bs b o e).1
theorem Inv.mod (I : Inv X pins σ H s) : Mod X.K X.mg X.base := I.ok.mod
theorem Inv.kIn (I : Inv X pins σ H s) : X.K.In s.heap := I.ok.mod.kin.keeps I.bk
theorem Inv.nolimit (I : Inv X pins σ H s) : s.heap.NoLimit := I.ok.mod.nolimit.keeps I.bk
theorem Inv.fr (I : Inv X pins σ H s) : ∃ m, Fr X.base X.env.locals s.heap m :=
  let ⟨m, hn, _⟩ := I.loc
  ⟨m, hn, I.bk, Nat.le_trans I.ok.bsz I.ok.above⟩
theorem Inv.lt (I : Inv X pins σ H s) : X.env.locals < s.heap.objs.size := let ⟨_, hn, _⟩ := I.loc; hn.lt
theorem Inv.sz (I : Inv X pins σ H s) : X.s₀.heap.objs.size ≤ s.heap.objs.size := Nat.le_trans I.ok.above (Nat.le_of_lt I.lt)
theorem Inv.nofs (I : Inv X pins σ H s) {a : Addr} (h : s.heap.objs.size ≤ a) : a ∉ X.fs := fun hb => by
  obtain ⟨_, o, ho, _⟩ := I.ok.funs.mem hb
  exact absurd (Nat.lt_of_lt_of_le (Heap.lt_size ho) (Nat.le_trans I.sz h)) (Nat.lt_irrefl _)
theorem Inv.cne (I : Inv X pins σ H s) : ∀ x c, X.env.cells.lookup x = some c → c ≠ X.env.locals := fun x c e z => by
  obtain ⟨v, o, ho, hd⟩ := I.cell x c e
  obtain ⟨m, ⟨o', es, ep, ho', hd', _⟩, _⟩ := I.loc
  rw [z, ho'] at ho; cases ho; rw [hd'] at hd; cases hd
theorem Inv.funs (I : Inv X pins σ H s) : s.heap.FunFrames X.base X.outer := by
  have all : ∀ (l : List Env), (∀ b ∈ frs l, b ∈ X.fs) → X.s₀.heap.FunFrames X.base l → s.heap.FunFrames X.base l := by
    intro l
    induction l with
    | nil => intro _ _; trivial
    | cons env r ih =>
      intro hs hl
      obtain ⟨hk, ⟨L, o, hf, hn, ho, hd⟩, hr⟩ := hl
      have hL : L ∈ X.fs := hs L (by unfold frs; rw [List.filterMap_cons, hf]; exact List.mem_cons_self)
      obtain ⟨sl, e⟩ := I.base.slot L o ho (I.ok.frf L hL) hL fun z => I.ok.exfs L z hL
      exact ⟨hk, ⟨L, _, hf, hn, e, hd⟩, ih (fun b hb => hs b (by unfold frs; rw [List.filterMap_cons, hf]; exact List.mem_cons_of_mem _ hb)) hr⟩
  exact all X.outer (fun _ hb => hb) I.ok.funs
theorem Inv.stack (I : Inv X pins σ H s) : s.heap.FunFrames X.base X.stack := by
  rcases I.ok.stk with e | ⟨e, hf⟩
  · rw [e]; exact I.funs
  · rw [e]
    obtain ⟨m, hn, _⟩ := I.loc
    refine .cons (by rw [I.ok.kind]; decide) hf hn ?_ I.funs
    exact Heap.get?_none_of_le (Nat.le_trans I.ok.bsz I.ok.above)
theorem Inv.stkSub (I : Inv X pins σ H s) : ∀ b ∈ frs X.stack, b ∈ X.env.locals :: X.fs := fun b hb => by
  rcases I.ok.stk with e | ⟨e, hf⟩
  · rw [e] at hb; exact List.mem_cons_of_mem _ hb
  · rw [e] at hb
    unfold frs at hb
    rw [List.filterMap_cons, hf] at hb
    exact hb
theorem Inv.stkFree (I : Inv X pins σ H s) : ∀ b ∈ frs X.stack, H b = none := fun b hb => by
  rcases List.mem_cons.mp (I.stkSub b hb) with e | hb
  · rw [e]; exact I.free
  · obtain ⟨_, o, ho, _⟩ := I.ok.funs.mem hb
    exact I.base.free b o ho (I.ok.frf b hb) fun z => I.ok.exfs b z hb
theorem Inv.step {g' : Array GenState} {t' : Nat} {d' : Drawn} {ch : List Addr} (I : Inv X pins σ H s)
    (hch : ∀ b ∈ ch, (b ∈ X.ex ∨ X.s₀.heap.objs.size ≤ b) ∧ b ≠ X.env.locals ∧ (∀ x c, X.env.cells.lookup x = some c → c ≠ b) ∧ ∀ p ∈ X.pn ++ pins, p.1 ≠ b)
    (keep : ∀ b o, b ≠ X.env.locals → b ∉ X.fs → b ∉ ch → s.heap.get? b = some o → H b = none → h'.get? b = some o)
    (slot : ∀ b o, b ≠ X.env.locals → b ∈ X.fs → b ∉ ch → s.heap.get? b = some o → H b = none → ∃ sl, h'.get? b = some { o with slots := sl }) (free : ∀ b o, b ∉ ch → s.heap.get? b = some o → H b = none → H' b = none)
    (there : ∀ b o, b ∉ ch → s.heap.get? b = some o → ∃ o', h'.get? b = some o')
    (tups : ∀ b xs, H b = some (.tup xs) → H' b = some (.tup xs)) (frzs : ∀ b o u, H b = some (.frz o u) → H' b = some (.frz o u)) (tbls : ∀ b ps, H b = some (.tbl ps) → ∃ more, H' b = some (.tbl (ps ++ more)))
    (ns : ∀ m, s.heap.Ns X.env.locals m → h'.Ns X.env.locals m) (hok : HOk X.prog X.w H' h') (hg : AllBare g') :
    Inv X pins σ H' { s with heap := h', gens := g', drawn := d', toks := t' } := by
  have neL : ∀ b o, X.s₀.heap.get? b = some o → b ≠ X.env.locals := fun b o e => Nat.ne_of_lt (Nat.lt_of_lt_of_le (Heap.lt_size e) I.ok.above)
  have neC : ∀ b o, X.s₀.heap.get? b = some o → b ∉ X.ex → b ∉ ch := fun b o e hx hb => by
    rcases (hch b hb).1 with z | z
    · exact hx z
    · exact absurd (Nat.lt_of_lt_of_le (Heap.lt_size e) z) (Nat.lt_irrefl _)
  have cellK : ∀ x c, X.env.cells.lookup x = some c → ∀ v, s.heap.IsCell c v → h'.IsCell c v := fun x c e v ⟨o, ho, hd⟩ => by
    have nch : c ∉ ch := fun z => (hch c z).2.2.1 x c e rfl
    by_cases hc : c ∈ X.fs
    · obtain ⟨sl, q⟩ := slot c o (I.cne x c e) hc nch ho (I.freeC x c e)
      exact ⟨_, q, hd⟩
    · exact ⟨o, keep c o (I.cne x c e) hc nch ho (I.freeC x c e), hd⟩
  refine ⟨I.ok, I.os, hg, ⟨fun b o e n hb hx => ?_, fun b o e n hb hx => ?_, fun b o e n hx => ?_, fun b o e hx => ?_, fun b xs e => tups b xs (I.base.tups b xs e), fun b o xs e => frzs b o xs (I.base.frzs b o xs e), fun b ps e => ?_⟩, ?_, fun x c e => ?_, ?_, fun x c e => ?_, fun p hp => ?_, hok, I.len⟩
  · exact keep b o (neL b o e) hb (neC b o e hx) (I.base.keep b o e n hb hx) (I.base.free b o e n hx)
  · obtain ⟨sl, e1⟩ := I.base.slot b o e n hb hx
    obtain ⟨sl', e2⟩ := slot b _ (neL b o e) hb (neC b o e hx) e1 (I.base.free b o e n hx)
    exact ⟨sl', e2⟩
  · obtain ⟨o', e1⟩ := I.base.there b o e hx
    exact free b o' (neC b o e hx) e1 (I.base.free b o e n hx)
  · obtain ⟨o', e1⟩ := I.base.there b o e hx
    exact there b o' (neC b o e hx) e1
  · obtain ⟨m1, e1⟩ := I.base.tbls b ps e
    obtain ⟨m2, e2⟩ := tbls b _ e1
    exact ⟨m1 ++ m2, by rw [e2, Array.append_assoc]⟩
  · obtain ⟨m, hn, hl⟩ := I.loc
    refine ⟨m, ns m hn, fun i x v e1 e2 e3 => ?_⟩
    obtain ⟨u, r, l⟩ := hl i x v e1 e2 e3
    refine ⟨u, r, ?_⟩
    rcases l with l | ⟨k, c, e, z⟩
    · exact .inl l
    · exact .inr ⟨k, c, e, cellK x c e _ z⟩
  · obtain ⟨v, z⟩ := I.cell x c e
    exact ⟨v, cellK x c e v z⟩
  · obtain ⟨m, ⟨o, _, _, ho, _⟩, _⟩ := I.loc
    exact free _ o (fun z => (hch _ z).2.1 rfl) ho I.free
  · obtain ⟨v, o, ho, hd⟩ := I.cell x c e
    exact free c o (fun z => (hch c z).2.2.1 x c e rfl) ho (I.freeC x c e)
  · obtain ⟨e, n, ne, nf, d⟩ := I.pin p hp
    have nch : p.1 ∉ ch := fun z => (hch p.1 z).2.2.2 p hp rfl
    exact ⟨keep p.1 p.2 ne nf nch e n, free p.1 p.2 nch e n, ne, nf, d⟩
theorem Inv.un {t' : Nat} (I : Inv X pins σ H s) (u : Un X.fs [] H H' s.heap h') (hok : HOk X.prog X.w H' h') : Inv X pins σ H' { s with heap := h', toks := t' } := by
  obtain ⟨m, ⟨o, es, ep, ho, r⟩, _⟩ := id I.loc
  obtain ⟨sl, hL⟩ := u.any ho I.free (by simp)
  exact I.step (g' := s.gens) (d' := s.drawn) (ch := []) (fun _ z => nomatch z) (fun b o _ hb _ e n => u.keep b o e n hb (by simp)) (fun b o _ hb _ e n => u.slot b o e n hb (by simp)) (fun b o _ e n => u.free b o e n (by simp)) (fun b o _ e => u.there b o e (by simp)) u.tups u.frzs u.tbls (fun m' hm => by
    obtain ⟨o', es', ep', ho', r'⟩ := hm
    rw [ho] at ho'; cases ho'
    exact ⟨_, es', ep', hL, r'⟩) hok I.bare
theorem Inv.call {g' : Array GenState} {t' : Nat} {d' : Drawn} {ch : List Addr} (I : Inv X pins σ H s) (u : Un (frs X.stack) ch H H' s.heap h') (hok : HOk X.prog X.w H' h') (hg : AllBare g')
    (hch : ∀ b ∈ ch, (b ∈ X.ex ∨ X.s₀.heap.objs.size ≤ b) ∧ b ≠ X.env.locals ∧ (∀ x c, X.env.cells.lookup x = some c → c ≠ b) ∧ ∀ p ∈ X.pn ++ pins, p.1 ≠ b) :
    Inv X pins σ H' { s with heap := h', gens := g', drawn := d', toks := t' } := by
  obtain ⟨m, ⟨o, es, ep, ho, r⟩, _⟩ := id I.loc
  obtain ⟨sl, hL⟩ := u.any ho I.free fun z => (hch _ z).2.1 rfl
  exact I.step (ch := ch) hch (fun b o hL hb hc e n => u.keep b o e n (fun z => (List.mem_cons.mp (I.stkSub b z)).elim hL hb) hc) (fun b o _ _ hc e n => u.any e n hc) (fun b o hc e n => u.free b o e n hc) (fun b o hc e => u.there b o e hc) u.tups u.frzs u.tbls (fun m' hm => by
    obtain ⟨o', es', ep', ho', r'⟩ := hm
    rw [ho] at ho'; cases ho'
    exact ⟨_, es', ep', hL, r'⟩) hok hg
theorem Inv.turned {t' : Nat} {it : Addr} (I : Inv X pins σ H s) (k : ∀ b o, b ≠ it → s.heap.get? b = some o → h'.get? b = some o) (hn : H it = none) (hL : it ≠ X.env.locals)
    (h1 : it ∈ X.ex ∨ X.s₀.heap.objs.size ≤ it) (h2 : ∀ x c, X.env.cells.lookup x = some c → c ≠ it) (h3 : ∀ p ∈ X.pn ++ pins, p.1 ≠ it) : Inv X pins σ H { s with heap := h', toks := t' } := by
  have nit : ∀ b u, H b = some u → b ≠ it := fun b u e z => by rw [z, hn] at e; cases e
  refine I.step (g' := s.gens) (d' := s.drawn) (ch := [it]) (fun b hb => ?_) (fun b o _ _ hc e _ => k b o (fun z => hc (by simp [z])) e) (fun b o _ _ hc e _ => ⟨o.slots, k b o (fun z => hc (by simp [z])) e⟩) (fun _ _ _ _ n => n)
    (fun b o hc e => ⟨o, k b o (fun z => hc (by simp [z])) e⟩) (fun _ _ e => e) (fun _ _ _ e => e) (fun b ps e => ⟨#[], by rw [e]; simp⟩) (fun m hm => ?_) (fun b u e => ?_) I.bare
  · have e : b = it := by simpa using hb
    subst e
    exact ⟨h1, hL, h2, h3⟩
  · obtain ⟨o, es, ep, ho, r⟩ := hm
    exact ⟨o, es, ep, k _ o (Ne.symm hL) ho, r⟩
  · refine (I.hok b u e).stay (fun c v hc q => k c v ?_ q) (fun _ q => q) fun _ _ q => q
    rcases hc with z | z
    · rw [z]; exact nit b u e
    · exact nit c _ z
theorem Inv.tok (I : Inv X pins σ H s) (t : Nat) : Inv X pins σ H { s with toks := t } := I.un (h' := s.heap) (t' := t) Un.refl I.hok
theorem Inv.kept {t' : Nat} (I : Inv X pins σ H s) (k : ∀ b u, s.heap.get? b = some u → h'.get? b = some u) : Inv X pins σ H { s with heap := h', toks := t' } := I.un (Un.kept k) (I.hok.kept k)
theorem Inv.laid {a : Addr} {o : HO} {t' : Nat} (I : Inv X pins σ H s) (k : ∀ b u, s.heap.get? b = some u → h'.get? b = some u) (hp : s.heap.objs.size ≤ a) (new : ObjOk X.prog X.w (upd H a o) h' a o) :
    Inv X pins σ (upd H a o) { s with heap := h', toks := t' } := I.un (Un.laid k hp (I.hok.fresh hp)) (I.hok.laid k hp new)
theorem Inv.write {x e : Addr} {o : HO} {t' : Nat} (I : Inv X pins σ H s) (mu : Mut (H x)) (he : e = x ∨ H e = some (.own x)) (k : ∀ b u, b ≠ e → s.heap.get? b = some u → h'.get? b = some u) (heo : ∃ u, h'.get? e = some u)
    (new : ObjOk X.prog X.w (upd H x o) h' x o) : Inv X pins σ (upd H x o) { s with heap := h', toks := t' } := I.un (Un.write mu he k heo) (I.hok.write mu he k heo new)
theorem Inv.weak {σ' : List (Option V)} (I : Inv X pins σ H s) (hl : σ'.length = σ.length) (w : ∀ (i : Nat) v, σ'[i]? = some (some v) → σ[i]? = some (some v)) : Inv X pins σ' H s :=
  ⟨I.ok, I.os, I.bare, I.base, let ⟨m, hn, hl'⟩ := I.loc; ⟨m, hn, fun i x v e1 e2 e3 => hl' i x v e1 (w i v e2) e3⟩, I.cell, I.free, I.freeC, I.pin, I.hok, hl.trans I.len⟩
theorem Inv.pins_of {pins' : List (Addr × Obj)} (I : Inv X pins σ H s) (h : ∀ p ∈ pins', s.heap.get? p.1 = some p.2 ∧ H p.1 = none ∧ p.1 ≠ X.env.locals ∧ p.1 ∉ X.fs ∧ ∀ v, p.2.data ≠ .cell v) : Inv X pins' σ H s :=
  ⟨I.ok, I.os, I.bare, I.base, I.loc, I.cell, I.free, I.freeC, fun p hp => (List.mem_append.mp hp).elim (fun z => I.pin p (List.mem_append_left _ z)) (h p), I.hok, I.len⟩
theorem nodup_ix {N : List Str} (hN : N.Nodup) {i j : Nat} {x : Str} (a : N[i]? = some x) (b : N[j]? = some x) : i = j := by
  obtain ⟨h1, e1⟩ := List.getElem?_eq_some_iff.mp a
  obtain ⟨h2, e2⟩ := List.getElem?_eq_some_iff.mp b
  exact (List.getElem_inj hN).mp (e1.trans e2.symm)
theorem store_ok2 {M : Model} {A : Around} {E : Value → Shared → Prop} {i : Nat} {x : Str} {v : V} {u : Value} {Q : Unit → Shared → Prop} (I : Inv X pins σ H s) (hN : X.N.Nodup) (hi : X.N[i]? = some x) (hx : Loc X.env.scope x) (r : RelV v u)
    (h : ∀ s', Inv X pins (σ.set i (some v)) H s' → (∃ a, Heap.SameBut a s.heap s'.heap ∧ (a = X.env.locals ∨ X.env.cells.lookup x = some a)) → Q () s') (hf : X.fn x = true ∨ X.env.scope.names.lookup x = some .local := by first | exact .inl rfl | exact .inr rfl | assumption) : wpAny M A (storeName X.env x u) Q E s := by
  obtain ⟨m, hn, hl⟩ := id I.loc
  have hcls : (X.env.scope.kind == .class || (X.env.scope.kind == .module && X.env.locals != X.env.globals)) = false := by rw [I.ok.kind]; rfl
  have hiσ : i < σ.length := by rw [I.len]; exact (List.getElem?_eq_some_iff.mp hi).1
  have cne := I.cne
  have tracked : ∀ {a : Addr} {h' : Heap}, (∃ o, s.heap.get? a = some o ∧ H a = none) → Heap.SameBut a s.heap h' → HOk X.prog X.w H h' := fun {a h'} ha hs b ob e => by
    obtain ⟨_, _, hfree⟩ := ha
    refine (I.hok b ob e).stay (fun c w' hc q => (hs.2 c ?_).trans q) (fun _ q => q) fun _ _ q => q
    rintro rfl
    rcases hc with rfl | hc
    · rw [hfree] at e; cases e
    · rw [hfree] at hc; cases hc
  rcases hx with hk | hk
  · refine wpAny_storeName_local hk hn (fun h' hn' hs => ?_) hcls
    obtain ⟨oL, _, _, hoL, _⟩ := id hn
    refine h _ ⟨I.ok, I.os, I.bare, ⟨fun b o e n hb hx => ?_, fun b o e n hb hx => ?_, I.base.free, fun b o e hx => ?_, I.base.tups, I.base.frzs, I.base.tbls⟩, ⟨_, hn', fun j y v' e1 e2 e3 => ?_⟩, fun y c e => ?_, I.free, I.freeC, fun p hp => ?_, tracked ⟨oL, hoL, I.free⟩ hs, by simpa using I.len⟩ ⟨_, hs, .inl rfl⟩
    · exact (hs.2 b (Nat.ne_of_lt (Nat.lt_of_lt_of_le (Heap.lt_size e) I.ok.above))).trans (I.base.keep b o e n hb hx)
    · obtain ⟨sl, e1⟩ := I.base.slot b o e n hb hx
      exact ⟨sl, (hs.2 b (Nat.ne_of_lt (Nat.lt_of_lt_of_le (Heap.lt_size e) I.ok.above))).trans e1⟩
    · obtain ⟨o', e1⟩ := I.base.there b o e hx
      exact ⟨o', (hs.2 b (Nat.ne_of_lt (Nat.lt_of_lt_of_le (Heap.lt_size e) I.ok.above))).trans e1⟩
    · by_cases hj : j = i
      · subst hj
        rw [hi] at e1; cases e1
        rw [List.getElem?_set_self hiσ] at e2
        cases e2
        exact ⟨u, r, .inl ⟨hk, by simp⟩⟩
      · rw [List.getElem?_set_ne (Ne.symm hj)] at e2
        obtain ⟨u', r', q⟩ := hl j y v' e1 e2 e3
        refine ⟨u', r', ?_⟩
        rcases q with ⟨k, e⟩ | ⟨k, c, e, z⟩
        · refine .inl ⟨k, ?_⟩
          have : y ≠ x := fun e => hj (nodup_ix hN e1 (e ▸ hi))
          simp [this, e]
        · exact .inr ⟨k, c, e, z.sameBut hs (cne y c e)⟩
    · obtain ⟨w', z⟩ := I.cell y c e
      exact ⟨w', z.sameBut hs (cne y c e)⟩
    · obtain ⟨e, n, ne, nf, d⟩ := I.pin p hp
      exact ⟨(hs.2 p.1 ne).trans e, n, ne, nf, d⟩
  · have hfn : X.fn x = true := by
      rcases hf with z | z
      · exact z
      · rw [z] at hk; cases hk
    obtain ⟨c, hc⟩ := I.ok.has x (.inl hk)
    obtain ⟨w', z⟩ := I.cell x c hc
    refine wpAny_storeName_cell I.ok.kind hk hc z (fun h' hc' hs => ?_)
    obtain ⟨oc, hoc, hocd⟩ := id z
    refine h { s with heap := h' } ⟨I.ok, I.os, I.bare, ⟨fun b o e n hb hx => ?_, fun b o e n hb hx => ?_, I.base.free, fun b o e hx => ?_, I.base.tups, I.base.frzs, I.base.tbls⟩, ⟨m, hn.sameBut hs (Ne.symm (cne x c hc)), fun j y v' e1 e2 e3 => ?_⟩, fun y c' e => ?_, I.free, I.freeC, fun p hp => ?_, tracked ⟨oc, hoc, I.freeC x c hc⟩ hs, by simpa using I.len⟩ ⟨c, hs, .inr hc⟩
    · exact (hs.2 b (Nat.ne_of_lt (Nat.lt_of_lt_of_le (Heap.lt_size e) (I.ok.cab x c hfn hc)))).trans (I.base.keep b o e n hb hx)
    · obtain ⟨sl, e1⟩ := I.base.slot b o e n hb hx
      exact ⟨sl, (hs.2 b (Nat.ne_of_lt (Nat.lt_of_lt_of_le (Heap.lt_size e) (I.ok.cab x c hfn hc)))).trans e1⟩
    · obtain ⟨o', e1⟩ := I.base.there b o e hx
      exact ⟨o', (hs.2 b (Nat.ne_of_lt (Nat.lt_of_lt_of_le (Heap.lt_size e) (I.ok.cab x c hfn hc)))).trans e1⟩
    · by_cases hj : j = i
      · subst hj
        rw [hi] at e1; cases e1
        rw [List.getElem?_set_self hiσ] at e2
        cases e2
        exact ⟨u, r, .inr ⟨.inl hk, c, hc, hc'⟩⟩
      · rw [List.getElem?_set_ne (Ne.symm hj)] at e2
        obtain ⟨u', r', q⟩ := hl j y v' e1 e2 e3
        refine ⟨u', r', ?_⟩
        rcases q with q | ⟨k, c', e, z'⟩
        · exact .inl q
        · refine .inr ⟨k, c', e, z'.sameBut hs ?_⟩
          rintro rfl
          exact hj (nodup_ix hN e1 (I.ok.inj _ _ _ e hc ▸ hi))
    · by_cases hcc : c' = c
      · subst hcc; exact ⟨_, hc'⟩
      · obtain ⟨w2, z2⟩ := I.cell y c' e
        exact ⟨w2, z2.sameBut hs hcc⟩
    · obtain ⟨e, n, ne, nf, d⟩ := I.pin p hp
      refine ⟨(hs.2 p.1 ?_).trans e, n, ne, nf, d⟩
      intro q
      rw [q, hoc] at e
      have q' : oc = p.2 := Option.some.inj e
      exact d w' (by rw [← q']; exact hocd)
theorem store_ok {M : Model} {A : Around} {E : Value → Shared → Prop} {i : Nat} {x : Str} {v : V} {u : Value} {Q : Unit → Shared → Prop} (I : Inv X pins σ H s) (hN : X.N.Nodup) (hi : X.N[i]? = some x) (hx : Loc X.env.scope x) (r : RelV v u)
    (h : ∀ s', Inv X pins (σ.set i (some v)) H s' → Q () s') (hf : X.fn x = true ∨ X.env.scope.names.lookup x = some .local := by first | exact .inl rfl | exact .inr rfl | assumption) : wpAny M A (storeName X.env x u) Q E s :=
  store_ok2 I hN hi hx r (fun s' I' _ => h s' I') hf
theorem Inv.call' {s' : Shared} {ch : List Addr} (I : Inv X pins σ H s) (ho : s'.os = s.os) (u : Un (frs X.stack) ch H H' s.heap s'.heap) (hok : HOk X.prog X.w H' s'.heap) (hg : AllBare s'.gens)
    (hch : ∀ b ∈ ch, (b ∈ X.ex ∨ X.s₀.heap.objs.size ≤ b) ∧ b ≠ X.env.locals ∧ (∀ x c, X.env.cells.lookup x = some c → c ≠ b) ∧ ∀ p ∈ X.pn ++ pins, p.1 ≠ b) : Inv X pins σ H' s' := by
  obtain ⟨h', g', d', t', o'⟩ := s'
  have e : o' = s.os := ho
  subst e
  exact I.call (g' := g') (t' := t') (d' := d') u hok hg hch
end
noncomputable abbrev XK := Value → Option Addr → Hp → Prop
noncomputable abbrev St := List (Option V)
noncomputable abbrev VK := V → Hp → Prop
noncomputable abbrev TE := St → Hp → VK → Prop
noncomputable abbrev TT := St → Hp → (Bool → Hp → Prop) → Prop
noncomputable abbrev TA := St → Hp → (List V → Hp → Prop) → Prop
structure Ends where
  nx : St → Hp → Prop
  rt : VK
  bk : St → Hp → Prop := fun _ _ => False
  ct : St → Hp → Prop := fun _ _ => False
noncomputable abbrev TS := Ends → St → Hp → Prop
noncomputable def EP (X : Cx) (pins : List (Addr × Obj)) (σ : St) (Q : VK) (u : Value) (s' : Shared) : Prop := ∃ v H', Inv X pins σ H' s' ∧ RelV v u ∧ Q v H'
noncomputable def TP (X : Cx) (pins : List (Addr × Obj)) (σ : St) (Q : Bool → Hp → Prop) (b : Bool) (s' : Shared) : Prop := ∃ H', Inv X pins σ H' s' ∧ Q b H'
noncomputable def AP (X : Cx) (pins : List (Addr × Obj)) (σ : St) (Q : List V → Hp → Prop) (us : List Value) (s' : Shared) : Prop := ∃ vs H', Inv X pins σ H' s' ∧ Vals vs us ∧ Q vs H'
noncomputable def SP (X : Cx) (pins : List (Addr × Obj)) (D : Ends) (f : Flow) (s' : Shared) : Prop :=
  match f with
  | .next => ∃ σ' H', Inv X pins σ' H' s' ∧ D.nx σ' H'
  | .brk => ∃ σ' H', Inv X pins σ' H' s' ∧ D.bk σ' H'
  | .cont => ∃ σ' H', Inv X pins σ' H' s' ∧ D.ct σ' H'
  | .ret u => ∃ v σ' H', Inv X pins σ' H' s' ∧ RelV v u ∧ D.rt v H'
noncomputable def PE (X : Cx) (e : Expr) (t : TE) : Prop :=
  ∀ (pins : List (Addr × Obj)) (s : Shared) (σ : St) (H : Hp) (Q : VK), Inv X pins σ H s → t σ H Q → wpAny (model X.prog X.w) X.A (eval e X.env) (EP X pins σ Q) X.xe s
noncomputable def PT (X : Cx) (e : Expr) (t : TT) : Prop :=
  ∀ (pins : List (Addr × Obj)) (s : Shared) (σ : St) (H : Hp) (Q : Bool → Hp → Prop), Inv X pins σ H s → t σ H Q → wpAny (model X.prog X.w) X.A (isTrue e X.env (eval e X.env)) (TP X pins σ Q) X.xe s
noncomputable def PW (X : Cx) (e : Expr) (t : TT) : Prop :=
  ∀ (whole : Sem Value) (pins : List (Addr × Obj)) (s : Shared) (σ : St) (H : Hp) (Q : Bool → Hp → Prop), Inv X pins σ H s → t σ H Q → wpAny (model X.prog X.w) X.A (isTrue e X.env whole) (TP X pins σ Q) X.xe s
theorem PW.pt {X : Cx} {e : Expr} {t : TT} (h : PW X e t) : PT X e t := h _
noncomputable def PA (X : Cx) (es : List Expr) (t : TA) : Prop :=
  ∀ (pos : Pos) (pins : List (Addr × Obj)) (s : Shared) (σ : St) (H : Hp) (Q : List V → Hp → Prop), Inv X pins σ H s → t σ H Q → wpAny (model X.prog X.w) X.A (spliced (backTo pos (starEach es X.env))) (AP X pins σ Q) X.xe s
noncomputable def PS (X : Cx) (st : Stmt) (t : TS) : Prop :=
  ∀ (pins : List (Addr × Obj)) (s : Shared) (σ : St) (H : Hp) (D : Ends), Inv X pins σ H s → t D σ H → wpAny (model X.prog X.w) X.A (exec st X.env) (SP X pins D) X.xe s
noncomputable def PSs (X : Cx) (st : List Stmt) (t : TS) : Prop :=
  ∀ (pins : List (Addr × Obj)) (s : Shared) (σ : St) (H : Hp) (D : Ends), Inv X pins σ H s → t D σ H → wpAny (model X.prog X.w) X.A (execs st X.env) (SP X pins D) X.xe s
theorem thn {α : Type} {t : Sem α} {Q Q' : α → Shared → Prop} {M : Model} {A : Around} {E : Value → Shared → Prop} {s : Shared} (h : wpAny M A t Q E s) (hQ : ∀ a s, Q a s → Q' a s) : wpAny M A t Q' E s := wpAny_mono h hQ fun _ _ x => x
end L2
namespace L2
open PySem PySem.Spec PyProof.Rows
section
variable {X : Cx}
noncomputable def tVar (i : Nat) : TE := fun σ H Q => ∃ v, σ[i]? = some (some v) ∧ Q v H
noncomputable def tC (v : V) : TE := fun _ H Q => Q v H
theorem pe_var {i : Nat} {x : Str} {pos : Pos} (hN : X.N[i]? = some x) (hv : Vis X.env.scope x) (hd : (x == ("__debug__" : Str)) = false := by decide) (hcd : (x == ("__classdict__" : Str)) = false := by decide) : PE X (.Name x pos) (tVar i) := by
  intro pins s σ H Q I h
  obtain ⟨v, e, h⟩ := h
  obtain ⟨m, hn, hl⟩ := I.loc
  obtain ⟨u, r, l⟩ := hl i x v hN e hv
  have fin : EP X pins σ Q u s := ⟨v, H, I, r, h⟩
  rcases l with ⟨hk, hm⟩ | ⟨hk, c, hc, hcell⟩
  · exact wpAny_Name (wpAny_loadName_local I.ok.kind hk hn hm fin) hd
  · rcases hk with hk | hk
    · exact wpAny_Name (wpAny_loadName_cell I.ok.kind hk hc hcell fin) hd
    · exact wpAny_Name (wpAny_loadName_free I.ok.kind hk hc hcell fin hcd) hd
theorem pe_int {i j pos} : PE X (.Constant (.int i) j pos) (tC (.int i)) := fun _ _ _ H _ I h => wpAny_Constant_int ⟨.int i, H, I.tok _, ⟨_, rfl⟩, h⟩
theorem pe_bl {b j pos} : PE X (.Constant (.bool b) j pos) (tC (.bl b)) := fun _ _ _ H _ I h => Constant_bool ⟨.bl b, H, I, rfl, h⟩
theorem pe_non {j pos} : PE X (.Constant .none j pos) (tC .non) := fun _ _ _ H _ I h => Constant_none ⟨.non, H, I, rfl, h⟩
theorem pe_str {x j pos} : PE X (.Constant (.str x) j pos) (tC (.str x)) := fun _ _ _ H _ I h => Calls.Constant_str ⟨.str x, H, I.tok _, ⟨_, rfl⟩, h⟩
noncomputable def Gl (X : Cx) (x : Str) : Prop := X.env.kindOf x = some .globalImplicit
theorem ld_glob {E : Value → Shared → Prop} {pins : List (Addr × Obj)} {s : Shared} {σ : St} {H : Hp} {x : Str} {u : Value} {pos : Pos} {Q : Value → Shared → Prop} (I : Inv X pins σ H s) (hg : Gl X x) (hm : X.mg x = some u) (h : Q u s)
    (hd : (x == ("__debug__" : Str)) = false := by decide) : wpAny (model X.prog X.w) X.A (eval (.Name x pos) X.env) Q E s :=
  Calls.Name_function_global I.ok.kind hg (Calls.loadGlobal_global (by rw [I.ok.glob]; exact I.mod.glob.keeps I.bk) hm h) hd
theorem ld_blt {E : Value → Shared → Prop} {pins : List (Addr × Obj)} {s : Shared} {σ : St} {H : Hp} {x : Str} {u : Value} {pos : Pos} {Q : Value → Shared → Prop} (I : Inv X pins σ H s) (hg : Gl X x) (hm : X.mg x = none) (hv : bootBuiltins x = some u) (h : Q u s)
    (hn : x ≠ "__name__" := by decide) (hd : (x == ("__debug__" : Str)) = false := by decide) : wpAny (model X.prog X.w) X.A (eval (.Name x pos) X.env) Q E s := by
  obtain ⟨mb, h1, h2⟩ := I.mod.blt
  exact Calls.Name_function_global I.ok.kind hg (Calls.loadGlobal_builtin (by rw [I.ok.glob]; exact I.mod.glob.keeps I.bk) hm (by rw [I.ok.blt]; exact h1.keeps I.bk) ((h2 x hn).trans hv) h) hd
theorem pe_glob {x : Str} {v : V} {u : Value} {pos : Pos} (hg : Gl X x) (hm : X.mg x = some u) (r : RelV v u) (hd : (x == ("__debug__" : Str)) = false := by decide) : PE X (.Name x pos) (tC v) :=
  fun _ _ _ H _ I h => ld_glob I hg hm ⟨v, H, I, r, h⟩ hd
theorem pe_bltn {x : Str} {v : V} {u : Value} {pos : Pos} (hg : Gl X x) (hm : X.mg x = none) (hv : bootBuiltins x = some u) (r : RelV v u) (hn : x ≠ "__name__" := by decide) (hd : (x == ("__debug__" : Str)) = false := by decide) : PE X (.Name x pos) (tC v) :=
  fun _ _ _ H _ I h => ld_blt I hg hm hv ⟨v, H, I, r, h⟩ hn hd
variable {a b : Expr} {ta tb : TE} {pos : Pos}
noncomputable def PC (X : Cx) (op : CmpOp) (a b : Expr) (t : TE) : Prop :=
  ∀ (pins : List (Addr × Obj)) (s : Shared) (σ : St) (H : Hp) (Q : VK), Inv X pins σ H s → t σ H Q →
    wpAny (model X.prog X.w) X.A (eval a X.env) (fun v s₁ => wpAny (model X.prog X.w) X.A (eval b X.env) (fun u s₂ => wpAny (model X.prog X.w) X.A (compareOp op v u) (EP X pins σ Q) X.xe s₂) X.xe s₁) X.xe s
theorem nobehind (b : Expr) {op : CmpOp} (h : op ≠ .In) (h2 : op ≠ .NotIn) : behindInMarks op b = false := by
  have e1 : (op == CmpOp.In) = false := by cases op <;> first | rfl | exact absurd rfl h
  have e2 : (op == CmpOp.NotIn) = false := by cases op <;> first | rfl | exact absurd rfl h2
  cases b <;> simp [behindInMarks, e1, e2]
noncomputable def tB (t : TE) : TT := fun σ H Q => t σ H fun x H1 => ∃ c, x = .bl c ∧ Q c H1
theorem pt_cmp {op : CmpOp} {t : TE} (h : PC X op a b t) (h1 : behindInMarks op b = false := by first | exact nobehind _ (by decide) (by decide) | rfl) : PT X (.Compare a [op] [b] pos) (tB t) := by
  intro pins s σ H Q I hw
  refine wpAny_isTrue_Compare1 (thn (h pins s σ H _ I hw) fun v s1 h1 => thn h1 fun u s2 h2 => thn h2 fun c s3 ⟨x, H1, I1, r1, q1⟩ => ?_) h1
  obtain ⟨d, rfl, q⟩ := q1
  cases r1
  exact wpAny_truthy_bool ⟨H1, I1, q⟩
variable {tA tB' : TT} {rest : List Expr}
noncomputable def tAnd (t u : TT) : TT := fun σ H Q => t σ H fun c H1 => if c = true then u σ H1 Q else Q false H1
noncomputable def tOr (t u : TT) : TT := fun σ H Q => t σ H fun c H1 => if c = true then Q true H1 else u σ H1 Q
noncomputable def tNot (t : TT) : TT := fun σ H Q => t σ H fun c H1 => Q (!c) H1
theorem pw_and1 (ha : PT X a tA) : PW X (.BoolOp .And [a] pos) tA := by
  intro wh pins s σ H Q I h
  refine isTrue_and (thn (ha pins s σ H Q I h) fun c s1 e => ?_)
  cases c with
  | true => exact isTrue_and_nil e
  | false => exact e
theorem pw_or1 (ha : PT X a tA) : PW X (.BoolOp .Or [a] pos) tA := by
  intro wh pins s σ H Q I h
  refine isTrue_or (thn (ha pins s σ H Q I h) fun c s1 e => ?_)
  cases c with
  | false => exact isTrue_or_nil e
  | true => exact e
theorem pw_and (ha : PT X a tA) (hb : PW X (.BoolOp .And (b :: rest) pos) tB') : PW X (.BoolOp .And (a :: b :: rest) pos) (tAnd tA tB') := by
  intro wh pins s σ H Q I h
  refine isTrue_and (thn (ha pins s σ H _ I h) fun c s1 ⟨H1, I1, q1⟩ => ?_)
  cases c with
  | true => exact hb wh pins s1 σ H1 Q I1 q1
  | false => exact ⟨H1, I1, q1⟩
theorem pw_or (ha : PT X a tA) (hb : PW X (.BoolOp .Or (b :: rest) pos) tB') : PW X (.BoolOp .Or (a :: b :: rest) pos) (tOr tA tB') := by
  intro wh pins s σ H Q I h
  refine isTrue_or (thn (ha pins s σ H _ I h) fun c s1 ⟨H1, I1, q1⟩ => ?_)
  cases c with
  | true => exact ⟨H1, I1, q1⟩
  | false => exact hb wh pins s1 σ H1 Q I1 q1
theorem pt_not (ha : PT X a tA) : PT X (.UnaryOp .Not a pos) (tNot tA) := by
  intro pins s σ H Q I h
  exact isTrue_not (ha pins s σ H (fun c H1 => Q (!c) H1) I h)
noncomputable def tAndV (ta tb : TE) : TE := fun σ H Q => ta σ H fun x H1 => ∃ c, x = .bl c ∧ if c = true then tb σ H1 Q else Q (.bl false) H1
noncomputable def tOrV (ta tb : TE) : TE := fun σ H Q => ta σ H fun x H1 => ∃ c, x = .bl c ∧ if c = true then Q (.bl true) H1 else tb σ H1 Q
noncomputable def tNotV (ta : TE) : TE := fun σ H Q => ta σ H fun x H1 => ∃ c, x = .bl c ∧ Q (.bl (!c)) H1
theorem pe_one {op} {t : TE} (h : PE X a t) : PE X (.BoolOp op [a] pos) t := fun pins s σ H Q I hw => BoolOp_one (h pins s σ H Q I hw)
theorem pe_and (ha : PE X a ta) (hb : PE X (.BoolOp .And (b :: rest) pos) tb) : PE X (.BoolOp .And (a :: b :: rest) pos) (tAndV ta tb) := by
  intro pins s σ H Q I h
  refine BoolOp_and (thn (ha pins s σ H _ I h) fun v s1 ⟨x, H1, I1, r1, q1⟩ => ?_)
  obtain ⟨c, rfl, q1⟩ := q1
  cases r1
  refine wpAny_truthy_bool ?_
  cases c with
  | true => exact hb pins s1 σ H1 Q I1 q1
  | false => exact ⟨.bl false, H1, I1, rfl, q1⟩
theorem pe_or (ha : PE X a ta) (hb : PE X (.BoolOp .Or (b :: rest) pos) tb) : PE X (.BoolOp .Or (a :: b :: rest) pos) (tOrV ta tb) := by
  intro pins s σ H Q I h
  refine BoolOp_or (thn (ha pins s σ H _ I h) fun v s1 ⟨x, H1, I1, r1, q1⟩ => ?_)
  obtain ⟨c, rfl, q1⟩ := q1
  cases r1
  refine wpAny_truthy_bool ?_
  cases c with
  | false => exact hb pins s1 σ H1 Q I1 q1
  | true => exact ⟨.bl true, H1, I1, rfl, q1⟩
theorem pe_not (ha : PE X a ta) : PE X (.UnaryOp .Not a pos) (tNotV ta) := by
  intro pins s σ H Q I h
  refine UnaryOp_ (thn (ha pins s σ H _ I h) fun v s1 ⟨x, H1, I1, r1, q1⟩ => ?_)
  obtain ⟨c, rfl, q1⟩ := q1
  cases r1
  exact not_of (wpAny_truthy_bool ⟨.bl (!c), H1, I1, rfl, q1⟩)
noncomputable def tIf (t : TT) (ta tb : TE) : TE := fun σ H Q => t σ H fun c H1 => if c = true then ta σ H1 Q else tb σ H1 Q
theorem pe_ifExp {c : Expr} (hc : PT X c tA) (ha : PE X a ta) (hb : PE X b tb) : PE X (.IfExp c a b pos) (tIf tA ta tb) := by
  intro pins s σ H Q I h
  refine wpAny_IfExp (thn (hc pins s σ H _ I h) fun d s1 ⟨H1, I1, q1⟩ => ?_)
  cases d with
  | true => exact ha pins s1 σ H1 Q I1 q1
  | false => exact hb pins s1 σ H1 Q I1 q1
end
end L2
namespace L2
open PySem PySem.Spec PyProof.Rows
noncomputable def SqL (K : PySem.W.Frag) (H : Hp) (a : Addr) (xs : List V) : Prop :=
  Rd H a (.lst xs) ∨
    ∃ (o : Obj) (its : Array Value) (n : Nat), K.lookup a = some o ∧ o.cls = .type "list" ∧ o.dict = none ∧ o.data = .seq its n ∧ its.size ≤ sizeLine ∧ Vals xs its.toList
noncomputable def SqT (K : PySem.W.Frag) (H : Hp) (a : Addr) (xs : List V) : Prop :=
  Rd H a (.tup xs) ∨
    ∃ (o : Obj) (its : Array Value) (n : Nat), K.lookup a = some o ∧ o.cls = .type "tuple" ∧ o.data = .seq its n ∧ its.size ≤ sizeLine ∧ Vals xs its.toList
noncomputable def absV : Value → Option V
  | .none => some .non
  | .bool b => some (.bl b)
  | .int i _ => some (.int i)
  | .str x _ => some (.str x)
  | .bytes b _ => some (.byt b)
  | .float b _ => some (.flt b)
  | .ref a => some (.ref a)
  | .type n => some (.ty n)
  | _ => none
theorem RelV.abs {x : V} {u : Value} (r : RelV x u) : absV u = some x := by
  cases x with
  | non => cases r; rfl
  | bl _ => cases r; rfl
  | int _ => obtain ⟨t, rfl⟩ := r; rfl
  | str _ => obtain ⟨t, rfl⟩ := r; rfl
  | byt _ => obtain ⟨t, rfl⟩ := r; rfl
  | flt _ => obtain ⟨t, rfl⟩ := r; rfl
  | ref _ => cases r; rfl
  | ty _ => cases r; rfl
theorem RelV.inj {x y : V} {u : Value} (r : RelV x u) (q : RelV y u) : x = y := Option.some.inj (r.abs.symm.trans q.abs)
theorem Vals.inj : ∀ {xs ys : List V} {us : List Value}, Vals xs us → Vals ys us → xs = ys
  | _, _, _, .nil, .nil => rfl
  | _, _, _, .cons r t, .cons r' t' => by rw [r.inj r', Vals.inj t t']
section
variable {X : Cx} {pins : List (Addr × Obj)} {σ : St} {H : Hp} {s : Shared} {a : Addr} {xs ys : List V}
theorem SqL.of {K : PySem.W.Frag} (h : H a = some (.lst xs)) : SqL K H a xs := .inl (.inl h)
theorem SqT.of {K : PySem.W.Frag} (h : H a = some (.tup xs)) : SqT K H a xs := .inl (.inl h)
theorem Inv.list (I : Inv X pins σ H s) (h : SqL X.K H a xs) : ∃ its : List Value, Vals xs its ∧ PlainL s.heap a its.toArray ∧ xs.length ≤ sizeLine := by
  rcases h with h | ⟨o, its, n, hk, hc, hd, hs, hz, r⟩
  · obtain ⟨z, its, n, r, e⟩ := h.ok I.hok
    exact ⟨its, r, ⟨_, n, e, rfl, rfl, rfl⟩, z⟩
  · refine ⟨its.toList, r, ⟨o, n, I.kIn a o hk, hc, hd, by simpa using hs⟩, ?_⟩
    have e := r.length
    simp only [Array.length_toList] at e
    omega
theorem Inv.tuple (I : Inv X pins σ H s) (h : SqT X.K H a xs) : ∃ its : List Value, Vals xs its ∧ IsTup s.heap a its.toArray ∧ xs.length ≤ sizeLine := by
  rcases h with h | ⟨o, its, n, hk, hc, hs, hz, r⟩
  · obtain ⟨z, its, r, p⟩ := h.ok I.hok
    exact ⟨its, r, p, z⟩
  · refine ⟨its.toList, r, ⟨o, I.kIn a o hk, hc, n, by simpa using hs⟩, ?_⟩
    have e := r.length
    simp only [Array.length_toList] at e
    omega
theorem Inv.list_inj (I : Inv X pins σ H s) (h : SqL X.K H a xs) (h' : SqL X.K H a ys) : xs = ys := by
  obtain ⟨its, r, ⟨o, n, e, _, _, d⟩, _⟩ := I.list h
  obtain ⟨its', r', ⟨o', n', e', _, _, d'⟩, _⟩ := I.list h'
  rw [e] at e'; cases e'
  rw [d] at d'
  injection d' with d1 _
  have : its = its' := by simpa using congrArg Array.toList d1
  subst this
  exact r.inj r'
theorem Inv.tuple_inj (I : Inv X pins σ H s) (h : SqT X.K H a xs) (h' : SqT X.K H a ys) : xs = ys := by
  obtain ⟨its, r, ⟨o, e, _, n, d⟩, _⟩ := I.tuple h
  obtain ⟨its', r', ⟨o', e', _, n', d'⟩, _⟩ := I.tuple h'
  rw [e] at e'; cases e'
  rw [d] at d'
  injection d' with d1 _
  have : its = its' := by simpa using congrArg Array.toList d1
  subst this
  exact r.inj r'
end
noncomputable abbrev Cx.wish (X : Cx) (E : Value → Shared → Prop) : Cx := { X with xe := E }
noncomputable abbrev Cx.nox (X : Cx) : Cx := X.wish fun _ _ => False
theorem Cx.Ok.wish {X : Cx} (ok : X.Ok) (E : Value → Shared → Prop) : (X.wish E).Ok :=
  ⟨ok.mod, ok.kind, ok.glob, ok.blt, ok.above, ok.inj, ok.has, ok.cab, ok.hd, ok.frames, ok.stk, ok.exf, ok.bs, ok.bsz, ok.noex, ok.exfs, ok.funs, ok.frf⟩
theorem Cx.Ok.unwish {X : Cx} {E : Value → Shared → Prop} (ok : (X.wish E).Ok) : X.Ok :=
  ⟨ok.mod, ok.kind, ok.glob, ok.blt, ok.above, ok.inj, ok.has, ok.cab, ok.hd, ok.frames, ok.stk, ok.exf, ok.bs, ok.bsz, ok.noex, ok.exfs, ok.funs, ok.frf⟩
section
variable {X : Cx} {pins : List (Addr × Obj)} {σ : St} {H : Hp} {s : Shared} {E : Value → Shared → Prop}
theorem Inv.wish (I : Inv X pins σ H s) (E : Value → Shared → Prop) : Inv (X.wish E) pins σ H s := ⟨I.ok.wish E, I.os, I.bare, I.base, I.loc, I.cell, I.free, I.freeC, I.pin, I.hok, I.len⟩
theorem Inv.unwish (I : Inv (X.wish E) pins σ H s) : Inv X pins σ H s := ⟨I.ok.unwish, I.os, I.bare, I.base, I.loc, I.cell, I.free, I.freeC, I.pin, I.hok, I.len⟩
theorem SP.unwish {D : Ends} {f : Flow} {s' : Shared} (h : SP (X.wish E) pins D f s') : SP X pins D f s' := by
  cases f with
  | next => obtain ⟨σ', H', I, q⟩ := h; exact ⟨σ', H', I.unwish, q⟩
  | brk => obtain ⟨σ', H', I, q⟩ := h; exact ⟨σ', H', I.unwish, q⟩
  | cont => obtain ⟨σ', H', I, q⟩ := h; exact ⟨σ', H', I.unwish, q⟩
  | ret u => obtain ⟨v, σ', H', I, r, q⟩ := h; exact ⟨v, σ', H', I.unwish, r, q⟩
theorem PE.nox {e : Expr} {t : TE} (h : PE X.nox e t) : PE X e t := fun pins s σ H Q I hw =>
  wpAny_mono (h pins s σ H Q (I.wish _) hw) (fun _ _ ⟨v, H', I', r, q⟩ => ⟨v, H', I'.unwish, r, q⟩) fun _ _ z => False.elim z
theorem PT.nox {e : Expr} {t : TT} (h : PT X.nox e t) : PT X e t := fun pins s σ H Q I hw =>
  wpAny_mono (h pins s σ H Q (I.wish _) hw) (fun _ _ ⟨H', I', q⟩ => ⟨H', I'.unwish, q⟩) fun _ _ z => False.elim z
theorem PSs.nox {st : List Stmt} {t : TS} (h : PSs X.nox st t) : PSs X st t := fun pins s σ H D I hw =>
  wpAny_mono (h pins s σ H D (I.wish _) hw) (fun _ _ q => q.unwish) fun _ _ z => False.elim z
end
section
variable {X : Cx} {st : Stmt} {rest : List Stmt} {t u : TS} {e : Expr} {te : TE} {pos : Pos}
noncomputable def tNext : TS := fun D σ H => D.nx σ H
noncomputable def tSeq (t u : TS) : TS := fun D σ H => t { D with nx := u D } σ H
theorem pss_nil : PSs X [] tNext := fun _ _ σ H _ I h => wpAny_execs_nil ⟨σ, H, I, h⟩
theorem pss_cons (h1 : PS X st t) (h2 : PSs X rest u) : PSs X (st :: rest) (tSeq t u) := by
  intro pins s σ H D I h
  refine wpAny_execs_cons (thn (h1 pins s σ H { D with nx := u D } I h) fun f s1 q => ?_)
  cases f with
  | next =>
    obtain ⟨σ', H', I', q⟩ := q
    exact h2 pins s1 σ' H' D I' q
  | ret v => exact q
  | brk => exact q
  | cont => exact q
theorem pss_one (h1 : PS X st t) : PSs X [st] t := by
  intro pins s σ H D I h
  refine wpAny_execs_cons (thn (h1 pins s σ H D I h) fun f s1 q => ?_)
  cases f with
  | next => exact wpAny_execs_nil q
  | ret v => exact q
  | brk => exact q
  | cont => exact q
theorem Inv.quiet {pins : List (Addr × Obj)} {σ : St} {H : Hp} {s : Shared} (I : Inv X pins σ H s) : interactive X.env = false := by simp [interactive, I.ok.kind]
noncomputable def tDrop (te : TE) : TS := fun D σ H => te σ H fun _ H1 => D.nx σ H1
theorem ps_expr (he : PE X e te) (hs : swapsWith e none pos.line X.env = pure false := by rfl) : PS X (.Expr e pos) (tDrop te) := by
  intro pins s σ H D I h
  exact wpAny_Expr_any (thn (he pins s σ H _ I h) fun v s1 ⟨x, H1, I1, r1, q1⟩ => ⟨σ, H1, I1, q1⟩) I.quiet hs
noncomputable def tRet (te : TE) : TS := fun D σ H => te σ H D.rt
theorem ps_ret (he : PE X e te) : PS X (.Return (some e) pos) (tRet te) := by
  intro pins s σ H D I h
  exact wpAny_Return_some (thn (he pins s σ H _ I h) fun v s1 ⟨x, H1, I1, r1, q1⟩ => ⟨x, σ, H1, I1, r1, q1⟩)
noncomputable def tIfS (c : TT) (t u : TS) : TS := fun D σ H => c σ H fun b H1 => if b = true then t D σ H1 else u D σ H1
theorem ps_if {c : Expr} {a b : List Stmt} {tc : TT} (hc : PT X c tc) (ha : PSs X a t) (hb : PSs X b u) : PS X (.If c a b pos) (tIfS tc t u) := by
  intro pins s σ H D I h
  refine wpAny_If (thn (hc pins s σ H _ I h) fun d s1 ⟨H1, I1, q1⟩ => ?_)
  cases d with
  | true => exact ha pins s1 σ H1 D I1 q1
  | false => exact hb pins s1 σ H1 D I1 q1
end
noncomputable abbrev TG := V → St → Hp → (St → Hp → Prop) → Prop
noncomputable abbrev TGs := List V → St → Hp → (St → Hp → Prop) → Prop
noncomputable def PG (X : Cx) (target : Expr) (t : TG) : Prop :=
  ∀ (pins : List (Addr × Obj)) (s : Shared) (σ : St) (H : Hp) (v : V) (u : Value) (Q : St → Hp → Prop), Inv X pins σ H s → RelV v u → t v σ H Q →
    wpAny (model X.prog X.w) X.A (assign target X.env u) (fun _ s' => ∃ σ' H', Inv X pins σ' H' s' ∧ Q σ' H') X.xe s
noncomputable def PGs (X : Cx) (ts : List Expr) (t : TGs) : Prop :=
  ∀ (pins : List (Addr × Obj)) (s : Shared) (σ : St) (H : Hp) (vs : List V) (us : List Value) (Q : St → Hp → Prop), Inv X pins σ H s → Vals vs us → t vs σ H Q →
    wpAny (model X.prog X.w) X.A (assignInOrder ((assignEach ts X.env).map (·.2)) us) (fun _ s' => ∃ σ' H', Inv X pins σ' H' s' ∧ Q σ' H') X.xe s
noncomputable abbrev TSet := V → V → V → Hp → (Hp → Prop) → Prop
noncomputable def PSet (X : Cx) (t : TSet) : Prop :=
  ∀ (pins : List (Addr × Obj)) (s : Shared) (σ : St) (H : Hp) (o i v : V) (ov iv u : Value) (Q : Hp → Prop), Inv X pins σ H s → RelV o ov → RelV i iv → RelV v u → t o i v H Q →
    wpAny (model X.prog X.w) X.A (setItem ov iv u) (fun _ s' => ∃ H', Inv X pins σ H' s' ∧ Q H') X.xe s
section
variable {X : Cx} {pos : Pos}
noncomputable def gName (i : Nat) : TG := fun v σ H Q => Q (σ.set i (some v)) H
theorem pg_name {i : Nat} {x : Str} (hN : X.N.Nodup) (hi : X.N[i]? = some x) (hx : Loc X.env.scope x) (hf : X.fn x = true ∨ X.env.scope.names.lookup x = some .local := by first | exact .inl rfl | exact .inr rfl | assumption) : PG X (.Name x pos) (gName i) := by
  intro pins s σ H v u Q I r h
  exact wpAny_assign_Name (store_ok I hN hi hx r (fun s' I' => ⟨_, H, I', h⟩) hf)
noncomputable def gNil : TGs := fun vs σ H Q => vs = [] ∧ Q σ H
noncomputable def gCons (t : TG) (u : TGs) : TGs := fun vs σ H Q => ∃ v r, vs = v :: r ∧ t v σ H fun σ' H' => u r σ' H' Q
theorem pgs_nil : PGs X [] gNil := by
  intro pins s σ H vs us Q I r h
  obtain ⟨e, h⟩ := h
  subst e
  cases r
  exact assignInOrder_nil ⟨σ, H, I, h⟩
theorem pgs_cons {e : Expr} {es : List Expr} {t : TG} {u : TGs} (h1 : PG X e t) (h2 : PGs X es u)
    (hs : (assignEach (e :: es) X.env).map (·.2) = assign e X.env :: (assignEach es X.env).map (·.2) := by rfl) : PGs X (e :: es) (gCons t u) := by
  intro pins s σ H vs us Q I r h
  obtain ⟨v, vr, e1, h⟩ := h
  subst e1
  cases r with
  | cons r rr =>
    rw [hs]
    refine assignInOrder_cons (thn (h1 pins s σ H _ _ _ I r h) fun _ s1 ⟨σ1, H1, I1, q1⟩ => ?_)
    exact h2 pins s1 σ1 H1 _ _ Q I1 rr q1
noncomputable def gTup (K : PySem.W.Frag) (n : Nat) (t : TGs) : TG := fun v σ H Q => ∃ a xs, v = .ref a ∧ SqT K H a xs ∧ xs.length = n ∧ t xs σ H Q
theorem pg_tup {es : List Expr} {k : Nat} {t : TGs} {n : Nat} (hc : X.calm = true) (h : PGs X es t)
    (hn : (assignEach es X.env).length = n := by rfl) (hst : (assignEach es X.env).findIdx? (·.1) = none := by rfl) : PG X (.Tuple es k pos) (gTup X.K n t) := by
  intro pins s σ H v u Q I r hw
  obtain ⟨a, xs, e1, hq, hl, hw⟩ := hw
  subst e1
  cases r
  obtain ⟨its, rv, ht, hz⟩ := I.tuple hq
  refine assign_Tuple_tuple (I.ok.hd hc) ht (by simp [hn, ← hl, rv.length]) hst fun h' hx => ?_
  have I1 : Inv X pins σ H { s with heap := h' } := I.kept (t' := s.toks) fun b o e => hx b o (Nat.ne_of_lt (Heap.lt_size e)) e
  exact h pins _ σ H xs _ Q I1 (by simpa using rv) hw
noncomputable def gSub (to ti : TE) (t : TSet) : TG := fun v σ H Q => to σ H fun o H1 => ti σ H1 fun i H2 => t o i v H2 fun H3 => Q σ H3
theorem pg_sub {o i : Expr} {to ti : TE} {t : TSet} (ho : PE X o to) (hi : PE X i ti) (hs : PSet X t)
    (ha : ∀ v, assign (.Subscript o i pos) X.env v = (do
      let ov ← holding [v] (eval o X.env)
      let iv ← holding [v, ov] (eval i X.env)
      standAt pos
      holding [v, ov, iv] (setItem ov iv v)
      release [v, ov, iv] []) := by intro _; rfl) : PG X (.Subscript o i pos) (gSub to ti t) := by
  intro pins s σ H v u Q I r h
  rw [ha]
  refine wpAny_bind (wpAny_holding (thn (ho pins s σ H _ I h) fun ov s1 ⟨x, H1, I1, r1, q1⟩ => ?_))
  refine wpAny_bind (wpAny_holding (thn (hi pins s1 σ H1 _ I1 q1) fun iv s2 ⟨y, H2, I2, r2, q2⟩ => ?_))
  refine wpAny_bind (wpAny_standAt (wpAny_bind (wpAny_holding (thn (hs pins s2 σ H2 x y v ov iv u _ I2 r1 r2 r q2) fun _ s3 ⟨H3, I3, q3⟩ => ?_))))
  exact wpAny_release ⟨σ, H3, I3, q3⟩
noncomputable def tAsg (te : TE) (g : TG) : TS := fun D σ H => te σ H fun x H1 => g x σ H1 D.nx
theorem ps_asg {tg e : Expr} {te : TE} {g : TG} (he : PE X e te) (hg : PG X tg g) (hs : swapsWithSole [tg] e pos.line X.env = pure false := by rfl) (hw : swappedStores [tg] e X.env = pure none := by rfl)
    (h1 : (assignEach [tg] X.env).map (·.2) = [assign tg X.env] := by rfl) : PS X (.Assign [tg] e pos) (tAsg te g) := by
  intro pins s σ H D I h
  refine wpAny_Assign_stores (thn (he pins s σ H _ I h) fun v s1 ⟨x, H1, I1, r1, q1⟩ => ?_) hs hw
  rw [h1]
  exact thn (hg pins s1 σ H1 x v _ I1 r1 q1) fun _ s2 q => q
theorem ps_set {i : Nat} {x : Str} {e : Expr} {te : TE} {pos' : Pos} (hN : X.N.Nodup) (hi : X.N[i]? = some x) (hx : Loc X.env.scope x) (he : PE X e te) (hs : swapsWith e (some (.Name x pos')) pos.line X.env = pure false := by rfl) (hf : X.fn x = true ∨ X.env.scope.names.lookup x = some .local := by first | exact .inl rfl | exact .inr rfl | assumption) :
    PS X (.Assign [.Name x pos'] e pos) (tAsg te (gName i)) := by
  intro pins s σ H D I h
  refine wpAny_Assign_Name (thn (he pins s σ H _ I h) fun v s1 ⟨y, H1, I1, r1, q1⟩ => ?_) hs
  exact store_ok I1 hN hi hx r1 (fun s2 I2 => ⟨_, H1, I2, q1⟩) hf
end
section
variable {X : Cx} {pos : Pos}
end
structure It where
  go : Nat → Hp → Prop
  yld : Nat → Hp → V → Hp → Prop
  stop : Nat → Hp → Prop
noncomputable def FpOk (X : Cx) (pins : List (Addr × Obj)) (H : Hp) (b : Addr) : Prop :=
  H b = none ∧ b ≠ X.env.locals ∧ b ∉ X.fs ∧ (b ∈ X.ex ∨ X.s₀.heap.objs.size ≤ b) ∧ (∀ x c, X.env.cells.lookup x = some c → c ≠ b) ∧ ∀ p ∈ X.pn ++ pins, p.1 ≠ b
theorem Inv.fpOk {X : Cx} {pins : List (Addr × Obj)} {σ : St} {H H' : Hp} {s : Shared} {b : Addr} (I : Inv X pins σ H s) (hb : s.heap.objs.size ≤ b) (hn : H' b = none) : FpOk X pins H' b := by
  refine ⟨hn, Nat.ne_of_gt (Nat.lt_of_lt_of_le I.lt hb), I.nofs hb, .inr (Nat.le_trans I.sz hb), fun x c e z => ?_, fun p hp z => ?_⟩
  · obtain ⟨v, q⟩ := I.cell x c e
    exact absurd (Nat.lt_of_lt_of_le q.lt (by rw [z]; exact hb)) (Nat.lt_irrefl _)
  · exact absurd (Nat.lt_of_lt_of_le (Heap.lt_size (I.pin p hp).1) (by rw [z]; exact hb)) (Nat.lt_irrefl _)
structure Turn (P : Program) (w : World) (K : PySem.W.Frag) (tg : Expr) (J : It) (fp : List Addr) (it : Addr) (tn : Nat → Heap → Prop) : Prop where
  mem : it ∈ fp
  obj : ∀ i h, tn i h → ∀ b ∈ fp, ∃ o, h.get? b = some o ∧ ∀ v, o.data ≠ .cell v
  keep : ∀ i h h', tn i h → (∀ b ∈ fp, ∀ o, h.get? b = some o → h'.get? b = some o) → tn i h'
  item : ∀ (X : Cx), X.prog = P → X.w = w → X.K = K → X.calm = true → ∀ (i : Nat) (pins : List (Addr × Obj)) (s : Shared) (σ : St) (H : Hp) (E : Value → Shared → Prop), Inv X pins σ H s → (∀ b ∈ fp, FpOk X pins H b) → tn i s.heap → J.go i H →
    wpAny (model P w) X.A (pyNext (.ref it)) (fun r s1 => ∃ u, r = some u ∧
      wpAny (model P w) X.A (letOwnedTupleGo tg (.ref it) u) (fun _ s2 => ∃ x H', Inv X pins σ H' s2 ∧ RelV x u ∧ J.yld i H x H' ∧ tn (i + 1) s2.heap ∧ ∀ b ∈ fp, H' b = none) E s1) E s
  done : ∀ (X : Cx), X.prog = P → X.w = w → X.K = K → X.calm = true → ∀ (i : Nat) (pins : List (Addr × Obj)) (s : Shared) (σ : St) (H : Hp) (E : Value → Shared → Prop), Inv X pins σ H s → (∀ b ∈ fp, FpOk X pins H b) → tn i s.heap → J.stop i H →
    wpAny (model P w) X.A (pyNext (.ref it)) (fun r s1 => r = none ∧ Inv X pins σ H s1) E s
  self : ∀ (A : Around) (i : Nat) (s : Shared) (Q : Value → Shared → Prop) (E : Value → Shared → Prop), tn i s.heap → Q (.ref it) s → wpAny (model P w) A (pyIter (.ref it)) Q E s
noncomputable abbrev TI := St → Hp → (It → Hp → Prop) → Prop
noncomputable def PIE (X : Cx) (pins : List (Addr × Obj)) (σ : St) (tg : Expr) (R : It → Hp → Prop) (itv : Value) (s2 : Shared) : Prop :=
  ∃ (it : Addr) (fp : List Addr) (tn : Nat → Heap → Prop) (J : It) (H' : Hp), itv = .ref it ∧ Inv X pins σ H' s2 ∧ Turn X.prog X.w X.K tg J fp it tn ∧ tn 0 s2.heap ∧ (∀ b ∈ fp, FpOk X pins H' b) ∧ R J H'
noncomputable def PI (X : Cx) (tg iter : Expr) (wi : TI) : Prop :=
  ∀ (pins : List (Addr × Obj)) (s : Shared) (σ : St) (H : Hp) (R : It → Hp → Prop), Inv X pins σ H s → wi σ H R →
    wpAny (model X.prog X.w) X.A (eval iter X.env) (fun v s1 => wpAny (model X.prog X.w) X.A (pyIter v) (PIE X pins σ tg R) X.xe s1) X.xe s
theorem go_of {M : Model} {A : Around} {E : Value → Shared → Prop} {s : Shared} {tg : Expr} {it : Addr} {u : Value} {o : Obj} {n : String} {vs : Array Value} {Q : Unit → Shared → Prop} (ho : s.heap.get? it = some o) (hc : o.cls = .type n) (hd : o.data = .fields vs)
    (hn : ["enumerate", "zip", "dict_itemiterator", "dict_reverseitemiterator", "odict_iterator", "itertools.zip_longest", "itertools.pairwise"].contains n = false) (hQ : Q () s) : wpAny M A (letOwnedTupleGo tg (.ref it) u) Q E s := by
  unfold letOwnedTupleGo
  cases tg <;> first
    | exact wpAny_pure hQ
    | (cases u <;> first
        | exact wpAny_pure hQ
        | (refine wpAny_bind (wpAny_load ho ?_)
           rw [hc, hd]
           show wpAny M A (if (["enumerate", "zip", "dict_itemiterator", "dict_reverseitemiterator", "odict_iterator", "itertools.zip_longest", "itertools.pairwise"].contains n && vs[0]? == some (rawInt _)) = true then _ else _) Q E s
           rw [if_neg (by intro h; rw [hn, Bool.false_and] at h; cases h)]
           exact wpAny_pure hQ))
noncomputable def Itl (K : PySem.W.Frag) (a : Addr) : It :=
  ⟨fun i H => ∃ xs x, SqL K H a xs ∧ xs[i]? = some x, fun i H x H' => H' = H ∧ ∀ xs, SqL K H a xs → xs[i]? = some x, fun i H => ∃ xs, SqL K H a xs ∧ xs.length ≤ i⟩
noncomputable def Itt (K : PySem.W.Frag) (a : Addr) : It :=
  ⟨fun i H => ∃ xs x, SqT K H a xs ∧ xs[i]? = some x, fun i H x H' => H' = H ∧ ∀ xs, SqT K H a xs → xs[i]? = some x, fun i H => ∃ xs, SqT K H a xs ∧ xs.length ≤ i⟩
noncomputable def Itr (lo : Int) (n : Nat) : It := ⟨fun i _ => i < n, fun i H x H' => H' = H ∧ x = .int (lo + i), fun i _ => n ≤ i⟩
theorem turn_list {P : Program} {w : World} {K : PySem.W.Frag} {tg : Expr} (a it : Addr) : Turn P w K tg (Itl K a) [it] it (fun i h => h.IsListIter it a i) where
  mem := by simp
  obj := fun i h st b hb => by
    have e : b = it := by simpa using hb
    subst e
    obtain ⟨o, e, c, d⟩ := st
    exact ⟨o, e, fun v z => by rw [d] at z; cases z⟩
  keep := fun i h h' st k => st.at fun o e => k it (by simp) o e
  item := by
    intro X hP hw hK hc i pins s σ H E I hf st hg
    subst hP hw hK
    obtain ⟨xs, x, hq, hx⟩ := hg
    obtain ⟨its, rv, p, hz⟩ := I.list hq
    obtain ⟨u, hu, ru⟩ := rv.get hx
    obtain ⟨f0, f1, f2, f3, f4, f5⟩ := hf it (by simp)
    refine wpAny_pyNext_list_item st p.isList (x := u) (by simpa using hu) fun h' st' sb => ?_
    have I1 : Inv X pins σ H { s with heap := h' } := I.turned (t' := s.toks) (fun b o hb e => (sb.2 b hb).trans e) f0 f1 f3 f4 f5
    obtain ⟨o, e, c, d⟩ := id st'
    exact ⟨u, rfl, go_of (s := { s with heap := h' }) e c d (by decide) ⟨x, H, I1, ru, ⟨rfl, fun ys hy => by rw [I.list_inj hy hq]; exact hx⟩, st', fun b hb => (hf b hb).1⟩⟩
  done := by
    intro X hP hw hK hc i pins s σ H E I hf st hg
    subst hP hw hK
    obtain ⟨xs, hq, hx⟩ := hg
    obtain ⟨its, rv, p, hz⟩ := I.list hq
    obtain ⟨f0, f1, f2, f3, f4, f5⟩ := hf it (by simp)
    have hl := rv.length
    exact wpAny_pyNext_list_end (I.ok.hd hc) st p.isList (by simp; omega) fun h' eb => ⟨rfl, I.turned (t' := s.toks) (fun b o hb e => eb b o hb e) f0 f1 f3 f4 f5⟩
  self := fun _ _ _ _ _ st h => wpAny_pyIter_listiter st h
theorem turn_tuple {P : Program} {w : World} {K : PySem.W.Frag} {tg : Expr} (a it : Addr) : Turn P w K tg (Itt K a) [it] it (fun i h => h.IsTupleIter it a i) where
  mem := by simp
  obj := fun i h st b hb => by
    have e : b = it := by simpa using hb
    subst e
    obtain ⟨o, e, c, d⟩ := st
    exact ⟨o, e, fun v z => by rw [d] at z; cases z⟩
  keep := fun i h h' st k => st.at fun o e => k it (by simp) o e
  item := by
    intro X hP hw hK hc i pins s σ H E I hf st hg
    subst hP hw hK
    obtain ⟨xs, x, hq, hx⟩ := hg
    obtain ⟨its, rv, p, hz⟩ := I.tuple hq
    obtain ⟨u, hu, ru⟩ := rv.get hx
    obtain ⟨f0, f1, f2, f3, f4, f5⟩ := hf it (by simp)
    refine wpAny_pyNext_tuple_item st (show s.heap.IsTuple a its.toArray from p) (x := u) (by simpa using hu) fun h' st' sb => ?_
    have I1 : Inv X pins σ H { s with heap := h' } := I.turned (t' := s.toks) (fun b o hb e => (sb.2 b hb).trans e) f0 f1 f3 f4 f5
    obtain ⟨o, e, c, d⟩ := id st'
    exact ⟨u, rfl, go_of (s := { s with heap := h' }) e c d (by decide) ⟨x, H, I1, ru, ⟨rfl, fun ys hy => by rw [I.tuple_inj hy hq]; exact hx⟩, st', fun b hb => (hf b hb).1⟩⟩
  done := by
    intro X hP hw hK hc i pins s σ H E I hf st hg
    subst hP hw hK
    obtain ⟨xs, hq, hx⟩ := hg
    obtain ⟨its, rv, p, hz⟩ := I.tuple hq
    obtain ⟨f0, f1, f2, f3, f4, f5⟩ := hf it (by simp)
    have hl := rv.length
    exact wpAny_pyNext_tuple_end (I.ok.hd hc) st (show s.heap.IsTuple a its.toArray from p) (by simp; omega) fun h' eb => ⟨rfl, I.turned (t' := s.toks) (fun b o hb e => eb b o hb e) f0 f1 f3 f4 f5⟩
  self := fun _ _ _ _ _ st h => wpAny_pyIter_tupleiter st h
theorem turn_range {P : Program} {w : World} {K : PySem.W.Frag} {tg : Expr} (it : Addr) (lo : Int) (n : Nat) : Turn P w K tg (Itr lo n) [it] it (fun i h => IsRangeIter h it (lo + (i : Nat) * 1) ((n : Int) - (i : Nat)) 1) where
  mem := by simp
  obj := fun i h st b hb => by
    have e : b = it := by simpa using hb
    subst e
    exact ⟨_, st, fun v z => by
      have z' : Data.fields _ = Data.cell v := z
      cases z'⟩
  keep := fun i h h' st k => k it (by simp) _ st
  item := by
    intro X hP hw hK hc i pins s σ H E I hf st hg
    subst hP hw hK
    obtain ⟨f0, f1, f2, f3, f4, f5⟩ := hf it (by simp)
    have W := Walks.range (prog := X.prog) (w := X.w) (I.ok.hd hc) it lo 1 n
    refine W.item i s _ _ hg st fun v h' tk hv st' kk => ?_
    obtain ⟨t, rfl⟩ := hv
    have I1 : Inv X pins σ H { s with heap := h', toks := tk } := I.turned (fun b o hb e => kk b o (by simpa using hb) e) f0 f1 f3 f4 f5
    refine ⟨_, rfl, go_of (s := { s with heap := h', toks := tk }) (n := "range_iterator") st' rfl rfl (by decide) ⟨.int (lo + i), H, I1, ⟨t, ?_⟩, ⟨rfl, rfl⟩, st', fun b hb => (hf b hb).1⟩⟩
    rw [Int.mul_one]
  done := by
    intro X hP hw hK hc i pins s σ H E I hf st hg
    subst hP hw hK
    obtain ⟨f0, f1, f2, f3, f4, f5⟩ := hf it (by simp)
    exact wpAny_pyNext_range_end (I.ok.hd hc) st (by have : n ≤ i := hg; omega) fun h' eb => ⟨rfl, I.turned (t' := s.toks) (fun b o hb e => eb b o hb e) f0 f1 f3 f4 f5⟩
  self := fun _ _ _ _ _ st h => wpAny_pyIter_rangeiter st h
end L2
namespace L2
open PySem PySem.Spec PyProof.Rows
section
variable {X : Cx} {tg : Expr}
noncomputable def iList (K : PySem.W.Frag) (tl : TE) : TI := fun σ H R => tl σ H fun x H1 => ∃ a, x = .ref a ∧ (∃ xs, SqL K H1 a xs) ∧ R (Itl K a) H1
noncomputable def iTup (K : PySem.W.Frag) (tl : TE) : TI := fun σ H R => tl σ H fun x H1 => ∃ a, x = .ref a ∧ (∃ xs, SqT K H1 a xs) ∧ R (Itt K a) H1
theorem pi_list {l : Expr} {tl : TE} (hl : PE X l tl) : PI X tg l (iList X.K tl) := by
  intro pins s σ H R I h
  refine thn (hl pins s σ H _ I h) fun v s1 ⟨x, H1, I1, r1, q1⟩ => ?_
  obtain ⟨a, e, ⟨xs, hq⟩, q⟩ := q1
  subst e
  cases r1
  obtain ⟨its, rv, p, hz⟩ := I1.list hq
  refine wpAny_pyIter_list p.isList ?_
  refine ⟨s1.heap.objs.size, [s1.heap.objs.size], _, _, H1, rfl, I1.kept (t' := s1.toks) fun b o e => Heap.get?_push_of_some _ e, turn_list a _, ⟨_, Heap.get?_push_size _ rfl, rfl, rfl⟩, fun b hb => ?_, q⟩
  have e : b = s1.heap.objs.size := by simpa using hb
  subst e
  exact I1.fpOk (Nat.le_refl _) (I1.hok.fresh (Nat.le_refl _))
theorem pi_tup {l : Expr} {tl : TE} (hl : PE X l tl) : PI X tg l (iTup X.K tl) := by
  intro pins s σ H R I h
  refine thn (hl pins s σ H _ I h) fun v s1 ⟨x, H1, I1, r1, q1⟩ => ?_
  obtain ⟨a, e, ⟨xs, hq⟩, q⟩ := q1
  subst e
  cases r1
  obtain ⟨its, rv, p, hz⟩ := I1.tuple hq
  refine wpAny_pyIter_tuple (show s1.heap.IsTuple a its.toArray from p) ?_
  refine ⟨s1.heap.objs.size, [s1.heap.objs.size], _, _, H1, rfl, I1.kept (t' := s1.toks) fun b o e => Heap.get?_push_of_some _ e, turn_tuple a _, ⟨_, Heap.get?_push_size _ rfl, rfl, rfl⟩, fun b hb => ?_, q⟩
  have e : b = s1.heap.objs.size := by simpa using hb
  subst e
  exact I1.fpOk (Nat.le_refl _) (I1.hok.fresh (Nat.le_refl _))
theorem range_it {pins : List (Addr × Obj)} {σ : St} {H : Hp} {s : Shared} {R : It → Hp → Prop} {E : Value → Shared → Prop} {lo hi : Int} {t u v : Tok} {tk : Nat} (I : Inv X pins σ H s) (h1 : -(2 ^ 62) ≤ lo) (h2 : lo < 2 ^ 62) (h3 : -(2 ^ 62) ≤ hi) (h4 : hi < 2 ^ 62)
    (q : R (Itr lo (hi - lo).toNat) H) : wpAny (model X.prog X.w) X.A (pyIter (.ref s.heap.objs.size)) (PIE X pins σ tg R) E { s with heap := s.heap.push { cls := .type "range", data := .fields #[.int lo t, .int hi u, .int 1 v] }, toks := tk } := by
  refine wpAny_pyIter_range (IsRange.new ..) (small_one h1 h2 h3 h4) ?_
  have I1 : Inv X pins σ H { s with heap := s.heap.push { cls := .type "range", data := .fields #[.int lo t, .int hi u, .int 1 v] }, toks := tk } := I.kept fun b o e => Heap.get?_push_of_some _ e
  refine ⟨(s.heap.push { cls := .type "range", data := .fields #[.int lo t, .int hi u, .int 1 v] }).objs.size, [(s.heap.push { cls := .type "range", data := .fields #[.int lo t, .int hi u, .int 1 v] }).objs.size], _, _, H, rfl,
    I1.kept (t' := tk) fun b o e => Heap.get?_push_of_some _ e, turn_range _ lo (hi - lo).toNat, ?_, fun b hb => ?_, q⟩
  · have e1 : lo + ((0 : Nat) : Int) * 1 = lo := by simp
    have e2 : (((hi - lo).toNat : Nat) : Int) - ((0 : Nat) : Int) = Builtin.Range.rangeSize lo hi 1 := by rw [rangeSize_one]; split <;> omega
    show IsRangeIter _ _ (lo + ((0 : Nat) : Int) * 1) ((((hi - lo).toNat : Nat) : Int) - ((0 : Nat) : Int)) 1
    rw [e1, e2]
    exact Heap.get?_push_size _ rfl
  · have e : b = (s.heap.push { cls := .type "range", data := .fields #[.int lo t, .int hi u, .int 1 v] }).objs.size := by simpa using hb
    subst e
    exact I1.fpOk (Nat.le_refl _) (I1.hok.fresh (Nat.le_refl _))
noncomputable def iRng1 (ta : TA) : TI := fun σ H R => ta σ H fun vs H1 => ∃ j : Int, vs = [.int j] ∧ -(2 ^ 62) ≤ j ∧ j < 2 ^ 62 ∧ R (Itr 0 j.toNat) H1
theorem pi_range1 {a : Expr} {ta : TA} {p pos : Pos} (hg : Gl X "range") (hm : X.mg "range" = none) (ha : PA X [a] ta) (hs : starEach [a] X.env = [(false, eval a X.env)] := by rfl) : PI X tg (.Call (.Name "range" p) [a] [] pos) (iRng1 ta) := by
  intro pins s σ H R I h
  refine Call_ (ld_blt I hg hm boot_range (PyProof.Rows.callWith_type1 (thn (ha pos pins s σ H _ I h) fun us s1 ⟨vs, H1, I1, r1, q1⟩ => ?_) hs rfl))
  obtain ⟨j, e, q1, q2, q⟩ := q1
  subst e
  cases r1 with
  | cons r rr =>
    cases rr
    obtain ⟨t, rfl⟩ := r
    exact call_range_1 (range_it I1 (by omega) (by omega) q1 q2 (by simpa using q))
noncomputable def tFor (wi : TI) (g : TG) (tb : TS) : TS := fun D σ H => wi σ H fun J H1 => ∃ W : Nat → Nat → St → Hp → Prop, (∃ m, W 0 m σ H1) ∧ ∀ i m σ H, W i m σ H →
  (J.stop i H ∧ D.nx σ H) ∨ (J.go i H ∧ ∃ N : St → Hp → Prop, (∀ σ' H', N σ' H' → ∃ m', m' < m ∧ W (i + 1) m' σ' H') ∧ ∀ x H', J.yld i H x H' → g x σ H' fun σ2 H2 => tb { D with nx := N, ct := N, bk := D.nx } σ2 H2)
noncomputable def pinsAt (fp : List Addr) (h : Heap) : List (Addr × Obj) := fp.filterMap fun b => (h.get? b).map fun o => (b, o)
theorem mem_pinsAt {fp : List Addr} {h : Heap} {b : Addr} {o : Obj} (hb : b ∈ fp) (e : h.get? b = some o) : (b, o) ∈ pinsAt fp h := List.mem_filterMap.mpr ⟨b, hb, by rw [e]; rfl⟩
theorem of_pinsAt {fp : List Addr} {h : Heap} {p : Addr × Obj} (hp : p ∈ pinsAt fp h) : p.1 ∈ fp ∧ h.get? p.1 = some p.2 := by
  obtain ⟨b, hb, e⟩ := List.mem_filterMap.mp hp
  cases q : h.get? b with
  | none => rw [q] at e; cases e
  | some o =>
    rw [q] at e
    have e' : (b, o) = p := Option.some.inj e
    subst e'
    exact ⟨hb, q⟩
theorem Inv.pinned {pins : List (Addr × Obj)} {σ : St} {H : Hp} {s : Shared} {fp : List Addr} (I : Inv X pins σ H s) (hf : ∀ b ∈ fp, FpOk X pins H b) (ho : ∀ b ∈ fp, ∃ o, s.heap.get? b = some o ∧ ∀ v, o.data ≠ .cell v) : Inv X (pins ++ pinsAt fp s.heap) σ H s :=
  I.pins_of fun p hp => (List.mem_append.mp hp).elim (fun z => I.pin p (List.mem_append_right _ z)) fun z => by
    obtain ⟨hb, e⟩ := of_pinsAt z
    obtain ⟨f0, f1, f2, _⟩ := hf p.1 hb
    obtain ⟨o, e', d⟩ := ho p.1 hb
    rw [e] at e'; cases e'
    exact ⟨e, f0, f1, f2, d⟩
theorem Inv.unpinned {pins pl : List (Addr × Obj)} {σ : St} {H : Hp} {s : Shared} (I : Inv X (pins ++ pl) σ H s) : Inv X pins σ H s := I.pins_of fun p hp => I.pin p (List.mem_append_right _ (List.mem_append_left _ hp))
theorem ps_for {iter : Expr} {body : List Stmt} {wi : TI} {g : TG} {tb : TS} {pos : Pos} (hp : PassesOwn (model X.prog X.w) X.A X.env X.xe) (hc : X.calm = true) (hi : PI X tg iter wi) (hg : PG X tg g) (hb : PSs X body tb)
    (hs : ∀ x, foldedSetIterable iter X.env x = pure x := by intro _; rfl) : PS X (.For tg iter body [] pos) (tFor wi g tb) := by
  intro pins s σ H D I h
  refine wpAny_For (thn (hi pins s σ H _ I h) fun v s1 h1 => thn h1 fun itv s2 h2 => ?_) hs
  obtain ⟨it, fp, tn, J, H2, e, I2, T, st2, f2, W, ⟨m0, w0⟩, turn⟩ := h2
  subst e
  have stat : ∀ {H' : Hp}, (∀ b ∈ fp, H' b = none) → ∀ b ∈ fp, FpOk X pins H' b := fun hn b hb => ⟨hn b hb, (f2 b hb).2⟩
  refine codeAny_forLoop_any (fun n s' => ∃ i σ' H', Inv X pins σ' H' s' ∧ tn i s'.heap ∧ (∀ b ∈ fp, H' b = none) ∧ W i n σ' H') ?_ m0 ⟨0, σ, H2, I2, st2, fun b hb => (f2 b hb).1, w0⟩
  rintro n s3 ⟨i, σ3, H3, I3, st3, fr3, w3⟩
  rcases turn i n σ3 H3 w3 with ⟨stop, qn⟩ | ⟨go, N, hN, step⟩
  · refine wpAny_passesOwn hp (thn (T.done X rfl rfl rfl hc i pins s3 σ3 H3 X.xe I3 (stat fr3) st3 stop) fun r s4 ⟨hr, I4⟩ => ?_)
    subst hr
    exact wpAny_execs_nil ⟨σ3, H3, I4, qn⟩
  · refine wpAny_passesOwn hp (thn (T.item X rfl rfl rfl hc i pins s3 σ3 H3 X.xe I3 (stat fr3) st3 go) fun r s4 ⟨u, hr, h4⟩ => ?_)
    subst hr
    refine wpAny_passesOwn hp (thn h4 fun _ s5 ⟨x, H5, I5, r5, y5, st5, fr5⟩ => ?_)
    have I5' := I5.pinned (stat fr5) (T.obj _ _ st5)
    refine wpAny_passesOwn hp (thn (hg _ s5 σ3 H5 x u _ I5' r5 (step x H5 y5)) fun _ s6 ⟨σ6, H6, I6, q6⟩ => ?_)
    refine wpAny_passesOwn hp (thn (hb _ s6 σ6 H6 _ I6 q6) fun f s7 q7 => ?_)
    have again : ∀ {σ7 : St} {H7 : Hp}, Inv X (pins ++ pinsAt fp s5.heap) σ7 H7 s7 → N σ7 H7 → ∃ m, m < n ∧ ∃ i σ' H', Inv X pins σ' H' s7 ∧ tn i s7.heap ∧ (∀ b ∈ fp, H' b = none) ∧ W i m σ' H' := fun {σ7 H7} I7 n7 => by
      obtain ⟨m', hm, w7⟩ := hN σ7 H7 n7
      refine ⟨m', hm, i + 1, σ7, H7, I7.unpinned, T.keep _ _ _ st5 fun b hb o e => (I7.pin (b, o) (List.mem_append_right _ (List.mem_append_right _ (mem_pinsAt hb e)))).1, fun b hb => ?_, w7⟩
      obtain ⟨o, e, d⟩ := T.obj _ _ st5 b hb
      exact (I7.pin (b, o) (List.mem_append_right _ (List.mem_append_right _ (mem_pinsAt hb e)))).2.1
    cases f with
    | next => obtain ⟨σ7, H7, I7, n7⟩ := q7; exact again I7 n7
    | cont => obtain ⟨σ7, H7, I7, n7⟩ := q7; exact again I7 n7
    | brk => obtain ⟨σ7, H7, I7, q7⟩ := q7; exact ⟨σ7, H7, I7.unpinned, q7⟩
    | ret v => obtain ⟨x7, σ7, H7, I7, r7, q7⟩ := q7; exact ⟨x7, σ7, H7, I7.unpinned, r7, q7⟩
end
end L2
namespace L2
open PySem PySem.Spec PyProof.Rows
noncomputable abbrev R2 := V → V → Hp → VK → Prop
noncomputable def OpR (X : Cx) (f : Value → Value → Sem Value) (r : R2) : Prop :=
  ∀ (pins : List (Addr × Obj)) (s : Shared) (σ : St) (H : Hp) (x y : V) (v u : Value) (Q : VK), Inv X pins σ H s → RelV x v → RelV y u → r x y H Q →
    wpAny (model X.prog X.w) X.A (f v u) (EP X pins σ Q) X.xe s
noncomputable def UnR (X : Cx) (f : Value → Sem Value) (r : V → Hp → VK → Prop) : Prop :=
  ∀ (pins : List (Addr × Obj)) (s : Shared) (σ : St) (H : Hp) (x : V) (v : Value) (Q : VK), Inv X pins σ H s → RelV x v → r x H Q →
    wpAny (model X.prog X.w) X.A (f v) (EP X pins σ Q) X.xe s
noncomputable def CallR (X : Cx) (f : Value) (r : List V → Hp → VK → Prop) : Prop :=
  ∀ (pins : List (Addr × Obj)) (s : Shared) (σ : St) (H : Hp) (xs : List V) (us : List Value) (Q : VK), Inv X pins σ H s → Vals xs us → r xs H Q →
    wpAny (model X.prog X.w) X.A (call f us) (EP X pins σ Q) X.xe s
noncomputable def TruR (X : Cx) (r : V → Hp → (Bool → Hp → Prop) → Prop) : Prop :=
  ∀ (pins : List (Addr × Obj)) (s : Shared) (σ : St) (H : Hp) (x : V) (v : Value) (Q : Bool → Hp → Prop), Inv X pins σ H s → RelV x v → r x H Q →
    wpAny (model X.prog X.w) X.A (truthy v) (TP X pins σ Q) X.xe s
noncomputable def tOp (r : R2) (ta tb : TE) : TE := fun σ H Q => ta σ H fun x H1 => tb σ H1 fun y H2 => r x y H2 Q
noncomputable def tUn (r : V → Hp → VK → Prop) (ta : TE) : TE := fun σ H Q => ta σ H fun x H1 => r x H1 Q
noncomputable def rI (C : Int → Int → Prop) (g : Int → Int → V) : R2 := fun x y H Q => ∃ i j, x = .int i ∧ y = .int j ∧ C i j ∧ Q (g i j) H
noncomputable def rI0 (g : Int → Int → V) : R2 := fun x y H Q => ∃ i j, x = .int i ∧ y = .int j ∧ Q (g i j) H
noncomputable def rU (g : Int → V) : V → Hp → VK → Prop := fun x H Q => ∃ i, x = .int i ∧ Q (g i) H
section
variable {X : Cx} {a b c : Expr} {ta tb tc : TE} {pos : Pos}
theorem binT (ha : PE X a ta) (hb : PE X b tb) {pins : List (Addr × Obj)} {s : Shared} {σ : St} {H : Hp} {R : V → V → Hp → Prop} (I : Inv X pins σ H s)
    (h : ta σ H fun x H1 => tb σ H1 fun y H2 => R x y H2) {Q : Value → Shared → Prop} {f : Value → Value → Sem Value}
    (hf : ∀ v u s2 x y H2, Inv X pins σ H2 s2 → RelV x v → RelV y u → R x y H2 → wpAny (model X.prog X.w) X.A (f v u) Q X.xe s2) :
    wpAny (model X.prog X.w) X.A (eval a X.env) (fun v s₁ => wpAny (model X.prog X.w) X.A (eval b X.env) (fun u s₂ => wpAny (model X.prog X.w) X.A (f v u) Q X.xe s₂) X.xe s₁) X.xe s := by
  refine thn (ha pins s σ H _ I h) fun v s1 ⟨x, H1, I1, r1, q1⟩ => ?_
  refine thn (hb pins s1 σ H1 _ I1 q1) fun u s2 ⟨y, H2, I2, r2, q2⟩ => ?_
  exact hf v u s2 x y H2 I2 r1 r2 q2
theorem pe_op {op : Operator} {r : R2} (ho : OpR X (binaryOp op) r) (ha : PE X a ta) (hb : PE X b tb) : PE X (.BinOp a op b pos) (tOp r ta tb) := by
  intro pins s σ H Q I h
  exact wpAny_BinOp (binT ha hb I h fun v u s2 x y H2 I2 rx ry q => ho pins s2 σ H2 x y v u Q I2 rx ry q)
theorem pe_un {op : UnaryOp} {r : V → Hp → VK → Prop} (ho : UnR X (unaryOp op) r) (ha : PE X a ta) : PE X (.UnaryOp op a pos) (tUn r ta) := by
  intro pins s σ H Q I h
  exact UnaryOp_ (thn (ha pins s σ H _ I h) fun v s1 ⟨x, H1, I1, r1, q1⟩ => ho pins s1 σ H1 x v Q I1 r1 q1)
theorem opI {f : Value → Value → Sem Value} {C : Int → Int → Prop} {g : Int → Int → Int}
    (rule : ∀ (i j : Int) (t u : Tok) (s : Shared) (Q : Value → Shared → Prop) (E : Value → Shared → Prop), C i j → Q (.int (g i j) s.toks) { s with toks := s.toks + 1 } → wpAny (model X.prog X.w) X.A (f (.int i t) (.int j u)) Q E s) :
    OpR X f (rI C fun i j => .int (g i j)) := by
  intro pins s σ H x y v u Q I rx ry h
  obtain ⟨i, j, rfl, rfl, hc, q⟩ := h
  obtain ⟨t, rfl⟩ := rx
  obtain ⟨t', rfl⟩ := ry
  exact rule i j t t' s _ _ hc ⟨.int (g i j), H, I.tok _, ⟨_, rfl⟩, q⟩
theorem opI0 {f : Value → Value → Sem Value} {g : Int → Int → Int}
    (rule : ∀ (i j : Int) (t u : Tok) (s : Shared) (Q : Value → Shared → Prop) (E : Value → Shared → Prop), Q (.int (g i j) s.toks) { s with toks := s.toks + 1 } → wpAny (model X.prog X.w) X.A (f (.int i t) (.int j u)) Q E s) :
    OpR X f (rI0 fun i j => .int (g i j)) := by
  intro pins s σ H x y v u Q I rx ry h
  obtain ⟨i, j, rfl, rfl, q⟩ := h
  obtain ⟨t, rfl⟩ := rx
  obtain ⟨t', rfl⟩ := ry
  exact rule i j t t' s _ _ ⟨.int (g i j), H, I.tok _, ⟨_, rfl⟩, q⟩
theorem opB0 {f : Value → Value → Sem Value} {g : Int → Int → Bool}
    (rule : ∀ (i j : Int) (t u : Tok) (s : Shared) (Q : Value → Shared → Prop) (E : Value → Shared → Prop), Q (.bool (g i j)) s → wpAny (model X.prog X.w) X.A (f (.int i t) (.int j u)) Q E s) :
    OpR X f (rI0 fun i j => .bl (g i j)) := by
  intro pins s σ H x y v u Q I rx ry h
  obtain ⟨i, j, rfl, rfl, q⟩ := h
  obtain ⟨t, rfl⟩ := rx
  obtain ⟨t', rfl⟩ := ry
  exact rule i j t t' s _ _ ⟨.bl (g i j), H, I, rfl, q⟩
noncomputable def CPow (i j : Int) : Prop := 0 ≤ j ∧ j ≤ 1000000 ∧ i.natAbs < 2 ^ 64
noncomputable def CMul (i j : Int) : Prop := (-(2 ^ 64) < i ∧ i < 2 ^ 64) ∨ (-(2 ^ 64) < j ∧ j < 2 ^ 64)
theorem CMul.ok {i j : Int} (h : CMul i j) : IntMulOk i j := by
  rcases h with ⟨h1, h2⟩ | ⟨h1, h2⟩
  · exact .of_left (intBits_le_64 h1 h2)
  · exact .of_right (intBits_le_64 h1 h2)
theorem op_add : OpR X (binaryOp .Add) (rI0 fun i j => .int (i + j)) := opI0 fun _ _ _ _ _ _ _ q => add_int q
theorem op_sub : OpR X (binaryOp .Sub) (rI0 fun i j => .int (i - j)) := opI0 fun _ _ _ _ _ _ _ q => sub_int q
theorem op_mul : OpR X (binaryOp .Mult) (rI CMul fun i j => .int (i * j)) := opI fun _ _ _ _ _ _ _ hc q => mul_int q hc.ok
theorem op_mod : OpR X (binaryOp .Mod) (rI (fun _ j => 0 < j) fun i j => .int (i % j)) := opI fun i j _ _ _ _ _ hc q => by
  have h1 : (0 : Int) < j := hc
  exact mod_int' (by omega) (by rw [Int.fmod_eq_emod_of_nonneg i (by omega)]; exact q)
theorem op_pow : OpR X (binaryOp .Pow) (rI CPow fun i j => .int (i ^ j.toNat)) := opI fun _ _ _ _ _ _ _ hc q => pow_int_small hc.1 hc.2.1 hc.2.2 q
theorem unI {f : Value → Sem Value} {g : Int → Int}
    (rule : ∀ (i : Int) (t : Tok) (s : Shared) (Q : Value → Shared → Prop) (E : Value → Shared → Prop), Q (.int (g i) s.toks) { s with toks := s.toks + 1 } → wpAny (model X.prog X.w) X.A (f (.int i t)) Q E s) :
    UnR X f (rU fun i => .int (g i)) := by
  intro pins s σ H x v Q I rx h
  obtain ⟨i, rfl, q⟩ := h
  obtain ⟨t, rfl⟩ := rx
  exact rule i t s _ _ ⟨.int (g i), H, I.tok _, ⟨_, rfl⟩, q⟩
theorem un_neg : UnR X (unaryOp .USub) (rU fun i => .int (-i)) := unI fun _ _ _ _ _ q => neg_int q
end
noncomputable def scal : V → V → Bool
  | .non, .non => true | .non, .int _ => true | .int _, .non => true | .non, .bl _ => true | .bl _, .non => true | .non, .str _ => true | .str _, .non => true
  | .int _, .int _ => true | .bl _, .bl _ => true | .str _, .str _ => true | .byt _, .byt _ => true
  | .int _, .str _ => true | .str _, .int _ => true | .bl _, .str _ => true | .str _, .bl _ => true
  | _, _ => false
noncomputable def rEq : R2 := fun x y H Q => scal x y = true ∧ Q (.bl (decide (x = y))) H
noncomputable def rNe : R2 := fun x y H Q => scal x y = true ∧ Q (.bl (!decide (x = y))) H
theorem dec_int {i j : Int} : decide (V.int i = V.int j) = (i == j) := by
  rw [Bool.eq_iff_iff]
  simp
theorem dec_bl {i j : Bool} : decide (V.bl i = V.bl j) = (i == j) := by
  rw [Bool.eq_iff_iff]
  simp
theorem dec_str {i j : Str} : decide (V.str i = V.str j) = (i == j) := by
  rw [Bool.eq_iff_iff]
  simp
theorem dec_byt {i j : Array UInt8} : decide (V.byt i = V.byt j) = (i.toList == j.toList) := by
  rw [Bool.eq_iff_iff]
  cases i
  cases j
  simp
section
variable {X : Cx} {a b c : Expr} {ta tb tc : TE} {pos : Pos}
theorem fin_bl {pins : List (Addr × Obj)} {σ : St} {H : Hp} {s : Shared} {Q : VK} {k k' : Bool} (I : Inv X pins σ H s) (q : Q (.bl k) H) (e : k = k') : EP X pins σ Q (.bool k') s := by
  subst e
  exact ⟨.bl k, H, I, rfl, q⟩
theorem op_eq : OpR X (compareOp .Eq) rEq := by
  intro pins s σ H x y v u Q I rx ry h
  obtain ⟨hs, q⟩ := h
  cases x with
  | non =>
    cases rx
    cases y with
    | non => cases ry; exact PySem.EqNone.eq_none_none (fin_bl I q (by simp))
    | bl j => cases ry; exact PySem.EqNone.eq_none_bool (fin_bl I q (by simp))
    | int j => obtain ⟨t', rfl⟩ := ry; exact PySem.EqNone.eq_none_int (fin_bl I q (by simp))
    | str j => obtain ⟨t', rfl⟩ := ry; exact PySem.EqNone.eq_none_str (fin_bl I q (by simp))
    | _ => exact absurd (show false = true from hs) Bool.false_ne_true
  | bl i =>
    cases rx
    cases y with
    | non => cases ry; exact PySem.EqNone.eq_bool_none (fin_bl I q (by simp))
    | bl j => cases ry; exact eq_bool (fin_bl I q dec_bl)
    | str j => obtain ⟨t', rfl⟩ := ry; exact PySem.EqMixed.eq_bool_str (fin_bl I q (by simp))
    | _ => exact absurd (show false = true from hs) Bool.false_ne_true
  | int i =>
    obtain ⟨t, rfl⟩ := rx
    cases y with
    | non => cases ry; exact PySem.EqNone.eq_int_none (fin_bl I q (by simp))
    | int j => obtain ⟨t', rfl⟩ := ry; exact eq_int (fin_bl I q dec_int)
    | str j => obtain ⟨t', rfl⟩ := ry; exact PySem.EqMixed.eq_int_str (fin_bl I q (by simp))
    | _ => exact absurd (show false = true from hs) Bool.false_ne_true
  | str i =>
    obtain ⟨t, rfl⟩ := rx
    cases y with
    | non => cases ry; exact PySem.EqNone.eq_str_none (fin_bl I q (by simp))
    | bl j => cases ry; exact PySem.EqMixed.eq_str_bool (fin_bl I q (by simp))
    | int j => obtain ⟨t', rfl⟩ := ry; exact PySem.EqMixed.eq_str_int (fin_bl I q (by simp))
    | str j => obtain ⟨t', rfl⟩ := ry; exact eq_str (fin_bl I q dec_str)
    | _ => exact absurd (show false = true from hs) Bool.false_ne_true
  | byt i =>
    obtain ⟨t, rfl⟩ := rx
    cases y with
    | byt j => obtain ⟨t', rfl⟩ := ry; exact PySem.W.eq_bytes (fin_bl I q dec_byt)
    | _ => exact absurd (show false = true from hs) Bool.false_ne_true
  | _ => cases y <;> exact absurd (show false = true from hs) Bool.false_ne_true
theorem op_ne : OpR X (compareOp .NotEq) rNe := by
  intro pins s σ H x y v u Q I rx ry h
  obtain ⟨hs, q⟩ := h
  cases x with
  | non =>
    cases rx
    cases y with
    | non => cases ry; exact PySem.EqNone.ne_none_none (fin_bl I q (by simp))
    | bl j => cases ry; exact PySem.EqNone.ne_none_bool (fin_bl I q (by simp))
    | int j => obtain ⟨t', rfl⟩ := ry; exact PySem.EqNone.ne_none_int (fin_bl I q (by simp))
    | str j => obtain ⟨t', rfl⟩ := ry; exact PySem.EqNone.ne_none_str (fin_bl I q (by simp))
    | _ => exact absurd (show false = true from hs) Bool.false_ne_true
  | bl i =>
    cases rx
    cases y with
    | non => cases ry; exact PySem.EqNone.ne_bool_none (fin_bl I q (by simp))
    | bl j => cases ry; exact ne_bool (fin_bl I q (congrArg not dec_bl))
    | str j => obtain ⟨t', rfl⟩ := ry; exact PySem.EqMixed.ne_bool_str (fin_bl I q (by simp))
    | _ => exact absurd (show false = true from hs) Bool.false_ne_true
  | int i =>
    obtain ⟨t, rfl⟩ := rx
    cases y with
    | non => cases ry; exact PySem.EqNone.ne_int_none (fin_bl I q (by simp))
    | int j => obtain ⟨t', rfl⟩ := ry; exact ne_int (fin_bl I q (congrArg not dec_int))
    | str j => obtain ⟨t', rfl⟩ := ry; exact PySem.EqMixed.ne_int_str (fin_bl I q (by simp))
    | _ => exact absurd (show false = true from hs) Bool.false_ne_true
  | str i =>
    obtain ⟨t, rfl⟩ := rx
    cases y with
    | non => cases ry; exact PySem.EqNone.ne_str_none (fin_bl I q (by simp))
    | bl j => cases ry; exact PySem.EqMixed.ne_str_bool (fin_bl I q (by simp))
    | int j => obtain ⟨t', rfl⟩ := ry; exact PySem.EqMixed.ne_str_int (fin_bl I q (by simp))
    | str j => obtain ⟨t', rfl⟩ := ry; exact ne_str (fin_bl I q (congrArg not dec_str))
    | _ => exact absurd (show false = true from hs) Bool.false_ne_true
  | byt i =>
    obtain ⟨t, rfl⟩ := rx
    cases y with
    | byt j => obtain ⟨t', rfl⟩ := ry; exact PySem.W.ne_bytes (fin_bl I q (congrArg not dec_byt))
    | _ => exact absurd (show false = true from hs) Bool.false_ne_true
  | _ => cases y <;> exact absurd (show false = true from hs) Bool.false_ne_true
theorem op_lt : OpR X (compareOp .Lt) (rI0 fun i j => .bl (decide (i < j))) := opB0 fun _ _ _ _ _ _ _ q => lt_int q
theorem op_le : OpR X (compareOp .LtE) (rI0 fun i j => .bl (decide (i ≤ j))) := opB0 fun _ _ _ _ _ _ _ q => le_int q
theorem op_gt : OpR X (compareOp .Gt) (rI0 fun i j => .bl (decide (j < i))) := opB0 fun _ _ _ _ _ _ _ q => gt_int q
theorem op_ge : OpR X (compareOp .GtE) (rI0 fun i j => .bl (decide (j ≤ i))) := opB0 fun _ _ _ _ _ _ _ q => ge_int q
theorem op_in_str : OpR X (compareOp .In) (fun x y H Q => ∃ i j, x = .str i ∧ y = .str j ∧ Q (.bl (!(Builtin.Str.occurrences j i 0 j.length 1).isEmpty)) H) := by
  intro pins s σ H x y v u Q I rx ry h
  obtain ⟨i, j, rfl, rfl, q⟩ := h
  obtain ⟨t, rfl⟩ := rx
  obtain ⟨t', rfl⟩ := ry
  exact in_str (fin_bl I q rfl)
theorem op_isN : OpR X (compareOp .Is) (fun x y H Q => y = .non ∧ Q (.bl (decide (x = .non))) H) := by
  intro pins s σ H x y v u Q I rx ry h
  obtain ⟨rfl, q⟩ := h
  cases ry
  refine is_none_gen (fin_bl I q ?_)
  cases x <;> first
    | (cases rx; rfl)
    | (obtain ⟨t, rfl⟩ := rx; rfl)
theorem op_notN : OpR X (compareOp .IsNot) (fun x y H Q => y = .non ∧ Q (.bl (!decide (x = .non))) H) := by
  intro pins s σ H x y v u Q I rx ry h
  obtain ⟨rfl, q⟩ := h
  cases ry
  refine isnot_none_gen (fin_bl I q ?_)
  cases x <;> first
    | (cases rx; rfl)
    | (obtain ⟨t, rfl⟩ := rx; rfl)
theorem op_notin_str : OpR X (compareOp .NotIn) (fun x y H Q => ∃ i j, x = .str i ∧ y = .str j ∧ Q (.bl (!(!(Builtin.Str.occurrences j i 0 j.length 1).isEmpty))) H) := by
  intro pins s σ H x y v u Q I rx ry h
  obtain ⟨i, j, rfl, rfl, q⟩ := h
  obtain ⟨t, rfl⟩ := rx
  obtain ⟨t', rfl⟩ := ry
  exact notIn_str (fin_bl I q rfl)
theorem OpR.or {f : Value → Value → Sem Value} {r r' : R2} (h : OpR X f r) (h' : OpR X f r') : OpR X f (fun x y H Q => r x y H Q ∨ r' x y H Q) := by
  intro pins s σ H x y v u Q I rx ry q
  rcases q with q | q
  · exact h pins s σ H x y v u Q I rx ry q
  · exact h' pins s σ H x y v u Q I rx ry q
theorem pe_cmpR {op : CmpOp} {r : R2} (ho : OpR X (compareOp op) r) (ha : PE X a ta) (hb : PE X b tb) (hm : behindInMarks op b = false) : PE X (.Compare a [op] [b] pos) (tOp r ta tb) := by
  intro pins s σ H Q I h
  exact wpAny_Compare1 (binT ha hb I h fun v u s2 x y H2 I2 rx ry q => ho pins s2 σ H2 x y v u Q I2 rx ry q) hm
noncomputable def tTest (t : TE) : TT := fun σ H Q => t σ H fun x H' => ∃ k, x = .bl k ∧ Q k H'
theorem pt_cmpR {op : CmpOp} {r : R2} (ho : OpR X (compareOp op) r) (ha : PE X a ta) (hb : PE X b tb) (hm : behindInMarks op b = false) : PT X (.Compare a [op] [b] pos) (tTest (tOp r ta tb)) := by
  intro pins s σ H Q I h
  refine wpAny_isTrue_Compare1 (thn (ha pins s σ H _ I h) fun v s1 ⟨x, H1, I1, r1, q1⟩ => thn (hb pins s1 σ H1 _ I1 q1) fun u s2 ⟨y, H2, I2, r2, q2⟩ =>
    thn (ho pins s2 σ H2 x y v u _ I2 r1 r2 q2) fun c s3 ⟨z, H3, I3, r3, k, e, q3⟩ => ?_) hm
  subst e
  cases r3
  exact wpAny_truthy_bool ⟨H3, I3, q3⟩
noncomputable def tChain (r r' : R2) (ta tb tc : TE) : TE := fun σ H Q => ta σ H fun x H1 => tb σ H1 fun y H2 => r x y H2 fun z H3 => ∃ k, z = .bl k ∧
  (if k = true then tc σ H3 fun w' H4 => r' y w' H4 Q else Q (.bl false) H3)
theorem pe_chain {op op' : CmpOp} {r r' : R2} (ho : OpR X (compareOp op) r) (ho' : OpR X (compareOp op') r') (ha : PE X a ta) (hb : PE X b tb) (hc : PE X c tc)
    (hm : lastMarks [op, op'] [b, c] = false := by with_unfolding_all rfl) : PE X (.Compare a [op, op'] [b, c] pos) (tChain r r' ta tb tc) := by
  intro pins s σ H Q I h
  refine Compare_chain (thn (ha pins s σ H _ I h) fun v s1 ⟨x, H1, I1, r1, q1⟩ => chain_link (thn (hb pins s1 σ H1 _ I1 q1) fun u s2 ⟨y, H2, I2, r2, q2⟩ =>
    thn (ho pins s2 σ H2 x y v u _ I2 r1 r2 q2) fun d s3 ⟨z, H3, I3, r3, k, e, q3⟩ => ?_)) hm
  subst e
  cases r3
  refine wpAny_truthy_bool ?_
  cases k with
  | false => exact ite_ff ⟨.bl false, H3, I3, rfl, q3⟩
  | true => exact ite_tt (chain_last (thn (hc pins s3 σ H3 _ I3 q3) fun w' s4 ⟨z', H4, I4, r4, q4⟩ => ho' pins s4 σ H4 y z' u w' Q I4 r2 r4 q4))
theorem pt_chain {op op' : CmpOp} {r r' : R2} (ho : OpR X (compareOp op) r) (ho' : OpR X (compareOp op') r') (ha : PE X a ta) (hb : PE X b tb) (hc : PE X c tc)
    (hm : lastMarks [op, op'] [b, c] = false := by with_unfolding_all rfl) : PT X (.Compare a [op, op'] [b, c] pos) (tTest (tChain r r' ta tb tc)) := by
  intro pins s σ H Q I h
  refine isTrue_chain (thn (ha pins s σ H _ I h) fun v s1 ⟨x, H1, I1, r1, q1⟩ => test_link (thn (hb pins s1 σ H1 _ I1 q1) fun u s2 ⟨y, H2, I2, r2, q2⟩ =>
    thn (ho pins s2 σ H2 x y v u _ I2 r1 r2 q2) fun d s3 ⟨z, H3, I3, r3, k, e, q3⟩ => ?_)) hm
  subst e
  cases r3
  refine wpAny_truthy_bool ?_
  cases k with
  | false =>
    obtain ⟨k', e', q'⟩ := q3
    cases e'
    exact ite_ff ⟨H3, I3, q'⟩
  | true =>
    refine ite_tt (test_last (thn (hc pins s3 σ H3 _ I3 q3) fun w' s4 ⟨z', H4, I4, r4, q4⟩ => thn (ho' pins s4 σ H4 y z' u w' _ I4 r2 r4 q4) fun d' s5 ⟨z2, H5, I5, r5, k2, e2, q5⟩ => ?_))
    subst e2
    cases r5
    exact wpAny_truthy_bool ⟨H5, I5, q5⟩
noncomputable def TruV (K : PySem.W.Frag) (x : V) (H : Hp) (k : Bool) : Prop :=
  match x with
  | .non => k = false
  | .bl b => k = b
  | .int i => k = (i != 0)
  | .str y => y.length ≤ sizeLine ∧ k = ((y.length : Int) != 0)
  | .byt y => y.size ≤ sizeLine ∧ k = ((y.size : Int) != 0)
  | .ref p => (∃ xs, SqL K H p xs ∧ k = !xs.isEmpty) ∨ (∃ xs, SqT K H p xs ∧ k = !xs.isEmpty) ∨ ∃ kvs, H p = some (.dK kvs) ∧ k = !kvs.isEmpty
  | _ => False
theorem isEmpty_kv {κ : Type} {kvs : List (κ × V)} {vs : List (κ × Value)} (r : KV kvs vs) : (!vs.isEmpty) = !kvs.isEmpty := by
  cases r <;> rfl
theorem isEmpty_of {xs : List V} {its : List Value} (r : Vals xs its) : (!its.toArray.isEmpty) = !xs.isEmpty := by
  cases r <;> simp
theorem line63 : (sizeLine : Nat) < 2 ^ 63 := by rw [sizeLine_eq]; decide
theorem tru_ok : TruR X (fun x H Q => ∃ k, TruV X.K x H k ∧ Q k H) := by
  intro pins s σ H x v Q I rx h
  obtain ⟨k, e, q⟩ := h
  have hl := line63
  have hs : sizeLine = 16777216 := sizeLine_eq
  cases x with
  | non =>
    cases rx
    have e' : k = false := e
    subst e'
    exact truthy_none ⟨H, I, q⟩
  | bl b =>
    cases rx
    have e' : k = b := e
    subst e'
    exact wpAny_truthy_bool ⟨H, I, q⟩
  | int i =>
    obtain ⟨t, rfl⟩ := rx
    have e' : k = (i != 0) := e
    subst e'
    exact PySem.P.truthy_int ⟨H, I, q⟩
  | str y =>
    obtain ⟨t, rfl⟩ := rx
    obtain ⟨hy, e'⟩ : y.length ≤ sizeLine ∧ k = ((y.length : Int) != 0) := e
    subst e'
    exact PySem.P.truthy_str (by omega) ⟨H, I.tok _, q⟩
  | byt y =>
    obtain ⟨t, rfl⟩ := rx
    obtain ⟨hy, e'⟩ : y.size ≤ sizeLine ∧ k = ((y.size : Int) != 0) := e
    subst e'
    exact PySem.W.truthy_bytes (by omega) ⟨H, I.tok _, q⟩
  | ref p =>
    cases rx
    have e' : (∃ xs, SqL X.K H p xs ∧ k = !xs.isEmpty) ∨ (∃ xs, SqT X.K H p xs ∧ k = !xs.isEmpty) ∨ ∃ kvs, H p = some (.dK kvs) ∧ k = !kvs.isEmpty := e
    rcases e' with ⟨xs, hx, e'⟩ | ⟨xs, hx, e'⟩ | ⟨kvs, hx, e'⟩
    · subst e'
      obtain ⟨its, r, pl, hz⟩ := I.list hx
      have hlen := r.length
      exact wpAny_truthy_list pl.isList (by simp only [List.size_toArray]; omega) ⟨H, I.tok _, by rw [isEmpty_of r]; exact q⟩
    · subst e'
      obtain ⟨its, r, pl, hz⟩ := I.tuple hx
      have hlen := r.length
      exact truthy_tuple pl (by simp only [List.size_toArray]; omega) ⟨H, I.tok _, by rw [isEmpty_of r]; exact q⟩
    · subst e'
      obtain ⟨hz, hS, vs, r, m⟩ : kvs.length ≤ sizeLine ∧ (p == sysModules) = false ∧ ∃ vs, KV kvs vs ∧ s.heap.DictOf (mixKind X.prog X.w) p vs := I.hok p _ hx
      have hlen : kvs.length = vs.length := Paired.length r
      exact wpAny_truthy_dict hS m (by omega) ⟨H, I.tok _, by rw [isEmpty_kv r]; exact q⟩
  | _ => exact (show False from e).elim
theorem pt_truth (ha : PE X a ta) (he : ∀ whole, isTrue a X.env whole = (do let v ← whole; standAt a.pos; holding [v] (truthy v))) :
    PT X a (fun σ H Q => ta σ H fun x H' => ∃ k, TruV X.K x H' k ∧ Q k H') := by
  intro pins s σ H Q I h
  exact isTrue_plain (thn (ha pins s σ H _ I h) fun v s1 ⟨x, H1, I1, r1, q1⟩ => tru_ok pins s1 σ H1 x v Q I1 r1 q1) (he _)
theorem op_add_str : OpR X (binaryOp .Add) (fun x y H Q => ∃ i j, x = .str i ∧ y = .str j ∧ i.length + j.length ≤ sizeLine ∧ Q (.str (i ++ j)) H) := by
  intro pins s σ H x y v u Q I rx ry h
  obtain ⟨i, j, rfl, rfl, hz, q⟩ := h
  obtain ⟨t, rfl⟩ := rx
  obtain ⟨t', rfl⟩ := ry
  exact add_str (fun t' tk => ⟨.str (i ++ j), H, I.tok _, ⟨_, rfl⟩, q⟩) hz
theorem vals1 {x : V} {us : List Value} (r : Vals [x] us) : ∃ u, us = [u] ∧ RelV x u := by
  cases r with
  | cons r1 r2 => cases r2; exact ⟨_, rfl, r1⟩
theorem vals2 {x y : V} {us : List Value} (r : Vals [x, y] us) : ∃ u w', us = [u, w'] ∧ RelV x u ∧ RelV y w' := by
  cases r with
  | cons r1 r2 =>
    cases r2 with
    | cons r3 r4 => cases r4; exact ⟨_, _, rfl, r1, r3⟩
theorem call_abs : CallR X (.builtin "abs") (fun xs H Q => ∃ i, xs = [.int i] ∧ Q (.int (if i < 0 then -i else i)) H) := by
  intro pins s σ H xs us Q I r h
  obtain ⟨i, rfl, q⟩ := h
  obtain ⟨u, rfl, t, rfl⟩ := vals1 r
  exact call_abs_int fun u tk => ⟨.int (if i < 0 then -i else i), H, I.tok _, ⟨_, rfl⟩, q⟩
theorem call_int1 : CallR X (.type "int") (fun xs H Q => (∃ i, xs = [.int i] ∧ Q (.int i) H) ∨ ∃ k, xs = [.bl k] ∧ Q (.int (if k then 1 else 0)) H) := by
  intro pins s σ H xs us Q I r h
  rcases h with ⟨i, rfl, q⟩ | ⟨k, rfl, q⟩
  · obtain ⟨u, rfl, t, rfl⟩ := vals1 r
    exact call_int_int ⟨.int i, H, I, ⟨_, rfl⟩, q⟩
  · obtain ⟨u, rfl, r1⟩ := vals1 r
    cases r1
    exact call_int_bool ⟨.int (if k then 1 else 0), H, I.tok _, ⟨_, rfl⟩, q⟩
theorem call_str_int : CallR X (.type "str") (fun xs H Q => ∃ i, xs = [.int i] ∧ i.natAbs.log2 < 1920 ∧ Q (.str (toString i)) H) := by
  intro pins s σ H xs us Q I r h
  obtain ⟨i, rfl, hz, q⟩ := h
  obtain ⟨u, rfl, t, rfl⟩ := vals1 r
  exact PySem.P.str_of_int hz ⟨.str _, H, I.tok _, ⟨_, rfl⟩, q⟩
noncomputable def LenV (K : PySem.W.Frag) (x : V) (H : Hp) (n : Nat) : Prop :=
  match x with
  | .str y => y.length ≤ sizeLine ∧ n = y.length
  | .byt y => y.size ≤ sizeLine ∧ n = y.size
  | .ref p => (∃ xs, SqL K H p xs ∧ n = xs.length) ∨ ∃ xs, SqT K H p xs ∧ n = xs.length
  | _ => False
theorem call_len : CallR X (.builtin "len") (fun xs H Q => ∃ x n, xs = [x] ∧ LenV X.K x H n ∧ Q (.int n) H) := by
  intro pins s σ H xs us Q I r h
  obtain ⟨x, n, rfl, e, q⟩ := h
  obtain ⟨u, rfl, rx⟩ := vals1 r
  have hl := line63
  have hs : sizeLine = 16777216 := sizeLine_eq
  cases x with
  | str y =>
    obtain ⟨t, rfl⟩ := rx
    obtain ⟨hy, e'⟩ : y.length ≤ sizeLine ∧ n = y.length := e
    subst e'
    exact len_str (by omega) ⟨.int _, H, I.tok _, ⟨_, rfl⟩, q⟩
  | byt y =>
    obtain ⟨t, rfl⟩ := rx
    obtain ⟨hy, e'⟩ : y.size ≤ sizeLine ∧ n = y.size := e
    subst e'
    exact PySem.W.len_bytes (by omega) ⟨.int _, H, I.tok _, ⟨_, rfl⟩, q⟩
  | ref p =>
    cases rx
    have e' : (∃ xs, SqL X.K H p xs ∧ n = xs.length) ∨ ∃ xs, SqT X.K H p xs ∧ n = xs.length := e
    rcases e' with ⟨xs, hx, e'⟩ | ⟨xs, hx, e'⟩
    · subst e'
      obtain ⟨its, r', pl, hz⟩ := I.list hx
      have hlen := r'.length
      exact Calls.call_len_list pl.isList (by simp only [List.size_toArray]; omega) ⟨.int xs.length, H, I.tok _, ⟨_, by simp only [List.size_toArray]; rw [hlen]⟩, q⟩
    · subst e'
      obtain ⟨its, r', pl, hz⟩ := I.tuple hx
      have hlen := r'.length
      exact len_tuple pl (by simp only [List.size_toArray]; omega) ⟨.int xs.length, H, I.tok _, ⟨_, by simp only [List.size_toArray]; rw [hlen]⟩, q⟩
  | _ => exact (show False from e).elim
end
end L2
namespace L2
open PySem PySem.Spec PyProof.Rows
structure ObjM (h : Heap) (x dx C : Addr) (mA : Str → Option Value) : Prop where
  obj : h.get? x = some (PySem.W.instObj C dx)
  ns : h.Ns1 dx mA
  ne : dx ≠ x
section
variable {prog : Program} {w : World} {A : Around} {E : Value → Shared → Prop} {s : Shared} {K : PySem.W.Frag} {x dx C f : Addr} {mA : Str → Option Value} {name : Str} {v : Value}
end
section
variable {P : Program} {w : World} {H H' : Hp} {h h' : Heap} {a C dx : Addr} {fs fs' : List (Str × V)}
end
structure Cls (K : PySem.W.Frag) (C : Addr) : Prop where
  pg : PySem.W.plainGet K C Str.empty = true
  hd : PySem.W.hasDictIn K C = true
  po : PySem.W.plainOver K C = true
  sa : PySem.W.findIn K (.ref C) "__setattr__" = some (some (.builtin "object.__setattr__"))
theorem Cls.get {K : PySem.W.Frag} {C : Addr} (c : Cls K C) (f : Str) : PySem.W.plainGet K C f = true := c.pg
structure Con (K : PySem.W.Frag) (C : Addr) (f : Str) (v : V) (u : Value) : Prop where
  at_ : PySem.W.findIn K (.ref C) f = some (some u)
  rel : RelV v u
  get : PySem.W.specialIn K u "__get__" = some none
  cp : PySem.W.copiedNames.contains f = false
structure Meth (K : PySem.W.Frag) (C : Addr) (m : Str) (f : Addr) : Prop where
  at_ : PySem.W.findIn K (.ref C) m = some (some (.ref f))
  fn : PySem.W.isFn K (.ref f) = true
  kp : PySem.W.keepIn K (.ref f) = true
section
variable {X : Cx} {pins : List (Addr × Obj)} {σ : St} {H : Hp} {s : Shared} {a C dx : Addr} {fs : List (Str × V)} {f : Str} {v : V} {A : Around} {E : Value → Shared → Prop}
end
section
variable {X : Cx} {o e value : Expr} {f : Str} {pos pos' tpos : Pos} {ta tv : TE}
noncomputable def rAdd : V → V → Hp → VK → Prop := fun x y H Q => ∃ i j, x = .int i ∧ y = .int j ∧ Q (.int (i + j)) H
end
section
variable {X : Cx} {pins : List (Addr × Obj)} {σ : St} {H : Hp} {s : Shared} {A : Around} {E : Value → Shared → Prop} {Q : Value → Shared → Prop} {c : Value} {b : Bool}
inductive TyOf (K : PySem.W.Frag) (H : Hp) : V → Value → Prop where
  | non : TyOf K H .non (.type "NoneType")
  | bl (x : Bool) : TyOf K H (.bl x) (.type "bool")
  | int (i : Int) : TyOf K H (.int i) (.type "int")
  | str (x : Str) : TyOf K H (.str x) (.type "str")
  | flt (x : UInt64) : TyOf K H (.flt x) (.type "float")
  | lst {a : Addr} {xs : List V} (e : H a = some (.lst xs)) : TyOf K H (.ref a) (.type "list")
  | frz {a : Addr} {o : Obj} {xs : List V} (e : H a = some (.frz o (.lst xs))) : TyOf K H (.ref a) (.type "list")
  | tup {a : Addr} {xs : List V} (e : H a = some (.tup xs)) : TyOf K H (.ref a) (.type "tuple")
  | dK {a : Addr} {kvs : List (Key × V)} (e : H a = some (.dK kvs)) : TyOf K H (.ref a) (.type "dict")
  | dT {a : Addr} {kvs : List (List Key × V)} (e : H a = some (.dT kvs)) : TyOf K H (.ref a) (.type "dict")
  | ins {a C dx : Addr} {fs : List (Str × V)} (e : H a = some (.ins C dx fs)) (cl : Cls K C) (ha : PySem.W.findIn K (.ref C) "__class__" = some (some (.builtin "object.__class__")))
      (hn : PySem.W.specialIn K (.builtin "object.__class__") "__get__" = some (some (.builtin "getset_descriptor.__get__"))) (htk : PySem.W.takesIn K (.builtin "object.__class__") = some true)
      (hm : PySem.W.mroIn K C (.type "object") = some true) : TyOf K H (.ref a) (.ref C)
end
end L2
namespace L2
open PySem PySem.Spec PyProof.Rows
structure Room (k : Nat) (A : Around) : Prop where
  hd : A.handled = none
  dp : A.depth + 3 * k + 5 < recursionLimit
  un : A.units + 16 * k + 200 < cLine
theorem Room.mono {j k : Nat} {A : Around} (r : Room k A) (h : j ≤ k) : Room j A := ⟨r.hd, by have := r.dp; omega, by have := r.un; omega⟩
theorem Room.deeper {k : Nat} {A : Around} (r : Room (k + 1) A) (env : Env) : Room k (A.deeper env) :=
  ⟨r.hd, by have := r.dp; show A.depth + 1 + 3 * k + 5 < _; omega, by have := r.un; show A.units + 3 + 16 * k + 200 < _; omega⟩
theorem Room.in1 {k : Nat} {A : Around} (r : Room (k + 1) A) : Room k A.in1 :=
  ⟨r.hd, by have := r.dp; show A.depth + 3 * k + 5 < _; omega, by have := r.un; show A.units + 1 + 16 * k + 200 < _; omega⟩
theorem Room.depth {k : Nat} {A : Around} (r : Room k A) : A.depth < recursionLimit := by have := r.dp; omega
theorem Room.units {k : Nat} {A : Around} (r : Room k A) : A.units + 64 < cLine := by have := r.un; omega
noncomputable def tNil : TA := fun _ H Q => Q [] H
noncomputable def tCons (ta : TE) (tr : TA) : TA := fun σ H Q => ta σ H fun x H1 => tr σ H1 fun xs H2 => Q (x :: xs) H2
section
variable {X : Cx} {e : Expr} {es : List Expr} {te : TE} {t : TA} {pos : Pos}
theorem pa_nil : PA X [] tNil := fun _ _ _ _ H Q I h => Calls.spliced_nil ⟨[], H, I, .nil, h⟩
theorem pa_cons (ha : PE X e te) (hr : PA X es t) (hs : starEach (e :: es) X.env = (false, eval e X.env) :: starEach es X.env := by rfl) : PA X (e :: es) (tCons te t) := by
  intro pos pins s σ H Q I h
  rw [hs]
  show wpAny _ _ (spliced ((false, eval e X.env) :: backTo pos (starEach es X.env))) _ _ s
  refine Calls.spliced_cons (thn (ha pins s σ H _ I h) fun u s1 ⟨x, H1, I1, r1, q1⟩ => ?_)
  exact thn (hr pos pins s1 σ H1 _ I1 q1) fun us s2 ⟨xs, H2, I2, r2, q2⟩ => ⟨x :: xs, H2, I2, .cons r1 r2, q2⟩
noncomputable def tTup (t : TA) : TE := fun σ H Q => t σ H fun xs H1 => xs.length ≤ sizeLine ∧ ∀ p, H1 p = none → Q (.ref p) (upd H1 p (.tup xs))
noncomputable def tLst (t : TA) : TE := fun σ H Q => t σ H fun xs H1 => xs.length ≤ sizeLine ∧ ∀ p, H1 p = none → Q (.ref p) (upd H1 p (.lst xs))
theorem pe_tup {x1} (h : PA X es t) : PE X (.Tuple es x1 pos) (tTup t) := by
  intro pins s σ H Q I hq
  refine wpAny_Tuple_spliced (thn (h pos pins s σ H _ I hq) fun us s1 ⟨xs, H1, I1, r, z, q⟩ => ⟨by rw [← r.length]; exact z, ?_⟩)
  have hf : H1 s1.heap.objs.size = none := I1.hok.fresh (Nat.le_refl _)
  refine ⟨.ref s1.heap.objs.size, upd H1 s1.heap.objs.size (.tup xs), I1.laid (t' := s1.toks) (fun b u e => Heap.get?_push_of_some _ e) (Nat.le_refl _) ?_, rfl, q _ hf⟩
  exact ⟨z, us, r, ⟨_, Heap.get?_push_size _ rfl, rfl, _, rfl⟩⟩
theorem pe_lst (h : PA X es t) : PE X (.List es pos) (tLst t) := by
  intro pins s σ H Q I hq
  refine wpAny_List_spliced (thn (h pos pins s σ H _ I hq) fun us s1 ⟨xs, H1, I1, r, z, q⟩ => ⟨by rw [← r.length]; exact z, ?_⟩)
  have hf : H1 s1.heap.objs.size = none := I1.hok.fresh (Nat.le_refl _)
  refine ⟨.ref s1.heap.objs.size, upd H1 s1.heap.objs.size (.lst xs), I1.laid (t' := s1.toks) (fun b u e => Heap.get?_push_of_some _ e) (Nat.le_refl _) ?_, rfl, q _ hf⟩
  exact ⟨z, us, 0, r, Heap.get?_push_size _ rfl⟩
end
noncomputable abbrev Sp := List V → Hp → VK → XK → Prop
noncomputable abbrev CXT := List Env → Hp → Shared → XK → Value → Shared → Prop
structure Env0 (P : Program) (w : World) (K : PySem.W.Frag) (mg : Str → Option Value) (base : Heap) (A : Around) (outer : List Env) (s : Shared) (H : Hp) : Prop where
  frames : A.frames = some outer
  mod : Mod K mg base
  bs : ∀ b o, base.get? b = some o → s.heap.get? b = some o ∧ H b = none
  bsz : base.objs.size ≤ s.heap.objs.size
  funs : s.heap.FunFrames base outer
  frf : ∀ b ∈ frs outer, H b = none
  hok : HOk P w H s.heap
  bare : AllBare s.gens
noncomputable def CE (outer : List Env) (P : Program) (w : World) (H : Hp) (s : Shared) (Q : VK) (u : Value) (s' : Shared) : Prop :=
  ∃ v H', s'.os = s.os ∧ AllBare s'.gens ∧ Un (frs outer) [] H H' s.heap s'.heap ∧ HOk P w H' s'.heap ∧ RelV v u ∧ Q v H'
noncomputable def CR (CX : CXT) (outer : List Env) (P : Program) (w : World) (H : Hp) (s : Shared) (Q : VK) (E : XK) (r : Result) (s' : Shared) : Prop :=
  match r with
  | .ok (.ret u) => CE outer P w H s Q u s'
  | .ok _ => False
  | .error e => CX outer H s E e s'
structure FnOk (P : Program) (w : World) (K : PySem.W.Frag) (mg : Str → Option Value) (base : Heap) (CX : CXT) (k : Nat) (f : Addr) (fd : FuncData) (ps : List Str) (sp : Sp) : Prop where
  len : ∀ vs H Q E, sp vs H Q E → vs.length = ps.length
  run : ∀ (A : Around) (outer : List Env) (s : Shared) (H : Hp) (args : Args) (us : List Value) (vs : List V) (Q : VK) (E : XK), Room k A → Env0 P w K mg base A outer s H → BindsTo s fd args (ps.zip us) → Vals vs us → sp vs H Q E →
    codeAny (model P w) A (.call (.ref f) args) (CR CX outer P w H s Q E) s
theorem FnOk.mono {P : Program} {w : World} {K : PySem.W.Frag} {mg : Str → Option Value} {base : Heap} {CX : CXT} {j k : Nat} {f : Addr} {fd : FuncData} {ps : List Str} {sp : Sp} (F : FnOk P w K mg base CX j f fd ps sp) (h : j ≤ k) :
    FnOk P w K mg base CX k f fd ps sp := ⟨F.len, fun A outer s H args us vs Q E hr => F.run A outer s H args us vs Q E (hr.mono h)⟩
theorem Env0.in1 {P : Program} {w : World} {K : PySem.W.Frag} {mg : Str → Option Value} {base : Heap} {A : Around} {outer : List Env} {s : Shared} {H : Hp} (e : Env0 P w K mg base A outer s H) :
    Env0 P w K mg base A.in1 outer s H := ⟨e.frames, e.mod, e.bs, e.bsz, e.funs, e.frf, e.hok, e.bare⟩
section
variable {X : Cx} {pins : List (Addr × Obj)} {σ : St} {H : Hp} {s s' : Shared}
theorem Inv.env0 (I : Inv X pins σ H s) : Env0 X.prog X.w X.K X.mg X.base X.A X.stack s H :=
  ⟨I.ok.frames, I.ok.mod, I.bs, Nat.le_trans I.ok.bsz I.sz, I.stack, I.stkFree, I.hok, I.bare⟩
theorem Inv.after {Q : VK} {u : Value} (I : Inv X pins σ H s) (h : CE X.stack X.prog X.w H s Q u s') : EP X pins σ Q u s' := by
  obtain ⟨v, H', os, bare, un, hok, r, q⟩ := h
  obtain ⟨hh, g, d, t, os'⟩ := s'
  obtain rfl : os' = s.os := os
  exact ⟨v, H', I.call (h' := hh) (g' := g) (d' := d) (t' := t) (ch := []) un hok bare (fun b z => absurd z (by simp)), r, q⟩
end
noncomputable def tCall (sp : Sp) (dvs : List V) (E : XK) (t : TA) : TE := fun σ H Q => t σ H fun vs H1 => sp (vs ++ dvs) H1 Q E
noncomputable def Binds (K : PySem.W.Frag) (fd : FuncData) (ps : List Str) (ds : List Value) : Prop :=
  ∀ (s : Shared) (us : List Value), K.In s.heap → (us ++ ds).length = ps.length → BindsTo s fd ⟨us, []⟩ (ps.zip (us ++ ds))
theorem Binds.all {K : PySem.W.Frag} {fd : FuncData} {ps : List Str} (h : ∀ us : List Value, us.length = ps.length → bindArgs fd ⟨us, []⟩ = pure (ps.zip us)) : Binds K fd ps [] := fun s us _ hl => by
  rw [List.append_nil] at hl ⊢
  exact .of_eq (h us hl)
noncomputable def Passes (CX : CXT) (X : Cx) (E : XK) : Prop := ∀ (pins : List (Addr × Obj)) (σ : St) (H : Hp) (s : Shared) (e : Value) (s' : Shared), Inv X pins σ H s → CX X.stack H s E e s' → X.xe e s'
section
variable {X : Cx} {CX : CXT} {k : Nat} {f C : Addr} {fd : FuncData} {ps : List Str} {sp : Sp} {dvs : List V} {ds : List Value} {E : XK} {x m : Str} {p pos apos : Pos} {e o : Expr} {es : List Expr} {ta : TE} {t : TA}
theorem run_fn {pins : List (Addr × Obj)} {σ : St} {H : Hp} {s : Shared} {Q : VK} {us : List Value} {vs : List V} (F : FnOk X.prog X.w X.K X.mg X.base CX k f fd ps sp) (hr : Room k X.A) (hb : Binds X.K fd ps ds) (hd : Vals dvs ds) (hx : Passes CX X E)
    (I : Inv X pins σ H s) (r : Vals vs us) (h : sp (vs ++ dvs) H Q E) : wpAny (model X.prog X.w) X.A (call (.ref f) us) (EP X pins σ Q) X.xe s := by
  have r2 : Vals (vs ++ dvs) (us ++ ds) := r.append hd
  have hl : (us ++ ds).length = ps.length := by rw [← r2.length]; exact F.len _ _ _ _ h
  refine wpAny_call (codeAny_mono (F.run X.A X.stack s H ⟨us, []⟩ (us ++ ds) (vs ++ dvs) Q E hr I.env0 (hb s us I.kIn hl) r2 h) fun r s' hq => ?_)
  cases r with
  | error e => exact hx pins σ H s e s' I hq
  | ok fl =>
    cases fl with
    | ret u => exact I.after hq
    | next => exact False.elim hq
    | brk => exact False.elim hq
    | cont => exact False.elim hq
theorem pe_call (F : FnOk X.prog X.w X.K X.mg X.base CX k f fd ps sp) (hr : Room k X.A) (hg : Gl X x) (hm : X.mg x = some (.ref f)) (hk : PySem.W.keepIn X.K (.ref f) = true) (hb : Binds X.K fd ps ds) (hd : Vals dvs ds) (hx : Passes CX X E)
    (ha : PA X (e :: es) t) (hdb : (x == ("__debug__" : Str)) = false := by decide) (he : starEach (e :: es) X.env = (false, eval e X.env) :: starEach es X.env := by rfl) (hpl : (backTo pos (starEach es X.env)).any (·.1) = false := by rfl) :
    PE X (.Call (.Name x p) (e :: es) [] pos) (tCall sp dvs E t) := by
  intro pins s σ H Q I h
  refine wpAny_Call_Name_kw (ld_glob I hg hm ?_ hdb)
  refine PySem.W.callWith_K (h₀ := X.base) I.ok.mod.kin hk (thn (ha pos pins s σ H _ I h) fun us s1 ⟨vs, H1, I1, r, q⟩ => ⟨I1.kIn, ?_⟩) he hpl
  exact run_fn F hr hb hd hx I1 r q
structure Mk (K : PySem.W.Frag) (C f : Addr) : Prop where
  makes : PySem.W.makesIn K C = true
  init : PySem.W.findIn K (.ref C) "__init__" = some (some (.ref f))
  fn : PySem.W.isFn K (.ref f) = true
  kp : PySem.W.keepIn K (.ref C) = true
end
section
variable {X : Cx} {CX : CXT} {k : Nat} {f C : Addr} {fd : FuncData} {ps ks : List Str} {sp : Sp} {E : XK} {x m : Str} {p pos apos kpos : Pos} {e o : Expr} {es : List Expr} {kws : List Keyword} {te ta : TE} {t tk : TA} {nm : Option Str}
structure KBinds (K : PySem.W.Frag) (fd : FuncData) (ps ks : List Str) (g : List Value → List Value → List Value) (gV : List V → List V → List V) : Prop where
  to : ∀ (s : Shared) (us ws : List Value), K.In s.heap → (g us ws).length = ps.length → BindsTo s fd ⟨us, ks.zip ws⟩ (ps.zip (g us ws))
  rel : ∀ {vs : List V} {us : List Value} {zs : List V} {ws : List Value}, Vals vs us → Vals zs ws → Vals (gV vs zs) (g us ws)
variable {g : List Value → List Value → List Value} {gV : List V → List V → List V}
end
structure FnScope (N P : List Str) (sc : Scope) : Prop where
  kind : sc.kind = .function
  co : sc.isCoroutine = false
  gen : sc.isGenerator = false
  nd : N.Nodup
  pre : N.take P.length = P
  par : ∀ x ∈ P, sc.names.lookup x = some .local ∨ sc.names.lookup x = some .cell
  nofree : ∀ y ∈ sc.names, y.2 ≠ .free
theorem bindL_out {kindOf : Str → Option NameKind} {x : Str} : ∀ {binds : List (Str × Value)} {m : Str → Option Value}, (∀ v, (x, v) ∉ binds) → bindL kindOf binds m x = m x
  | [], _, _ => rfl
  | (n, v) :: r, m, h => by
    unfold bindL
    rw [bindL_out fun w hw => h w (List.mem_cons_of_mem _ hw)]
    split
    · have : x ≠ n := by rintro rfl; exact h v List.mem_cons_self
      simp [this]
    · rfl
theorem bindC_out {kindOf : Str → Option NameKind} {x : Str} : ∀ {binds : List (Str × Value)} {m : Str → Option Value}, (∀ v, (x, v) ∉ binds) → bindC kindOf binds m x = m x
  | [], _, _ => rfl
  | (n, v) :: r, m, h => by
    unfold bindC
    rw [bindC_out fun w hw => h w (List.mem_cons_of_mem _ hw)]
    split
    · rfl
    · have : x ≠ n := by rintro rfl; exact h v List.mem_cons_self
      simp [this]
theorem bindL_get {kindOf : Str → Option NameKind} {x : Str} {v : Value} : ∀ {P : List Str} {vs : List Value} {i : Nat} {m : Str → Option Value}, P.Nodup → P[i]? = some x → vs[i]? = some v → kindOf x = some .local →
    bindL kindOf (P.zip vs) m x = some v
  | [], _, _, _, _, h, _, _ => by simp at h
  | _ :: _, [], _, _, _, _, h, _ => by simp at h
  | p :: P, w :: vs, 0, m, nd, h1, h2, hk => by
    simp at h1 h2; subst h1; subst h2
    show bindL kindOf ((p, w) :: P.zip vs) m p = _
    unfold bindL
    rw [bindL_out fun v hv => (List.nodup_cons.mp nd).1 (List.of_mem_zip hv).1, if_pos hk]
    simp
  | p :: P, w :: vs, i + 1, m, nd, h1, h2, hk => by
    show bindL kindOf ((p, w) :: P.zip vs) m x = _
    unfold bindL
    exact bindL_get (i := i) (List.nodup_cons.mp nd).2 (by simpa using h1) (by simpa using h2) hk
theorem bindC_get {kindOf : Str → Option NameKind} {x : Str} {v : Value} : ∀ {P : List Str} {vs : List Value} {i : Nat} {m : Str → Option Value}, P.Nodup → P[i]? = some x → vs[i]? = some v → kindOf x ≠ some .local →
    bindC kindOf (P.zip vs) m x = some v
  | [], _, _, _, _, h, _, _ => by simp at h
  | _ :: _, [], _, _, _, _, h, _ => by simp at h
  | p :: P, w :: vs, 0, m, nd, h1, h2, hk => by
    simp at h1 h2; subst h1; subst h2
    show bindC kindOf ((p, w) :: P.zip vs) m p = _
    unfold bindC
    rw [bindC_out fun v hv => (List.nodup_cons.mp nd).1 (List.of_mem_zip hv).1, if_neg hk]
    simp
  | p :: P, w :: vs, i + 1, m, nd, h1, h2, hk => by
    show bindC kindOf ((p, w) :: P.zip vs) m x = _
    unfold bindC
    exact bindC_get (i := i) (List.nodup_cons.mp nd).2 (by simpa using h1) (by simpa using h2) hk
noncomputable def start (N : List Str) (vs : List V) : St := vs.map some ++ List.replicate (N.length - vs.length) none
noncomputable def cxOf (CX : CXT) (P : Program) (w : World) (K : PySem.W.Frag) (mg : Str → Option Value) (base : Heap) (N : List Str) (qual : Str) (scope : Scope) (f : Addr) (cd : Value) (A : Around) (outer : List Env) (s : Shared) (H : Hp) (E : XK) : Cx where
  prog := P
  w := w
  K := K
  mg := mg
  base := base
  A := A.deeper (envOfC qual scope s.heap.objs.size f cd)
  N := N
  s₀ := s
  H₀ := H
  env := envOfC qual scope s.heap.objs.size f cd
  outer := outer
  stack := envOfC qual scope s.heap.objs.size f cd :: outer
  ex := []
  calm := true
  fn := fun _ => true
  pn := []
  xe := fun e s' => wpAny (model P w) (A.deeper (envOfC qual scope s.heap.objs.size f cd)) (leaving (envOfC qual scope s.heap.objs.size f cd) e) (fun _ s'' => CX outer H s E e s'') (fun e' s'' => CX outer H s E e' s'') s'
theorem cell_has {sc : Scope} {n : Nat} {x : Str} (h : sc.names.lookup x = some .cell) : ∃ c, (cellsFrom n sc.names []).lookup x = some c := by
  have q := PySem.W.cellsFrom_some sc.names n [] (.inl h)
  exact Option.isSome_iff_exists.mp q
theorem inv_start {CX : CXT} {P : Program} {w : World} {K : PySem.W.Frag} {mg : Str → Option Value} {base : Heap} {N ps : List Str} {qual : Str} {scope : Scope} {f : Addr} {cd : Value} {A : Around} {outer : List Env} {s s1 : Shared} {H : Hp} {E : XK} {us : List Value} {vs : List V}
    (S : FnScope N ps scope) (hd : A.handled = none) (e0 : Env0 P w K mg base A outer s H) (hl : vs.length = ps.length) (r : Vals vs us)
    (x : InCallC s s.heap.objs.size (bindL (envOfC qual scope s.heap.objs.size f cd).kindOf (ps.zip us) fun _ => none) (cellsFrom (s.heap.objs.size + 1) scope.names []) (bindC (envOfC qual scope s.heap.objs.size f cd).kindOf (ps.zip us) fun _ => none) s1) :
    Inv (cxOf CX P w K mg base N qual scope f cd A outer s H E) [] (start N vs) H s1 := by
  have hpl : ps.length ≤ N.length := by have := congrArg List.length S.pre; rw [List.length_take] at this; omega
  obtain ⟨h1, tk, rfl, hk⟩ := x.done
  have noA : ∀ b : Addr, b ∉ (cxOf CX P w K mg base N qual scope f cd A outer s H E).ex := fun b z => absurd (show b ∈ ([] : List Addr) from z) (by simp)
  refine ⟨⟨e0.mod, S.kind, rfl, rfl, Nat.le_refl _, fun y z c h1 h2 => ?_, fun y hy => ?_, fun y c _ h => ?_, fun _ => hd, Around.frames_deeper e0.frames, .inr ⟨rfl, rfl⟩, fun b z => absurd z (noA b), e0.bs, e0.bsz, fun b _ _ => noA b, fun b z => absurd z (noA b), e0.funs, e0.frf⟩,
    rfl, e0.bare, Un.kept hk, ⟨_, x.toInCall.ns, fun i y v h1 h2 h3 => ?_⟩, fun y c h => ⟨_, x.cell y c h⟩, e0.hok.fresh (Nat.le_refl _), fun y c h => ?_, fun p hp => absurd (show p ∈ ([] : List (Addr × Obj)) from hp) (by simp), e0.hok.kept hk, ?_⟩
  · exact name_of_addr x.apart (PySem.mem_of_lookup h1) (PySem.mem_of_lookup h2)
  · have hy : scope.names.lookup y = some .cell ∨ scope.names.lookup y = some .free := hy
    rcases hy with hy | hy
    · exact cell_has hy
    · exact absurd rfl (S.nofree _ (PySem.mem_of_lookup hy))
  · exact Nat.le_of_lt (x.above y c (PySem.mem_of_lookup h))
  · have hi : i < vs.length := by
      unfold start at h2
      by_cases hi : i < vs.length
      · exact hi
      · rw [List.getElem?_append_right (by simpa using hi)] at h2
        rw [List.getElem?_replicate] at h2
        split at h2 <;> cases h2
    have ha : vs[i]? = some v := by
      unfold start at h2
      rw [List.getElem?_append_left (by simpa using hi), List.getElem?_map] at h2
      cases e : vs[i]? with
      | none => rw [e] at h2; cases h2
      | some a => rw [e] at h2; cases h2; rfl
    obtain ⟨u, hu, rv⟩ := r.get ha
    have hp : ps[i]? = some y := by
      rw [← S.pre, List.getElem?_take_of_lt (by omega)]; exact h1
    have ndP : ps.Nodup := by rw [← S.pre]; exact S.nd.sublist (List.take_sublist _ _)
    refine ⟨u, rv, ?_⟩
    rcases S.par y (List.mem_of_getElem? hp) with k | k
    · exact .inl ⟨k, bindL_get ndP hp hu k⟩
    · obtain ⟨c, e⟩ := cell_has (n := s.heap.objs.size + 1) k
      refine .inr ⟨.inl k, c, e, ?_⟩
      have q := x.cell y c e
      rw [bindC_get ndP hp hu (by show scope.names.lookup y ≠ _; rw [k]; decide)] at q
      exact q
  · exact e0.hok.fresh (Nat.le_of_lt (x.above y c (PySem.mem_of_lookup h)))
  · unfold start
    show _ = N.length
    rw [List.length_append, List.length_map, List.length_replicate]
    omega
theorem fn_of {CX : CXT} {P : Program} {w : World} {K : PySem.W.Frag} {mg : Str → Option Value} {base : Heap} {k : Nat} {f : Addr} {name qual : Str} {params : Arguments} {body : List Stmt} {scope : Scope} {dV kV doc pm cdv ct oc : Value} {an od : Option Addr}
    {osl : Array (Option Value)} {N ps : List Str} {sp : Sp} (lk : K.lookup f = some ⟨oc, od, .func (PySem.W.fnOf name qual params body scope dV kV doc pm an cdv ct), osl⟩) (hcd : PySem.W.codeIn K cdv qual = true) (S : FnScope N ps scope)
    (len : ∀ vs H Q E, sp vs H Q E → vs.length = ps.length)
    (hbody : ∀ (A : Around) (outer : List Env) (s : Shared) (H : Hp) (vs : List V) (Q : VK) (E : XK), Room k (A.deeper (envOfC qual scope s.heap.objs.size f cdv)) → sp vs H Q E →
      ∃ t, PSs (cxOf CX P w K mg base N qual scope f cdv A outer s H E) body t ∧ t { nx := fun _ H' => Q .non H', rt := Q } (start N vs) H) :
    FnOk P w K mg base CX (k + 1) f (PySem.W.fnOf name qual params body scope dV kV doc pm an cdv ct) ps sp := by
  refine ⟨len, fun A outer s H args us vs Q E hr e0 hb r hsp => ?_⟩
  have hl := len _ _ _ _ hsp
  have KX : K.In s.heap := e0.mod.kin.keeps fun b o e => (e0.bs b o e).1
  have lim : s.heap.NoLimit := e0.mod.nolimit.keeps fun b o e => (e0.bs b o e).1
  have hkind : ∀ y ∈ ps.zip us, scope.names.lookup y.1 = some .local ∨ (scope.names.lookup y.1 = some .cell ∧ ((cellsFrom (s.heap.objs.size + 1) scope.names []).lookup y.1).isSome = true) := fun ⟨n, v⟩ hy => by
    rcases S.par n (List.of_mem_zip hy).1 with q | q
    · exact .inl q
    · exact .inr ⟨q, PySem.W.cellsFrom_some _ _ _ (.inl q)⟩
  refine codeAny_call_function hr.depth (KX _ _ lk) rfl S.co S.gen rfl (PySem.W.codeRec_of KX hcd) (hb _ _ _ _ ?_)
  refine wpAny_newFunctionEnv_cells S.kind hkind fun env he s1 x => ?_
  subst he
  refine ⟨lim.keeps x.toInCall.keep, codeAny_func ?_⟩
  obtain ⟨t, ht, hq⟩ := hbody A outer s H vs Q E (hr.deeper _) hsp
  have I : Inv (cxOf CX P w K mg base N qual scope f cdv A outer s H E) [] (start N vs) H s1 := inv_start S hr.hd e0 hl r x
  refine wpAny_mono (ht [] s1 (start N vs) H _ I hq) (fun fl s' hs => ?_) fun e s' hs => hs
  have fin : ∀ {σ' : St} {H' : Hp} {v : V} {u : Value}, Inv (cxOf CX P w K mg base N qual scope f cdv A outer s H E) [] σ' H' s' → RelV v u → Q v H' → CE outer P w H s Q u s' :=
    fun {σ' H' v u} J rv q => ⟨v, H', J.os, J.bare, J.base, J.hok, rv, q⟩
  cases fl with
  | ret u =>
    obtain ⟨v, σ', H', J, rv, q⟩ := hs
    exact fin J rv q
  | next =>
    obtain ⟨σ', H', J, q⟩ := hs
    exact fin (v := V.non) (u := Value.none) J rfl q
  | brk =>
    obtain ⟨_, _, _, q⟩ := hs
    exact False.elim q
  | cont =>
    obtain ⟨_, _, _, q⟩ := hs
    exact False.elim q
end L2
namespace L2
open PySem PySem.Spec PyProof.Rows
section
variable {X : Cx} {x : Str} {p pos : Pos} {e : Expr} {es : List Expr} {t : TA} {id T : String} {r : List V → Hp → VK → Prop}
noncomputable def tCB (r : List V → Hp → VK → Prop) (t : TA) : TE := fun σ H Q => t σ H fun vs H1 => r vs H1 Q
theorem pe_callB (hc : CallR X (.builtin id) r) (hg : Gl X x) (hm : X.mg x = none) (hv : bootBuiltins x = some (.builtin id)) (ha : PA X (e :: es) t) (hn : x ≠ "__name__" := by decide) (hdb : (x == ("__debug__" : Str)) = false := by decide)
    (he : starEach (e :: es) X.env = (false, eval e X.env) :: starEach es X.env := by rfl) (hpl : (backTo pos (starEach es X.env)).any (·.1) = false := by rfl) : PE X (.Call (.Name x p) (e :: es) [] pos) (tCB r t) := by
  intro pins s σ H Q I h
  refine wpAny_Call_Name_kw (ld_blt I hg hm hv ?_ hn hdb)
  exact PyProof.Rows.callWith_builtin1 (thn (ha pos pins s σ H _ I h) fun us s1 ⟨vs, H1, I1, r1, q1⟩ => hc pins s1 σ H1 vs us Q I1 r1 q1) he hpl
theorem pe_callTy (hc : CallR X (.type T) r) (hg : Gl X x) (hm : X.mg x = none) (hv : bootBuiltins x = some (.type T)) (ha : PA X (e :: es) t) (hn : x ≠ "__name__" := by decide) (hdb : (x == ("__debug__" : Str)) = false := by decide)
    (he : starEach (e :: es) X.env = (false, eval e X.env) :: starEach es X.env := by rfl) (hpl : (backTo pos (starEach es X.env)).any (·.1) = false := by rfl) : PE X (.Call (.Name x p) (e :: es) [] pos) (tCB r t) := by
  intro pins s σ H Q I h
  refine wpAny_Call_Name_kw (ld_blt I hg hm hv ?_ hn hdb)
  exact PyProof.Rows.callWith_type1 (thn (ha pos pins s σ H _ I h) fun us s1 ⟨vs, H1, I1, r1, q1⟩ => hc pins s1 σ H1 vs us Q I1 r1 q1) he hpl
end
end L2
namespace HT
open PySem PyProof.Rows
section
open PySem.SeqAt
open PySem.AutoSeq1 (wpAny_loadPart')
open PySem.MeetsSeq PySem.MeetsSeq2 PySem.MeetsSeq3
end
section
variable {prog : Program} {w : World} {A : Around} {E : Value → Shared → Prop} {s : Shared}
theorem cat_tup {t b : Addr} {vs ws : List Value} {Q : Value → Shared → Prop} (ht : IsTup s.heap t vs.toArray) (hb : IsTup s.heap b ws.toArray) (hv : vs ≠ [])
    (h1 : ws = [] → Q (.ref t) s) (h2 : ws ≠ [] → Q (.ref s.heap.objs.size) { s with heap := s.heap.push { cls := .type "tuple", data := .seq (vs ++ ws).toArray } })
    (hsz : vs.length + ws.length ≤ sizeLine) : wpAny (model prog w) A (binaryOp .Add (.ref t) (.ref b)) Q E s := by
  obtain ⟨⟨cls, dd, data, sl⟩, ho, hc, n, hd⟩ := id ht
  obtain ⟨⟨cls2, dd2, data2, sl2⟩, ho2, hc2, n2, hd2⟩ := id hb
  simp only at hc hd hc2 hd2
  subst hc hd hc2 hd2
  have e : vs.toArray ++ ws.toArray = (vs ++ ws).toArray := by simp
  by_cases hw : ws = []
  · exact concat_meets ⟨_, ho, rfl⟩ ⟨_, ho2, rfl⟩ noFill_tuple_add seq_tuple_add PySem.F.slot_tuple_add PySem.F.entry_tuple_add (PySem.F.args_tuple_add_2 _ _)
      (tuple_addW1 t b vs.toArray ws.toArray n n2 dd dd2 sl sl2 (by simpa using hv) (by simp [hw])) ⟨ho, ho2, h1 hw⟩
  · refine concat_meets ⟨_, ho, rfl⟩ ⟨_, ho2, rfl⟩ noFill_tuple_add seq_tuple_add PySem.F.slot_tuple_add PySem.F.entry_tuple_add (PySem.F.args_tuple_add_2 _ _)
      (tuple_addW2 t b vs.toArray ws.toArray n n2 dd dd2 sl sl2 (by simpa using hv) (by simpa using hw) (by rw [List.size_toArray, List.size_toArray]; exact hsz)) ⟨ho, ho2, ?_⟩
    rw [e]
    exact h2 hw
noncomputable def sIx (n d : Nat) : Option Int → Nat
  | none => d
  | some v => if v < 0 then (v + (n : Int)).toNat else min v.toNat n
theorem sIx_le (n d : Nat) (hd : d ≤ n) (o : Option Int) : sIx n d o ≤ n := by
  cases o with
  | none => exact hd
  | some v =>
    show (if v < 0 then (v + (n : Int)).toNat else min v.toNat n) ≤ n
    by_cases hv : v < 0
    · rw [if_pos hv]; omega
    · rw [if_neg hv]; exact Nat.min_le_right _ _
theorem clip_eq (v : Int) (n d : Nat) : (if v < 0 then max (v + (n : Int)) 0 else min v (n : Int)) = ((sIx n d (some v) : Nat) : Int) := by
  show (if v < 0 then max (v + (n : Int)) 0 else min v (n : Int)) = (((if v < 0 then (v + (n : Int)).toNat else min v.toNat n) : Nat) : Int)
  by_cases hv : v < 0
  · simp only [if_pos hv]; omega
  · simp only [if_neg hv]; omega
theorem adjust_gen (lo hi : Option Int) (n : Nat) : Builtin.Slice.sliceAdjust lo hi 1 (n : Int) = (((sIx n 0 lo : Nat) : Int), ((sIx n n hi : Nat) : Int)) := by
  have h1 : ¬ ((1 : Int) < 0) := by omega
  unfold Builtin.Slice.sliceAdjust
  simp only [h1, if_false]
  refine Prod.ext ?_ ?_
  · cases lo with
    | none => rfl
    | some v => exact clip_eq v n 0
  · cases hi with
    | none => rfl
    | some v => exact clip_eq v n n
theorem places_gen (i j : Nat) : Builtin.Slice.slicePlaces (i : Int) (j : Int) 1 = j - i := by
  unfold Builtin.Slice.slicePlaces
  have h1 : (1 : Int) > 0 := by omega
  simp only [h1, if_true, Int.ediv_one]
  split <;> omega
theorem slicePart_ {v : Value} {o : Option Int} {Q : Option Int → Shared → Prop} (p : IsPart v o) (h : Q o s) : wpAny (model prog w) A (Builtin.Slice.slicePartIndex v) Q E s := by
  cases p with
  | none => exact slicePart_none h
  | int i t => exact slicePart_int h
theorem sliceApplied_gen {sl : Addr} {vl vu : Value} {lo hi : Option Int} {n : Nat} {Q : Int × Int × Nat → Shared → Prop} (hs : s.heap.IsSliceOf sl vl vu .none) (pl : IsPart vl lo) (pu : IsPart vu hi)
    (h : Q (((sIx n 0 lo : Nat) : Int), 1, sIx n n hi - sIx n 0 lo) s) : wpAny (model prog w) A (Builtin.Slice.sliceApplied (.ref sl) (pure (n : Int))) Q E s := by
  obtain ⟨os, hos, hcs, hds⟩ := id hs
  unfold Builtin.Slice.sliceApplied Builtin.Slice.sliceFields
  refine wpAny_bind (wpAny_bind (wpAny_field hos hds (x := vl) rfl (wpAny_bind (wpAny_field hos hds (x := vu) rfl (wpAny_bind (wpAny_field hos hds (x := .none) rfl (wpAny_pure ?_)))))))
  refine wpAny_bind (slicePart_none ?_)
  show wpAny _ _ (if ((1 : Int) == 0) = true then _ else _) _ _ s
  rw [if_neg (by decide)]
  refine wpAny_bind (slicePart_ pl (wpAny_bind (slicePart_ pu (wpAny_bind (wpAny_pure ?_)))))
  show wpAny _ _ (match Builtin.Slice.sliceAdjust lo hi 1 (n : Int) with | (lo, hi) => pure (lo, (1 : Int), Builtin.Slice.slicePlaces lo hi 1)) _ _ s
  rw [adjust_gen lo hi n]
  show wpAny _ _ (pure (((sIx n 0 lo : Nat) : Int), (1 : Int), Builtin.Slice.slicePlaces ((sIx n 0 lo : Nat) : Int) ((sIx n n hi : Nat) : Int) 1)) _ _ s
  rw [places_gen]
  exact wpAny_pure h
theorem pick_gen (xs : Array Value) (i k : Nat) : ((List.range k).filterMap fun (m : Nat) => xs[((i : Int) + (m : Int) * 1).toNat]?).toArray = ((xs.toList.drop i).take k).toArray := by
  have e : (fun (m : Nat) => xs[((i : Int) + (m : Int) * 1).toNat]?) = fun m => xs[i + m]? := by
    funext m
    have : ((i : Int) + (m : Int) * 1).toNat = i + m := by omega
    rw [this]
  rw [e]
  have := pick_run xs i k
  rw [List.filterMap_map] at this
  have e2 : ((fun x => xs[x]?) ∘ fun x => i + x) = fun m => xs[i + m]? := rfl
  rw [e2] at this
  rw [this]
theorem getItem_tuple_cut {t sl : Addr} {items : Array Value} {vl vu : Value} {lo hi : Option Int} {Q : Value → Shared → Prop} (ht : IsTup s.heap t items) (hs : s.heap.IsSliceOf sl vl vu .none) (pl : IsPart vl lo) (pu : IsPart vu hi)
    (hw : ¬ (sIx items.size 0 lo = 0 ∧ sIx items.size items.size hi = items.size))
    (h : Q (.ref s.heap.objs.size) { s with heap := s.heap.push { cls := .type "tuple", data := .seq ((items.toList.drop (sIx items.size 0 lo)).take (sIx items.size items.size hi - sIx items.size 0 lo)).toArray } })
    (hsz : items.size ≤ sizeLine) : wpAny (model prog w) A (getItem (.ref t) (.ref sl)) Q E s := by
  have htake : sizeOk (.seq ((items.toList.drop (sIx items.size 0 lo)).take (sIx items.size items.size hi - sIx items.size 0 lo)).toArray) := by
    show ((items.toList.drop (sIx items.size 0 lo)).take (sIx items.size items.size hi - sIx items.size 0 lo)).toArray.size ≤ sizeLine
    rw [List.size_toArray, List.length_take, List.length_drop, Array.length_toList]
    omega
  have hj : sIx items.size items.size hi ≤ items.size := sIx_le _ _ (Nat.le_refl _) hi
  obtain ⟨os, hos, hcs, hds⟩ := id hs
  have hTs : s.TypeIs (.ref sl) "slice" := ⟨os, hos, hcs⟩
  unfold getItem
  try with_reducible refine wpAny_holding ?_
  first | refine wpAny_bind (wpAny_pure ?_) | skip
  refine wpAny_bind (wpAny_sequenceKey ht.typeIs (by decide) ?_)
  refine wpAny_bind (wpAny_callSpecial?_slot (name := Str.ofString "__getitem__") ht.typeIs PyProof.Rows.slot_tuple_getitem
    (wpAny_call_entry PyProof.Rows.slot_tuple_getitem ht.typeIs entry_tuple_getitem ?_ (args_tuple_getitem _ _)))
  show wpAny _ _ (Builtin.Tuple.tupleItemsOf (.ref t) >>= _) _ _ s
  refine wpAny_bind (tupleItemsOf_ ht ?_)
  refine wpAny_bind (wpAny_typeOf hTs ?_)
  rw [if_pos (by decide)]
  refine wpAny_bind (sliceApplied_gen hs pl pu ?_)
  have hno : ¬ ((((sIx items.size 0 lo : Nat) : Int) == 0 && (1 : Int) == 1 && (sIx items.size items.size hi - sIx items.size 0 lo) == items.size) = true) := by
    intro q
    rw [Bool.and_eq_true, Bool.and_eq_true] at q
    have q1 : ((sIx items.size 0 lo : Nat) : Int) = 0 := eq_of_beq q.1.1
    have q2 : sIx items.size items.size hi - sIx items.size 0 lo = items.size := eq_of_beq q.2
    exact hw ⟨by omega, by omega⟩
  show wpAny _ _ (if (((sIx items.size 0 lo : Nat) : Int) == 0 && (1 : Int) == 1 && (sIx items.size items.size hi - sIx items.size 0 lo) == items.size) = true then _ else _) _ _ s
  rw [if_neg hno, pick_gen]
  first
    | exact wpAny_bind (m := Builtin.Tuple.tupleExact _) (wpAny_newObj_type (wpAny_pure ⟨_, rfl, wpAny_pure h⟩) htake)
    | exact wpAny_bind (m := Builtin.Tuple.tupleExact _) (wpAny_newObj_type (wpAny_bind (wpAny_pure (wpAny_pure ⟨_, rfl, wpAny_pure h⟩))) htake)
    | exact wpAny_bind (wpAny_bind (m := Builtin.Tuple.tupleExact _) (wpAny_newObj_type (wpAny_pure (wpAny_pure ⟨_, rfl, wpAny_pure h⟩)) htake))
    | exact wpAny_bind (wpAny_bind (m := Builtin.Tuple.tupleExact _) (wpAny_newObj_type (wpAny_pure ⟨_, rfl, wpAny_pure h⟩) htake))
end
end HT
namespace L2
open PySem PySem.Spec PyProof.Rows
noncomputable abbrev TO := St → Hp → (Option Int → Hp → Prop) → Prop
noncomputable def PO (X : Cx) (e : Option Expr) (t : TO) : Prop :=
  ∀ (pins : List (Addr × Obj)) (s : Shared) (σ : St) (H : Hp) (Q : Option Int → Hp → Prop), Inv X pins σ H s → t σ H Q →
    wpAny (model X.prog X.w) X.A (evalPart e X.env) (fun u s' => ∃ o H', Inv X pins σ H' s' ∧ IsPart u o ∧ Q o H') X.xe s
noncomputable def tNoPart : TO := fun _ H Q => Q none H
noncomputable def tPart (t : TE) : TO := fun σ H Q => t σ H fun x H1 => ∃ i, x = .int i ∧ Q (some i) H1
section
variable {X : Cx} {e : Expr} {te : TE} {lo hi : Option Expr} {tl th : TO} {pos p2 : Pos}
theorem po_none : PO X none tNoPart := by
  intro pins s σ H Q I h
  rw [evalPart_none]
  exact wpAny_pure ⟨none, H, I, .none, h⟩
theorem po_some (h : PE X e te) : PO X (some e) (tPart te) := by
  intro pins s σ H Q I hw
  rw [evalPart_some]
  refine thn (h pins s σ H _ I hw) fun u s1 ⟨x, H1, I1, r1, q1⟩ => ?_
  obtain ⟨i, rfl, q⟩ := q1
  obtain ⟨t, rfl⟩ := r1
  exact ⟨some i, H1, I1, .int i t, q⟩
noncomputable def SlR (X : Cx) (r : V → Option Int → Option Int → Hp → VK → Prop) : Prop :=
  ∀ (pins : List (Addr × Obj)) (s : Shared) (σ : St) (H : Hp) (x : V) (v vl vu : Value) (lo hi : Option Int) (sl : Addr) (Q : VK), Inv X pins σ H s → RelV x v → s.heap.IsSliceOf sl vl vu .none → IsPart vl lo → IsPart vu hi → r x lo hi H Q →
    ∃ T id, typeLookup (.type T) "__getitem__" = pure (some (.builtin id)) ∧ s.TypeIs v T ∧ wpAny (model X.prog X.w) X.A (getItem v (.ref sl)) (EP X pins σ Q) X.xe s
theorem SlR.or {r r' : V → Option Int → Option Int → Hp → VK → Prop} (h : SlR X r) (h' : SlR X r') : SlR X (fun x lo hi H Q => r x lo hi H Q ∨ r' x lo hi H Q) := by
  intro pins s σ H x v vl vu lo hi sl Q I rx hs pl pu q
  rcases q with q | q
  · exact h pins s σ H x v vl vu lo hi sl Q I rx hs pl pu q
  · exact h' pins s σ H x v vl vu lo hi sl Q I rx hs pl pu q
noncomputable def tSl (r : V → Option Int → Option Int → Hp → VK → Prop) (te : TE) (tl th : TO) : TE := fun σ H Q => te σ H fun x H1 => tl σ H1 fun l H2 => th σ H2 fun u H3 => r x l u H3 Q
theorem pe_slice {r : V → Option Int → Option Int → Hp → VK → Prop} (hr : SlR X r) (he : PE X e te) (hl : PO X lo tl) (hu : PO X hi th) : PE X (.Subscript e (.Slice lo hi none p2) pos) (tSl r te tl th) := by
  intro pins s σ H Q I h
  refine Subscript_ (thn (he pins s σ H _ I h) fun v s1 ⟨x, H1, I1, r1, q1⟩ => ?_)
  refine wpAny_Slice (thn (hl pins s1 σ H1 _ I1 q1) fun vl s2 ⟨l, H2, I2, pl, q2⟩ => thn (hu pins s2 σ H2 _ I2 q2) fun vu s3 ⟨u, H3, I3, pu, q3⟩ => ?_)
  rw [evalPart_none]
  refine wpAny_pure ?_
  have I4 : Inv X pins σ H3 { s3 with heap := s3.heap.push { cls := .type "slice", data := .fields #[vl, vu, .none] } } := I3.kept (t' := s3.toks) fun b ob q => Heap.get?_push_of_some _ q
  obtain ⟨T, id, hT, ht, hg⟩ := hr pins { s3 with heap := s3.heap.push { cls := .type "slice", data := .fields #[vl, vu, .none] } } σ H3 x v vl vu l u s3.heap.objs.size Q I4 r1 (Heap.IsSliceOf.new ..) pl pu q3
  show wpAny (model X.prog X.w) X.A (subscriptTail e (.Slice lo hi none p2) v (.ref s3.heap.objs.size)) (EP X pins σ Q) X.xe { s3 with heap := s3.heap.push { cls := .type "slice", data := .fields #[vl, vu, .none] } }
  exact tail_any (ops := [.ref s3.heap.objs.size, v]) ht hT hg (by with_unfolding_all rfl)
noncomputable def cutV (xs : List V) (lo hi : Option Int) : List V := (xs.drop (HT.sIx xs.length 0 lo)).take (HT.sIx xs.length xs.length hi - HT.sIx xs.length 0 lo)
theorem cutV_length (xs : List V) (lo hi : Option Int) : (cutV xs lo hi).length ≤ xs.length := by
  unfold cutV
  rw [List.length_take, List.length_drop]
  omega
noncomputable def rSlT (K : PySem.W.Frag) : V → Option Int → Option Int → Hp → VK → Prop := fun x lo hi H Q => ∃ a xs, x = .ref a ∧ SqT K H a xs ∧
  ¬ (HT.sIx xs.length 0 lo = 0 ∧ HT.sIx xs.length xs.length hi = xs.length) ∧ ∀ p, H p = none → Q (.ref p) (upd H p (.tup (cutV xs lo hi)))
theorem sl_tup : SlR X (rSlT X.K) := by
  intro pins s σ H x v vl vu lo hi sl Q I rx hs pl pu h
  obtain ⟨a, xs, rfl, hx, hw, q⟩ := h
  cases rx
  obtain ⟨its, r, ht, hz⟩ := I.tuple hx
  have hlen : its.toArray.size = xs.length := by rw [List.size_toArray]; exact r.length.symm
  refine ⟨"tuple", _, PyProof.Rows.slot_tuple_getitem.lookup, ht.typeIs, ?_⟩
  refine HT.getItem_tuple_cut ht hs pl pu (by rw [hlen]; exact hw) ?_ (by rw [hlen]; exact hz)
  rw [hlen]
  refine ⟨.ref s.heap.objs.size, _, I.laid (t' := s.toks) (o := .tup (cutV xs lo hi)) (fun b ob q => Heap.get?_push_of_some _ q) (Nat.le_refl _) ?_, rfl, q _ (I.hok.fresh (Nat.le_refl _))⟩
  exact ⟨Nat.le_trans (cutV_length xs lo hi) hz, _, (r.drop (HT.sIx xs.length 0 lo)).take (HT.sIx xs.length xs.length hi - HT.sIx xs.length 0 lo), IsTup.new _ _⟩
noncomputable def rCatT (K : PySem.W.Frag) : R2 := fun x y H Q => ∃ a b xs ys, x = .ref a ∧ y = .ref b ∧ SqT K H a xs ∧ SqT K H b ys ∧ xs ≠ [] ∧ xs.length + ys.length ≤ sizeLine ∧
  (ys = [] → Q (.ref a) H) ∧ (ys ≠ [] → ∀ p, H p = none → Q (.ref p) (upd H p (.tup (xs ++ ys))))
theorem Vals.nil_iff {xs : List V} {us : List Value} (r : Vals xs us) : us = [] ↔ xs = [] := by
  cases r with
  | nil => simp
  | cons _ _ => simp
theorem op_catT : OpR X (binaryOp .Add) (rCatT X.K) := by
  intro pins s σ H x y v u Q I rx ry h
  obtain ⟨a, b, xs, ys, rfl, rfl, ha, hb, hx, hz, q1, q2⟩ := h
  cases rx
  cases ry
  obtain ⟨its, r1, p1, _⟩ := I.tuple ha
  obtain ⟨its2, r2, p2, _⟩ := I.tuple hb
  refine HT.cat_tup p1 p2 (fun z => hx (r1.nil_iff.mp z)) (fun z => ⟨.ref a, H, I, rfl, q1 (r2.nil_iff.mp z)⟩) (fun z => ?_) (by rw [← r1.length, ← r2.length]; exact hz)
  refine ⟨.ref s.heap.objs.size, _, I.laid (t' := s.toks) (o := .tup (xs ++ ys)) (fun b ob q => Heap.get?_push_of_some _ q) (Nat.le_refl _) ?_, rfl, q2 (fun w => z (r2.nil_iff.mpr w)) _ (I.hok.fresh (Nat.le_refl _))⟩
  exact ⟨by rw [List.length_append]; exact hz, _, r1.append r2, IsTup.new _ _⟩
end
end L2
namespace L2
open PySem PySem.Spec PyProof.Rows
noncomputable def ixN (n : Nat) (i : Int) : Option Nat := if 0 ≤ i then (if i < n then some i.toNat else none) else if -(n : Int) ≤ i then some (i + n).toNat else none
noncomputable def atI {α : Type} (xs : List α) (i : Int) : Option α := (ixN xs.length i).bind fun j => xs[j]?
theorem ixN_seq {n : Nat} {i : Int} {j : Nat} (h : ixN n i = some j) : seqIndex? i n = some j ∧ j < n ∧ -(n : Int) ≤ i ∧ i < n := by
  unfold ixN at h
  by_cases h0 : 0 ≤ i
  · rw [if_pos h0] at h
    by_cases h1 : i < n
    · rw [if_pos h1] at h
      have e : i.toNat = j := Option.some.inj h
      exact ⟨by rw [seqIndex_of h0 h1, e], by omega, by omega, h1⟩
    · rw [if_neg h1] at h; cases h
  · rw [if_neg h0] at h
    by_cases h1 : -(n : Int) ≤ i
    · rw [if_pos h1] at h
      have e : (i + n).toNat = j := Option.some.inj h
      exact ⟨by rw [seqIndex_neg (by omega) h1, e], by omega, h1, by omega⟩
    · rw [if_neg h1] at h; cases h
theorem atI_get {α : Type} {xs : List α} {i : Int} {v : α} (h : atI xs i = some v) : ∃ j, seqIndex? i xs.length = some j ∧ xs[j]? = some v ∧ j < xs.length ∧ -(xs.length : Int) ≤ i ∧ i < xs.length := by
  unfold atI at h
  cases e : ixN xs.length i with
  | none => rw [e] at h; cases h
  | some j =>
    rw [e] at h
    obtain ⟨h1, h2, h3, h4⟩ := ixN_seq e
    exact ⟨j, h1, h, h2, h3, h4⟩
theorem atI_nat {α : Type} {xs : List α} {j : Nat} {v : α} (h : xs[j]? = some v) : atI xs (j : Int) = some v := by
  have hj : j < xs.length := (List.getElem?_eq_some_iff.mp h).1
  have e : ixN xs.length (j : Int) = some j := by
    unfold ixN
    rw [if_pos (by omega), if_pos (by omega)]; simp
  unfold atI; rw [e]; exact h
noncomputable def PlainIx (b : Expr) : Prop := ∀ o i, subscripted b false o i = operate [o, i] (getItem o i)
noncomputable def IxR (X : Cx) (r : R2) : Prop :=
  ∀ (value slice : Expr) (pins : List (Addr × Obj)) (s : Shared) (σ : St) (H : Hp) (x y : V) (v u : Value) (Q : VK), Inv X pins σ H s → RelV x v → RelV y u → r x y H Q →
    subscripted slice false v u = operate [v, u] (getItem v u) → wpAny (model X.prog X.w) X.A (subscriptTail value slice v u) (EP X pins σ Q) X.xe s
noncomputable def MtR (X : Cx) (id : String) (r : V → List V → Hp → VK → Prop) : Prop :=
  ∀ (pins : List (Addr × Obj)) (s : Shared) (σ : St) (H : Hp) (x : V) (xs : List V) (v : Value) (us : List Value) (Q : VK), Inv X pins σ H s → RelV x v → Vals xs us → r x xs H Q →
    wpAny (model X.prog X.w) X.A (call (.builtin id) (v :: us)) (EP X pins σ Q) X.xe s
section
variable {X : Cx} {a b : Expr} {ta tb : TE} {pos : Pos}
theorem IxR.or {r r' : R2} (h : IxR X r) (h' : IxR X r') : IxR X (fun x y H Q => r x y H Q ∨ r' x y H Q) := by
  intro value slice pins s σ H x y v u Q I rx ry q hs
  rcases q with q | q
  · exact h value slice pins s σ H x y v u Q I rx ry q hs
  · exact h' value slice pins s σ H x y v u Q I rx ry q hs
theorem MtR.or {id : String} {r r' : V → List V → Hp → VK → Prop} (h : MtR X id r) (h' : MtR X id r') : MtR X id (fun x xs H Q => r x xs H Q ∨ r' x xs H Q) := by
  intro pins s σ H x xs v us Q I rx rs q
  rcases q with q | q
  · exact h pins s σ H x xs v us Q I rx rs q
  · exact h' pins s σ H x xs v us Q I rx rs q
theorem pe_ix {r : R2} (hr : IxR X r) (ha : PE X a ta) (hb : PE X b tb) (hs : PlainIx b) : PE X (.Subscript a b pos) (tOp r ta tb) := by
  intro pins s σ H Q I h
  exact Subscript_ (binT ha hb I h fun v u s2 x y H2 I2 rx ry q => hr a b pins s2 σ H2 x y v u Q I2 rx ry q (hs _ _))
noncomputable def rIxL (K : PySem.W.Frag) : R2 := fun x y H Q => ∃ p xs i v, x = .ref p ∧ y = .int i ∧ SqL K H p xs ∧ atI xs i = some v ∧ Q v H
noncomputable def rIxT (K : PySem.W.Frag) : R2 := fun x y H Q => ∃ p xs i v, x = .ref p ∧ y = .int i ∧ SqT K H p xs ∧ atI xs i = some v ∧ Q v H
noncomputable def rIxS : R2 := fun x y H Q => ∃ z i c, x = .str z ∧ y = .int i ∧ z.length ≤ sizeLine ∧ atI z.cps.toList i = some c ∧ Q (.str ⟨#[c]⟩) H
theorem ix_list : IxR X (rIxL X.K) := by
  intro value slice pins s σ H x y v u Q I rx ry h hs
  obtain ⟨p, xs, i, z, rfl, rfl, hq, he, q⟩ := h
  cases rx
  obtain ⟨t, rfl⟩ := ry
  obtain ⟨its, r, pl, hz⟩ := I.list hq
  obtain ⟨j, h1, h2, h3, h4, h5⟩ := atI_get he
  obtain ⟨w, ew, rw'⟩ := r.get h2
  have hl := r.length
  have hn := line63
  have fin : EP X pins σ Q w s := ⟨z, H, I, rw', q⟩
  by_cases h0 : 0 ≤ i
  · have hj : i.toNat = j := by
      rw [seqIndex_of h0 h5] at h1
      exact Option.some.inj h1
    exact item_listR pl.isList h0 (by omega) (by rw [hj]; simpa using ew) fin hs
  · have hj : (i + (its.toArray.size : Int)).toNat = j := by
      rw [seqIndex_neg (by omega) h4] at h1
      rw [List.size_toArray, ← hl]
      exact Option.some.inj h1
    exact subscriptTail_builtinR (x := w) pl.isList.typeIs slot_list_getitem.lookup
      (wpAny_getItem_list_neg (Q := fun r s' => r = w ∧ EP X pins σ Q r s') pl.isList (by omega) (by rw [List.size_toArray] <;> omega) (by omega) (by rw [hj]; simpa using ew) ⟨rfl, fin⟩) hs
theorem ix_tup : IxR X (rIxT X.K) := by
  intro value slice pins s σ H x y v u Q I rx ry h hs
  obtain ⟨p, xs, i, z, rfl, rfl, hq, he, q⟩ := h
  cases rx
  obtain ⟨t, rfl⟩ := ry
  obtain ⟨its, r, pl, hz⟩ := I.tuple hq
  obtain ⟨j, h1, h2, h3, h4, h5⟩ := atI_get he
  obtain ⟨w, ew, rw'⟩ := r.get h2
  have hl := r.length
  have hn := line63
  have fin : EP X pins σ Q w s := ⟨z, H, I, rw', q⟩
  exact subscriptTail_builtinR (x := w) pl.typeIs slot_tuple_getitem.lookup
    (getItem_tuple (j := j) (Q := fun r s' => r = w ∧ EP X pins σ Q r s') pl (by omega) (by omega) (by rw [List.size_toArray, ← hl]; exact h1) (by simpa using ew) ⟨rfl, fin⟩) hs
theorem ix_str : IxR X rIxS := by
  intro value slice pins s σ H x y v u Q I rx ry h hs
  obtain ⟨z, i, c, rfl, rfl, hz, he, q⟩ := h
  obtain ⟨t, rfl⟩ := rx
  obtain ⟨t', rfl⟩ := ry
  obtain ⟨j, h1, h2, h3, h4, h5⟩ := atI_get he
  have hl : z.cps.toList.length = z.length := by simp [Str.length]
  rw [hl] at h1 h4 h5
  have hn := line63
  exact tail_any (typeIs_str s z t) slot_str_getitem.lookup (getItem_str (c := c) (by
    have e1 : decide (i < -(2 ^ 63 : Int)) = false := decide_eq_false (by omega)
    have e2 : decide (i ≥ 2 ^ 63) = false := decide_eq_false (by omega)
    rw [e1, e2, Bool.or_false]) (by rw [h1]; simpa using h2) ⟨.str ⟨#[c]⟩, H, I.tok _, ⟨_, rfl⟩, q⟩) hs
noncomputable def rIx (K : PySem.W.Frag) : R2 := fun x y H Q => rIxL K x y H Q ∨ rIxT K x y H Q ∨ rIxS x y H Q
theorem ix_seq : IxR X (rIx X.K) := ix_list.or (ix_tup.or ix_str)
theorem mapSeq_set (its : List Value) (n j : Nat) (u : Value) : Obj.mapSeq (·.setIfInBounds j u) { cls := .type "list", data := .seq its.toArray n } = { cls := .type "list", data := .seq (its.set j u).toArray n } := by
  simp [Obj.mapSeq]
theorem Inv.lst {pins : List (Addr × Obj)} {σ : St} {H : Hp} {s : Shared} {p : Addr} {xs : List V} (I : Inv X pins σ H s) (h : H p = some (.lst xs)) :
    ∃ (its : List Value) (n : Nat), Vals xs its ∧ s.heap.get? p = some { cls := .type "list", data := .seq its.toArray n } ∧ xs.length ≤ sizeLine := by
  obtain ⟨z, its, n, r, e⟩ := I.hok p _ h
  exact ⟨its, n, r, e, z⟩
theorem Inv.lstUpd {pins : List (Addr × Obj)} {σ : St} {H : Hp} {s : Shared} {p : Addr} {xs ys : List V} {its its' : List Value} {n n' : Nat} {f : Obj → Obj} (I : Inv X pins σ H s) (h : H p = some (.lst xs))
    (ho : s.heap.get? p = some { cls := .type "list", data := .seq its.toArray n }) (hf : f { cls := .type "list", data := .seq its.toArray n } = { cls := .type "list", data := .seq its'.toArray n' }) (r : Vals ys its') (hz : ys.length ≤ sizeLine) (t : Nat) :
    Inv X pins σ (upd H p (.lst ys)) { s with heap := s.heap.update p f, toks := t } := by
  have e : (s.heap.update p f).get? p = some { cls := .type "list", data := .seq its'.toArray n' } := by
    rw [Heap.get?_update_self f ho (by rw [hf] <;> rfl), hf]
  refine I.write (x := p) (e := p) (by rw [h]; trivial) (.inl rfl) (fun b u hb q => (Heap.get?_update_other _ _ (Ne.symm hb)).trans q) ⟨_, e⟩ ?_
  exact ⟨hz, its', n', r, e⟩
noncomputable def rSetL : V → V → V → Hp → (Hp → Prop) → Prop := fun o i v H Q => ∃ p xs k j, o = .ref p ∧ i = .int k ∧ H p = some (.lst xs) ∧ ixN xs.length k = some j ∧ Q (upd H p (.lst (xs.set j v)))
theorem set_list : PSet X rSetL := by
  intro pins s σ H o i v ov iv u Q I ro ri rv h
  obtain ⟨p, xs, k, j, rfl, rfl, hp, hj, q⟩ := h
  cases ro
  obtain ⟨t, rfl⟩ := ri
  obtain ⟨its, n, r, ho, hz⟩ := I.lst hp
  obtain ⟨h1, h2, h3, h4⟩ := ixN_seq hj
  have hl := r.length
  have hn := line63
  have I' : Inv X pins σ (upd H p (.lst (xs.set j v))) { s with heap := s.heap.update p (Obj.mapSeq (·.setIfInBounds j u)) } :=
    I.lstUpd hp ho (mapSeq_set its n j u) (r.set rv j) (by rw [List.length_set]; exact hz) s.toks
  by_cases h0 : 0 ≤ k
  · have hk : k.toNat = j := by
      rw [seqIndex_of h0 h4] at h1
      exact Option.some.inj h1
    exact PySem.W.ki_setAt ho h0 (by omega) (by rw [List.size_toArray, ← hl]; exact h4) (by rw [hk]; exact ⟨_, I', q⟩)
  · have hk : (k + (its.toArray.size : Int)).toNat = j := by
      rw [seqIndex_neg (by omega) h3] at h1
      rw [List.size_toArray, ← hl]
      exact Option.some.inj h1
    exact PySem.W.ki_setBack ho (by omega) (by rw [List.size_toArray, ← hl]; exact h3) (by omega) (by rw [hk]; exact ⟨_, I', q⟩)
theorem slice_bounds (lo hi : Option Int) (n : Nat) : (sliceBounds lo hi none n).1 = ((HT.sIx n 0 lo : Nat) : Int) ∧ (sliceBounds lo hi none n).2.1 = ((HT.sIx n n hi : Nat) : Int) ∧ (sliceBounds lo hi none n).2.2 = 1 := by
  refine ⟨?_, ?_, rfl⟩
  · cases lo with
    | none => simp [sliceBounds, HT.sIx]
    | some i =>
      simp only [sliceBounds, HT.sIx, Option.getD_none, show (1 : Int) > 0 by decide, if_true]
      by_cases h : i < 0
      · simp only [h, if_true] <;> omega
      · simp only [h, if_false] <;> omega
  · cases hi with
    | none => simp [sliceBounds, HT.sIx]
    | some i =>
      simp only [sliceBounds, HT.sIx, Option.getD_none, show (1 : Int) > 0 by decide, if_true]
      by_cases h : i < 0
      · simp only [h, if_true] <;> omega
      · simp only [h, if_false] <;> omega
theorem slicePick_cut (its : List Value) (lo hi : Option Int) : slicePick its.toArray lo hi none = ((its.drop (HT.sIx its.length 0 lo)).take (HT.sIx its.length its.length hi - HT.sIx its.length 0 lo)).toArray := by
  obtain ⟨h1, h2, h3⟩ := slice_bounds lo hi its.toArray.size
  unfold slicePick
  rw [h1, h2, h3]
  simp only [sliceRange_one, pick_run, List.size_toArray] <;> rfl
noncomputable def rSlL (K : PySem.W.Frag) : V → Option Int → Option Int → Hp → VK → Prop := fun x lo hi H Q => ∃ a xs, x = .ref a ∧ SqL K H a xs ∧ ∀ p, H p = none → Q (.ref p) (upd H p (.lst (cutV xs lo hi)))
theorem sl_list : SlR X (rSlL X.K) := by
  intro pins s σ H x v vl vu lo hi sl Q I rx hs pl pu h
  obtain ⟨a, xs, rfl, hx, q⟩ := h
  cases rx
  obtain ⟨its, r, ht, hz⟩ := I.list hx
  have hlen := r.length
  refine ⟨"list", _, slot_list_getitem.lookup, ht.isList.typeIs, ?_⟩
  refine wpAny_getItem_list_slice ht.isList hs pl pu .none (by simp) ?_ (by rw [List.size_toArray] <;> omega)
  rw [slicePick_cut, ← hlen]
  refine ⟨.ref s.heap.objs.size, _, I.laid (t' := s.toks) (o := .lst (cutV xs lo hi)) (fun b ob q => Heap.get?_push_of_some _ q) (Nat.le_refl _) ?_, rfl, q _ (I.hok.fresh (Nat.le_refl _))⟩
  exact ⟨Nat.le_trans (cutV_length xs lo hi) hz, _, 0, (r.drop (HT.sIx xs.length 0 lo)).take (HT.sIx xs.length xs.length hi - HT.sIx xs.length 0 lo), Heap.get?_push_size _ rfl⟩
noncomputable def flatV : V → Bool
  | .non => true
  | .bl _ => true
  | .int _ => true
  | .str _ => true
  | _ => false
noncomputable def eqV : V → V → Bool
  | .non, .non => true
  | .bl a, .bl b => a == b
  | .bl a, .int b => (if a then 1 else 0) == b
  | .int a, .bl b => a == (if b then 1 else 0)
  | .int a, .int b => a == b
  | .str a, .str b => a == b
  | _, _ => false
theorem eqAt_V {A : Around} {s : Shared} {y x : V} {u v : Value} (ry : RelV y u) (rx : RelV x v) (fy : flatV y = true) (fx : flatV x = true) : SeqAt.EqAt A s u v (eqV y x) := by
  cases y with
  | non =>
    cases ry
    cases x with
    | non => cases rx; exact SeqAt.EqAt.same _
    | bl b => cases rx; exact SeqAt.EqAt.none_bool b
    | int b => obtain ⟨t, rfl⟩ := rx; exact SeqAt.EqAt.none_int b t
    | str b => obtain ⟨t, rfl⟩ := rx; exact SeqAt.EqAt.none_str b t
    | _ => exact absurd (show false = true from fx) Bool.false_ne_true
  | bl a =>
    cases ry
    cases x with
    | non => cases rx; exact SeqAt.EqAt.bool_none a
    | bl b => cases rx; exact SeqAt.EqAt.bool_bool a b
    | int b => obtain ⟨t, rfl⟩ := rx; exact SeqAt.EqAt.bool_int a b t
    | str b => obtain ⟨t, rfl⟩ := rx; exact SeqAt.EqAt.bool_str a b t
    | _ => exact absurd (show false = true from fx) Bool.false_ne_true
  | int a =>
    obtain ⟨t', rfl⟩ := ry
    cases x with
    | non => cases rx; exact SeqAt.EqAt.int_none a t'
    | bl b => cases rx; exact SeqAt.EqAt.int_bool a t' b
    | int b => obtain ⟨t, rfl⟩ := rx; exact SeqAt.EqAt.int_int a t' b t
    | str b => obtain ⟨t, rfl⟩ := rx; exact SeqAt.EqAt.int_str a t' b t
    | _ => exact absurd (show false = true from fx) Bool.false_ne_true
  | str a =>
    obtain ⟨t', rfl⟩ := ry
    cases x with
    | non => cases rx; exact SeqAt.EqAt.str_none a t'
    | bl b => cases rx; exact SeqAt.EqAt.str_bool a t' b
    | int b => obtain ⟨t, rfl⟩ := rx; exact SeqAt.EqAt.str_int a t' b t
    | str b => obtain ⟨t, rfl⟩ := rx; exact SeqAt.EqAt.str_str a t' b t
    | _ => exact absurd (show false = true from fx) Bool.false_ne_true
  | _ => exact absurd (show false = true from fy) Bool.false_ne_true
noncomputable def eqU (x : V) (u : Value) : Bool := match u with
  | .none => eqV .non x
  | .bool b => eqV (.bl b) x
  | .int i _ => eqV (.int i) x
  | .str z _ => eqV (.str z) x
  | _ => false
theorem eqU_of {x y : V} {u : Value} (r : RelV y u) (f : flatV y = true) : eqU x u = eqV y x := by
  cases y with
  | non => cases r; rfl
  | bl b => cases r; rfl
  | int i => obtain ⟨t, rfl⟩ := r; rfl
  | str z => obtain ⟨t, rfl⟩ := r; rfl
  | _ => exact absurd (show false = true from f) Bool.false_ne_true
theorem any_eqU {x : V} : ∀ {xs : List V} {us : List Value}, Vals xs us → xs.all flatV = true → us.any (eqU x) = xs.any fun y => eqV y x
  | _, _, .nil, _ => rfl
  | y :: xs, u :: us, .cons r t, f => by
    rw [List.all_cons, Bool.and_eq_true] at f
    rw [List.any_cons, List.any_cons, eqU_of r f.1, any_eqU t f.2]
theorem mem_eqAt {A : Around} {s : Shared} {x : V} {v : Value} (rx : RelV x v) (fx : flatV x = true) : ∀ {xs : List V} {us : List Value}, Vals xs us → xs.all flatV = true → ∀ u ∈ us, SeqAt.EqAt A s u v (eqU x u)
  | _, _, .nil, _ => fun u hu => by cases hu
  | y :: xs, u :: us, .cons r t, f => fun u' hu => by
    rw [List.all_cons, Bool.and_eq_true] at f
    rcases List.mem_cons.mp hu with rfl | hu
    · rw [eqU_of r f.1]; exact eqAt_V r rx f.1 fx
    · exact mem_eqAt rx fx t f.2 u' hu
noncomputable def inV (x : V) (xs : List V) : Bool := xs.any fun y => eqV y x
noncomputable def rIn (K : PySem.W.Frag) (neg : Bool) : R2 := fun x y H Q => ∃ p xs, y = .ref p ∧ (SqL K H p xs ∨ SqT K H p xs) ∧ flatV x = true ∧ xs.all flatV = true ∧ Q (.bl (if neg then !inV x xs else inV x xs)) H
theorem op_in_seq : OpR X (compareOp .In) (rIn X.K false) := by
  intro pins s σ H x y v u Q I rx ry h
  obtain ⟨p, xs, rfl, hq, fx, fs, q⟩ := h
  cases ry
  rcases hq with hq | hq
  · obtain ⟨its, r, pl, hz⟩ := I.list hq
    refine SeqAt.in_listAt (eqU x) pl.isList (fun w hw => mem_eqAt rx fx r fs w (by simpa using hw)) ⟨.bl _, H, I, rfl, ?_⟩
    rw [show its.toArray.any (eqU x) = its.any (eqU x) by simp, any_eqU r fs]
    exact q
  · obtain ⟨its, r, pl, hz⟩ := I.tuple hq
    refine SeqAt.in_tupleAt (eqU x) pl (fun w hw => mem_eqAt rx fx r fs w (by simpa using hw)) ⟨.bl _, H, I, rfl, ?_⟩
    rw [show its.toArray.any (eqU x) = its.any (eqU x) by simp, any_eqU r fs]
    exact q
theorem CallR.or {f : Value} {r r' : List V → Hp → VK → Prop} (h : CallR X f r) (h' : CallR X f r') : CallR X f (fun xs H Q => r xs H Q ∨ r' xs H Q) := by
  intro pins s σ H xs us Q I rs q
  rcases q with q | q
  · exact h pins s σ H xs us Q I rs q
  · exact h' pins s σ H xs us Q I rs q
theorem call_list_of : CallR X (.type "list") (fun xs H Q => ∃ p ys, xs = [.ref p] ∧ (SqL X.K H p ys ∨ SqT X.K H p ys) ∧ ∀ l, H l = none → Q (.ref l) (upd H l (.lst ys))) := by
  intro pins s σ H xs us Q I r h
  obtain ⟨p, ys, rfl, hq, q⟩ := h
  obtain ⟨u, rfl, rx⟩ := vals1 r
  cases rx
  have fin : ∀ (its : List Value), Vals ys its → ys.length ≤ sizeLine → ∀ (h' : Heap) (c' : Nat), (∀ b o', s.heap.get? b = some o' → h'.get? b = some o') →
      h'.get? s.heap.objs.size = some { cls := .type "list", dict := none, data := .seq its.toArray c', slots := #[] } → EP X pins σ Q (.ref s.heap.objs.size) { s with heap := h' } := fun its r' hz h' c' kp e =>
    ⟨.ref s.heap.objs.size, _, I.laid (t' := s.toks) kp (Nat.le_refl _) (show ObjOk X.prog X.w _ h' _ (.lst ys) from ⟨hz, its, c', r', e⟩), rfl, q _ (I.hok.fresh (Nat.le_refl _))⟩
  rcases hq with hq | hq
  · obtain ⟨its, r', pl, hz⟩ := I.list hq
    have hlen := r'.length
    obtain ⟨o, ho, hc, n, hd⟩ := pl.isList
    exact call_list_seq p (.inl rfl) ho hc hd (fun h' c' kp e => fin its r' hz h' c' kp e) (by simp only [List.size_toArray] <;> omega)
  · obtain ⟨its, r', pl, hz⟩ := I.tuple hq
    have hlen := r'.length
    obtain ⟨o, ho, hc, n, hd⟩ := pl
    exact call_list_seq p (.inr rfl) ho hc hd (fun h' c' kp e => fin its r' hz h' c' kp e) (by simp only [List.size_toArray] <;> omega)
noncomputable def tyV (K : PySem.W.Frag) (T : String) (x : V) (H : Hp) : Prop := match x with
  | .str _ => T = "str"
  | .int _ => T = "int"
  | .ref p => (T = "list" ∧ ∃ xs, SqL K H p xs) ∨ (T = "tuple" ∧ ∃ o, K.lookup p = some o ∧ o.cls = .type "tuple" ∧ o.dict = none) ∨
      (T = "dict" ∧ ((∃ kvs, H p = some (.dK kvs)) ∨ ∃ kvs, H p = some (.dT kvs))) ∨ (T = "set" ∧ ∃ S n, H p = some (.set S n))
  | _ => False
theorem tyV_is {pins : List (Addr × Obj)} {σ : St} {H : Hp} {s : Shared} {T : String} {x : V} {v : Value} (I : Inv X pins σ H s) (r : RelV x v) (ty : tyV X.K T x H) :
    s.TypeIs v T ∧ ∀ a, v = .ref a → ∃ ob, s.heap.get? a = some ob ∧ ob.dict = none := by
  cases x with
  | str z =>
    obtain ⟨t, rfl⟩ := r
    cases (show T = "str" from ty)
    exact ⟨typeIs_str s z t, fun _ e => nomatch e⟩
  | int i =>
    obtain ⟨t, rfl⟩ := r
    cases (show T = "int" from ty)
    exact ⟨typeIs_int s i t, fun _ e => nomatch e⟩
  | ref p =>
    cases r
    rcases ty with ⟨rfl, xs, hq⟩ | ⟨rfl, o, hk, hc, hd⟩ | ⟨rfl, hk⟩ | ⟨rfl, S, n, hk⟩
    · obtain ⟨its, _, pl, _⟩ := I.list hq
      refine ⟨pl.isList.typeIs, fun a e => ?_⟩
      cases e
      obtain ⟨o, n, e, c, hd, _⟩ := pl
      exact ⟨o, e, hd⟩
    · refine ⟨⟨o, I.kIn p o hk, hc⟩, fun a e => ?_⟩
      cases e
      exact ⟨o, I.kIn _ o hk, hd⟩
    · have z : ∃ o, s.heap.get? p = some o ∧ o.ExactDict := by
        rcases hk with ⟨kvs, hk⟩ | ⟨kvs, hk⟩
        · obtain ⟨_, _, _, _, o, _, _, e, ex, _⟩ := I.hok p _ hk
          exact ⟨o, e, ex⟩
        · obtain ⟨_, _, _, _, o, _, _, e, ex, _⟩ := I.hok p _ hk
          exact ⟨o, e, ex⟩
      obtain ⟨o, e, ex⟩ := z
      refine ⟨⟨o, e, ex.1⟩, fun a e2 => ?_⟩
      cases e2
      exact ⟨o, e, ex.2.1⟩
    · obtain ⟨o, _, _, _, e, ex, _⟩ := I.hok p _ hk
      refine ⟨⟨o, e, ex.1⟩, fun a e2 => ?_⟩
      cases e2
      exact ⟨o, e, ex.2.1⟩
  | _ => exact False.elim ty
noncomputable def tBM0 (K : PySem.W.Frag) (T : String) (r : V → List V → Hp → VK → Prop) (to : TE) : TE := fun σ H Q => to σ H fun x H1 => tyV K T x H1 ∧ r x [] H1 Q
noncomputable def tBM (K : PySem.W.Frag) (T : String) (r : V → List V → Hp → VK → Prop) (to : TE) (t : TA) : TE := fun σ H Q => to σ H fun x H1 => tyV K T x H1 ∧ t σ H1 fun xs H2 => r x xs H2 Q
variable {o e : Expr} {es : List Expr} {to : TE} {t : TA} {name : Str} {apos cpos : Pos} {T id : String} {r : V → List V → Hp → VK → Prop}
theorem pe_bm0 (pa : PlainAttrs T) (slot : Slot T name id) (hty : typeOf (.builtin id) = pure (.type "method_descriptor")) (hm : MtR X id r) (ho : PE X o to)
    (hbase : attributeBase o name X.env (eval o X.env) = eval o X.env := by rfl) (hline : (apos.endLine == cpos.line) = true := by rfl) : PE X (.Call (.Attribute o name apos) [] [] cpos) (tBM0 X.K T r to) := by
  intro pins s σ H Q I h
  refine wpAny_Call_method0_late hbase hline (thn (ho pins s σ H _ I h) fun v s1 ⟨x, H1, I1, r1, ty, q1⟩ => ?_)
  obtain ⟨h1, h2⟩ := tyV_is I1 r1 ty
  exact ⟨T, id, pa, slot, hty, h1, h2, Calls.callWith_builtin rfl (PySem.evalArgs_none (hm pins s1 σ H1 x [] v [] Q I1 r1 .nil q1))⟩
theorem pe_bm (pa : PlainAttrs T) (slot : Slot T name id) (hty : typeOf (.builtin id) = pure (.type "method_descriptor")) (hm : MtR X id r) (ho : PE X o to) (ha : PA X (e :: es) t)
    (hbase : attributeBase o name X.env (eval o X.env) = eval o X.env := by rfl)
    (hfew : ((backTo cpos (starEach (e :: es) X.env)).all (fun x => !x.1) && (backToKw cpos (keywordEach [] X.env)).all (fun x => x.1.isSome)
      && decide ((e :: es).length + ([] : List Keyword).length + (if ([] : List Keyword).isEmpty then 0 else 1) < 30)) = true := by rfl)
    (hline : (apos.endLine == cpos.line) = true := by rfl) (hs : starEach (e :: es) X.env = (false, eval e X.env) :: starEach es X.env := by rfl) (hplain : (backTo cpos (starEach es X.env)).any (·.1) = false := by rfl) :
    PE X (.Call (.Attribute o name apos) (e :: es) [] cpos) (tBM X.K T r to t) := by
  intro pins s σ H Q I h
  refine wpAny_Call_method_late hbase hfew hline rfl (thn (ho pins s σ H _ I h) fun v s1 ⟨x, H1, I1, r1, ty, q1⟩ => ?_)
  obtain ⟨h1, h2⟩ := tyV_is I1 r1 ty
  refine ⟨T, id, pa, slot, hty, h1, h2, ?_⟩
  have hA := ha cpos pins s1 σ H1 _ I1 q1
  rw [hs] at hA ⊢
  refine Calls.callWith_builtin (by show (false || (backTo cpos (starEach es X.env)).any (·.1)) = false; rw [hplain] <;> rfl) (Calls.evalArgs_plain ?_)
  exact thn hA fun us s2 ⟨vs, H2, I2, r2, q2⟩ => hm pins s2 σ H2 x vs v us Q I2 r1 r2 q2
end
end L2
namespace L2
open PySem PySem.Spec PyProof.Rows
noncomputable def MtM (X : Cx) (id : String) (r : V → List V → Hp → VK → Prop) : Prop :=
  ∀ (pins : List (Addr × Obj)) (s : Shared) (σ : St) (H : Hp) (x : V) (xs : List V) (v : Value) (us : List Value) (Q : VK), Inv X pins σ H s → RelV x v → Vals xs us → r x xs H Q →
    wpAny (model X.prog X.w) X.A (call (.builtin id) (v :: us)) (EP X pins σ Q) X.xe s
theorem Vals.one : ∀ {x : V} {us : List Value}, Vals [x] us → ∃ u, us = [u] ∧ RelV x u
  | _, _, .cons r .nil => ⟨_, rfl, r⟩
theorem Vals.two : ∀ {x y : V} {us : List Value}, Vals [x, y] us → ∃ u v, us = [u, v] ∧ RelV x u ∧ RelV y v
  | _, _, _, .cons r (.cons q .nil) => ⟨_, _, rfl, r, q⟩
theorem Vals.zero : ∀ {us : List Value}, Vals [] us → us = []
  | _, .nil => rfl
theorem Vals.dropLast {xs : List V} {us : List Value} (h : Vals xs us) : Vals xs.dropLast us.dropLast := by
  induction h with
  | nil => exact .nil
  | cons r t ih =>
    cases t with
    | nil => exact .nil
    | cons q t' => exact .cons r ih
theorem Vals.rep {xs : List V} {us : List Value} (h : Vals xs us) : ∀ k : Nat, Vals (List.replicate k xs).flatten (List.replicate k us).flatten
  | 0 => .nil
  | k + 1 => by
    rw [List.replicate_succ, List.replicate_succ, List.flatten_cons, List.flatten_cons]
    exact Vals.append h (Vals.rep h k)
section
variable {X : Cx} {pins : List (Addr × Obj)} {σ : St} {H : Hp} {s : Shared} {l b : Addr} {xs ys zs : List V}
theorem Inv.lset {its its' : List Value} {n : Nat} {f : Array Value → Array Value} {t' : Nat} (I : Inv X pins σ H s) (hH : H l = some (.lst xs))
    (e : s.heap.get? l = some { cls := .type "list", data := .seq its.toArray n }) (hf : f its.toArray = its'.toArray) (hv : Vals ys its') (hz : ys.length ≤ sizeLine) :
    Inv X pins σ (upd H l (.lst ys)) { s with heap := s.heap.update l (Obj.mapSeq f), toks := t' } := by
  have q := PySem.IsL.update e f
  rw [hf] at q
  refine I.write (x := l) (e := l) (by rw [hH]; exact trivial) (.inl rfl) (fun b' u hb hu => (Heap.get?_update_other s.heap (Obj.mapSeq f) (Ne.symm hb)).trans hu) ⟨_, q⟩ ?_
  exact ⟨hz, its', _, hv, q⟩
theorem Inv.lnew {its : List Value} {t' : Nat} (I : Inv X pins σ H s) (hv : Vals ys its) (hz : ys.length ≤ sizeLine) :
    Inv X pins σ (upd H s.heap.objs.size (.lst ys)) { s with heap := s.heap.push { cls := .type "list", data := .seq its.toArray }, toks := t' } :=
  I.laid (fun _ _ q => Heap.get?_push_of_some _ q) (Nat.le_refl _) ⟨hz, its, 0, hv, Heap.get?_push_size _ rfl⟩
theorem Inv.fresh (I : Inv X pins σ H s) : H s.heap.objs.size = none := I.hok.fresh (Nat.le_refl _)
theorem Inv.lstM (I : Inv X pins σ H s) (hH : H l = some (.lst xs)) : xs.length ≤ sizeLine ∧ ∃ (its : List Value) (n : Nat), Vals xs its ∧ xs.length = its.length ∧ s.heap.get? l = some { cls := .type "list", data := .seq its.toArray n } := by
  obtain ⟨z, its, n, r, e⟩ := I.hok l _ hH
  exact ⟨z, its, n, r, r.length, e⟩
end
section
variable {X : Cx}
noncomputable def rAppend : V → List V → Hp → VK → Prop := fun x vs H Q => ∃ l xs y, x = .ref l ∧ vs = [y] ∧ H l = some (.lst xs) ∧ xs.length < sizeLine ∧ Q .non (upd H l (.lst (xs ++ [y])))
theorem mt_append : MtM X "list.append" rAppend := by
  intro pins s σ H x vs v us Q I rx rv h
  obtain ⟨l, xs, y, rfl, rfl, hH, hz, q⟩ := h
  cases rx
  obtain ⟨u, rfl, ru⟩ := rv.one
  obtain ⟨z, its, n, r, hl, e⟩ := I.lstM hH
  refine call_meets F.slot_list_append ⟨_, e, rfl⟩ F.entry_list_append (F.args_list_append_2 _ _) (PySem.list_append l its.toArray n u (by rw [List.size_toArray]; omega)) ⟨e, ?_⟩
  refine ⟨.non, _, I.lset (its' := its ++ [u]) hH e (by simp) (r.append (.cons ru .nil)) ?_, rfl, q⟩
  rw [List.length_append, List.length_singleton]
  omega
end
section
variable {prog : Program} {w : World} {A : Around} {E : Value → Shared → Prop} {s : Shared}
end
section
variable {X : Cx}
end
end L2
namespace L2
open PySem PySem.Spec PyProof.Rows
section
variable {κ : Type} [DecidableEq κ]
noncomputable def valV (kvs : List (κ × V)) (k : κ) : Option V := (kvs.find? fun kv => decide (kv.1 = k)).map (·.2)
noncomputable def putK (kvs : List (κ × V)) (k : κ) (v : V) : List (κ × V) :=
  if (kvs.any fun kv => decide (kv.1 = k)) = true then kvs.map (fun kv => if kv.1 = k then (kv.1, v) else kv) else kvs ++ [(k, v)]
noncomputable def dropK (kvs : List (κ × V)) (k : κ) : List (κ × V) := kvs.filter fun kv => decide (kv.1 ≠ k)
theorem valV_pos {p : κ × V} {r : List (κ × V)} {k : κ} (e : p.1 = k) : valV (p :: r) k = some p.2 := by simp [valV, List.find?_cons, e]
theorem valV_neg {p : κ × V} {r : List (κ × V)} {k : κ} (e : ¬ p.1 = k) : valV (p :: r) k = valV r k := by simp [valV, List.find?_cons, e]
theorem valV_any (k : κ) : ∀ kvs : List (κ × V), (kvs.any fun kv => decide (kv.1 = k)) = (valV kvs k).isSome
  | [] => rfl
  | p :: r => by
    rw [List.any_cons]
    by_cases e : p.1 = k
    · simp only [valV_pos e, decide_eq_true e, Bool.true_or, Option.isSome_some]
    · rw [valV_neg e, decide_eq_false e, Bool.false_or]; exact valV_any k r
theorem RelO.isSome_eq {o : Option V} {u : Option Value} (r : RelO o u) : o.isSome = u.isSome := by
  cases o with
  | none => cases u with
    | none => rfl
    | some _ => exact (show False from r).elim
  | some _ => cases u with
    | none => exact (show False from r).elim
    | some _ => rfl
theorem RelO.getD {o : Option V} {u : Option Value} {d : V} {d' : Value} (r : RelO o u) (rd : RelV d d') : RelV (o.getD d) (u.getD d') := by
  cases o with
  | none => cases u with
    | none => exact rd
    | some _ => exact (show False from r).elim
  | some _ => cases u with
    | none => exact (show False from r).elim
    | some _ => exact r
theorem KV.val {kvs : List (κ × V)} {vs : List (κ × Value)} (r : KV kvs vs) (k : κ) : RelO (valV kvs k) (valueAt vs k) := by
  unfold KV at r
  induction r with
  | nil => exact True.intro
  | @cons p q ps qs h t ih =>
    obtain ⟨h1, h2⟩ := h
    by_cases e : p.1 = k
    · have e' : q.1 = k := h1.symm.trans e
      have b : valueAt (q :: qs) k = some q.2 := by simp [valueAt, List.find?_cons, e']
      rw [valV_pos e, b]; exact h2
    · have e' : ¬ q.1 = k := fun z => e (h1.trans z)
      have b : valueAt (q :: qs) k = valueAt qs k := by simp [valueAt, List.find?_cons, e']
      rw [valV_neg e, b]; exact ih
theorem KV.any {kvs : List (κ × V)} {vs : List (κ × Value)} (r : KV kvs vs) (k : κ) : (kvs.any fun kv => decide (kv.1 = k)) = vs.any fun kv => decide (kv.1 = k) := by
  unfold KV at r
  induction r with
  | nil => rfl
  | cons h t ih => rw [List.any_cons, List.any_cons, ih, h.1]
theorem KV.repl {kvs : List (κ × V)} {vs : List (κ × Value)} (r : KV kvs vs) (k : κ) {y : V} {u : Value} (ry : RelV y u) :
    KV (kvs.map fun kv => if kv.1 = k then (kv.1, y) else kv) (vs.map fun kv => if kv.1 = k then (kv.1, u) else kv) := by
  unfold KV at r ⊢
  induction r with
  | nil => exact .nil
  | @cons p q ps qs h t ih =>
    rw [List.map_cons, List.map_cons]
    refine .cons ?_ ih
    obtain ⟨h1, h2⟩ := h
    by_cases e : p.1 = k
    · rw [if_pos e, if_pos (h1.symm.trans e)]; exact ⟨h1, ry⟩
    · rw [if_neg e, if_neg (fun z => e (h1.trans z))]; exact ⟨h1, h2⟩
theorem KV.put {kvs : List (κ × V)} {vs : List (κ × Value)} (r : KV kvs vs) (k : κ) {y : V} {u : Value} (ry : RelV y u) : KV (putK kvs k y) (stored vs k u) := by
  unfold putK stored
  rw [r.any k]
  by_cases e : (vs.any fun kv => decide (kv.1 = k)) = true
  · rw [if_pos e, if_pos e]; exact r.repl k ry
  · rw [if_neg e, if_neg e]; exact Paired.snoc r ⟨rfl, ry⟩
theorem KV.drop {kvs : List (κ × V)} {vs : List (κ × Value)} (r : KV kvs vs) (k : κ) : KV (dropK kvs k) (without vs k) := by
  unfold KV at r ⊢
  unfold dropK without
  induction r with
  | nil => exact .nil
  | @cons p q ps qs h t ih =>
    obtain ⟨h1, h2⟩ := h
    rw [List.filter_cons, List.filter_cons]
    by_cases e : p.1 = k
    · have a : ¬ decide (p.1 ≠ k) = true := by simp [e]
      have b : ¬ decide (q.1 ≠ k) = true := by simp [h1.symm.trans e]
      rw [if_neg a, if_neg b]; exact ih
    · have e' : ¬ q.1 = k := fun z => e (h1.trans z)
      have a : decide (p.1 ≠ k) = true := by simp [e]
      have b : decide (q.1 ≠ k) = true := by simp [e']
      rw [if_pos a, if_pos b]; exact .cons ⟨h1, h2⟩ ih
theorem KV.length {kvs : List (κ × V)} {vs : List (κ × Value)} (r : KV kvs vs) : kvs.length = vs.length := Paired.length r
end
theorem kV_is {P : Program} {w : World} {k : Key} {u : Value} (r : RelV (kV k) u) : (mixKind P w).is k u = true := by
  cases k with
  | inl i => obtain ⟨t, e⟩ := (show ∃ t, u = Value.int i t from r); subst e; exact mixKind_int P w i t
  | inr x => obtain ⟨t, e⟩ := (show ∃ t, u = Value.str x t from r); subst e; exact mixKind_str P w x t
theorem items_are {P : Program} {w : World} : ∀ {ks : List Key} {us : List Value}, Vals (ks.map kV) us → ItemsAre (mixKind P w) ks us
  | [], _, r => by rw [List.map_nil] at r; cases r; exact .nil
  | k :: ks, _, r => by
    rw [List.map_cons] at r
    cases r with
    | cons h t => exact .cons (kV_is h) (items_are t)
noncomputable abbrev KT (H : Hp) : List (List Key × V) → List (List Key × Addr × Value) → Prop := Paired fun p q => p.1 = q.1 ∧ H q.2.1 = some (.tup (p.1.map kV)) ∧ RelV p.2 q.2.2
theorem KT.val {H : Hp} {kvs : List (List Key × V)} {xs : List (List Key × Addr × Value)} (r : KT H kvs xs) (k : List Key) : RelO (valV kvs k) ((atKey xs k).map (·.2)) := by
  induction r with
  | nil => exact True.intro
  | @cons p q ps qs h t ih =>
    obtain ⟨h1, _, h2⟩ := h
    by_cases e : p.1 = k
    · have e' : q.1 = k := h1.symm.trans e
      have b : atKey (q :: qs) k = some q.2 := by simp [atKey, List.find?_cons, e']
      rw [valV_pos e, b]; exact h2
    · have e' : ¬ q.1 = k := fun z => e (h1.trans z)
      have b : atKey (q :: qs) k = atKey qs k := by simp [atKey, List.find?_cons, e']
      rw [valV_neg e, b]; exact ih
theorem KT.repl {H : Hp} {kvs : List (List Key × V)} {xs : List (List Key × Addr × Value)} (r : KT H kvs xs) (k : List Key) {y : V} {u : Value} (ry : RelV y u) :
    KT H (kvs.map fun kv => if kv.1 = k then (kv.1, y) else kv) (xs.map (putAt k u)) := by
  induction r with
  | nil => exact .nil
  | @cons p q ps qs h t ih =>
    rw [List.map_cons, List.map_cons]
    refine .cons ?_ ih
    obtain ⟨h1, h2, h3⟩ := h
    unfold putAt
    by_cases e : p.1 = k
    · rw [if_pos e, if_pos (h1.symm.trans e)]; exact ⟨h1, h2, ry⟩
    · rw [if_neg e, if_neg (fun z => e (h1.trans z))]; exact ⟨h1, h2, h3⟩
theorem KT.put {H : Hp} {kvs : List (List Key × V)} {xs : List (List Key × Addr × Value)} (r : KT H kvs xs) (k : List Key) {b : Addr} {y : V} {u : Value} (hb : H b = some (.tup (k.map kV))) (ry : RelV y u) :
    KT H (putK kvs k y) (storedH xs k b u) := by
  have e : (kvs.any fun kv => decide (kv.1 = k)) = (atKey xs k).isSome := by
    rw [valV_any, (r.val k).isSome_eq, Option.isSome_map]
  unfold putK storedH
  rw [e]
  by_cases q : (atKey xs k).isSome = true
  · rw [if_pos q, if_pos q]; exact r.repl k ry
  · rw [if_neg q, if_neg q]; exact Paired.snoc r ⟨rfl, hb, ry⟩
theorem KT.keeps {H H' : Hp} {kvs : List (List Key × V)} {xs : List (List Key × Addr × Value)} (r : KT H kvs xs) (ht : ∀ b ys, H b = some (.tup ys) → H' b = some (.tup ys)) : KT H' kvs xs :=
  Paired.mapP r fun _ _ z => ⟨z.1, ht _ _ z.2.1, z.2.2⟩
section
variable {P : Program} {w : World} {H : Hp} {h : Heap} {a : Addr}
theorem rd_of {u : HO} (ok : HOk P w H h) (e : Rd H a u) : ObjOk P w H h a u := e.ok ok
theorem dk_rd {kvs : List (Key × V)} (ok : HOk P w H h) (e : Rd H a (.dK kvs)) : kvs.length ≤ sizeLine ∧ (a == sysModules) = false ∧ ∃ vs, KV kvs vs ∧ h.DictOf (mixKind P w) a vs :=
  show ObjOk P w H h a (.dK kvs) from rd_of ok e
theorem key_of {ks : List Key} (ok : HOk P w H h) (e : H a = some (.tup (ks.map kV))) : (tupleKind (mixKind P w)).is h ks a := by
  obtain ⟨_, its, r, o, h1, h2, n, h3⟩ := (show ObjOk P w H h a (.tup (ks.map kV)) from ok a _ e)
  exact ⟨o, its.toArray, n, h1, h2, h3, by simpa using items_are r⟩
theorem dt_rd {kvs : List (List Key × V)} (ok : HOk P w H h) (e : Rd H a (.dT kvs)) : kvs.length ≤ sizeLine ∧ (a == sysModules) = false ∧
    ∃ xs, KT H kvs xs ∧ h.DictOfH (tupleKind (mixKind P w)) a xs := by
  obtain ⟨z, y, xs, r, o, es, ep, h1, h2, h3, h4, h5⟩ := (show ObjOk P w H h a (.dT kvs) from rd_of ok e)
  refine ⟨z, y, xs, r, o, es, ep, h1, h2, h3, h4, fun x hx => ?_, h5⟩
  have all : ∀ {l : List (List Key × V)} {m : List (List Key × Addr × Value)}, KT H l m → ∀ x ∈ m, (tupleKind (mixKind P w)).is h x.1 x.2.1 := by
    intro l m q
    induction q with
    | nil => intro x hx; exact nomatch hx
    | @cons p q ps qs hq t ih =>
      intro x hx
      rcases List.mem_cons.mp hx with e | hx
      · subst e
        exact key_of ok (by rw [← hq.1]; exact hq.2.1)
      · exact ih x hx
  exact all r x hx
end
noncomputable def DGet (H : Hp) (a : Addr) (y : V) (r : Option V) : Prop :=
  (∃ kvs k, Rd H a (.dK kvs) ∧ y = kV k ∧ r = valV kvs k) ∨ ∃ kvs k b, Rd H a (.dT kvs) ∧ y = .ref b ∧ H b = some (.tup (k.map kV)) ∧ r = valV kvs k
noncomputable def DPut (H : Hp) (a : Addr) (y v : V) (H' : Hp) : Prop :=
  (∃ kvs k, H a = some (.dK kvs) ∧ y = kV k ∧ kvs.length < sizeLine ∧ H' = upd H a (.dK (putK kvs k v))) ∨
  ∃ kvs k b, H a = some (.dT kvs) ∧ y = .ref b ∧ H b = some (.tup (k.map kV)) ∧ kvs.length < sizeLine ∧ H' = upd H a (.dT (putK kvs k v))
theorem DGet.k {H : Hp} {a : Addr} {kvs : List (Key × V)} {k : Key} (e : H a = some (.dK kvs)) : DGet H a (kV k) (valV kvs k) := .inl ⟨kvs, k, .inl e, rfl, rfl⟩
theorem DGet.t {H : Hp} {a b : Addr} {kvs : List (List Key × V)} {k : List Key} (e : H a = some (.dT kvs)) (eb : H b = some (.tup (k.map kV))) : DGet H a (.ref b) (valV kvs k) := .inr ⟨kvs, k, b, .inl e, rfl, eb, rfl⟩
theorem DPut.k {H : Hp} {a : Addr} {kvs : List (Key × V)} {k : Key} {v : V} (e : H a = some (.dK kvs)) (hl : kvs.length < sizeLine) : DPut H a (kV k) v (upd H a (.dK (putK kvs k v))) := .inl ⟨kvs, k, e, rfl, hl, rfl⟩
theorem DPut.t {H : Hp} {a b : Addr} {kvs : List (List Key × V)} {k : List Key} {v : V} (e : H a = some (.dT kvs)) (eb : H b = some (.tup (k.map kV))) (hl : kvs.length < sizeLine) :
    DPut H a (.ref b) v (upd H a (.dT (putK kvs k v))) := .inr ⟨kvs, k, b, e, rfl, eb, hl, rfl⟩
section
variable {X : Cx} {pins : List (Addr × Obj)} {σ : St} {H : Hp} {s : Shared} {a : Addr} {y v : V} {u r : Value} {o : Option V} {A : Around} {E : Value → Shared → Prop}
theorem d_in {Q : Value → Shared → Prop} (hu : A.units + 1 < cLine) (I : Inv X pins σ H s) (g : DGet H a y o) (ry : RelV y u) (h : ∀ s', Inv X pins σ H s' → Q (.bool o.isSome) s') :
    wpAny (model X.prog X.w) A (compareOp .In u (.ref a)) Q E s := by
  rcases g with ⟨kvs, k, e, ey, l⟩ | ⟨kvs, k, b, e, ey, eb, l⟩
  · subst ey
    obtain ⟨z, hd, vs, rel, dd⟩ := dk_rd I.hok e
    refine wpAny_in_of (kV_is ry) hd dd.mapOf ?_
    rw [← (rel.val k).isSome_eq, ← l]
    exact h _ (I.tok _)
  · subst ey
    cases (show u = Value.ref b from ry)
    obtain ⟨z, hd, xs, rel, dd⟩ := dt_rd I.hok e
    refine wpAny_in_heap (tupleKind_room_in1 hu) (key_of I.hok eb) hd dd ?_
    have q := (rel.val k).isSome_eq
    rw [Option.isSome_map] at q
    rw [← q, ← l]
    exact h _ (I.tok _)
theorem d_notIn {Q : Value → Shared → Prop} (hu : A.units + 1 < cLine) (I : Inv X pins σ H s) (g : DGet H a y o) (ry : RelV y u) (h : ∀ s', Inv X pins σ H s' → Q (.bool (!o.isSome)) s') :
    wpAny (model X.prog X.w) A (compareOp .NotIn u (.ref a)) Q E s := by
  rcases g with ⟨kvs, k, e, ey, l⟩ | ⟨kvs, k, b, e, ey, eb, l⟩
  · subst ey
    obtain ⟨z, hd, vs, rel, dd⟩ := dk_rd I.hok e
    refine wpAny_notIn_of (kV_is ry) hd dd.mapOf ?_
    rw [← (rel.val k).isSome_eq, ← l]
    exact h _ (I.tok _)
  · subst ey
    cases (show u = Value.ref b from ry)
    obtain ⟨z, hd, xs, rel, dd⟩ := dt_rd I.hok e
    refine wpAny_notIn_heap (tupleKind_room_in1 hu) (key_of I.hok eb) hd dd ?_
    have q := (rel.val k).isSome_eq
    rw [Option.isSome_map] at q
    rw [← q, ← l]
    exact h _ (I.tok _)
end
section
variable {X : Cx} {pins : List (Addr × Obj)} {σ : St} {H : Hp} {s : Shared} {a : Addr} {kvs : List (Key × V)} {k : Key} {u : Value} {A : Around} {E : Value → Shared → Prop}
end
noncomputable def tDIn (ty td : TE) : TE := fun σ H Q => ty σ H fun y H1 => td σ H1 fun x H2 => ∃ a o, x = .ref a ∧ DGet H2 a y o ∧ Q (.bl o.isSome) H2
noncomputable def tDNotIn (ty td : TE) : TE := fun σ H Q => ty σ H fun y H1 => td σ H1 fun x H2 => ∃ a o, x = .ref a ∧ DGet H2 a y o ∧ Q (.bl (!o.isSome)) H2
section
variable {X : Cx} {o i e value : Expr} {pos pos' tpos : Pos} {td ty tv : TE}
theorem pc_din (hu : X.A.units + 1 < cLine) (hi : PE X i ty) (ho : PE X o td) : PC X .In i o (tDIn ty td) := by
  intro pins s σ H Q I h
  refine thn (hi pins s σ H _ I h) fun iv s1 ⟨y, H1, I1, ry, q1⟩ => thn (ho pins s1 σ H1 _ I1 q1) fun u s2 ⟨x, H2, I2, rx, a, ov, ex, g, q2⟩ => ?_
  subst ex
  obtain rfl : u = Value.ref a := rx
  exact d_in hu I2 g ry fun s3 I3 => ⟨.bl ov.isSome, H2, I3, rfl, q2⟩
theorem pc_dnotin (hu : X.A.units + 1 < cLine) (hi : PE X i ty) (ho : PE X o td) : PC X .NotIn i o (tDNotIn ty td) := by
  intro pins s σ H Q I h
  refine thn (hi pins s σ H _ I h) fun iv s1 ⟨y, H1, I1, ry, q1⟩ => thn (ho pins s1 σ H1 _ I1 q1) fun u s2 ⟨x, H2, I2, rx, a, ov, ex, g, q2⟩ => ?_
  subst ex
  obtain rfl : u = Value.ref a := rx
  exact d_notIn hu I2 g ry fun s3 I3 => ⟨.bl (!ov.isSome), H2, I3, rfl, q2⟩
end
section
variable {X : Cx} {pos : Pos}
end
structure M1 (X : Cx) (o : Expr) (m : Str) (apos : Pos) (e : Expr) (cpos : Pos) : Prop where
  base : attributeBase o m X.env (eval o X.env) = eval o X.env
  few : ((backTo cpos (starEach [e] X.env)).all (fun x => !x.1) && (backToKw cpos (keywordEach [] X.env)).all (fun x => x.1.isSome)
    && decide (([e] : List Expr).length + ([] : List Keyword).length + (if ([] : List Keyword).isEmpty then 0 else 1) < 30)) = true
  line : (apos.endLine == cpos.line) = true
  trees : backTo cpos (starEach [e] X.env) = [(false, eval e X.env)]
structure M2 (X : Cx) (o : Expr) (m : Str) (apos : Pos) (e f : Expr) (cpos : Pos) : Prop where
  base : attributeBase o m X.env (eval o X.env) = eval o X.env
  few : ((backTo cpos (starEach [e, f] X.env)).all (fun x => !x.1) && (backToKw cpos (keywordEach [] X.env)).all (fun x => x.1.isSome)
    && decide (([e, f] : List Expr).length + ([] : List Keyword).length + (if ([] : List Keyword).isEmpty then 0 else 1) < 30)) = true
  line : (apos.endLine == cpos.line) = true
  trees : backTo cpos (starEach [e, f] X.env) = [(false, eval e X.env), (false, eval f X.env)]
section
variable {X : Cx} {pins : List (Addr × Obj)} {σ : St} {H : Hp} {s : Shared} {a : Addr} {y d : V} {u r : Value} {o : Option V} {A : Around} {E : Value → Shared → Prop}
end
section
variable {X : Cx} {o e f : Expr} {apos cpos : Pos} {td ty tx : TE}
end
section
variable {X : Cx} {pins : List (Addr × Obj)} {σ : St} {H : Hp} {s : Shared} {a : Addr} {kvs : List (Key × V)} {A : Around} {E : Value → Shared → Prop}
end
section
variable {X : Cx} {pins : List (Addr × Obj)} {σ : St} {H : Hp} {s : Shared} {a : Addr} {y : V} {u : Value} {A : Around} {E : Value → Shared → Prop}
end
end L2
namespace Att
open PySem PySem.W PySem.Calls PyProof.Rows
theorem ints_of_wellAll {P : Params} {h : Heap} : ∀ (ns : List Int) (vs : List Value), WellAll P h vs (ns.map WData.int) → IntsAre vs ns := by
  intro ns
  induction ns with
  | nil =>
    intro vs w
    rw [List.map_nil] at w
    cases w
    exact .nil
  | cons n ns ih =>
    intro vs w
    rw [List.map_cons] at w
    cases w with
    | cons a b =>
      cases a
      exact .cons _ _ (ih _ b)
theorem script_of {l : OpenLaw} {n : Nat} (hn : l.most = some n) {P : Params} {h : Heap} {args : List WData} {vals : List Value}
    (hpre : l.row.toRowW.claim.pre args = true) (hwl : WellAll P h vals args) :
    ∃ a vs ns, vals = [Value.ref a] ∧ args = [WData.list (ns.map WData.int)] ∧ h.get? a = some { cls := .type "list", data := .seq vs.toArray } ∧ IntsAre vs ns ∧ ns.length ≤ n := by
  have hsh : WShape.hasAll [] args [.list .int] = true := (pre_splitW hpre).1
  have hc : l.pre.holds [] { args := args } = true := (pre_splitW hpre).2
  obtain ⟨d, r, rfl, h1, h2⟩ := hasAllW_cons hsh
  obtain rfl := hasAllW_nil h2
  obtain ⟨xs, rfl, h3⟩ := hasW_list h1
  obtain ⟨ns, rfl⟩ := items_int h3
  have hlen : ns.length ≤ n := by
    unfold OpenLaw.pre at hc
    have h4 : (WTm.not (.lt (.lit (.int (n : Int))) (.len (.arg 0)))).holds [] { args := [.list (ns.map .int)] } = true := by
      have h4 := (holds_andW hc).1
      rw [hn] at h4
      exact h4
    have h5 := condW_of h4 (w_not (w_lt w_lit (w_len_list (w_arg rfl))))
    rw [List.length_map] at h5
    refine Nat.le_of_not_lt fun q => ?_
    have q' : (n : Int) < ((ns.length : Nat) : Int) := by omega
    first
      | (rw [decide_eq_true q'] at h5; exact absurd h5 (by decide))
      | (simp at h5; omega)
  cases hwl with
  | cons w1 w2 =>
    cases w2
    cases w1 with
    | list ho hall => exact ⟨_, _, ns, rfl, rfl, ho, ints_of_wellAll ns _ hall, hlen⟩
theorem post_true (l : OpenLaw) (args : List WData) : l.row.toRowW.claim.post args (.bool true) args = true :=
  postW_of (r := l.row.toRowW) (X := (true == true))
    (show WShape.has [] (.bool true) .bool = true by first | rfl | decide | simp [WShape.has, WShape.arms, WShape.armsAll])
    (show (WTm.eq .res (.lit (.bool true))).value [] { args := args, res := some (.bool true), after := args } = some (.bool (true == true)) from w_eq_bool (w_res rfl) w_lit) rfl
theorem attach_call {l : OpenLaw} {n : Nat} {q : Program} {loose : List Str} {XP : (Str → Option Value) → Heap → Prop} {YP : World → Heap → Prop} {d : DefRec}
    (hn : l.most = some n) (hdf : d.params.defaults = [])
    (call : ∀ (w : World) (s₀ s₁ : Shared) (mg mb : Str → Option Value) (fa : Addr) (o : Obj) (pm cd doc : Value) (a : Addr) (vs : List Value) (ns : List Int),
      Ground q loose [] XP w s₀ mg mb s₁.heap → YP w s₁.heap →
      s₁.heap.get? fa = some o → o.data = .func (docDef d.name d.params d.body d.scope pm cd doc) → s₁.heap.CodeRec cd d.name → mg d.name = some (.ref fa) →
      s₁.heap.get? a = some { cls := .type "list", data := .seq vs.toArray } → IntsAre vs ns → ns.length ≤ n → s₁.gens = #[] →
      codeAny (model l.prog w) callerA (.call (.ref fa) ⟨[.ref a], []⟩) (fun r s' => r = .ok (.ret (.bool true)) ∧ OldK s₁.heap s'.heap ∧ s'.os = s₁.os ∧ AllBare s'.gens) s₁) :
    WalkO q loose XP YP l.row.toRowW d [] (fun f vs => PySem.call f vs) := by
  intro w s₀ s₁ mg mb G Y fa o pm cd doc dV kV ho hd hcd hD hmg hg args vals as hpre hlay hrd hwl hlo
  obtain rfl : dV = .none := Dflts.none hD hdf
  obtain rfl : kV = .none := Dflts.noKw hD
  obtain ⟨a, vs, ns, rfl, rfl, hobj, hints, hlen⟩ := script_of hn hpre hwl
  refine enter_call (codeAny_mono (call w s₀ s₁ mg mb fa o pm cd doc a vs ns G Y ho (fd_plain hd) hcd hmg hobj hints hlen hg) fun r s' hq => ?_)
  obtain ⟨rfl, h2, h3, h4⟩ := hq
  exact ⟨.inl ⟨.bool true, .bool true, [], rfl, fun _ => rfl, .bool true, post_true l _, fun _ => ⟨List.Pairwise.nil, fun _ hm => (nomatch hm)⟩⟩, h2, h3, h4⟩
section
variable {prog : Program} {w : World} {A : Around} {E : Value → Shared → Prop} {s : Shared} {K : Frag}
end
end Att
namespace L2
open PySem PySem.Spec PyProof.Rows
theorem vals_ints : ∀ {vs : List Value} {ns : List Int}, IntsAre vs ns → Vals (ns.map V.int) vs
  | _, _, .nil => .nil
  | _, _, .cons n t h => .cons ⟨t, rfl⟩ (vals_ints h)
noncomputable def Only (H : Hp) : Prop := ∀ b, H b = none ∨ ∃ o xs, H b = some (.frz o (.lst xs))
theorem law_call {P : Program} {w : World} {K : PySem.W.Frag} {mg mb : Str → Option Value} {CX : CXT} {k : Nat} {fa a : Addr} {fd : FuncData} {x : Str} {sp : Sp} {s₁ : Shared} {vs : List Value} {ns : List Int}
    (KX : K.In s₁.heap) (hns : s₁.heap.Ns mainGlobals mg) (hb : s₁.heap.Ns builtinsNs mb) (hbb : ∀ x : Str, x ≠ "__name__" → mb x = bootBuiltins x) (hlim : s₁.heap.NoLimit) (hg : s₁.gens = #[])
    (ha : s₁.heap.get? a = some { cls := .type "list", data := .seq vs.toArray }) (hi : IntsAre vs ns) (hl : ns.length ≤ sizeLine) (hr : Room k callerA)
    (F : ∀ base : Heap, K.In base → base.Ns mainGlobals mg → FnOk P w K mg base CX k fa fd [x] sp) (hbind : ∀ (s : Shared) (u : Value), BindsTo s fd ⟨[u], []⟩ [(x, u)])
    (hsp : ∀ H : Hp, Only H → SqL K H a (ns.map V.int) → sp [.ref a] H (fun v _ => v = .bl true) fun _ _ _ => False)
    (hCX : ∀ H e s', CX [] H s₁ (fun _ _ _ => False) e s' → False) :
    codeAny (model P w) callerA (.call (.ref fa) ⟨[.ref a], []⟩) (fun r s' => r = .ok (.ret (.bool true)) ∧ OldK s₁.heap s'.heap ∧ s'.os = s₁.os ∧ AllBare s'.gens) s₁ := by
  have rv := vals_ints hi
  have lenV := hi.length
  have core : ∀ H : Hp, Only H → SqL K H a (ns.map V.int) → HOk P w H s₁.heap → (∀ b, H b ≠ none → b = a) → (H a ≠ none → K.lookup a = none) →
      codeAny (model P w) callerA (.call (.ref fa) ⟨[.ref a], []⟩) (fun r s' => r = .ok (.ret (.bool true)) ∧ OldK s₁.heap s'.heap ∧ s'.os = s₁.os ∧ AllBare s'.gens) s₁ := by
    intro H hO hS hok hA hK
    have base_of : ∀ {b : Addr} {o : Obj}, s₁.heap.get? b = some o → H b = none → (hidT s₁.heap H).get? b = some o := fun e n => hidT_get e n
    have noA : ∀ {b : Addr} {o : Obj} {es : Array DictEntry} {ep : Nat}, s₁.heap.get? b = some o → o.data = .dict es ep → H b = none := fun {b o es ep} e d => by
      cases q : H b with
      | none => rfl
      | some u =>
        have e' : b = a := hA b (by rw [q]; simp)
        subst e'
        rw [ha] at e; cases e
        have d' : Data.seq vs.toArray _ = Data.dict es ep := d
        cases d'
    have nsK : ∀ {b : Addr} {m : Str → Option Value}, s₁.heap.Ns b m → (hidT s₁.heap H).Ns b m := fun {b m} ⟨o, es, ep, e, d, r⟩ => ⟨o, es, ep, base_of e (noA e d), d, r⟩
    have hKb : K.In (hidT s₁.heap H) := fun b o e => base_of (KX b o e) (by
      cases q : H b with
      | none => rfl
      | some u =>
        have e' : b = a := hA b (by rw [q]; simp)
        subst e'
        rw [hK (by rw [q]; simp)] at e; cases e)
    have hM : Mod K mg (hidT s₁.heap H) := ⟨hKb, nsK hns, ⟨mb, nsK hb, hbb⟩, let ⟨mc, h1, h2⟩ := hlim; ⟨mc, nsK h1, h2⟩⟩
    have e0 : Env0 P w K mg (hidT s₁.heap H) callerA [] s₁ H := ⟨rfl, hM, fun b o e => of_hidT e, Nat.le_of_eq (hidT_size _ _), trivial, fun b hb => absurd (show b ∈ ([] : List Addr) from hb) (by simp), hok, .of_eq hg⟩
    refine codeAny_mono ((F _ hKb (nsK hns)).run callerA [] s₁ H ⟨[.ref a], []⟩ [.ref a] [.ref a] _ _ hr e0 (hbind s₁ (.ref a)) (.cons rfl .nil) (hsp H hO hS)) fun r s' h => ?_
    cases r with
    | error e => exact (hCX H e s' h).elim
    | ok fl =>
      cases fl with
      | next => exact False.elim h
      | brk => exact False.elim h
      | cont => exact False.elim h
      | ret u =>
        obtain ⟨v, H', os, bare, un, hok', r', q⟩ := h
        have q' : v = .bl true := q
        subst q'
        obtain rfl : u = Value.bool true := r'
        refine ⟨rfl, OldK.of_keep fun b o e => ?_, os, bare⟩
        cases q : H b with
        | none => exact un.keep b o e q (by intro z; exact absurd (show b ∈ ([] : List Addr) from z) (by simp)) (by simp)
        | some u =>
          rcases hO b with z | ⟨ob, xs, z⟩
          · rw [q] at z; cases z
          · have z2 := un.frzs b ob _ z
            obtain ⟨e1, _⟩ := hok b _ z
            obtain ⟨e2, _⟩ := hok' b _ z2
            rw [e] at e1; cases e1
            exact e2
  cases hk : K.lookup a with
  | some o =>
    have e := KX a o hk
    rw [ha] at e
    cases e
    refine core (fun _ => none) (fun _ => .inl rfl) (.inr ⟨_, vs.toArray, _, hk, rfl, rfl, rfl, by rw [List.size_toArray, lenV]; exact hl, by simpa using rv⟩) (fun b u z => by have z' : (none : Option HO) = some u := z; cases z') (fun b z => absurd rfl z) fun z => absurd rfl z
  | none =>
    refine core (fun b => if b = a then some (.frz { cls := .type "list", data := .seq vs.toArray } (.lst (ns.map V.int))) else none) (fun b => ?_) (.inl (.inr ⟨{ cls := .type "list", data := .seq vs.toArray }, if_pos rfl⟩)) (fun b u z => ?_) (fun b z => ?_) fun _ => hk
    · by_cases hb : b = a
      · exact .inr ⟨_, _, if_pos hb⟩
      · exact .inl (if_neg hb)
    · by_cases hb : b = a
      · have z' := (if_pos hb).symm.trans z
        cases z'
        subst hb
        exact ⟨ha, by rw [List.length_map]; exact hl, vs, _, rv, ha⟩
      · have z' := (if_neg hb).symm.trans z
        cases z'
    · by_cases hb : b = a
      · exact hb
      · exact absurd (if_neg hb) z
end L2
namespace L2
open PySem PySem.Spec PyProof.Rows
theorem walk_of {l : PySem.W.OpenLaw} {n k : Nat} {q : Program} {loose : List Str} {XP : (Str → Option Value) → Heap → Prop} {YP : World → Heap → Prop} {d : DefRec} {K : Params → PySem.W.Frag} {CX : World → CXT} {sp : World → Sp} {x : Str}
    (hn : l.most = some n) (hn2 : n ≤ sizeLine) (hdf : d.params.defaults = []) (hr : Room k callerA)
    (hY : ∀ (w : World) (h : Heap), YP w h → (K w.params).In h)
    (F : ∀ (w : World) (mg : Str → Option Value) (fa : Addr) (h : Heap), (K w.params).In h → h.Ns mainGlobals mg → mg d.name = some (.ref fa) →
      ∃ fd : FuncData, (∀ (s : Shared) (u : Value), BindsTo s fd ⟨[u], []⟩ [(x, u)]) ∧
        ∀ base : Heap, (K w.params).In base → base.Ns mainGlobals mg → FnOk l.prog w (K w.params) mg base (CX w) k fa fd [x] (sp w))
    (hsp : ∀ (w : World) (H : Hp) (a : Addr) (ns : List Int), ns.length ≤ n → Only H → SqL (K w.params) H a (ns.map V.int) → sp w [.ref a] H (fun v _ => v = .bl true) fun _ _ _ => False)
    (hCX : ∀ (w : World) (H : Hp) (s : Shared) (e : Value) (s' : Shared), CX w [] H s (fun _ _ _ => False) e s' → False) :
    PySem.W.WalkO q loose XP YP l.row.toRowW d [] (fun f vs => PySem.call f vs) := by
  refine Att.attach_call hn hdf fun w s₀ s₁ mg mb fa o pm cd doc a vs ns G Y ho hd hcd hmg hobj hints hlen hg => ?_
  have KX := hY w _ Y
  obtain ⟨fd, hb, hF⟩ := F w mg fa _ KX G.T.g hmg
  exact law_call KX G.T.g G.T.b G.T.builtins G.T.nolimit hg hobj hints (Nat.le_trans hlen hn2) hr hF hb (fun H hO hS => hsp w H a ns hlen hO hS) fun H e s' => hCX w H s₁ e s'
end L2
namespace L2
open PySem PySem.Spec PyProof.Rows
noncomputable def defArgs (s : Stmt) : Arguments := match s with
  | .FunctionDef _ a _ _ _ _ _ _ _ _ => a
  | _ => { posonlyargs := [], args := [], vararg := none, kwonlyargs := [], kw_defaults := [], kwarg := none, defaults := [] }
noncomputable def defBody (s : Stmt) : List Stmt := match s with
  | .FunctionDef _ _ b _ _ _ _ _ _ _ => b
  | _ => []
noncomputable def defScope (s : Stmt) : Scope := match s with
  | .FunctionDef _ _ _ _ _ _ sc _ _ _ => sc
  | _ => { kind := .function, names := [], isGenerator := false, isCoroutine := false }
noncomputable abbrev CX0 : CXT := fun _ _ _ _ _ _ => False
noncomputable abbrev E0 : XK := fun _ _ _ => False
theorem pass0 {X : Cx} : Passes CX0 X E0 := fun _ _ _ _ _ _ _ h => h.elim
structure Fun (K : PySem.W.Frag) (x qual : Str) (st : Stmt) (f : Addr) (fd : FuncData) : Prop where
  ex : ∃ (oc : Value) (od : Option Addr) (kV doc pm : Value) (an : Option Addr) (cdv ct : Value) (osl : Array (Option Value)),
    fd = PySem.W.fnOf x qual (defArgs st) (defBody st) (defScope st) .none kV doc pm an cdv ct ∧ K.lookup f = some ⟨oc, od, .func fd, osl⟩ ∧ PySem.W.codeIn K cdv qual = true
  kp : PySem.W.keepIn K (.ref f) = true
section
variable {P : Program} {w : World} {K : PySem.W.Frag} {mg : Str → Option Value} {base : Heap}
theorem Fun.ok {x qual : Str} {st : Stmt} {f : Addr} {fd : FuncData} {N ps : List Str} {k : Nat} {sp : Sp} (F : Fun K x qual st f fd) (S : FnScope N ps (defScope st)) (len : ∀ vs H Q E, sp vs H Q E → vs.length = ps.length)
    (hbody : ∀ (cdv : Value) (A : Around) (outer : List Env) (s : Shared) (H : Hp) (vs : List V) (Q : VK) (E : XK), Room k (A.deeper (envOfC qual (defScope st) s.heap.objs.size f cdv)) → sp vs H Q E →
      ∃ t, PSs (cxOf CX0 P w K mg base N qual (defScope st) f cdv A outer s H E).nox (defBody st) t ∧ t { nx := fun _ H' => Q .non H', rt := Q } (start N vs) H) : FnOk P w K mg base CX0 (k + 1) f fd ps sp := by
  obtain ⟨oc, od, kV, doc, pm, an, cdv, ct, osl, rfl, lk, hcd⟩ := F.ex
  refine fn_of lk hcd S len fun A outer s H vs Q E hr hsp => ?_
  obtain ⟨t, h, q⟩ := hbody cdv A outer s H vs Q E hr hsp
  exact ⟨t, h.nox, q⟩
theorem Fun.binds {x qual : Str} {st : Stmt} {f : Addr} {fd : FuncData} {ps : List Str} (F : Fun K x qual st f fd)
    (h : ∀ (kV doc pm : Value) (an : Option Addr) (cdv ct : Value) (us : List Value), us.length = ps.length → bindArgs (PySem.W.fnOf x qual (defArgs st) (defBody st) (defScope st) .none kV doc pm an cdv ct) ⟨us, []⟩ = pure (ps.zip us)) : Binds K fd ps [] := by
  obtain ⟨oc, od, kV, doc, pm, an, cdv, ct, osl, rfl, lk, hcd⟩ := F.ex
  exact .all (h kV doc pm an cdv ct)
theorem fun_mk {x qual : Str} {st : Stmt} {f : Addr} {oc : Value} {od an : Option Addr} {osl : Array (Option Value)} {kV doc pm cdv ct : Value} (l : K.lookup f = some ⟨oc, od, .func (PySem.W.fnOf x qual (defArgs st) (defBody st) (defScope st) .none kV doc pm an cdv ct), osl⟩)
    (c : PySem.W.codeIn K cdv qual = true) (k : PySem.W.keepIn K (.ref f) = true) : Fun K x qual st f (PySem.W.fnOf x qual (defArgs st) (defBody st) (defScope st) .none kV doc pm an cdv ct) := ⟨⟨oc, od, kV, doc, pm, an, cdv, ct, osl, rfl, l, c⟩, k⟩
end
theorem hu_of {A : Around} {k : Nat} (hr : Room k A) : A.units + 1 < cLine := Nat.lt_of_le_of_lt (Nat.add_le_add_left (by decide : 1 ≤ 64) _) hr.units
section
variable {X : Cx}
end
theorem iteT {A B : Prop} (h : A) : if true = true then A else B := by
  rw [if_pos rfl]
  exact h
noncomputable def Same (H H' : Hp) : Prop := ∀ b o, H b = some o → H' b = some o
theorem Same.refl (H : Hp) : Same H H := fun _ _ h => h
theorem Same.trans {H H1 H2 : Hp} (a : Same H H1) (b : Same H1 H2) : Same H H2 := fun c o h => b c o (a c o h)
theorem Same.free {H H' : Hp} (e : Same H H') {l : Addr} (h : H' l = Option.none) : H l = Option.none := by
  cases q : H l with
  | none => rfl
  | some o =>
    rw [e l o q] at h
    cases h
theorem Same.seq {K : PySem.W.Frag} {H H' : Hp} {a : Addr} {xs : List V} (e : Same H H') (h : SqL K H a xs) : SqL K H' a xs := by
  rcases h with (h | ⟨o, h⟩) | h
  · exact .inl (.inl (e _ _ h))
  · exact .inl (.inr ⟨o, e _ _ h⟩)
  · exact .inr h
section
variable {κ : Type} [DecidableEq κ]
end
end L2
namespace L2
open PySem PySem.Spec PyProof.Rows
theorem forIn_yields {α β : Type} {l : List α} {f : α → β → Sem (ForInStep β)} (g : α → β → β) : ∀ (c : β), (∀ x ∈ l, ∀ c, f x c = pure (.yield (g x c))) → forIn l c f = pure (l.foldl (fun c x => g x c) c) := by
  induction l with
  | nil => intro c _; rfl
  | cons x l ih =>
    intro c h
    rw [List.forIn_cons, h x List.mem_cons_self, pure_bind]
    exact ih (g x c) fun y hy => h y (List.mem_cons_of_mem _ hy)
noncomputable def clStep (env : Env) (x : Str × NameKind) (cs : List (Str × Addr)) : List (Str × Addr) := if (x.2 == NameKind.free) = true then (x.1, (env.cells.lookup x.1).getD 0) :: cs else cs
noncomputable def clOf (sc : Scope) (env : Env) : List (Str × Addr) := sc.names.foldl (fun cs x => clStep env x cs) []
theorem closure_clOf {sc : Scope} {env : Env} (h : ∀ x ∈ sc.names, x.2 = .free → ∃ c, env.cells.lookup x.1 = some c) : closureFor sc env = pure (clOf sc env) := by
  simp only [closureFor]
  rw [forIn_yields (clStep env) [] (fun x hx c => ?_)]
  · rfl
  · obtain ⟨n, kind⟩ := x
    cases hk : kind == NameKind.free with
    | false => simp [clStep, hk]
    | true =>
      obtain ⟨a, ha⟩ := h (n, kind) hx (by simpa using hk)
      have ha' : env.cells.lookup n = some a := ha
      simp [clStep, hk, cellOf, ha']
theorem cl_sub (env : Env) (hh : ∀ (x : Str × NameKind), x.2 = .free → True) : ∀ (names : List (Str × NameKind)) (acc : List (Str × Addr)), (∀ x ∈ names, x.2 = .free → ∃ c, env.cells.lookup x.1 = some c) → (∀ x c, acc.lookup x = some c → env.cells.lookup x = some c) →
    ∀ x c, (names.foldl (fun cs x => clStep env x cs) acc).lookup x = some c → env.cells.lookup x = some c
  | [], acc, _, ha, x, c, h => ha x c h
  | y :: r, acc, hf, ha, x, c, h => by
    refine cl_sub env hh r (clStep env y acc) (fun z hz => hf z (List.mem_cons_of_mem _ hz)) (fun z d hd => ?_) x c h
    unfold clStep at hd
    split at hd
    · rename_i hk
      obtain ⟨a, e⟩ := hf y List.mem_cons_self (by simpa using hk)
      by_cases q : z = y.1
      · subst q
        simp [e] at hd
        rw [e, hd]
      · have q' : (z == y.1) = false := by simpa using q
        rw [List.lookup_cons, q'] at hd
        exact ha z d hd
    · exact ha z d hd
theorem cl_has (env : Env) : ∀ (names : List (Str × NameKind)) (acc : List (Str × Addr)) (x : Str), ((∃ c, acc.lookup x = some c) ∨ (x, NameKind.free) ∈ names) → ∃ c, (names.foldl (fun cs x => clStep env x cs) acc).lookup x = some c
  | [], acc, x, h => by
    rcases h with h | h
    · exact h
    · exact nomatch h
  | y :: r, acc, x, h => by
    refine cl_has env r (clStep env y acc) x ?_
    by_cases hk : (y.2 == NameKind.free) = true
    · by_cases q : x = y.1
      · refine .inl ⟨(env.cells.lookup y.1).getD 0, ?_⟩
        unfold clStep
        rw [if_pos hk, q]
        simp
      · have q' : (x == y.1) = false := by simpa using q
        rcases h with ⟨c, h⟩ | h
        · refine .inl ⟨c, ?_⟩
          unfold clStep
          rw [if_pos hk, List.lookup_cons, q']
          exact h
        · rcases List.mem_cons.mp h with e | e
          · exact absurd (congrArg (·.1) e) q
          · exact .inr e
    · rcases h with ⟨c, h⟩ | h
      · refine .inl ⟨c, ?_⟩
        unfold clStep
        rw [if_neg hk]
        exact h
      · rcases List.mem_cons.mp h with e | e
        · refine absurd ?_ hk
          rw [← e]
          rfl
        · exact .inr e
theorem relabel_look {env : Env} {x : Str} {k : NameKind} : ∀ {names : List (Str × NameKind)}, (names.map fun (n, k) => if (k == NameKind.free && env.scope.kind == .function && env.kindOf n == some .cell) then (n, NameKind.cell) else (n, k)).lookup x = some k →
    names.lookup x = some k ∨ (k = .cell ∧ names.lookup x = some .free)
  | [], h => by simp at h
  | (n, j) :: r, h => by
    have ih := @relabel_look env x k r
    rw [List.map_cons] at h
    cases hx : x == n with
    | true =>
      by_cases hc : (j == NameKind.free && env.scope.kind == .function && env.kindOf n == some .cell) = true
      · simp only [hc, if_true] at h
        rw [List.lookup_cons, hx] at h
        have e : NameKind.cell = k := Option.some.inj h
        refine .inr ⟨e.symm, ?_⟩
        rw [List.lookup_cons, hx]
        simp only [Bool.and_eq_true] at hc
        have ej : j = .free := by simpa using hc.1.1
        rw [ej]
      · simp only [hc, Bool.false_eq_true, if_false] at h
        rw [List.lookup_cons, hx] at h
        exact .inl (by rw [List.lookup_cons, hx]; exact h)
    | false =>
      have h' : (r.map fun (n, k) => if (k == NameKind.free && env.scope.kind == .function && env.kindOf n == some .cell) then (n, NameKind.cell) else (n, k)).lookup x = some k := by
        by_cases hc : (j == NameKind.free && env.scope.kind == .function && env.kindOf n == some .cell) = true
        · simp only [hc, if_true] at h
          rw [List.lookup_cons, hx] at h
          exact h
        · simp only [hc, Bool.false_eq_true, if_false] at h
          rw [List.lookup_cons, hx] at h
          exact h
      rw [List.lookup_cons, hx]
      exact ih h'
noncomputable def Cx.blk (X : Cx) (N : List Str) (sc : Scope) (C : Addr) (s₂ : Shared) (H₂ : Hp) (fp : List Addr) (pn : List (Addr × Obj)) : Cx where
  prog := X.prog
  w := X.w
  K := X.K
  mg := X.mg
  base := X.base
  A := X.A
  N := N
  s₀ := s₂
  H₀ := H₂
  env := compEnvC sc (clOf sc X.env) C X.env
  outer := X.stack
  stack := X.stack
  ex := fp
  fn := fun _ => false
  calm := X.calm
  pn := pn
  xe := fun _ _ => False
noncomputable def PTs (X : Cx) (ifs : List Expr) (t : TT) : Prop :=
  ∀ (pins : List (Addr × Obj)) (s : Shared) (σ : St) (H : Hp) (Q : Bool → Hp → Prop), Inv X pins σ H s → t σ H Q →
    wpAny (model X.prog X.w) X.A (forIn ifs true fun c r => if r = true then do let ok ← isTrue c X.env (eval c X.env); pure (ForInStep.yield ok) else pure (ForInStep.yield r)) (TP X pins σ Q) X.xe s
noncomputable def tYes : TT := fun _ H Q => Q true H
theorem pts_nil {X : Cx} : PTs X [] tYes := fun _ _ _ H _ I h => wpAny_tests_nil ⟨H, I, h⟩
theorem pts_one {X : Cx} {c : Expr} {t : TT} (h : PT X c t) : PTs X [c] t := fun pins s σ H Q I hq => wpAny_tests_one (h pins s σ H Q I hq)
noncomputable def frOf (σ : St) (ix : List Nat) : St := ix.map fun i => (σ[i]?).getD none
noncomputable def CompW (J : It) (D : Addr) (H1 : Hp) (fr : St) (tc : TT) (te : TE) (Q : Addr → Hp → Prop) : Prop :=
  ∃ W : Nat → Nat → Hp → Prop, (∃ m, W 0 m (upd H1 D (.lst []))) ∧ ∀ i m H, W i m H → (J.stop i H ∧ Q D H) ∨
    (J.go i H ∧ ∀ x H', J.yld i H x H' → tc (some x :: fr) H' fun b H3 => if b = true then te (some x :: fr) H3 fun y H4 => ∃ ys, H4 D = some (.lst ys) ∧ ys.length < sizeLine ∧ ∃ m', m' < m ∧ W (i + 1) m' (upd H4 D (.lst (ys ++ [y])))
      else ∃ m', m' < m ∧ W (i + 1) m' H3)
noncomputable def tComp (wi : TI) (ix : List Nat) (tc : TT) (te : TE) : TE := fun σ H Q => wi σ H fun J H1 => ∀ D, H1 D = none → CompW J D H1 (frOf σ ix) tc te fun D H => Q (.ref D) H
theorem compLoop_go {prog : Program} {w : World} {A : Around} {s : Shared} {R : Result → Shared → Prop} {elt target iter : Expr} {ifs : List Expr} {scope : Scope} {pos : Pos} {it acc : Value} {env : Env} (I : Nat → Shared → Prop)
    (turn : ∀ n s, I n s → wpAny (model prog w) A (pyNext it) (fun r s₁ => match r with
      | none => R (.ok .next) s₁
      | some v => wpAny (model prog w) A (letOwnedTupleGo target it v) (fun _ s₂ => wpAny (model prog w) A (assign target env v) (fun _ s₃ =>
          wpAny (model prog w) A (forIn ifs true fun c r => if r = true then do let ok ← isTrue c env (eval c env); pure (ForInStep.yield ok) else pure (ForInStep.yield r)) (fun ok s₄ =>
            if ok = true then wpAny (model prog w) A (eval elt env) (fun x s₅ =>
              wpAny (model prog w) A (call (.builtin "list.append") [acc, x]) (fun _ s₆ => ∃ m, m < n ∧ I m s₆) (notedBy (model prog w) A env fun e s' => R (.error e) s') s₅) (notedBy (model prog w) A env fun e s' => R (.error e) s') s₄
            else ∃ m, m < n ∧ I m s₄) (notedBy (model prog w) A env fun e s' => R (.error e) s') s₃) (notedBy (model prog w) A env fun e s' => R (.error e) s') s₂) (notedBy (model prog w) A env fun e s' => R (.error e) s') s₁) (notedBy (model prog w) A env fun e s' => R (.error e) s') s)
    (n : Nat) (h : I n s) :
    codeAny (model prog w) A (.compLoop (.ListComp elt [⟨target, iter, ifs, 0⟩] scope pos) 0 it acc env) R s := by
  refine codeAny_loop rfl I (fun n s hI => ?_) n h
  show wpAny _ A ((compTurn (.ListComp elt [⟨target, iter, ifs, 0⟩] scope pos) 0 it acc env).onRaise (fun x => do noteFrame x env; theTreesLotGoes x)) _ _ s
  refine wpAny_noted ?_
  rw [compTurn_list]
  refine wpAny_bind (wpAny_standAt (wpAny_bind (wpAny_mono (turn n s hI) (fun r s₁ h₁ => ?_) fun _ _ h' => h')))
  cases r with
  | none => exact wpAny_pure h₁
  | some v =>
    refine wpAny_bind (wpAny_mono h₁ (fun _ s₂ h₂ => ?_) fun _ _ h' => h')
    refine wpAny_bind (wpAny_mono h₂ (fun _ s₃ h₃ => wpAny_bind (wpAny_mono h₃ (fun ok s₄ h₄ => ?_) fun _ _ h' => h')) fun _ _ h' => h')
    cases ok with
    | false => exact wpAny_pure ⟨rfl, h₄⟩
    | true =>
      exact wpAny_bind (wpAny_bind (wpAny_mono h₄ (fun x s₅ h₅ => wpAny_bind (wpAny_mono h₅ (fun _ s₆ h₆ => wpAny_pure (wpAny_pure ⟨rfl, h₆⟩)) fun _ _ h' => h')) fun _ _ h' => h'))
structure CompOk (N N' : List Str) (sc scC : Scope) (x : Str) (ix : List Nat) : Prop where
  kind : scC.kind = .function
  nocell : ∀ y ∈ scC.names, y.2 ≠ .cell
  names : ∀ y ∈ scC.names, y.2 = .local → scC.names.lookup y.1 = some .local
  loc : scC.names.lookup x = some .local
  free : ∀ y ∈ scC.names, y.2 = .free → sc.names.lookup y.1 = some .cell
  nd : N'.Nodup
  hd : N'[0]? = some x
  len : N'.length = ix.length + 1
  fr : ∀ p ∈ ix.zip N'.tail, N[p.1]? = some p.2 ∧ sc.names.lookup p.2 = some .cell ∧ scC.names.lookup p.2 = some .free
section
variable {X : Cx} {N' : List Str} {scC : Scope} {x : Str} {ix : List Nat} {px pos : Pos} {elt iter : Expr} {ifs : List Expr} {wi : TI} {tc : TT} {te : TE}
theorem comp_block {pins : List (Addr × Obj)} {σ : St} {H2 : Hp} {s2 : Shared} {it : Addr} {fp : List Addr} {tn : Nat → Heap → Prop} {J : It} {RR : Value → Addr → Result → Shared → Prop} {E : Value → Shared → Prop} {Qd : Addr → Hp → Prop}
    (ok : CompOk X.N N' X.env.scope scC x ix) (hc : X.calm = true) (I2 : Inv X pins σ H2 s2) (T : Turn X.prog X.w X.K (.Name x px) J fp it tn) (st2 : tn 0 s2.heap) (f2 : ∀ b ∈ fp, FpOk X pins H2 b)
    (hcs : ∀ C s₂ H₂ fp pn, PTs (X.blk N' scC C s₂ H₂ fp pn) ifs tc) (hes : ∀ C s₂ H₂ fp pn, PE (X.blk N' scC C s₂ H₂ fp pn) elt te)
    (hW : ∀ D, H2 D = none → CompW J D H2 (frOf σ ix) tc te Qd)
    (hRR : ∀ D C s4 H4 m, Inv X pins σ H4 s4 → s4.heap.Ns C m → (∀ (h' : Heap) (t' : Nat) (σ' : St) (s5 : Shared), Inv X pins σ' H4 s5 → Heap.SameBut C s5.heap h' → Inv X pins σ' H4 { s5 with heap := h', toks := t' }) → C ≠ X.env.locals → (∀ y c, X.env.cells.lookup y = some c → c ≠ C) → Qd D H4 → RR (.ref D) C (.ok .next) s4) :
    wpAny (model X.prog X.w) X.A (newList []) (fun acc s₃ => wpAny (model X.prog X.w) X.A (newFunctionEnv scC X.env.globals (clOf scC X.env) [] X.env.qual none .none (some X.env)) (fun cenv s₄ =>
      codeAny (model X.prog X.w) X.A (.compStart (.ListComp elt [⟨.Name x px, iter, ifs, 0⟩] scC pos) 0 (.ref it) acc { cenv with scope := relabel scC X.env }) (RR acc cenv.locals) s₄) E s₃) E s2 := by
  refine wpAny_newObj_type (wpAny_newFunctionEnv ok.nocell (by intro y hy; simp at hy) (fun h₁ hns₁ hsb₁ => ?_) ok.kind)
  dsimp only at hns₁ hsb₁ ⊢
  generalize hH2 : s2.heap.push { cls := .type "list", dict := none, data := .seq ([] : List Value).toArray } = HP at hns₁ hsb₁ ⊢
  have hC : HP.objs.size = s2.heap.objs.size + 1 := by rw [← hH2, Heap.size_push]
  have hDC : s2.heap.objs.size ≠ HP.objs.size := by rw [hC]; exact Nat.ne_of_lt (Nat.lt_succ_self _)
  have hCle : s2.heap.objs.size ≤ HP.objs.size := by rw [hC]; exact Nat.le_succ _
  have below : ∀ b, b < s2.heap.objs.size → b ≠ HP.objs.size ∧ b ≠ s2.heap.objs.size := fun b hb => ⟨by rw [hC]; exact Nat.ne_of_lt (Nat.lt_succ_of_lt hb), Nat.ne_of_lt hb⟩
  have old : ∀ b o, s2.heap.get? b = some o → h₁.get? b = some o := fun b o e => hsb₁.extBut b o (below b (Heap.lt_size e)).1 (Heap.get?_push_of_some _ (hH2 ▸ Heap.get?_push_of_some _ e))
  have hacc : h₁.get? s2.heap.objs.size = some { cls := .type "list", dict := none, data := .seq ([] : List Value).toArray } := hsb₁.extBut _ _ hDC (Heap.get?_push_of_some _ (hH2 ▸ Heap.get?_push_size _ rfl))
  have hD0 : H2 s2.heap.objs.size = none := I2.hok.fresh (Nat.le_refl _)
  have hC0 : H2 HP.objs.size = none := I2.hok.fresh hCle
  generalize hD : s2.heap.objs.size = D at hDC hacc hD0 ⊢
  generalize hCC : HP.objs.size = C at hns₁ hsb₁ hDC hC0 hCle below ⊢
  have hfree : ∀ y ∈ scC.names, y.2 = .free → ∃ c, X.env.cells.lookup y.1 = some c := fun y hy e => I2.ok.has y.1 (.inl (ok.free y hy e))
  have clS : ∀ y c, (clOf scC X.env).lookup y = some c → X.env.cells.lookup y = some c := cl_sub X.env (fun _ _ => trivial) scC.names [] hfree (fun _ _ z => by simp at z)
  have clH : ∀ y, (y, NameKind.free) ∈ scC.names → ∃ c, (clOf scC X.env).lookup y = some c := fun y hy => cl_has X.env scC.names [] y (.inr hy)
  have cellLt : ∀ y c, X.env.cells.lookup y = some c → c < s2.heap.objs.size := fun y c e => by
    obtain ⟨v, o, ho, _⟩ := I2.cell y c e
    exact Heap.lt_size ho
  have fpLt : ∀ b ∈ fp, b < s2.heap.objs.size := fun b hb => by
    obtain ⟨o, e, _⟩ := T.obj 0 _ st2 b hb
    exact Heap.lt_size e
  have nstk : ∀ b, b ≠ X.env.locals → b ∉ X.fs → b ∉ frs X.stack := fun b h1 h2 z => (List.mem_cons.mp (I2.stkSub b z)).elim h1 h2
  have okB : (X.blk N' scC C s2 H2 fp (X.pn ++ pins)).Ok := by
    refine ⟨I2.ok.mod, ok.kind, I2.ok.glob, I2.ok.blt, hCle, fun y z c h1 h2 => ?_, fun y hy => ?_, fun y c z => ?_, I2.ok.hd, I2.ok.frames, .inl rfl, fun b hb => ?_, I2.bs, Nat.le_trans I2.ok.bsz I2.sz, fun b o e hb => ?_, fun b hb => ?_, I2.stack, I2.stkFree⟩
    · exact I2.ok.inj y z c (clS y c h1) (clS z c h2)
    · have hy' : (relabel scC X.env).names.lookup y = some .cell ∨ (relabel scC X.env).names.lookup y = some .free := hy
      have hf : scC.names.lookup y = some .free := by
        rcases hy' with z | z
        · rcases relabel_look z with q | q
          · exact absurd rfl (ok.nocell _ (PySem.mem_of_lookup q))
          · exact q.2
        · rcases relabel_look z with q | q
          · exact q
          · exact absurd q.1 (by decide)
      exact clH y (PySem.mem_of_lookup hf)
    · exact nomatch z
    · exact ⟨(below b (fpLt b hb)).1, fun y c e => (f2 b hb).2.2.2.2.1 y c (clS y c e)⟩
    · rcases (f2 b hb).2.2.2.1 with z | z
      · exact I2.ok.noex b o e z
      · exact absurd (Nat.lt_of_lt_of_le (Heap.lt_size e) (Nat.le_trans I2.ok.bsz z)) (Nat.lt_irrefl _)
    · exact nstk b (f2 b hb).2.1 (f2 b hb).2.2.1
  have fpB : ∀ {H' : Hp}, (∀ b ∈ fp, H' b = none) → ∀ b ∈ fp, FpOk (X.blk N' scC C s2 H2 fp (X.pn ++ pins)) [] H' b := fun hn b hb =>
    ⟨hn b hb, (below b (fpLt b hb)).1, nstk b (f2 b hb).2.1 (f2 b hb).2.2.1, .inl hb, fun y c e => (f2 b hb).2.2.2.2.1 y c (clS y c e), fun p hp => (f2 b hb).2.2.2.2.2 p (by simpa using (show p ∈ (X.pn ++ pins) ++ [] from hp))⟩
  obtain ⟨mL, hmL, lookL⟩ := id I2.loc
  have IB : Inv (X.blk N' scC C s2 H2 fp (X.pn ++ pins)) [] (none :: frOf σ ix) (upd H2 D (.lst [])) { s2 with heap := h₁, toks := s2.toks + ([] : List (Str × Value)).length } := by
    refine ⟨okB, rfl, I2.bare, Un.laid old (Nat.le_of_eq hD) hD0, ⟨_, hns₁, fun i y v h1 h2 h3 => ?_⟩, fun y c e => ?_, ?_, fun y c e => ?_, fun p hp => ?_, I2.hok.laid old (Nat.le_of_eq hD) ⟨Nat.zero_le _, [], _, .nil, hacc⟩, ?_⟩
    · cases i with
      | zero => exact nomatch h2
      | succ j =>
        have h2' : (frOf σ ix)[j]? = some (some v) := h2
        have h1' : N'[j + 1]? = some y := h1
        unfold frOf at h2'
        rw [List.getElem?_map] at h2'
        cases ei : ix[j]? with
        | none => rw [ei] at h2'; cases h2'
        | some i =>
          rw [ei] at h2'
          have h2'' : (σ[i]?).getD none = some v := Option.some.inj h2'
          have hσ : σ[i]? = some (some v) := by
            cases es : σ[i]? with
            | none => rw [es] at h2''; cases h2''
            | some q => rw [es] at h2''; exact congrArg some h2''
          have h1'' : N'.tail[j]? = some y := by rw [List.getElem?_tail]; exact h1'
          obtain ⟨n1, n2, n3⟩ := ok.fr (i, y) (List.mem_of_getElem? (i := j) (by rw [List.getElem?_zip_eq_some]; exact ⟨ei, h1''⟩))
          obtain ⟨u, ru, lk⟩ := lookL i y v n1 hσ (.inr (.inl n2))
          refine ⟨u, ru, ?_⟩
          rcases lk with ⟨k, _⟩ | ⟨_, c, ec, z⟩
          · have k' : X.env.scope.names.lookup y = some .local := k
            rw [n2] at k'
            cases k'
          · obtain ⟨c', ec'⟩ := clH y (PySem.mem_of_lookup n3)
            have e3 := clS y c' ec'
            rw [ec] at e3
            cases e3
            have kk : (relabel scC X.env).names.lookup y = some .cell ∨ (relabel scC X.env).names.lookup y = some .free := by
              rcases h3 with q | q | q
              · have q' : (relabel scC X.env).names.lookup y = some .local := q
                rcases relabel_look q' with r | r
                · rw [n3] at r; cases r
                · exact absurd r.1 (by decide)
              · exact .inl q
              · exact .inr q
            exact .inr ⟨kk, c, ec', z.keeps old⟩
    · obtain ⟨v, z⟩ := I2.cell y c (clS y c e)
      exact ⟨v, z.keeps old⟩
    · show upd H2 D (.lst []) C = none
      rw [upd_ne (Ne.symm hDC)]
      exact hC0
    · show upd H2 D (.lst []) c = none
      have l := cellLt y c (clS y c e)
      rw [upd_ne (fun q => by rw [q, ← hD] at l; exact Nat.lt_irrefl _ l)]
      exact I2.freeC y c (clS y c e)
    · have hp' : p ∈ X.pn ++ pins := by simpa using (show p ∈ (X.pn ++ pins) ++ [] from hp)
      obtain ⟨e, n, ne, nf, d⟩ := I2.pin p hp'
      have l := Heap.lt_size e
      refine ⟨old _ _ e, ?_, (below p.1 l).1, nstk p.1 ne nf, d⟩
      rw [upd_ne (fun q => by rw [q, ← hD] at l; exact Nat.lt_irrefl _ l)]
      exact n
    · show (none :: frOf σ ix : St).length = N'.length
      rw [ok.len]
      simp [frOf]
  have back : ∀ {H4 : Hp} {s4 : Shared} {σ4 : St} {ps : List (Addr × Obj)}, Inv (X.blk N' scC C s2 H2 fp (X.pn ++ pins)) ps σ4 H4 s4 → Inv X pins σ H4 s4 := fun I4 =>
    I2.call' I4.os I4.base I4.hok I4.bare fun b hb => ⟨(f2 b hb).2.2.2.1, (f2 b hb).2.1, (f2 b hb).2.2.2.2.1, (f2 b hb).2.2.2.2.2⟩
  have neL : C ≠ X.env.locals := fun z => by
    have l := I2.lt
    rw [← z] at l
    exact absurd (Nat.lt_of_lt_of_le l hCle) (Nat.lt_irrefl _)
  have neC : ∀ y c, X.env.cells.lookup y = some c → c ≠ C := fun y c e => (below c (cellLt y c e)).1
  have neP : ∀ p ∈ X.pn ++ pins, p.1 ≠ C := fun p hp => (below p.1 (Heap.lt_size (I2.pin p hp).1)).1
  have loop : ∀ s₃ : Shared, s₃ = { s2 with heap := h₁, toks := s2.toks + ([] : List (Str × Value)).length } →
      codeAny (model X.prog X.w) X.A (.compLoop (.ListComp elt [⟨.Name x px, iter, ifs, 0⟩] scC pos) 0 (.ref it) (.ref D) (compEnvC scC (clOf scC X.env) C X.env)) (RR (.ref D) C) s₃ := by
    rintro s₃ rfl
    obtain ⟨W, ⟨m0, hw0⟩, turn⟩ := hW D hD0
    refine compLoop_go (fun n s' => ∃ i H', Inv (X.blk N' scC C s2 H2 fp (X.pn ++ pins)) [] (none :: frOf σ ix) H' s' ∧ tn i s'.heap ∧ (∀ b ∈ fp, H' b = none) ∧ W i n H') ?_ m0
      ⟨0, _, IB, T.keep _ _ _ st2 fun b _ o e => old b o e, fun b hb => ?_, hw0⟩
    · rintro n s3 ⟨i, H3, I3, st3, fr3, w3⟩
      rcases turn i n H3 w3 with ⟨stop, qn⟩ | ⟨go, step⟩
      · refine thn (T.done (X.blk N' scC C s2 H2 fp (X.pn ++ pins)) rfl rfl rfl hc i [] s3 _ H3 _ I3 (fpB fr3) st3 stop) fun r s4 ⟨hr, I4⟩ => ?_
        subst hr
        obtain ⟨m4, hm4, _⟩ := id I4.loc
        refine hRR D C s4 H3 m4 (back I4) hm4 (fun h' t' σ' s5 I5 sb => I5.turned (it := C) (fun b o hb e => (sb.2 b hb).trans e) I4.free neL (.inr (Nat.le_trans I2.sz hCle)) neC neP) neL neC qn
      · refine thn (T.item (X.blk N' scC C s2 H2 fp (X.pn ++ pins)) rfl rfl rfl hc i [] s3 _ H3 _ I3 (fpB fr3) st3 go) fun r s4 ⟨u, hr, h4⟩ => ?_
        subst hr
        refine thn h4 fun _ s5 ⟨v, H5, I5, r5, y5, st5, fr5⟩ => ?_
        have I5' := I5.pinned (fpB fr5) (T.obj _ _ st5)
        have hx' : (compEnvC scC (clOf scC X.env) C X.env).scope.names.lookup x = some .local := lookup_relabel_local ok.loc
        have fin : ∀ {H7 : Hp} {s7 : Shared}, Inv (X.blk N' scC C s2 H2 fp (X.pn ++ pins)) ([] ++ pinsAt fp s5.heap) (some v :: frOf σ ix) H7 s7 → ∀ {m' : Nat}, m' < n → W (i + 1) m' H7 →
            ∃ m, m < n ∧ ∃ i H', Inv (X.blk N' scC C s2 H2 fp (X.pn ++ pins)) [] (none :: frOf σ ix) H' s7 ∧ tn i s7.heap ∧ (∀ b ∈ fp, H' b = none) ∧ W i m H' := fun {H7 s7} I7 {m'} hm w7 => by
          refine ⟨m', hm, i + 1, H7, I7.unpinned.weak rfl (fun j q e => ?_), T.keep _ _ _ st5 fun b hb o e => (I7.pin (b, o) (List.mem_append_right _ (List.mem_append_right _ (mem_pinsAt hb e)))).1, fun b hb => ?_, w7⟩
          · cases j with
            | zero => exact nomatch e
            | succ j => exact e
          · obtain ⟨o, e, d⟩ := T.obj _ _ st5 b hb
            exact (I7.pin (b, o) (List.mem_append_right _ (List.mem_append_right _ (mem_pinsAt hb e)))).2.1
        refine wpAny_mono (pg_name (X := X.blk N' scC C s2 H2 fp (X.pn ++ pins)) (i := 0) ok.nd ok.hd (.inl hx') (.inr hx') _ s5 _ H5 v u (fun σ' H' => σ' = some v :: frOf σ ix ∧ H' = H5) I5' r5 ⟨rfl, rfl⟩) (fun _ s6 ⟨σ6, H6, I6, e1, e2⟩ => ?_) fun _ _ z => z.elim
        subst e1 e2
        refine wpAny_mono (hcs C s2 H2 fp (X.pn ++ pins) _ s6 _ _ _ I6 (step v _ y5)) (fun b s7 ⟨H7, I7, q7⟩ => ?_) fun _ _ z => z.elim
        cases b with
        | false =>
          rw [if_neg Bool.false_ne_true] at q7 ⊢
          obtain ⟨m', hm, w7⟩ := q7
          exact fin I7 hm w7
        | true =>
          rw [if_pos rfl] at q7 ⊢
          refine wpAny_mono (hes C s2 H2 fp (X.pn ++ pins) _ s7 _ _ _ I7 q7) (fun uy s8 ⟨y, H8, I8, r8, ys, hys, hl, m', hm, w8⟩ => ?_) fun _ _ z => z.elim
          refine wpAny_mono (mt_append (X := X.blk N' scC C s2 H2 fp (X.pn ++ pins)) _ s8 _ H8 (.ref D) [y] (.ref D) [uy] (fun _ H' => H' = upd H8 D (.lst (ys ++ [y]))) I8 rfl (.cons r8 .nil) ⟨D, ys, y, rfl, rfl, hys, hl, rfl⟩) (fun _ s9 ⟨z, H9, I9, _, q9⟩ => ?_) fun _ _ z => z.elim
          subst q9
          exact fin I9 hm w8
    · show upd H2 D (.lst []) b = none
      have l := fpLt b hb
      rw [upd_ne (fun q => by rw [q, ← hD] at l; exact Nat.lt_irrefl _ l)]
      exact (f2 b hb).1
  exact codeAny_compStart_list (loop _ rfl) (T.self X.A 0 _ _ _ (T.keep _ _ _ st2 fun b _ o e => old b o e) (loop _ rfl))
theorem pe_comp (ok : CompOk X.N N' X.env.scope scC x ix) (hc : X.calm = true) (hi : PI X (.Name x px) iter wi) (hcs : ∀ C s₂ H₂ fp pn, PTs (X.blk N' scC C s₂ H₂ fp pn) ifs tc) (hes : ∀ C s₂ H₂ fp pn, PE (X.blk N' scC C s₂ H₂ fp pn) elt te)
    (hs : ∀ x, foldedSetIterable iter X.env x = pure x := by intro _; rfl) : PE X (.ListComp elt [⟨.Name x px, iter, ifs, 0⟩] scC pos) (tComp wi ix tc te) := by
  intro pins s σ H Q I h
  rw [eval_ListComp]
  refine wpAny_comprehension_free (use := none) rfl hs (closure_clOf fun y hy e => I.ok.has y.1 (.inl (ok.free y hy e))) ok.kind ok.names (thn (hi pins s σ H _ I h) fun v s1 h1 => thn h1 fun itv s2 h2 => ?_)
  obtain ⟨it, fp, tn, J, H2, e, I2, T, st2, f2, hW⟩ := h2
  subst e
  refine comp_block (RR := fun acc C => compPost (model X.prog X.w) X.A X.xe none (EP X pins σ Q) acc C) (Qd := fun D H => Q (.ref D) H) ok hc I2 T st2 f2 hcs hes hW ?_
  intro D C s4 H4 m I4 hns tr _ _ q
  exact ⟨m, hns, fun h' sb => ⟨.ref D, H4, tr h' s4.toks σ s4 I4 sb, rfl, q⟩⟩
theorem ps_setComp {i : Nat} {y : Str} {py spos : Pos} (hN : X.N.Nodup) (hiN : X.N[i]? = some y) (hy : X.env.scope.names.lookup y = some .local) (ok : CompOk X.N N' X.env.scope scC x ix) (hc : X.calm = true) (hi : PI X (.Name x px) iter wi) (hcs : ∀ C s₂ H₂ fp pn, PTs (X.blk N' scC C s₂ H₂ fp pn) ifs tc)
    (hes : ∀ C s₂ H₂ fp pn, PE (X.blk N' scC C s₂ H₂ fp pn) elt te) (hsw : swapsWith (.ListComp elt [⟨.Name x px, iter, ifs, 0⟩] scC pos) (some (.Name y py)) spos.line X.env = pure true := by rfl)
    (hs : ∀ x, foldedSetIterable iter X.env x = pure x := by intro _; rfl) : PS X (.Assign [.Name y py] (.ListComp elt [⟨.Name x px, iter, ifs, 0⟩] scC pos) spos) (tAsg (tComp wi ix tc te) (gName i)) := by
  intro pins s σ H D I h
  rw [exec_Assign_Name_used _ _ _ _ hsw]
  refine wpAny_bind (wpAny_standAt (wpAny_bind ?_))
  show wpAny _ X.A (do let _ ← comprehension (.ListComp elt [⟨.Name x px, iter, ifs, 0⟩] scC pos) scC X.env _ (newList []) false (eval iter X.env) (some (assign (.Name y py) X.env))) _ _ s
  refine wpAny_bind (wpAny_mono (wpAny_comprehension_free (use := some (assign (.Name y py) X.env)) (Q := fun _ s' => SP X pins D .next s') rfl hs (closure_clOf fun y hy e => I.ok.has y.1 (.inl (ok.free y hy e))) ok.kind ok.names
    (thn (hi pins s σ H _ I h) fun v s1 h1 => thn h1 fun itv s2 h2 => ?_)) (fun _ s' hq => wpAny_pure (wpAny_pure hq)) fun _ _ e => e)
  obtain ⟨it, fp, tn, J, H2, e, I2, T, st2, f2, hW⟩ := h2
  subst e
  refine comp_block (RR := fun acc C => compPost (model X.prog X.w) X.A X.xe (some (assign (.Name y py) X.env)) (fun _ s' => SP X pins D .next s') acc C) (Qd := fun B H => D.nx (σ.set i (some (.ref B))) H) ok hc I2 T st2 f2 hcs hes hW ?_
  intro B C s4 H4 m I4 hns tr neL neC q
  show wpAny _ X.A (assign (.Name y py) X.env (.ref B)) _ _ s4
  refine wpAny_assign_Name (store_ok2 I4 hN hiN (.inl hy) (show RelV (.ref B) (.ref B) from rfl) (fun s5 I5 ⟨a, sb, ha⟩ => ?_) (.inr hy))
  have hCa : C ≠ a := by
    rcases ha with e | e
    · rw [e]; exact neL
    · exact Ne.symm (neC y a e)
  exact ⟨m, hns.sameBut sb hCa, fun h' sb' => ⟨_, H4, tr h' s5.toks _ s5 I5 sb', q⟩⟩
end
end L2
namespace L2
open PySem PySem.Spec PyProof.Rows
noncomputable def DictE (h : Heap) (d : Addr) (es : Array DictEntry) (ep : Nat) : Prop := ∃ o, h.get? d = some o ∧ o.ExactDict ∧ o.data = .dict es ep
theorem DictE.ty {s : Shared} {d : Addr} {es : Array DictEntry} {ep : Nat} (x : DictE s.heap d es ep) : s.TypeIs (.ref d) "dict" := let ⟨o, ho, hc, _⟩ := x; ⟨o, ho, hc.1⟩
theorem DictE.at {h h' : Heap} {d : Addr} {es : Array DictEntry} {ep : Nat} (x : DictE h d es ep) (e : ∀ o, h.get? d = some o → h'.get? d = some o) : DictE h' d es ep := let ⟨o, ho, r⟩ := x; ⟨o, e _ ho, r⟩
theorem DictE.lt {h : Heap} {d : Addr} {es : Array DictEntry} {ep : Nat} (x : DictE h d es ep) : d < h.objs.size := let ⟨_, ho, _⟩ := x; Heap.lt_size ho
section
variable {prog : Program} {w : World} {A : Around} {E : Value → Shared → Prop} {s : Shared} {d it : Addr} {es : Array DictEntry} {i ep : Nat}
end
section
variable {X : Cx}
theorem call_all_bls (hc : X.calm = true) : CallR X (.builtin "all") (fun xs H Q => ∃ (p : Addr) (bs : List Bool), xs = [.ref p] ∧ SqL X.K H p (bs.map V.bl) ∧ Q (.bl (bs.all id)) H) := by
  intro pins s σ H xs us Q I r h
  obtain ⟨p, bs, rfl, hq, q⟩ := h
  obtain ⟨u, rfl, rx⟩ := vals1 r
  cases rx
  obtain ⟨its, rv, pl, hz⟩ := I.list hq
  have hlen : bs.length = its.length := by simpa using rv.length
  have hnp : p ≠ s.heap.objs.size := by
    obtain ⟨o, n, e, _⟩ := pl
    exact Nat.ne_of_lt (Heap.lt_size e)
  refine call_all_walk (wpAny_pyIter_list pl.isList ?_)
  refine ⟨s.heap.objs.size, _, _, _, _, _, fun i => bs.getD i true, rfl, Walks.list (show X.A.in1.handled = none from I.ok.hd hc) s.heap.objs.size p hnp its.toArray, ⟨⟨_, Heap.get?_push_size _ rfl, rfl, rfl⟩, ?_⟩, fun i v s' Q' E' hv hQ' => ?_, fun h' tk kp => ?_⟩
  · obtain ⟨o, n, e, e2, e3, e4⟩ := pl
    exact ⟨o, Heap.get?_push_of_some _ e, e2, n, e4⟩
  · have hv' : its[i]? = some v := by simpa using hv
    have hi : i < its.length := (List.getElem?_eq_some_iff.mp hv').1
    have hb : (bs.map V.bl)[i]? = some (V.bl (bs.getD i true)) := by
      rw [List.getElem?_map, List.getElem?_eq_getElem (by omega), List.getD_eq_getElem?_getD, List.getElem?_eq_getElem (by omega)]; rfl
    obtain ⟨u, hu, ru⟩ := rv.get hb
    rw [hv'] at hu
    cases hu
    cases (show v = Value.bool _ from ru)
    exact wpAny_truthy_bool hQ'
  · have eb : (List.range its.toArray.size).all (fun i => bs.getD i true) = bs.all id := by
      rw [List.size_toArray, ← hlen]
      conv => rhs; rw [← range_getD bs true]
      rw [List.all_map]; rfl
    refine ⟨.bl (bs.all id), H, ?_, ?_, q⟩
    · have I1 : Inv X pins σ H { s with heap := s.heap.push { cls := .type "list_iterator", data := .fields #[.ref p, .int 0 0] }, toks := s.toks } := I.kept fun b o e => Heap.get?_push_of_some _ e
      refine I1.turned (it := s.heap.objs.size) (fun b o hb e => kp b o (by simpa using hb) e) (I.hok.fresh (Nat.le_refl _)) (Nat.ne_of_gt I.lt) (.inr I.sz) (fun x c e => ?_) fun z hz => ?_
      · obtain ⟨v, o, ho, _⟩ := I.cell x c e
        exact Nat.ne_of_lt (Heap.lt_size ho)
      · exact Nat.ne_of_lt (Heap.lt_size (I.pin z hz).1)
    · rw [eb]; rfl
noncomputable def gLst (K : PySem.W.Frag) (n : Nat) (t : TGs) : TG := fun v σ H Q => ∃ a xs, v = .ref a ∧ SqL K H a xs ∧ xs.length = n ∧ t xs σ H Q
theorem pg_lst {es : List Expr} {k : Nat} {pos : Pos} {t : TGs} {n : Nat} (hc : X.calm = true) (h : PGs X es t)
    (hn : (assignEach es X.env).length = n := by rfl) (hst : (assignEach es X.env).findIdx? (·.1) = none := by rfl) : PG X (.Tuple es k pos) (gLst X.K n t) := by
  intro pins s σ H v u Q I r hw
  obtain ⟨a, xs, e1, hq, hl, hw⟩ := hw
  subst e1
  cases r
  obtain ⟨its, rv, pl, hz⟩ := I.list hq
  rw [assign_Tuple]
  refine wpAny_bind (wpAny_standAt ?_)
  unfold unpack
  have hlen : (assignEach es X.env).length = its.toArray.size := by rw [hn, ← hl, rv.length]; simp
  rw [hlen, hst]
  refine wpAny_bind (wpAny_holding (PySem.W.kun_itemsOf (I.ok.hd hc) pl.isList fun h' hx => ?_))
  have I1 : Inv X pins σ H { s with heap := h' } := I.kept (t' := s.toks) fun b o e => hx b o (Nat.ne_of_lt (Heap.lt_size e)) e
  exact h pins _ σ H xs _ Q I1 (by simpa using rv) hw
theorem strsAre_of : ∀ {zs : List Str} {us : List Value}, Vals (zs.map V.str) us → StrsAre us zs
  | [], _, .nil => .nil
  | z :: zs, _, .cons r t => by
    obtain ⟨tk, e⟩ := (show ∃ t, _ = Value.str z t from r)
    subst e
    exact .cons z tk (strsAre_of t)
theorem mt_join : MtR X "str.join" (fun x xs H Q => ∃ (z : Str) (p : Addr) (ys : List Str), x = .str z ∧ xs = [.ref p] ∧ SqL X.K H p (ys.map V.str) ∧ (ys.map (·.length)).sum + ys.length * z.length ≤ 16777216 ∧ Q (.str (Txt.join z ys)) H) := by
  intro pins s σ H x xs v us Q I rx r h
  obtain ⟨z, p, ys, rfl, rfl, hq, hl, q⟩ := h
  obtain ⟨u, rfl, ru⟩ := vals1 r
  cases ru
  obtain ⟨tk, e⟩ := (show ∃ t, v = Value.str z t from rx)
  subst e
  obtain ⟨its, rv, pl, hz⟩ := I.list hq
  exact join_list pl.isList (by simpa using strsAre_of rv) hl fun t' k => ⟨.str (Txt.join z ys), H, I.tok k, ⟨_, rfl⟩, q⟩
mutual
inductive Dn (K : PySem.W.Frag) (H : Hp) : V → PyData → Prop
  | non : Dn K H .non .none
  | bl (b : Bool) : Dn K H (.bl b) (.bool b)
  | int (i : Int) : Dn K H (.int i) (.int i)
  | str (x : Str) : Dn K H (.str x) (.str x)
  | lst {a : Addr} {xs : List V} {ds : List PyData} : SqL K H a xs → Dns K H xs ds → Dn K H (.ref a) (.list ds)
  | tup {a : Addr} {xs : List V} {ds : List PyData} : SqT K H a xs → Dns K H xs ds → Dn K H (.ref a) (.tuple ds)
inductive Dns (K : PySem.W.Frag) (H : Hp) : List V → List PyData → Prop
  | nil : Dns K H [] []
  | cons {v : V} {d : PyData} {vs : List V} {ds : List PyData} : Dn K H v d → Dns K H vs ds → Dns K H (v :: vs) (d :: ds)
end
noncomputable def dV : V → PyData
  | .non => .none
  | .bl b => .bool b
  | .int i => .int i
  | .str x => .str x
  | _ => .none
theorem Inv.no_both {pins : List (Addr × Obj)} {σ : St} {H : Hp} {s : Shared} {a : Addr} {xs ys : List V} (I : Inv X pins σ H s) (h : SqL X.K H a xs) (h' : SqT X.K H a ys) : False := by
  obtain ⟨_, _, ⟨o, n, e1, e2, _⟩, _⟩ := I.list h
  obtain ⟨_, _, ⟨o', k1, k2, _⟩, _⟩ := I.tuple h'
  rw [e1] at k1; cases k1; rw [e2] at k2; exact absurd k2 (by simp)
mutual
theorem Dn.unique {pins : List (Addr × Obj)} {σ : St} {H : Hp} {s : Shared} (I : Inv X pins σ H s) : ∀ {v : V} {d d' : PyData}, Dn X.K H v d → Dn X.K H v d' → d = d'
  | _, _, _, .non, h => by cases h; rfl
  | _, _, _, .bl _, h => by cases h; rfl
  | _, _, _, .int _, h => by cases h; rfl
  | _, _, _, .str _, h => by cases h; rfl
  | _, _, _, .lst hq hs, h => by
    cases h with
    | lst kq ks => cases I.list_inj hq kq; rw [Dns.unique I hs ks]
    | tup kq ks => exact (I.no_both hq kq).elim
  | _, _, _, .tup hq hs, h => by
    cases h with
    | tup kq ks => cases I.tuple_inj hq kq; rw [Dns.unique I hs ks]
    | lst kq ks => exact (I.no_both kq hq).elim
theorem Dns.unique {pins : List (Addr × Obj)} {σ : St} {H : Hp} {s : Shared} (I : Inv X pins σ H s) : ∀ {vs : List V} {ds ds' : List PyData}, Dns X.K H vs ds → Dns X.K H vs ds' → ds = ds'
  | _, _, _, .nil, h => by cases h; rfl
  | _, _, _, .cons h t, k => by
    cases k with
    | cons h' t' => rw [Dn.unique I h h', Dns.unique I t t']
end
mutual
theorem Dn.refl {K : PySem.W.Frag} {H : Hp} : ∀ {v : V} {d : PyData}, Dn K H v d → PyData.eqv d d = true
  | _, _, .non => by simp [PyData.eqv]
  | _, _, .bl _ => by simp [PyData.eqv]
  | _, _, .int _ => by simp [PyData.eqv]
  | _, _, .str _ => by simp [PyData.eqv]
  | _, _, .lst _ hs => by simp only [PyData.eqv]; exact Dns.refl hs
  | _, _, .tup _ hs => by simp only [PyData.eqv]; exact Dns.refl hs
theorem Dns.refl {K : PySem.W.Frag} {H : Hp} : ∀ {vs : List V} {ds : List PyData}, Dns K H vs ds → PyData.eqvAll ds ds = true
  | _, _, .nil => by simp [PyData.eqvAll]
  | _, _, .cons h t => by rw [PyData.eqvAll, Dn.refl h, Dns.refl t]; rfl
end
theorem Dns.length {K : PySem.W.Frag} {H : Hp} : ∀ {vs : List V} {ds : List PyData}, Dns K H vs ds → vs.length = ds.length
  | _, _, .nil => rfl
  | _, _, .cons _ t => by simp [Dns.length t]
theorem PlainL.isL {h : Heap} {a : Addr} {its : Array Value} (x : PlainL h a its) : h.IsList a its := x.isList
mutual
theorem Dn.eqAt {pins : List (Addr × Obj)} {σ : St} {H : Hp} {s : Shared} (I : Inv X pins σ H s) : ∀ {v : V} {d : PyData}, Dn X.K H v d → ∀ {v' : V} {d' : PyData}, Dn X.K H v' d' → ∀ {u u' : Value}, RelV v u → RelV v' u' → ∀ {A : Around}, A.units + min d.depth d'.depth < cLine → SeqAt.EqAt A s u u' (PyData.eqv d d')
  | _, _, .non, _, _, h', _, _, r, r', A, hu => by
    cases (show _ = Value.none from r)
    cases h' with
    | non => cases (show _ = Value.none from r'); exact SeqAt.EqAt.same _
    | bl y => cases (show _ = Value.bool y from r'); exact SeqAt.EqAt.none_bool y
    | int y => obtain ⟨t, e⟩ := (show ∃ t, _ = Value.int y t from r'); subst e; exact SeqAt.EqAt.none_int y t
    | str y => obtain ⟨t, e⟩ := (show ∃ t, _ = Value.str y t from r'); subst e; exact SeqAt.EqAt.none_str y t
    | @lst a xs ds q hs => cases (show _ = Value.ref a from r'); obtain ⟨its, rv, pl, _⟩ := I.list q; exact SeqAt.EqAt.none_list pl.isList (SeqAt.room_here hu)
    | @tup a xs ds q hs => cases (show _ = Value.ref a from r'); obtain ⟨its, rv, pl, _⟩ := I.tuple q; exact SeqAt.EqAt.none_tuple pl (SeqAt.room_here hu)
  | _, _, .bl x, _, _, h', _, _, r, r', A, hu => by
    cases (show _ = Value.bool x from r)
    cases h' with
    | non => cases (show _ = Value.none from r'); exact SeqAt.EqAt.bool_none x
    | bl y => cases (show _ = Value.bool y from r'); exact SeqAt.EqAt.bool_bool x y
    | int y => obtain ⟨t, e⟩ := (show ∃ t, _ = Value.int y t from r'); subst e; exact SeqAt.EqAt.bool_int x y t
    | str y => obtain ⟨t, e⟩ := (show ∃ t, _ = Value.str y t from r'); subst e; exact SeqAt.EqAt.bool_str x y t
    | @lst a xs ds q hs => cases (show _ = Value.ref a from r'); obtain ⟨its, rv, pl, _⟩ := I.list q; exact SeqAt.EqAt.bool_list x pl.isList (SeqAt.room_here hu)
    | @tup a xs ds q hs => cases (show _ = Value.ref a from r'); obtain ⟨its, rv, pl, _⟩ := I.tuple q; exact SeqAt.EqAt.bool_tuple x pl (SeqAt.room_here hu)
  | _, _, .int x, _, _, h', _, _, r, r', A, hu => by
    obtain ⟨tx, ex⟩ := (show ∃ t, _ = Value.int x t from r); subst ex
    cases h' with
    | non => cases (show _ = Value.none from r'); exact SeqAt.EqAt.int_none x tx
    | bl y => cases (show _ = Value.bool y from r'); exact SeqAt.EqAt.int_bool x tx y
    | int y => obtain ⟨t, e⟩ := (show ∃ t, _ = Value.int y t from r'); subst e; exact SeqAt.EqAt.int_int x tx y t
    | str y => obtain ⟨t, e⟩ := (show ∃ t, _ = Value.str y t from r'); subst e; exact SeqAt.EqAt.int_str x tx y t
    | @lst a xs ds q hs => cases (show _ = Value.ref a from r'); obtain ⟨its, rv, pl, _⟩ := I.list q; exact SeqAt.EqAt.int_list x tx pl.isList (SeqAt.room_here hu)
    | @tup a xs ds q hs => cases (show _ = Value.ref a from r'); obtain ⟨its, rv, pl, _⟩ := I.tuple q; exact SeqAt.EqAt.int_tuple x tx pl (SeqAt.room_here hu)
  | _, _, .str x, _, _, h', _, _, r, r', A, hu => by
    obtain ⟨tx, ex⟩ := (show ∃ t, _ = Value.str x t from r); subst ex
    cases h' with
    | non => cases (show _ = Value.none from r'); exact SeqAt.EqAt.str_none x tx
    | bl y => cases (show _ = Value.bool y from r'); exact SeqAt.EqAt.str_bool x tx y
    | int y => obtain ⟨t, e⟩ := (show ∃ t, _ = Value.int y t from r'); subst e; exact SeqAt.EqAt.str_int x tx y t
    | str y => obtain ⟨t, e⟩ := (show ∃ t, _ = Value.str y t from r'); subst e; exact SeqAt.EqAt.str_str x tx y t
    | @lst a xs ds q hs => cases (show _ = Value.ref a from r'); obtain ⟨its, rv, pl, _⟩ := I.list q; exact SeqAt.EqAt.str_list x tx pl.isList (SeqAt.room_here hu)
    | @tup a xs ds q hs => cases (show _ = Value.ref a from r'); obtain ⟨its, rv, pl, _⟩ := I.tuple q; exact SeqAt.EqAt.str_tuple x tx pl (SeqAt.room_here hu)
  | _, _, .lst (a := b) hq hs, _, _, h', _, _, r, r', A, hu => by
    cases (show _ = Value.ref b from r)
    obtain ⟨itb, rb, plb, _⟩ := I.list hq
    cases h' with
    | non => cases (show _ = Value.none from r'); exact SeqAt.EqAt.list_none plb.isList (SeqAt.room_here hu)
    | bl y => cases (show _ = Value.bool y from r'); exact SeqAt.EqAt.list_bool y plb.isList (SeqAt.room_here hu)
    | int y => obtain ⟨t, e⟩ := (show ∃ t, _ = Value.int y t from r'); subst e; exact SeqAt.EqAt.list_int y t plb.isList (SeqAt.room_here hu)
    | str y => obtain ⟨t, e⟩ := (show ∃ t, _ = Value.str y t from r'); subst e; exact SeqAt.EqAt.list_str y t plb.isList (SeqAt.room_here hu)
    | @tup a xs ds q ks => cases (show _ = Value.ref a from r'); obtain ⟨its, rv, pl, _⟩ := I.tuple q; exact SeqAt.EqAt.list_tuple plb.isList pl (SeqAt.room_here hu)
    | @lst a xs ds q ks =>
      cases (show _ = Value.ref a from r')
      by_cases e : b = a
      · subst e
        cases I.list_inj hq q
        rw [Dns.unique I ks hs]
        simp only [PyData.eqv]; rw [Dns.refl hs]; exact SeqAt.EqAt.same _
      · obtain ⟨its, rv, pl, _⟩ := I.list q
        have n1 := rb.length; have n2 := rv.length; have n3 := Dns.length hs; have n4 := Dns.length ks
        simp only [PyData.eqv]
        have he : ∀ j (j1 : j < itb.toArray.size) (j2 : j < its.toArray.size), SeqAt.EqAt A.in1 s itb.toArray[j] its.toArray[j] (SeqAt.pairEq _ _ j) := fun j j1 j2 => by
          have z := Dns.eqAt I hs ks rb rv (A := A.in1) (SeqAt.room_in hu) j (by simpa using j1) (by simpa using j2)
          simpa using z
        refine SeqAt.EqAt.of_refs e ?_
        by_cases hsz : itb.toArray.size = its.toArray.size
        · rw [← SeqAt.eqvAll_same_length (by simp at hsz; omega), show List.length _ = itb.toArray.size by simp; omega]
          exact SeqAt.RcAt.lists plb.isList pl.isList hsz (SeqAt.room_here hu) he
        · rw [SeqAt.eqvAll_other_length (by simp at hsz; omega)]
          exact SeqAt.RcAt.lists_lengths plb.isList pl.isList (by simpa using hsz) (SeqAt.room_here hu)
  | _, _, .tup (a := b) hq hs, _, _, h', _, _, r, r', A, hu => by
    cases (show _ = Value.ref b from r)
    obtain ⟨itb, rb, plb, _⟩ := I.tuple hq
    cases h' with
    | non => cases (show _ = Value.none from r'); exact SeqAt.EqAt.tuple_none plb (SeqAt.room_here hu)
    | bl y => cases (show _ = Value.bool y from r'); exact SeqAt.EqAt.tuple_bool y plb (SeqAt.room_here hu)
    | int y => obtain ⟨t, e⟩ := (show ∃ t, _ = Value.int y t from r'); subst e; exact SeqAt.EqAt.tuple_int y t plb (SeqAt.room_here hu)
    | str y => obtain ⟨t, e⟩ := (show ∃ t, _ = Value.str y t from r'); subst e; exact SeqAt.EqAt.tuple_str y t plb (SeqAt.room_here hu)
    | @lst a xs ds q ks => cases (show _ = Value.ref a from r'); obtain ⟨its, rv, pl, _⟩ := I.list q; exact SeqAt.EqAt.tuple_list plb pl.isList (SeqAt.room_here hu)
    | @tup a xs ds q ks =>
      cases (show _ = Value.ref a from r')
      by_cases e : b = a
      · subst e
        cases I.tuple_inj hq q
        rw [Dns.unique I ks hs]
        simp only [PyData.eqv]; rw [Dns.refl hs]; exact SeqAt.EqAt.same _
      · obtain ⟨its, rv, pl, _⟩ := I.tuple q
        have n1 := rb.length; have n2 := rv.length; have n3 := Dns.length hs; have n4 := Dns.length ks
        simp only [PyData.eqv]
        have he : ∀ j (j1 : j < itb.toArray.size) (j2 : j < its.toArray.size), SeqAt.EqAt A.in1 s itb.toArray[j] its.toArray[j] (SeqAt.pairEq _ _ j) := fun j j1 j2 => by
          have z := Dns.eqAt I hs ks rb rv (A := A.in1) (SeqAt.room_in hu) j (by simpa using j1) (by simpa using j2)
          simpa using z
        refine SeqAt.EqAt.of_refs e ?_
        rw [← SeqAt.eqvAll_eq, ← n3, ← n4, n1, n2]
        have z := SeqAt.RcAt.tuples plb pl (SeqAt.room_here hu) he
        simpa using z
theorem Dns.eqAt {pins : List (Addr × Obj)} {σ : St} {H : Hp} {s : Shared} (I : Inv X pins σ H s) : ∀ {vs : List V} {ds : List PyData}, Dns X.K H vs ds → ∀ {vs' : List V} {ds' : List PyData}, Dns X.K H vs' ds' → ∀ {us us' : List Value}, Vals vs us → Vals vs' us' → ∀ {A : Around}, A.units + min (PyData.depthAll ds) (PyData.depthAll ds') < cLine →
    ∀ j (h1 : j < us.length) (h2 : j < us'.length), SeqAt.EqAt A s us[j] us'[j] (SeqAt.pairEq ds ds' j)
  | _, _, .nil, _, _, _, _, _, .nil, _, _, _, j, h1, _ => absurd h1 (Nat.not_lt_zero _)
  | _, _, .cons _ _, _, _, .nil, _, _, _, .nil, _, _, j, _, h2 => absurd h2 (Nat.not_lt_zero _)
  | _, _, .cons h t, _, _, .cons h' t', _, _, .cons r q, .cons r' q', A, hu, j, h1, h2 => by
    cases j with
    | zero => exact Dn.eqAt I h h' r r' (SeqAt.room_head hu)
    | succ j => exact Dns.eqAt I t t' q q' (SeqAt.room_tail hu) j (Nat.lt_of_succ_lt_succ h1) (Nat.lt_of_succ_lt_succ h2)
end
inductive Like : PyData → PyData → Prop
  | lst (xs ys : List PyData) : Like (.list xs) (.list ys)
  | tup (xs ys : List PyData) : Like (.tuple xs) (.tuple ys)
  | non : Like .none .none
noncomputable def rNeD (K : PySem.W.Frag) : R2 := fun x y H Q => ∃ dx dy, Dn K H x dx ∧ Dn K H y dy ∧ Like dx dy ∧ min dx.depth dy.depth ≤ 60 ∧ Q (.bl (!PyData.eqv dx dy)) H
theorem eqD_core {pins : List (Addr × Obj)} {σ : St} {H : Hp} {s : Shared} (I : Inv X pins σ H s) {A : Around} {x y : V} {u u' : Value} {dx dy : PyData} (hx : Dn X.K H x dx) (hy : Dn X.K H y dy) (l : Like dx dy) (rx : RelV x u) (ry : RelV y u') (hu : A.units + min dx.depth dy.depth < cLine) :
    SeqAt.RcAt A s u u' (PyData.eqv dx dy) ∧ SeqAt.RcNeAt A s u u' (!PyData.eqv dx dy) := by
  cases l with
  | non =>
    cases hx; cases hy
    cases (show u = Value.none from rx)
    cases (show u' = Value.none from ry)
    exact ⟨SeqAt.RcAt.none_none, SeqAt.RcNeAt.none_none⟩
  | lst ds es =>
    cases hx with
    | @lst b _ _ hq hs =>
    cases hy with
    | @lst a _ _ q ks =>
      cases (show u = Value.ref b from rx)
      cases (show u' = Value.ref a from ry)
      obtain ⟨itb, rb, plb, _⟩ := I.list hq
      obtain ⟨its, rv, pl, _⟩ := I.list q
      have n1 := rb.length; have n2 := rv.length; have n3 := Dns.length hs; have n4 := Dns.length ks
      simp only [PyData.eqv]
      have he : ∀ j (j1 : j < itb.toArray.size) (j2 : j < its.toArray.size), SeqAt.EqAt A.in1 s itb.toArray[j] its.toArray[j] (SeqAt.pairEq ds es j) := fun j j1 j2 => by
        have z := Dns.eqAt I hs ks rb rv (A := A.in1) (SeqAt.room_in hu) j (by simpa using j1) (by simpa using j2)
        simpa using z
      by_cases hsz : itb.toArray.size = its.toArray.size
      · have e : ds.length = itb.toArray.size := by simp; omega
        rw [← SeqAt.eqvAll_same_length (show ds.length = es.length by simp at hsz; omega), e]
        exact ⟨SeqAt.RcAt.lists plb.isList pl.isList hsz (SeqAt.room_here hu) he, SeqAt.RcNeAt.lists plb.isList pl.isList hsz (SeqAt.room_here hu) he⟩
      · rw [SeqAt.eqvAll_other_length (show ds.length ≠ es.length by simp at hsz; omega)]
        exact ⟨SeqAt.RcAt.lists_lengths plb.isList pl.isList (by simpa using hsz) (SeqAt.room_here hu), SeqAt.RcNeAt.lists_lengths plb.isList pl.isList (by simpa using hsz) (SeqAt.room_here hu)⟩
  | tup ds es =>
    cases hx with
    | @tup b _ _ hq hs =>
    cases hy with
    | @tup a _ _ q ks =>
      cases (show u = Value.ref b from rx)
      cases (show u' = Value.ref a from ry)
      obtain ⟨itb, rb, plb, _⟩ := I.tuple hq
      obtain ⟨its, rv, pl, _⟩ := I.tuple q
      have n1 := rb.length; have n2 := rv.length; have n3 := Dns.length hs; have n4 := Dns.length ks
      simp only [PyData.eqv]
      have he : ∀ j (j1 : j < itb.toArray.size) (j2 : j < its.toArray.size), SeqAt.EqAt A.in1 s itb.toArray[j] its.toArray[j] (SeqAt.pairEq ds es j) := fun j j1 j2 => by
        have z := Dns.eqAt I hs ks rb rv (A := A.in1) (SeqAt.room_in hu) j (by simpa using j1) (by simpa using j2)
        simpa using z
      have z1 := SeqAt.RcAt.tuples plb pl (SeqAt.room_here hu) he
      have z2 := SeqAt.RcNeAt.tuples plb pl (SeqAt.room_here hu) he
      rw [← SeqAt.eqvAll_eq ds es, ← n3, ← n4, n1, n2]
      exact ⟨by simpa using z1, by simpa using z2⟩
theorem op_neD (hu : X.A.units + 64 < cLine) : OpR X (compareOp .NotEq) (rNeD X.K) := by
  intro pins s σ H x y v u Q I rx ry h
  obtain ⟨dx, dy, hx, hy, l, hd, q⟩ := h
  exact (eqD_core I hx hy l rx ry (A := X.A) (by omega)).2 X.prog X.w X.xe _ ⟨.bl _, H, I, rfl, q⟩
end
end L2
namespace L2
open PySem PySem.Spec PyProof.Rows
noncomputable def SameX (D : Addr) (H H' : Hp) : Prop := ∀ b o, b ≠ D → H b = some o → H' b = some o
theorem SameX.refl (D : Addr) (H : Hp) : SameX D H H := fun _ _ _ e => e
theorem SameX.trans {D : Addr} {H H1 H2 : Hp} (a : SameX D H H1) (b : SameX D H1 H2) : SameX D H H2 := fun c o h e => b c o h (a c o h e)
theorem SameX.of {D : Addr} {H H' : Hp} (s : Same H H') : SameX D H H' := fun b o _ e => s b o e
theorem SameX.put {D : Addr} {H : Hp} {o : HO} : SameX D H (upd H D o) := fun b u h e => by rw [upd_ne h]; exact e
theorem SameX.same {D : Addr} {H H' : Hp} (h : H D = none) (s : SameX D H H') : Same H H' := fun b o e => s b o (ne_of_none e h) e
theorem SameX.seq {K : PySem.W.Frag} {D : Addr} {H H' : Hp} {a : Addr} {xs : List V} (hD : H D = none) (s : SameX D H H') (h : SqL K H a xs) : SqL K H' a xs := (SameX.same hD s).seq h
theorem comp_gen {J : It} {n : Nat} {val : Nat → V} {tc : TT} {te : TE} {fr : St} {Q : Addr → Hp → Prop} {H1 : Hp} {D : Addr} (hD : H1 D = none) (hn : n < sizeLine)
    (hstop : ∀ H, SameX D H1 H → J.stop n H) (hgo : ∀ i H, i < n → SameX D H1 H → J.go i H) (hy : ∀ i H x H', i < n → SameX D H1 H → J.yld i H x H' → H' = H ∧ x = val i)
    (keep : Nat → Bool) (R : Nat → V → Hp → Prop) (stab : ∀ i y H H', SameX D H H' → R i y H → R i y H')
    (body : ∀ i H ys (k1 : VK) (k2 : Hp → Prop), i < n → SameX D H1 H → H D = some (.lst ys) → (∀ y H4, Same H H4 → keep i = true → R i y H4 → k1 y H4) → (∀ H3, Same H H3 → keep i = false → k2 H3) →
      tc (some (val i) :: fr) H fun b H3 => if b = true then te (some (val i) :: fr) H3 k1 else k2 H3)
    (done : ∀ ys H', SameX D H1 H' → H' D = some (.lst ys) → Paired (fun i y => R i y H') ((List.range n).filter keep) ys → Q D H') :
    CompW J D H1 fr tc te Q := by
  refine ⟨fun i m H => m = n - i ∧ i ≤ n ∧ SameX D H1 H ∧ ∃ ys, H D = some (.lst ys) ∧ Paired (fun j y => R j y H) ((List.range i).filter keep) ys, ⟨n, rfl, Nat.zero_le _, SameX.put, [], upd_same, .nil⟩, ?_⟩
  rintro i m H ⟨rfl, hi, sx, ys, hys, hp⟩
  have hlen : ys.length ≤ i := by
    rw [← Paired.length hp]
    exact Nat.le_trans (List.length_filter_le _ _) (by simp)
  by_cases hin : i = n
  · subst hin
    exact .inl ⟨hstop H sx, done ys H sx hys hp⟩
  · have hlt : i < n := by omega
    refine .inr ⟨hgo i H hlt sx, fun x H' yl => ?_⟩
    obtain ⟨rfl, rfl⟩ := hy i H x H' hlt sx yl
    refine body i H' ys _ _ hlt sx hys (fun y H4 s4 hk r4 => ?_) (fun H3 s3 hk => ?_)
    · refine ⟨ys, s4 _ _ hys, by omega, n - (i + 1), by omega, rfl, hlt, (sx.trans (SameX.of s4)).trans SameX.put, ys ++ [y], upd_same, ?_⟩
      rw [List.range_succ, List.filter_append]
      have e1 : List.filter keep [i] = [i] := by simp [hk]
      rw [e1]
      exact Paired.snoc (Paired.imp' (fun j z q => stab j z _ _ ((SameX.of s4).trans SameX.put) q) hp) (stab i y _ _ SameX.put r4)
    · refine ⟨n - (i + 1), by omega, rfl, hlt, sx.trans (SameX.of s3), ys, s3 _ _ hys, ?_⟩
      rw [List.range_succ, List.filter_append]
      have e1 : List.filter keep [i] = [] := by simp [hk]
      rw [e1, List.append_nil]
      exact Paired.imp' (fun j z q => stab j z _ _ (SameX.of s3) q) hp
end L2
namespace L2
open PySem PySem.Spec PyProof.Rows
section
variable {X : Cx} {K : PySem.W.Frag}
theorem ix_seqK (h : X.K = K) : IxR X (rIx K) := by subst h; exact ix_seq
theorem op_in_seqK (h : X.K = K) : OpR X (compareOp .In) (rIn K false) := by subst h; exact op_in_seq
theorem call_lenK (h : X.K = K) : CallR X (.builtin "len") (fun xs H Q => ∃ x n, xs = [x] ∧ LenV K x H n ∧ Q (.int n) H) := by subst h; exact call_len
theorem pt_truthK {a : Expr} {ta : TE} (h : X.K = K) (ha : PE X a ta) (he : ∀ whole, isTrue a X.env whole = (do let v ← whole; standAt a.pos; holding [v] (truthy v))) : PT X a (fun σ H Q => ta σ H fun x H' => ∃ k, TruV K x H' k ∧ Q k H') := by subst h; exact pt_truth ha he
theorem pi_listK {tg l : Expr} {tl : TE} (h : X.K = K) (hl : PE X l tl) : PI X tg l (iList K tl) := by subst h; exact pi_list hl
end
end L2
namespace My
open PySem PySem.Spec PyProof.Rows L2
theorem Same.new {H : Hp} {p : Addr} {o : HO} (h : H p = none) : Same H (upd H p o) := fun b u e => by
  rw [upd_ne (ne_of_none e h)]; exact e
theorem Same.after {H H' : Hp} {p : Addr} {o : HO} (s : Same H H') (h : H p = none) : Same H (upd H' p o) := fun b u e => by
  rw [upd_ne (ne_of_none e h)]; exact s b u e
theorem Same.none {H H' : Hp} {p : Addr} (s : Same H H') (h : H' p = none) : H p = none := s.free h
theorem yesT {σ : L2.St} {H : Hp} {A B : Hp → Prop} (h : A H) : tYes σ H fun b H3 => if b = true then A H3 else B H3 := by
  show if true = true then A H else B H
  exact iteT h
theorem Paired.at {α β : Type} {F : α → β → Prop} : ∀ {l : List α} {m : List β}, Paired F l m → ∀ {i : Nat} {b : β}, m[i]? = some b → ∃ a, l[i]? = some a ∧ F a b
  | _, _, .nil, _, _, h => by simp at h
  | _, _, .cons r t, 0, _, h => by simp at h; subst h; exact ⟨_, rfl, r⟩
  | _, _, .cons r t, i + 1, b, h => by
    obtain ⟨a, e, q⟩ := Paired.at t (i := i) (b := b) (by simpa using h)
    exact ⟨a, by simpa using e, q⟩
inductive Rw where
  | reckon (x s : Str) (a b : Key) | copy (x : Str) (a : Key) | say (a : Key) | go (n : Int) | part (a : Key) (n : Int) | fin
noncomputable def Rw.vs : Rw → List V
  | .reckon x s a b => [.str "reckon", .str x, .str s, kV a, kV b]
  | .copy x a => [.str "copy", .str x, kV a]
  | .say a => [.str "say", kV a]
  | .go n => [.str "go", .int n]
  | .part a n => [.str "part", kV a, .int n]
  | .fin => [.str "end"]
noncomputable def Rw.word : Rw → Str
  | .reckon .. => "reckon" | .copy .. => "copy" | .say _ => "say" | .go _ => "go" | .part .. => "part" | .fin => "end"
noncomputable def Rw.rk : Rw → Option (List Key)
  | .reckon _ s a b => some [.inr s, a, b] | _ => none
theorem n1 : ¬ (("copy" : Str) = "reckon") := by decide +kernel
theorem n2 : ¬ (("say" : Str) = "reckon") := by decide +kernel
theorem n3 : ¬ (("go" : Str) = "reckon") := by decide +kernel
theorem n4 : ¬ (("part" : Str) = "reckon") := by decide +kernel
theorem n7 : ¬ (("go" : Str) = "copy") := by decide +kernel
theorem take_snoc {α : Type} {l : List α} {i : Nat} {x : α} (h : l[i]? = some x) : l.take (i + 1) = l.take i ++ [x] := by
  rw [List.take_add_one, h]; rfl
structure Df (K : PySem.W.Frag) (mg : Str → Option Value) (x : Str) (st : Stmt) (ps : List Str) (f : Addr) (fd : FuncData) : Prop where
  mg : mg x = some (.ref f)
  fn : Fun K x x st f fd
  bd : Binds K fd ps []
end My
namespace L2
open PySem PySem.Spec PyProof.Rows
noncomputable def Its (z : Str) : It := ⟨fun i _ => i < z.cps.size, fun i H x H' => H' = H ∧ ∃ c, z.cps[i]? = some c ∧ x = .str ⟨#[c]⟩, fun i _ => z.cps.size ≤ i⟩
theorem turn_str {P : Program} {w : World} {K : PySem.W.Frag} {tg : Expr} (it : Addr) (x : Str) (t : Tok) (ty : String) (hty : ty = "str_ascii_iterator" ∨ ty = "str_iterator") : Turn P w K tg (Its x) [it] it (fun i h => h.IsStrIter it ty x t i) where
  mem := by simp
  obj := fun i h st b hb => by
    have e : b = it := by simpa using hb
    subst e
    obtain ⟨o, e, c, d⟩ := st
    exact ⟨o, e, fun v z => by rw [d] at z; cases z⟩
  keep := fun i h h' st k => by obtain ⟨o, e, r⟩ := st; exact ⟨o, k it (by simp) o e, r⟩
  item := by
    intro X hP hw hK hc i pins s σ H E I hf st hg
    subst hP hw hK
    have hi : i < x.cps.size := hg
    obtain ⟨f0, f1, f2, f3, f4, f5⟩ := hf it (by simp)
    have fin : ∀ h', h'.IsStrIter it ty x t (i + 1) → Heap.SameBut it s.heap h' → ∃ u, some (Value.str ⟨#[x.cps[i]]⟩ s.toks) = some u ∧
        wpAny (model X.prog X.w) X.A (letOwnedTupleGo tg (.ref it) u) (fun _ s2 => ∃ y H', Inv X pins σ H' s2 ∧ RelV y u ∧ (Its x).yld i H y H' ∧ s2.heap.IsStrIter it ty x t (i + 1) ∧ ∀ b ∈ [it], H' b = none) E { s with heap := h', toks := s.toks + 1 } := fun h' st' sb => by
      have I1 : Inv X pins σ H { s with heap := h', toks := s.toks + 1 } := I.turned (fun b o hb e => (sb.2 b hb).trans e) f0 f1 f3 f4 f5
      obtain ⟨o, e, c, d⟩ := id st'
      refine ⟨_, rfl, go_of (s := { s with heap := h', toks := s.toks + 1 }) e c d (by rcases hty with q | q <;> (rw [q]; decide)) ⟨.str ⟨#[x.cps[i]]⟩, H, I1, ⟨_, rfl⟩, ⟨rfl, x.cps[i], by simp [hi], rfl⟩, st', fun b hb => (hf b hb).1⟩⟩
    rcases hty with q | q
    · subst q; exact wpAny_pyNext_ascii_item st (c := x.cps[i]) (by simp [hi]) fin
    · subst q; exact wpAny_pyNext_wide_item st (c := x.cps[i]) (by simp [hi]) fin
  done := by
    intro X hP hw hK hc i pins s σ H E I hf st hg
    subst hP hw hK
    have hi : x.cps.size ≤ i := hg
    obtain ⟨f0, f1, f2, f3, f4, f5⟩ := hf it (by simp)
    have fin : ∀ h', Heap.ExtBut it s.heap h' → (none : Option Value) = none ∧ Inv X pins σ H { s with heap := h' } := fun h' eb => ⟨rfl, I.turned (t' := s.toks) (fun b o hb e => eb b o hb e) f0 f1 f3 f4 f5⟩
    rcases hty with q | q
    · subst q; exact wpAny_pyNext_ascii_end (I.ok.hd hc) st (by simp [hi]) fin
    · subst q; exact wpAny_pyNext_wide_end (I.ok.hd hc) st (by simp [hi]) fin
  self := fun _ _ _ _ _ st h => by
    rcases hty with q | q
    · subst q; exact wpAny_pyIter_striter_ascii st h
    · subst q; exact wpAny_pyIter_striter_wide st h
section
variable {X : Cx} {tg : Expr}
noncomputable def iStr (tl : TE) : TI := fun σ H R => tl σ H fun x H1 => ∃ z, x = .str z ∧ R (Its z) H1
theorem pi_str {l : Expr} {tl : TE} (hl : PE X l tl) : PI X tg l (iStr tl) := by
  intro pins s σ H R I h
  refine thn (hl pins s σ H _ I h) fun v s1 ⟨x, H1, I1, r1, q1⟩ => ?_
  obtain ⟨z, e, q⟩ := q1
  subst e
  obtain ⟨t, e⟩ := (show ∃ t, v = Value.str z t from r1)
  subst e
  have hty : strIterType z = "str_ascii_iterator" ∨ strIterType z = "str_iterator" := by unfold strIterType; split <;> simp
  refine wpAny_pyIter_strU ?_
  refine ⟨s1.heap.objs.size, [s1.heap.objs.size], _, _, H1, rfl, I1.kept (t' := s1.toks) fun b o e => Heap.get?_push_of_some _ e, turn_str s1.heap.objs.size z t _ hty, ⟨_, Heap.get?_push_size _ rfl, rfl, rfl⟩, fun b hb => ?_, q⟩
  have e : b = s1.heap.objs.size := by simpa using hb
  subst e
  exact I1.fpOk (Nat.le_refl _) (I1.hok.fresh (Nat.le_refl _))
theorem comp_str {z : Str} {tc : TT} {te : TE} {fr : St} {Q : Addr → Hp → Prop} {H1 : Hp} {D : Addr} (hD : H1 D = none) (hn : z.cps.size < sizeLine) (keep : Nat → Bool) (R : Nat → V → Hp → Prop) (stab : ∀ i y H H', SameX D H H' → R i y H → R i y H')
    (body : ∀ i c H ys (k1 : VK) (k2 : Hp → Prop), z.cps[i]? = some c → SameX D H1 H → H D = some (.lst ys) → (∀ y H4, Same H H4 → keep i = true → R i y H4 → k1 y H4) → (∀ H3, Same H H3 → keep i = false → k2 H3) →
      tc (some (.str ⟨#[c]⟩) :: fr) H fun b H3 => if b = true then te (some (.str ⟨#[c]⟩) :: fr) H3 k1 else k2 H3)
    (done : ∀ ys H', SameX D H1 H' → H' D = some (.lst ys) → Paired (fun i y => R i y H') ((List.range z.cps.size).filter keep) ys → Q D H') : CompW (Its z) D H1 fr tc te Q := by
  have at' : ∀ {i : Nat}, i < z.cps.size → z.cps[i]? = some (z.cps.getD i 0) := fun {i} h => by simp [h]
  refine comp_gen (val := fun i => .str ⟨#[z.cps.getD i 0]⟩) hD hn (fun _ _ => Nat.le_refl _) (fun i _ h _ => h) (fun i H x H' h _ y => ⟨y.1, ?_⟩) keep R stab (fun i H ys k1 k2 h => body i _ H ys k1 k2 (at' h)) done
  obtain ⟨_, c, e, ex⟩ := y
  rw [at' h] at e
  rw [ex, ← Option.some.inj e]
theorem sl_str : SlR X (fun x lo hi H Q => ∃ z : Str, x = .str z ∧ z.length ≤ sizeLine ∧ Q (.str (Txt.slice z lo hi)) H) := by
  intro pins s σ H x v vl vu lo hi sl Q I rx hs pl pu h
  obtain ⟨z, rfl, hz, q⟩ := h
  obtain ⟨t, e⟩ := (show ∃ t, v = Value.str z t from rx)
  subst e
  have fin : ∀ t' k, EP X pins σ Q (.str (Txt.slice z lo hi) t') { s with toks := k } := fun t' k => ⟨.str (Txt.slice z lo hi), H, I.tok k, ⟨_, rfl⟩, q⟩
  refine ⟨"str", _, F.slot_str_getitem.lookup, typeIs_str _ _ _, ?_⟩
  cases pl with
  | none =>
    cases pu with
    | none => exact wpAny_getItem_str_slice (l := none) (u := none) (st := none) hs rfl (post_val_or_str ⟨Nat.le_trans (Txt.slice_le z _ _) hz, fin⟩)
    | int j tj => exact wpAny_getItem_str_slice (l := none) (u := some (j, tj)) (st := none) hs rfl (post_val_or_str ⟨Nat.le_trans (Txt.slice_le z _ _) hz, fin⟩)
  | int i ti =>
    cases pu with
    | none => exact wpAny_getItem_str_slice (l := some (i, ti)) (u := none) (st := none) hs rfl (post_val_or_str ⟨Nat.le_trans (Txt.slice_le z _ _) hz, fin⟩)
    | int j tj => exact wpAny_getItem_str_slice (l := some (i, ti)) (u := some (j, tj)) (st := none) hs rfl (post_val_or_str ⟨Nat.le_trans (Txt.slice_le z _ _) hz, fin⟩)
theorem cat_tup0 {prog : Program} {w : World} {A : Around} {E : Value → Shared → Prop} {s : Shared} {t b : Addr} {ws : List Value} {Q : Value → Shared → Prop} (ht : IsTup s.heap t ([] : List Value).toArray) (hb : IsTup s.heap b ws.toArray) (h : Q (.ref b) s) : wpAny (model prog w) A (binaryOp .Add (.ref t) (.ref b)) Q E s := by
  obtain ⟨⟨c1, d1, da1, sl1⟩, ho, hc, n, hd⟩ := id ht; obtain ⟨⟨c2, d2, da2, sl2⟩, ho2, hc2, n2, hd2⟩ := id hb
  simp only at hc hd hc2 hd2; subst hc hd hc2 hd2
  exact concat_meets ⟨_, ho, rfl⟩ ⟨_, ho2, rfl⟩ noFill_tuple_add seq_tuple_add PySem.F.slot_tuple_add PySem.F.entry_tuple_add (PySem.F.args_tuple_add_2 _ _) (tuple_addW0 t b ([] : List Value).toArray ws.toArray n n2 d1 d2 sl1 sl2 (by simp)) ⟨ho, ho2, h⟩
theorem getItem_tuple_all {prog : Program} {w : World} {A : Around} {E : Value → Shared → Prop} {s : Shared} {t sl : Addr} {items : Array Value} {vl vu : Value} {lo hi : Option Int} {Q : Value → Shared → Prop} (ht : IsTup s.heap t items) (hs : s.heap.IsSliceOf sl vl vu .none) (pl : IsPart vl lo) (pu : IsPart vu hi)
    (h0 : HT.sIx items.size 0 lo = 0) (h1 : HT.sIx items.size items.size hi = items.size) (h : Q (.ref t) s) : wpAny (model prog w) A (getItem (.ref t) (.ref sl)) Q E s := by
  obtain ⟨os, hos, hcs, hds⟩ := id hs; have hTs : s.TypeIs (.ref sl) "slice" := ⟨os, hos, hcs⟩
  unfold getItem; try with_reducible refine wpAny_holding ?_
  first | refine wpAny_bind (wpAny_pure ?_) | skip
  refine wpAny_bind (wpAny_sequenceKey ht.typeIs (by decide) ?_); refine wpAny_bind (wpAny_callSpecial?_slot (name := Str.ofString "__getitem__") ht.typeIs PyProof.Rows.slot_tuple_getitem (wpAny_call_entry PyProof.Rows.slot_tuple_getitem ht.typeIs entry_tuple_getitem ?_ (args_tuple_getitem _ _)))
  show wpAny _ _ (Builtin.Tuple.tupleItemsOf (.ref t) >>= _) _ _ s; refine wpAny_bind (tupleItemsOf_ ht ?_); refine wpAny_bind (wpAny_typeOf hTs ?_)
  rw [if_pos (by decide)]; refine wpAny_bind (HT.sliceApplied_gen hs pl pu ?_)
  show wpAny _ _ (if (((HT.sIx items.size 0 lo : Nat) : Int) == 0 && (1 : Int) == 1 && (HT.sIx items.size items.size hi - HT.sIx items.size 0 lo) == items.size) = true then _ else _) _ _ s
  rw [if_pos (by rw [h0, h1]; simp)]
  refine wpAny_bind ?_; unfold Builtin.Tuple.tupleIsExact; refine wpAny_bind (wpAny_typeOf ht.typeIs ?_)
  refine wpAny_pure ?_; rw [if_pos (by decide)]
  first
    | exact wpAny_bind (wpAny_rule (wpAny_pure ⟨_, rfl, wpAny_pure h⟩))
    | exact wpAny_bind (wpAny_rule (wpAny_bind (wpAny_pure (wpAny_pure ⟨_, rfl, wpAny_pure h⟩))))
    | exact wpAny_bind (wpAny_bind (wpAny_rule (wpAny_pure (wpAny_pure ⟨_, rfl, wpAny_pure h⟩))))
end
end L2
set_option maxHeartbeats 4000000
namespace J
open PySem L2
inductive D where
  | non | bl (b : Bool) | int (i : Int) | str (x : Str) | ty (n : String)
  | tup (ds : List D) | lst (ds : List D) | dk (ks : List (Key × D)) | dt (ks : List (List Key × D))
mutual
noncomputable def D.imm : D → Bool
  | .tup ds => D.imms ds
  | .lst _ => false
  | .dk _ => false
  | .dt _ => false
  | .non => true
  | .bl _ => true
  | .int _ => true
  | .str _ => true
  | .ty _ => true
noncomputable def D.imms : List D → Bool
  | [] => true
  | d :: ds => d.imm && D.imms ds
end
noncomputable def SqK (K : PySem.W.Frag) (a : Addr) (xs : List V) : Prop := ∃ (o : Obj) (its : Array Value) (n : Nat), K.lookup a = some o ∧ o.cls = .type "list" ∧ o.dict = none ∧ o.data = .seq its n ∧ its.size ≤ sizeLine ∧ Vals xs its.toList
mutual
inductive Rp (K : PySem.W.Frag) (N : Addr → Prop) (H : Hp) : V → D → Prop
  | non : Rp K N H .non .non
  | bl (b : Bool) : Rp K N H (.bl b) (.bl b)
  | int (i : Int) : Rp K N H (.int i) (.int i)
  | str (x : Str) : Rp K N H (.str x) (.str x)
  | ty (n : String) : Rp K N H (.ty n) (.ty n)
  | tup {a : Addr} {xs : List V} {ds : List D} : SqT K H a xs → Rps K N H xs ds → Rp K N H (.ref a) (.tup ds)
  | lst {a : Addr} {xs : List V} {ds : List D} : Rd H a (.lst xs) → N a → Rps K N H xs ds → Rp K N H (.ref a) (.lst ds)
  | lstK {a : Addr} {xs : List V} {ds : List D} : SqK K a xs → Rps K N H xs ds → Rp K N H (.ref a) (.lst ds)
  | dk {a : Addr} {kvs : List (Key × V)} {ks : List (Key × D)} : Rd H a (.dK kvs) → N a → kvs.map (·.1) = ks.map (·.1) → Rps K N H (kvs.map (·.2)) (ks.map (·.2)) → Rp K N H (.ref a) (.dk ks)
  | dt {a : Addr} {kvs : List (List Key × V)} {ks : List (List Key × D)} : Rd H a (.dT kvs) → N a → kvs.map (·.1) = ks.map (·.1) → Rps K N H (kvs.map (·.2)) (ks.map (·.2)) → Rp K N H (.ref a) (.dt ks)
inductive Rps (K : PySem.W.Frag) (N : Addr → Prop) (H : Hp) : List V → List D → Prop
  | nil : Rps K N H [] []
  | cons {v : V} {d : D} {vs : List V} {ds : List D} : Rp K N H v d → Rps K N H vs ds → Rps K N H (v :: vs) (d :: ds)
end
noncomputable def isT : HO → Prop
  | .tup _ => True
  | .frz _ (.tup _) => True
  | _ => False
noncomputable def Keeps (N : Addr → Prop) (H H' : Hp) : Prop := ∀ a o, H a = some o → (N a ∨ isT o) → H' a = some o
section
variable {K : PySem.W.Frag} {N N' : Addr → Prop} {H H' : Hp}
theorem Keeps.same (s : Same H H') : Keeps N H H' := fun a o e _ => s a o e
theorem Keeps.sq {a : Addr} {xs : List V} (k : Keeps N H H') (h : SqT K H a xs) : SqT K H' a xs := by
  rcases h with (h | ⟨o, h⟩) | h
  · exact .inl (.inl (k _ _ h (.inr trivial)))
  · exact .inl (.inr ⟨o, k _ _ h (.inr trivial)⟩)
  · exact .inr h
theorem Keeps.rd {a : Addr} {u : HO} (k : Keeps N H H') (n : N a) (h : Rd H a u) : Rd H' a u := by
  rcases h with h | ⟨o, h⟩
  · exact .inl (k _ _ h (.inl n))
  · exact .inr ⟨o, k _ _ h (.inl n)⟩
mutual
theorem Rp.keep (k : Keeps N H H') : ∀ {v : V} {d : D}, Rp K N H v d → Rp K N H' v d
  | _, _, .non => .non
  | _, _, .bl b => .bl b
  | _, _, .int i => .int i
  | _, _, .str x => .str x
  | _, _, .ty n => .ty n
  | _, _, .tup h r => .tup (k.sq h) (Rps.keep k r)
  | _, _, .lst h n r => .lst (k.rd n h) n (Rps.keep k r)
  | _, _, .lstK h r => .lstK h (Rps.keep k r)
  | _, _, .dk h n e r => .dk (k.rd n h) n e (Rps.keep k r)
  | _, _, .dt h n e r => .dt (k.rd n h) n e (Rps.keep k r)
theorem Rps.keep (k : Keeps N H H') : ∀ {vs : List V} {ds : List D}, Rps K N H vs ds → Rps K N H' vs ds
  | _, _, .nil => .nil
  | _, _, .cons h r => .cons (Rp.keep k h) (Rps.keep k r)
end
theorem Rd.some {a : Addr} {u : HO} (h : Rd H a u) : ∃ o, H a = some o := by
  rcases h with h | ⟨o, h⟩
  · exact ⟨_, h⟩
  · exact ⟨_, h⟩
mutual
theorem Rp.wk (w : ∀ a, N a → (∃ o, H a = some o) → N' a) : ∀ {v : V} {d : D}, Rp K N H v d → Rp K N' H v d
  | _, _, .non => .non
  | _, _, .bl b => .bl b
  | _, _, .int i => .int i
  | _, _, .str x => .str x
  | _, _, .ty n => .ty n
  | _, _, .tup h r => .tup h (Rps.wk w r)
  | _, _, .lst h n r => .lst h (w _ n (Rd.some h)) (Rps.wk w r)
  | _, _, .lstK h r => .lstK h (Rps.wk w r)
  | _, _, .dk h n e r => .dk h (w _ n (Rd.some h)) e (Rps.wk w r)
  | _, _, .dt h n e r => .dt h (w _ n (Rd.some h)) e (Rps.wk w r)
theorem Rps.wk (w : ∀ a, N a → (∃ o, H a = some o) → N' a) : ∀ {vs : List V} {ds : List D}, Rps K N H vs ds → Rps K N' H vs ds
  | _, _, .nil => .nil
  | _, _, .cons h r => .cons (Rp.wk w h) (Rps.wk w r)
end
mutual
theorem Rp.im : ∀ {v : V} {d : D}, d.imm = true → Rp K N H v d → Rp K N' H v d
  | _, _, _, .non => .non
  | _, _, _, .bl b => .bl b
  | _, _, _, .int i => .int i
  | _, _, _, .str x => .str x
  | _, _, _, .ty n => .ty n
  | _, .tup ds, e, .tup h r => .tup h (Rps.im (by simpa only [D.imm] using e) r)
  | _, .lst ds, e, .lst h n r => by simp [D.imm] at e
  | _, .lst ds, e, .lstK h r => by simp [D.imm] at e
  | _, .dk ds, e, .dk h n _ r => by simp [D.imm] at e
  | _, .dt ds, e, .dt h n _ r => by simp [D.imm] at e
theorem Rps.im : ∀ {vs : List V} {ds : List D}, D.imms ds = true → Rps K N H vs ds → Rps K N' H vs ds
  | _, _, _, .nil => .nil
  | _, d :: ds, e, .cons h r => by
    have e' : d.imm = true ∧ D.imms ds = true := by simpa [D.imms] using e
    exact .cons (Rp.im e'.1 h) (Rps.im e'.2 r)
end
theorem Rps.paired : ∀ {vs : List V} {ds : List D}, Rps K N H vs ds → Paired (fun d v => Rp K N H v d) ds vs
  | _, _, .nil => .nil
  | _, _, .cons h r => .cons h (Rps.paired r)
theorem Rps.of : ∀ {ds : List D} {vs : List V}, Paired (fun d v => Rp K N H v d) ds vs → Rps K N H vs ds
  | _, _, .nil => .nil
  | _, _, .cons h r => .cons h (Rps.of r)
theorem Rps.len {vs : List V} {ds : List D} (r : Rps K N H vs ds) : vs.length = ds.length := (Paired.length r.paired).symm
theorem Rps.get : ∀ {vs : List V} {ds : List D} {i : Nat} {d : D}, Rps K N H vs ds → ds[i]? = some d → ∃ v, vs[i]? = some v ∧ Rp K N H v d
  | _, _, _, _, .nil, e => by simp at e
  | _, _, 0, _, .cons h _, e => by simp at e; subst e; exact ⟨_, rfl, h⟩
  | _, _, i + 1, d, .cons _ r, e => by
    obtain ⟨v, h1, h2⟩ := Rps.get (i := i) (d := d) r (by simpa using e)
    exact ⟨v, by simpa using h1, h2⟩
theorem Rps.app : ∀ {vs ws : List V} {ds es : List D}, Rps K N H vs ds → Rps K N H ws es → Rps K N H (vs ++ ws) (ds ++ es)
  | _, _, _, _, .nil, s => s
  | _, _, _, _, .cons h r, s => .cons h (Rps.app r s)
theorem Rps.set {v : V} {d : D} (q : Rp K N H v d) : ∀ {vs : List V} {ds : List D} (i : Nat), Rps K N H vs ds → Rps K N H (vs.set i v) (ds.set i d)
  | _, _, _, .nil => .nil
  | _, _, 0, .cons _ t => .cons q t
  | _, _, i + 1, .cons h t => .cons h (Rps.set q i t)
theorem Rps.take : ∀ {vs : List V} {ds : List D} (n : Nat), Rps K N H vs ds → Rps K N H (vs.take n) (ds.take n)
  | _, _, 0, _ => .nil
  | _, _, _ + 1, .nil => .nil
  | _, _, n + 1, .cons r t => .cons r (Rps.take n t)
theorem Rps.drop : ∀ {vs : List V} {ds : List D} (n : Nat), Rps K N H vs ds → Rps K N H (vs.drop n) (ds.drop n)
  | _, _, 0, r => r
  | _, _, _ + 1, .nil => .nil
  | _, _, n + 1, .cons _ t => Rps.drop n t
theorem Rps.rep : ∀ {vs : List V} {ds : List D} (n : Nat), Rps K N H vs ds → Rps K N H (List.replicate n vs).flatten (List.replicate n ds).flatten
  | _, _, 0, _ => .nil
  | _, _, n + 1, h => by
    rw [List.replicate_succ, List.replicate_succ, List.flatten_cons, List.flatten_cons]
    exact h.app (Rps.rep n h)
theorem Rps.atI {vs : List V} {ds : List D} {i : Int} {d : D} (r : Rps K N H vs ds) (e : L2.atI ds i = some d) : ∃ v, L2.atI vs i = some v ∧ Rp K N H v d := by
  unfold L2.atI at e ⊢
  rw [r.len]
  cases q : ixN ds.length i with
  | none => rw [q] at e; cases e
  | some j =>
    rw [q] at e
    exact r.get e
end
inductive M where | al | fr | un | bo | bi | rb | nb
  deriving DecidableEq
noncomputable abbrev Ev := List (Option (M × D))
noncomputable def Cell (K : PySem.W.Frag) (N : Addr → Prop) (H : Hp) (p : Addr) : D → Prop
  | .lst ds => ∃ xs, H p = some (.lst xs) ∧ Rps K N H xs ds
  | .dk ks => ∃ kvs, H p = some (.dK kvs) ∧ kvs.map (·.1) = ks.map (·.1) ∧ Rps K N H (kvs.map (·.2)) (ks.map (·.2))
  | .dt ks => ∃ kvs, H p = some (.dT kvs) ∧ kvs.map (·.1) = ks.map (·.1) ∧ Rps K N H (kvs.map (·.2)) (ks.map (·.2))
  | _ => False
noncomputable def NM (H₀ : Hp) (O : Addr → Prop) : M → Addr → Prop
  | .al, a => ¬ O a
  | .rb, a => H₀ a = none
  | _, a => ¬ O a ∧ H₀ a = none
noncomputable def Nest (K : PySem.W.Frag) (H₀ : Hp) (O : Addr → Prop) (H : Hp) (d : D) (v : V) : Prop :=
  ∃ (p : Addr) (qs : List Addr) (dss : List (List D)), v = .ref p ∧ d = .lst (dss.map D.lst) ∧ O p ∧ H₀ p = none ∧ H p = some (.lst (qs.map V.ref)) ∧ qs.Nodup ∧ (∀ q ∈ qs, O q ∧ H₀ q = none ∧ q ≠ p) ∧
    Paired (fun q ds => ∃ xs, H q = some (.lst xs) ∧ Rps K (fun a => ¬ O a ∧ H₀ a = none) H xs ds) qs dss
noncomputable def Val (K : PySem.W.Frag) (H₀ : Hp) (O : Addr → Prop) (Hb H : Hp) : M → D → V → Prop
  | .al, d, v => Rp K (fun a => ¬ O a) H v d
  | .fr, d, v => Rp K (fun a => ¬ O a ∧ H₀ a = none) H v d
  | .rb, d, v => Rp K (fun a => H₀ a = none) H v d
  | .un, d, v => ∃ p, v = .ref p ∧ Hb p = none ∧ H₀ p = none ∧ ¬ O p ∧ Cell K (fun a => (¬ O a ∧ H₀ a = none) ∧ a ≠ p) H p d
  | .bo, d, v => ∃ p, v = .ref p ∧ O p ∧ H₀ p = none ∧ Cell K (fun a => ¬ O a ∧ H₀ a = none) H p d
  | .bi, d, v => ∃ p, v = .ref p ∧ O p ∧ Cell K (fun a => ¬ O a ∧ H₀ a = none) H p d
  | .nb, d, v => Nest K H₀ O H d v
noncomputable def elm : M → M
  | .al => .al
  | .rb => .rb
  | .nb => .rb
  | _ => .fr
noncomputable abbrev HE : Hp := fun _ => none
section
variable {K : PySem.W.Frag} {N N' : Addr → Prop} {H H' H₀ Hb Hb' : Hp} {O : Addr → Prop} {m : M} {d : D} {v : V} {p : Addr}
theorem Cell.keep (k : Keeps N H H') (e : H' p = H p) (h : Cell K N H p d) : Cell K N H' p d := by
  cases d <;> simp only [Cell] at h ⊢
  · obtain ⟨xs, q, r⟩ := h; exact ⟨xs, e.trans q, r.keep k⟩
  · obtain ⟨xs, q, z, r⟩ := h; exact ⟨xs, e.trans q, z, r.keep k⟩
  · obtain ⟨xs, q, z, r⟩ := h; exact ⟨xs, e.trans q, z, r.keep k⟩
theorem Cell.some (h : Cell K N H p d) : ∃ o, H p = some o ∧ ¬ isT o := by
  cases d <;> simp only [Cell] at h
  · obtain ⟨xs, q, r⟩ := h; exact ⟨_, q, fun z => z⟩
  · obtain ⟨xs, q, z, r⟩ := h; exact ⟨_, q, fun z => z⟩
  · obtain ⟨xs, q, z, r⟩ := h; exact ⟨_, q, fun z => z⟩
theorem Cell.wk (w : ∀ a, N a → (∃ o, H a = Option.some o) → N' a) (h : Cell K N H p d) : Cell K N' H p d := by
  cases d <;> simp only [Cell] at h ⊢
  · obtain ⟨xs, q, r⟩ := h; exact ⟨xs, q, r.wk w⟩
  · obtain ⟨xs, q, z, r⟩ := h; exact ⟨xs, q, z, r.wk w⟩
  · obtain ⟨xs, q, z, r⟩ := h; exact ⟨xs, q, z, r.wk w⟩
theorem Cell.rp (n : N p) (h : Cell K N H p d) : Rp K N H (.ref p) d := by
  cases d <;> simp only [Cell] at h
  · obtain ⟨xs, q, r⟩ := h; exact .lst (.inl q) n r
  · obtain ⟨xs, q, z, r⟩ := h; exact .dk (.inl q) n z r
  · obtain ⟨xs, q, z, r⟩ := h; exact .dt (.inl q) n z r
theorem npairs {F G : Addr → List D → Prop} : ∀ {qs : List Addr} {dss : List (List D)}, (∀ q ds, q ∈ qs → F q ds → G q ds) → Paired F qs dss → Paired G qs dss
  | _, _, _, .nil => .nil
  | _, _, h, .cons a t => .cons (h _ _ List.mem_cons_self a) (npairs (fun q ds m => h q ds (List.mem_cons_of_mem _ m)) t)
theorem Nest.keep (s : Same H H') (h : Nest K H₀ O H d v) : Nest K H₀ O H' d v := by
  obtain ⟨p, qs, dss, e1, e2, h1, h2, h3, h4, h5, h6⟩ := h
  exact ⟨p, qs, dss, e1, e2, h1, h2, s _ _ h3, h4, h5, npairs (fun q ds _ ⟨xs, a, b⟩ => ⟨xs, s _ _ a, b.keep (.same s)⟩) h6⟩
theorem Nest.rps {F : Addr → Prop} (w : ∀ a, H₀ a = none → F a) : ∀ {qs : List Addr} {dss : List (List D)}, (∀ q ∈ qs, O q ∧ H₀ q = none ∧ q ≠ p) → Paired (fun q ds => ∃ xs, H q = some (.lst xs) ∧ Rps K (fun a => ¬ O a ∧ H₀ a = none) H xs ds) qs dss → Rps K F H (qs.map V.ref) (dss.map D.lst)
  | _, _, _, .nil => .nil
  | _, _, h, .cons ⟨xs, a, b⟩ t => .cons (.lst (.inl a) (w _ (h _ List.mem_cons_self).2.1) (b.wk fun x z _ => w x z.2)) (Nest.rps w (fun q m => h q (List.mem_cons_of_mem _ m)) t)
theorem Nest.rp {F : Addr → Prop} (w : ∀ a, H₀ a = none → F a) (h : Nest K H₀ O H d v) : Rp K F H v d := by
  obtain ⟨p, qs, dss, rfl, rfl, h1, h2, h3, h4, h5, h6⟩ := h
  exact .lst (.inl h3) (w _ h2) (Nest.rps w h5 h6)
theorem Val.keep (s : Same H H') (h : Val K H₀ O Hb H m d v) : Val K H₀ O Hb H' m d v := by
  cases m <;> simp only [Val] at h ⊢
  · exact h.keep (.same s)
  · exact h.keep (.same s)
  · obtain ⟨p, e, h1, h2, h3, c⟩ := h
    obtain ⟨o, q, _⟩ := c.some
    exact ⟨p, e, h1, h2, h3, c.keep (.same s) ((s _ _ q).trans q.symm)⟩
  · obtain ⟨p, e, h1, h2, c⟩ := h
    obtain ⟨o, q, _⟩ := c.some
    exact ⟨p, e, h1, h2, c.keep (.same s) ((s _ _ q).trans q.symm)⟩
  · obtain ⟨p, e, h1, c⟩ := h
    obtain ⟨o, q, _⟩ := c.some
    exact ⟨p, e, h1, c.keep (.same s) ((s _ _ q).trans q.symm)⟩
  · exact h.keep (.same s)
  · exact h.keep s
theorem Val.hb (w : ∀ a, Hb a = none → Hb' a = none) (h : Val K H₀ O Hb H m d v) : Val K H₀ O Hb' H m d v := by
  cases m <;> simp only [Val] at h ⊢
  · exact h
  · exact h
  · obtain ⟨p, e, h1, r⟩ := h; exact ⟨p, e, w _ h1, r⟩
  · exact h
  · exact h
  · exact h
  · exact h
theorem Val.h0 (h : Val K H₀ O Hb H m d v) : Val K H₀ O HE H m d v := h.hb fun _ _ => rfl
theorem Val.weak (h : Val K H₀ O Hb H m d v) : Rp K (fun _ => True) H v d := by
  cases m <;> simp only [Val] at h
  · exact h.wk fun _ _ _ => trivial
  · exact h.wk fun _ _ _ => trivial
  · obtain ⟨p, rfl, _, _, _, c⟩ := h; exact (c.wk fun _ _ _ => trivial).rp trivial
  · obtain ⟨p, rfl, _, _, c⟩ := h; exact (c.wk fun _ _ _ => trivial).rp trivial
  · obtain ⟨p, rfl, _, c⟩ := h; exact (c.wk fun _ _ _ => trivial).rp trivial
  · exact h.wk fun _ _ _ => trivial
  · exact h.rp fun _ _ => trivial
theorem Rp.int_inv {i : Int} (h : Rp K N H v (.int i)) : v = .int i := by cases h; rfl
theorem Rp.bl_inv {b : Bool} (h : Rp K N H v (.bl b)) : v = .bl b := by cases h; rfl
theorem Rp.str_inv {x : Str} (h : Rp K N H v (.str x)) : v = .str x := by cases h; rfl
theorem Rp.non_inv (h : Rp K N H v .non) : v = .non := by cases h; rfl
theorem Rp.ty_inv {n : String} (h : Rp K N H v (.ty n)) : v = .ty n := by cases h; rfl
theorem Val.int {i : Int} (h : Val K H₀ O Hb H m (.int i) v) : v = .int i := h.weak.int_inv
theorem Val.bl {b : Bool} (h : Val K H₀ O Hb H m (.bl b) v) : v = .bl b := h.weak.bl_inv
theorem Val.str {x : Str} (h : Val K H₀ O Hb H m (.str x) v) : v = .str x := h.weak.str_inv
theorem Val.non (h : Val K H₀ O Hb H m .non v) : v = .non := h.weak.non_inv
theorem Val.ty {x : String} (h : Val K H₀ O Hb H m (.ty x) v) : v = .ty x := h.weak.ty_inv
theorem Val.lst {ds : List D} (h : Val K H₀ O Hb H m (.lst ds) v) : ∃ a xs, v = .ref a ∧ SqL K H a xs ∧ Rps K (NM H₀ O (elm m)) H xs ds := by
  cases m <;> simp only [Val, Cell] at h
  · cases h with
    | lst r n q => exact ⟨_, _, rfl, .inl r, q⟩
    | lstK r q => exact ⟨_, _, rfl, .inr r, q⟩
  · cases h with
    | lst r n q => exact ⟨_, _, rfl, .inl r, q⟩
    | lstK r q => exact ⟨_, _, rfl, .inr r, q⟩
  · obtain ⟨p, rfl, _, _, _, xs, q, r⟩ := h; exact ⟨_, _, rfl, .inl (.inl q), r.wk fun a h _ => h.1⟩
  · obtain ⟨p, rfl, _, _, xs, q, r⟩ := h; exact ⟨_, _, rfl, .inl (.inl q), r⟩
  · obtain ⟨p, rfl, _, xs, q, r⟩ := h; exact ⟨_, _, rfl, .inl (.inl q), r⟩
  · cases h with
    | lst r n q => exact ⟨_, _, rfl, .inl r, q⟩
    | lstK r q => exact ⟨_, _, rfl, .inr r, q⟩
  · obtain ⟨p, qs, dss, rfl, e2, h1, h2, h3, h4, h5, h6⟩ := h
    cases e2
    exact ⟨p, _, rfl, .inl (.inl h3), Nest.rps (fun _ z => z) h5 h6⟩
theorem Val.tup {ds : List D} (h : Val K H₀ O Hb H m (.tup ds) v) : ∃ a xs, v = .ref a ∧ SqT K H a xs ∧ Rps K (NM H₀ O (elm m)) H xs ds := by
  cases m <;> simp only [Val, Cell] at h
  · cases h with | tup r q => exact ⟨_, _, rfl, r, q⟩
  · cases h with | tup r q => exact ⟨_, _, rfl, r, q⟩
  · obtain ⟨p, rfl, _, _, _, z⟩ := h; exact z.elim
  · obtain ⟨p, rfl, _, _, z⟩ := h; exact z.elim
  · obtain ⟨p, rfl, _, z⟩ := h; exact z.elim
  · cases h with | tup r q => exact ⟨_, _, rfl, r, q⟩
  · obtain ⟨p, qs, dss, rfl, e2, _⟩ := h; cases e2
theorem Val.el {a : V} {e : D} (h : Rp K (NM H₀ O (elm m)) H a e) : Val K H₀ O Hb H (elm m) e a := by
  cases m <;> exact h
noncomputable def sto : M → D → Bool
  | .fr, _ => true
  | .un, _ => true
  | _, d => d.imm
noncomputable def sta : M → D → Bool
  | .fr, _ => true
  | .un, _ => true
  | .al, _ => true
  | _, d => d.imm
noncomputable def stb : M → D → Bool
  | .fr, _ => true
  | .un, _ => true
  | .bo, _ => true
  | .rb, _ => true
  | _, d => d.imm
theorem Val.sto (h : Val K H₀ O Hb H m d v) (e : J.sto m d = true) : Rp K (fun a => ¬ O a ∧ H₀ a = none) H v d := by
  cases m <;> simp only [J.sto] at e
  · exact h.weak.im e
  · exact h
  · obtain ⟨p, rfl, _, h1, h2, c⟩ := h
    exact (c.wk fun a h _ => h.1).rp ⟨h2, h1⟩
  · exact h.weak.im e
  · exact h.weak.im e
  · exact h.weak.im e
  · exact Rp.im e h.weak
theorem Val.sta (h : Val K H₀ O Hb H m d v) (e : J.sta m d = true) : Rp K (fun a => ¬ O a) H v d := by
  cases m <;> simp only [J.sta] at e
  · exact h
  · exact Rp.wk (fun a h _ => h.1) (show Rp K (fun a => ¬ O a ∧ H₀ a = none) H v d from h)
  · exact Rp.wk (fun a h _ => h.1) (h.sto rfl)
  · exact h.weak.im e
  · exact h.weak.im e
  · exact h.weak.im e
  · exact Rp.im e h.weak
theorem Val.stb (h : Val K H₀ O Hb H m d v) (e : J.stb m d = true) : Rp K (fun a => H₀ a = none) H v d := by
  cases m <;> simp only [J.stb] at e
  · exact h.weak.im e
  · exact Rp.wk (fun a h _ => h.2) (show Rp K (fun a => ¬ O a ∧ H₀ a = none) H v d from h)
  · exact Rp.wk (fun a h _ => h.2) (h.sto rfl)
  · obtain ⟨p, rfl, _, h1, c⟩ := h
    exact (c.wk fun a h _ => h.2).rp h1
  · exact h.weak.im e
  · exact h
  · exact Rp.im e h.weak
end
end J
namespace J
open PySem L2
noncomputable def slm : M → Bool
  | .un => false
  | .rb => false
  | _ => true
structure RelE (K : PySem.W.Frag) (H₀ : Hp) (O : Addr → Prop) (H : Hp) (σ : St) (env : Ev) : Prop where
  sl : Paired (fun (e : Option (M × D)) (x : Option V) => ∀ m d, e = some (m, d) → slm m = true ∧ ∃ v, x = some v ∧ Val K H₀ O HE H m d v) env σ
  od : ∀ a, O a → ∃ o, H a = some o
  hd : ∀ a o, H₀ a = some o → ∃ o', H a = some o'
  on : ∀ a o, O a → H a = some o → ¬ isT o
noncomputable def JT (K : PySem.W.Frag) (te : TE) (f : Ev → Option (M × D)) : Prop :=
  ∀ H₀ O H σ env Q m d, RelE K H₀ O H σ env → f env = some (m, d) → (∀ v H', Same H H' → Val K H₀ O H H' m d v → Q v H') → te σ H Q
noncomputable def JTT (K : PySem.W.Frag) (tt : TT) (f : Ev → Option Bool) : Prop :=
  ∀ H₀ O H σ env Q b, RelE K H₀ O H σ env → f env = some b → (∀ H', Same H H' → Q b H') → tt σ H Q
noncomputable def ValL (K : PySem.W.Frag) (H₀ : Hp) (O : Addr → Prop) (Hb H : Hp) (mds : List (M × D)) (vs : List V) : Prop := Paired (fun md v => Val K H₀ O Hb H md.1 md.2 v) mds vs
noncomputable def JTA (K : PySem.W.Frag) (ta : TA) (f : Ev → Option (List (M × D))) : Prop :=
  ∀ H₀ O H σ env Q mds, RelE K H₀ O H σ env → f env = some mds → (∀ vs H', Same H H' → ValL K H₀ O H H' mds vs → Q vs H') → ta σ H Q
section
variable {K : PySem.W.Frag} {H H' H₀ : Hp} {O : Addr → Prop} {σ : St} {env : Ev}
theorem pmono {α β : Type} {F G : α → β → Prop} (h : ∀ a b, F a b → G a b) : ∀ {l : List α} {r : List β}, Paired F l r → Paired G l r
  | _, _, .nil => .nil
  | _, _, .cons q t => .cons (h _ _ q) (pmono h t)
theorem RelE.keep (R : RelE K H₀ O H σ env) (s : Same H H') : RelE K H₀ O H' σ env :=
  ⟨pmono (fun e x h m d q => ⟨(h m d q).1, let ⟨v, e, z⟩ := (h m d q).2; ⟨v, e, z.keep s⟩⟩) R.sl, fun a h => let ⟨o, q⟩ := R.od a h; ⟨o, s _ _ q⟩, fun a o h => let ⟨o, q⟩ := R.hd a o h; ⟨o, s _ _ q⟩, fun a o h e => by
    obtain ⟨o', q⟩ := R.od a h
    have z := s _ _ q
    rw [e] at z; cases z
    exact R.on a _ h q⟩
theorem pget {α β : Type} {F : α → β → Prop} : ∀ {l : List α} {r : List β} {i : Nat} {a : α}, Paired F l r → l[i]? = some a → ∃ b, r[i]? = some b ∧ F a b
  | _, _, _, _, .nil, e => by simp at e
  | _, _, 0, _, .cons h _, e => by simp at e; subst e; exact ⟨_, rfl, h⟩
  | _, _, i + 1, a, .cons _ r, e => by
    obtain ⟨v, h1, h2⟩ := pget (i := i) (a := a) r (by simpa using e)
    exact ⟨v, by simpa using h1, h2⟩
theorem RelE.at {i : Nat} {m : M} {d : D} (R : RelE K H₀ O H σ env) (e : env[i]? = some (some (m, d))) : ∃ v, σ[i]? = some (some v) ∧ slm m = true ∧ Val K H₀ O HE H m d v := by
  obtain ⟨x, hx, h⟩ := pget R.sl e
  obtain ⟨h0, v, rfl, hz⟩ := h m d rfl
  exact ⟨v, hx, h0, hz⟩
theorem Val.of_h0 {m : M} {d : D} {v : V} {Hb : Hp} (n : slm m = true) (h : Val K H₀ O HE H m d v) : Val K H₀ O Hb H m d v := by
  cases m <;> first | exact h | cases n
noncomputable def jV (i : Nat) : Ev → Option (M × D) := fun e => (e[i]?).bind id
theorem jt_var {i : Nat} : JT K (tVar i) (jV i) := by
  intro H₀ O H σ env Q m d R h q
  unfold jV at h
  cases e : env[i]? with
  | none => rw [e] at h; cases h
  | some x =>
    rw [e] at h
    obtain rfl : x = some (m, d) := h
    obtain ⟨v, hv, n, hm⟩ := R.at e
    exact ⟨v, hv, q v H (Same.refl H) (hm.of_h0 n)⟩
noncomputable def jC (d : D) : Ev → Option (M × D) := fun _ => some (.fr, d)
noncomputable def cD : V → Option D
  | .non => some .non
  | .bl b => some (.bl b)
  | .int i => some (.int i)
  | .str x => some (.str x)
  | .ty n => some (.ty n)
  | _ => none
theorem jt_c {v : V} {d : D} (e : cD v = some d) : JT K (tC v) (jC d) := by
  intro H₀ O H σ env Q m d' R h q
  cases h
  refine q v H (Same.refl H) ?_
  cases v <;> simp only [cD] at e <;> cases e <;> constructor
noncomputable def JR (K : PySem.W.Frag) (r : R2) (g : M × D → M × D → Option (M × D)) : Prop :=
  ∀ H₀ O H x y a b Q m d, (∀ a, O a → ∃ o, H a = some o) → (∀ a o, H₀ a = some o → ∃ o', H a = some o') → Val K H₀ O HE H (Prod.fst a) a.2 x → Val K H₀ O HE H (Prod.fst b) b.2 y → g a b = some (m, d) → (∀ v H', Same H H' → Val K H₀ O H H' m d v → Q v H') → r x y H Q
noncomputable def jOp (g : M × D → M × D → Option (M × D)) (fa fb : Ev → Option (M × D)) : Ev → Option (M × D) := fun e => (fa e).bind fun x => (fb e).bind fun y => g x y
theorem jt_op {r : R2} {g : M × D → M × D → Option (M × D)} {ta tb : TE} {fa fb : Ev → Option (M × D)} (hr : JR K r g) (ha : JT K ta fa) (hb : JT K tb fb) : JT K (tOp r ta tb) (jOp g fa fb) := by
  intro H₀ O H σ env Q m d R h q
  unfold jOp at h
  cases ea : fa env with
  | none => rw [ea] at h; cases h
  | some a =>
    cases eb : fb env with
    | none => rw [ea, eb] at h; cases h
    | some b =>
      rw [ea, eb] at h
      refine ha H₀ O H σ env _ a.1 a.2 R ea fun x H1 s1 h1 => ?_
      refine hb H₀ O H1 σ env _ b.1 b.2 (R.keep s1) eb fun y H2 s2 h2 => ?_
      have R2 := (R.keep s1).keep s2
      refine hr H₀ O H2 x y a b Q m d R2.od R2.hd (h1.keep s2).h0 h2.h0 h fun v H3 s3 h3 => ?_
      exact q v H3 ((s1.trans s2).trans s3) (h3.hb fun a z => (s1.trans s2).free z)
noncomputable def jUn (g : M × D → Option (M × D)) (fa : Ev → Option (M × D)) : Ev → Option (M × D) := fun e => (fa e).bind g
noncomputable def JU (K : PySem.W.Frag) (r : V → Hp → VK → Prop) (g : M × D → Option (M × D)) : Prop :=
  ∀ H₀ O H x a Q m d, (∀ a, O a → ∃ o, H a = some o) → (∀ a o, H₀ a = some o → ∃ o', H a = some o') → Val K H₀ O HE H (Prod.fst a) a.2 x → g a = some (m, d) → (∀ v H', Same H H' → Val K H₀ O H H' m d v → Q v H') → r x H Q
theorem jt_un {r : V → Hp → VK → Prop} {g : M × D → Option (M × D)} {ta : TE} {fa : Ev → Option (M × D)} (hr : JU K r g) (ha : JT K ta fa) : JT K (tUn r ta) (jUn g fa) := by
  intro H₀ O H σ env Q m d R h q
  unfold jUn at h
  cases ea : fa env with
  | none => rw [ea] at h; cases h
  | some a =>
    rw [ea] at h
    refine ha H₀ O H σ env _ a.1 a.2 R ea fun x H1 s1 h1 => ?_
    have R1 := R.keep s1
    exact hr H₀ O H1 x a Q m d R1.od R1.hd h1.h0 h fun v H3 s3 h3 => q v H3 (s1.trans s3) (h3.hb fun a z => s1.free z)
theorem val_i {H : Hp} {Hb : Hp} {i : Int} : Val K H₀ O Hb H .fr (.int i) (.int i) := Rp.int i
theorem val_b {H : Hp} {Hb : Hp} {i : Bool} : Val K H₀ O Hb H .fr (.bl i) (.bl i) := Rp.bl i
theorem val_s {H : Hp} {Hb : Hp} {i : Str} : Val K H₀ O Hb H .fr (.str i) (.str i) := Rp.str i
noncomputable def gI (c : Int → Int → Prop) [∀ i j, Decidable (c i j)] (f : Int → Int → Int) : M × D → M × D → Option (M × D)
  | (_, .int i), (_, .int j) => if c i j then some (.fr, .int (f i j)) else none
  | _, _ => none
noncomputable def gI0 (f : Int → Int → Int) : M × D → M × D → Option (M × D)
  | (_, .int i), (_, .int j) => some (.fr, .int (f i j))
  | _, _ => none
noncomputable def gB0 (f : Int → Int → Bool) : M × D → M × D → Option (M × D)
  | (_, .int i), (_, .int j) => some (.fr, .bl (f i j))
  | _, _ => none
theorem jr_i {C : Int → Int → Prop} {c : Int → Int → Prop} [∀ i j, Decidable (c i j)] {f : Int → Int → Int} (w : ∀ i j, c i j → C i j) : JR K (rI C fun i j => .int (f i j)) (gI c f) := by
  intro H₀ O H x y a b Q m d _ _ h1 h2 h q
  obtain ⟨ma, da⟩ := a; obtain ⟨mb, db⟩ := b
  cases da <;> try (cases h; done)
  cases db <;> try (cases h; done)
  rename_i i j
  simp only [gI] at h
  split at h
  · rename_i hc
    cases h
    exact ⟨i, j, h1.int, h2.int, w i j hc, q _ H (Same.refl H) val_i⟩
  · cases h
theorem jr_i0 {f : Int → Int → Int} : JR K (rI0 fun i j => .int (f i j)) (gI0 f) := by
  intro H₀ O H x y a b Q m d _ _ h1 h2 h q
  obtain ⟨ma, da⟩ := a; obtain ⟨mb, db⟩ := b
  cases da <;> try (cases h; done)
  cases db <;> try (cases h; done)
  rename_i i j
  cases h
  exact ⟨i, j, h1.int, h2.int, q _ H (Same.refl H) val_i⟩
theorem jr_b0 {f : Int → Int → Bool} : JR K (rI0 fun i j => .bl (f i j)) (gB0 f) := by
  intro H₀ O H x y a b Q m d _ _ h1 h2 h q
  obtain ⟨ma, da⟩ := a; obtain ⟨mb, db⟩ := b
  cases da <;> try (cases h; done)
  cases db <;> try (cases h; done)
  rename_i i j
  cases h
  exact ⟨i, j, h1.int, h2.int, q _ H (Same.refl H) val_b⟩
noncomputable def jAdd := gI0 (· + ·)
noncomputable def jSub := gI0 (· - ·)
noncomputable def jMul := gI (fun i j => (-18446744073709551616 < i ∧ i < 18446744073709551616) ∨ (-18446744073709551616 < j ∧ j < 18446744073709551616)) (· * ·)
noncomputable def jMod := gI (fun _ j => 0 < j) (· % ·)
noncomputable def jPow := gI (fun i j => 0 ≤ j ∧ j ≤ 1000000 ∧ i.natAbs < 2 ^ 64) (fun i j => i ^ j.toNat)
noncomputable def jLt := gB0 (fun i j => decide (i < j))
noncomputable def jLe := gB0 (fun i j => decide (i ≤ j))
noncomputable def jGt := gB0 (fun i j => decide (j < i))
noncomputable def jGe := gB0 (fun i j => decide (j ≤ i))
theorem jr_add : JR K (rI0 fun i j => .int (i + j)) jAdd := jr_i0
theorem jr_sub : JR K (rI0 fun i j => .int (i - j)) jSub := jr_i0
theorem p64 : (2 : Int) ^ 64 = 18446744073709551616 := by decide
theorem jr_mul : JR K (rI CMul fun i j => .int (i * j)) jMul := jr_i fun i j h => by
  unfold CMul; rw [p64]; exact h
theorem jr_mod : JR K (rI (fun _ j => 0 < j) fun i j => .int (i % j)) jMod := jr_i fun _ _ h => h
theorem jr_pow : JR K (rI CPow fun i j => .int (i ^ j.toNat)) jPow := jr_i fun _ _ h => h
theorem jr_lt : JR K (rI0 fun i j => .bl (decide (i < j))) jLt := jr_b0
theorem jr_le : JR K (rI0 fun i j => .bl (decide (i ≤ j))) jLe := jr_b0
theorem jr_gt : JR K (rI0 fun i j => .bl (decide (j < i))) jGt := jr_b0
theorem jr_ge : JR K (rI0 fun i j => .bl (decide (j ≤ i))) jGe := jr_b0
noncomputable def dSc : D → Option V
  | .non => some .non
  | .bl b => some (.bl b)
  | .int i => some (.int i)
  | .str x => some (.str x)
  | _ => none
theorem rp_sc {N : Addr → Prop} {d : D} {v w : V} (h : Rp K N H v d) (e : dSc d = some w) : v = w := by
  cases h <;> simp only [dSc] at e <;> cases e <;> rfl
noncomputable def gEq : M × D → M × D → Option (M × D) := fun a b => (dSc a.2).bind fun x => (dSc b.2).bind fun y => if scal x y = true then some (.fr, .bl (decide (x = y))) else none
noncomputable def gNe : M × D → M × D → Option (M × D) := fun a b => (dSc a.2).bind fun x => (dSc b.2).bind fun y => if scal x y = true then some (.fr, .bl (!decide (x = y))) else none
theorem jr_eq : JR K rEq gEq := by
  intro H₀ O H x y a b Q m d _ _ h1 h2 h q
  unfold gEq at h
  cases e1 : dSc a.2 with
  | none => rw [e1] at h; cases h
  | some x' =>
    cases e2 : dSc b.2 with
    | none => rw [e1, e2] at h; cases h
    | some y' =>
      rw [e1, e2] at h
      obtain rfl := rp_sc h1.weak e1
      obtain rfl := rp_sc h2.weak e2
      simp only [Option.bind_some] at h
      split at h
      · rename_i hc
        cases h
        exact ⟨hc, q _ H (Same.refl H) val_b⟩
      · cases h
theorem jr_ne : JR K rNe gNe := by
  intro H₀ O H x y a b Q m d _ _ h1 h2 h q
  unfold gNe at h
  cases e1 : dSc a.2 with
  | none => rw [e1] at h; cases h
  | some x' =>
    cases e2 : dSc b.2 with
    | none => rw [e1, e2] at h; cases h
    | some y' =>
      rw [e1, e2] at h
      obtain rfl := rp_sc h1.weak e1
      obtain rfl := rp_sc h2.weak e2
      simp only [Option.bind_some] at h
      split at h
      · rename_i hc
        cases h
        exact ⟨hc, q _ H (Same.refl H) val_b⟩
      · cases h
noncomputable def gIsN : M × D → M × D → Option (M × D)
  | (_, .non), (_, .non) => some (.fr, .bl true)
  | (_, _), (_, .non) => some (.fr, .bl false)
  | _, _ => none
noncomputable def gNotN : M × D → M × D → Option (M × D)
  | (_, .non), (_, .non) => some (.fr, .bl false)
  | (_, _), (_, .non) => some (.fr, .bl true)
  | _, _ => none
theorem rp_non {N : Addr → Prop} {d : D} {v : V} (h : Rp K N H v d) : (v = .non ↔ d = .non) := by
  cases h <;> simp
theorem jr_isN : JR K (fun x y H Q => y = .non ∧ Q (.bl (decide (x = .non))) H) gIsN := by
  intro H₀ O H x y a b Q m d _ _ h1 h2 h q
  obtain ⟨ma, da⟩ := a; obtain ⟨mb, db⟩ := b
  have e := rp_non h1.weak
  cases db <;> try (cases da <;> cases h; done)
  refine ⟨h2.non, ?_⟩
  cases da <;> cases h <;> (simp only [e, reduceCtorEq, decide_true, decide_false]; exact q _ H (Same.refl H) val_b)
theorem jr_notN : JR K (fun x y H Q => y = .non ∧ Q (.bl (!decide (x = .non))) H) gNotN := by
  intro H₀ O H x y a b Q m d _ _ h1 h2 h q
  obtain ⟨ma, da⟩ := a; obtain ⟨mb, db⟩ := b
  have e := rp_non h1.weak
  cases db <;> try (cases da <;> cases h; done)
  refine ⟨h2.non, ?_⟩
  cases da <;> cases h <;> (simp only [e, reduceCtorEq, decide_true, decide_false]; exact q _ H (Same.refl H) val_b)
noncomputable def gIx : M × D → M × D → Option (M × D)
  | (m, .lst ds), (_, .int i) => (atI ds i).map fun d => (elm m, d)
  | (m, .tup ds), (_, .int i) => (atI ds i).map fun d => (elm m, d)
  | (_, .str z), (_, .int i) => if z.length ≤ sizeLine then (atI z.cps.toList i).map fun c => (.fr, .str ⟨#[c]⟩) else none
  | _, _ => none
theorem jr_ix : JR K (rIx K) gIx := by
  intro H₀ O H x y a b Q m d _ _ h1 h2 h q
  obtain ⟨ma, da⟩ := a; obtain ⟨mb, db⟩ := b
  cases da <;> try (cases db <;> cases h; done)
  · cases db <;> try (cases h; done)
    rename_i z i
    simp only [gIx] at h
    split at h
    · rename_i hl
      cases e : atI z.cps.toList i with
      | none => rw [e] at h; cases h
      | some c =>
        rw [e] at h; cases h
        exact .inr (.inr ⟨z, i, c, h1.str, h2.int, hl, e, q _ H (Same.refl H) val_s⟩)
    · cases h
  · cases db <;> try (cases h; done)
    rename_i ds i
    simp only [gIx] at h
    cases e : atI ds i with
    | none => rw [e] at h; cases h
    | some c =>
      rw [e] at h; cases h
      obtain ⟨p, xs, rfl, hp, hs⟩ := h1.tup
      obtain ⟨v, hv, r⟩ := hs.atI e
      exact .inr (.inl ⟨p, xs, i, v, rfl, h2.int, hp, hv, q _ H (Same.refl H) (.el r)⟩)
  · cases db <;> try (cases h; done)
    rename_i ds i
    simp only [gIx] at h
    cases e : atI ds i with
    | none => rw [e] at h; cases h
    | some c =>
      rw [e] at h; cases h
      obtain ⟨p, xs, rfl, hp, hs⟩ := h1.lst
      obtain ⟨v, hv, r⟩ := hs.atI e
      exact .inl ⟨p, xs, i, v, rfl, h2.int, hp, hv, q _ H (Same.refl H) (.el r)⟩
end
end J
namespace J
open PySem L2
section
variable {K : PySem.W.Frag} {H H' H₀ : Hp} {O : Addr → Prop} {σ : St} {env : Ev}
noncomputable def dBl : M × D → Option Bool
  | (_, .bl b) => some b
  | _ => none
theorem dBl_eq {a : M × D} {b : Bool} (h : dBl a = some b) : a.2 = .bl b := by
  obtain ⟨m, d⟩ := a
  cases d <;> simp only [dBl] at h <;> first | (cases h; rfl) | cases h
noncomputable def jAnd (fa fb : Ev → Option (M × D)) : Ev → Option (M × D) := fun e => (fa e).bind fun x => (dBl x).bind fun b => if b = true then fb e else some (.fr, .bl false)
noncomputable def jOr (fa fb : Ev → Option (M × D)) : Ev → Option (M × D) := fun e => (fa e).bind fun x => (dBl x).bind fun b => if b = true then some (.fr, .bl true) else fb e
noncomputable def jNot (fa : Ev → Option (M × D)) : Ev → Option (M × D) := fun e => (fa e).bind fun x => (dBl x).bind fun b => some (.fr, .bl (!b))
theorem bind2 {α β : Type} {x : Option α} {f : α → Option β} {y : β} (h : x.bind f = some y) : ∃ a, x = some a ∧ f a = some y := by
  cases x with
  | none => cases h
  | some a => exact ⟨a, rfl, h⟩
theorem jt_and {ta tb : TE} {fa fb : Ev → Option (M × D)} (ha : JT K ta fa) (hb : JT K tb fb) : JT K (tAndV ta tb) (jAnd fa fb) := by
  intro H₀ O H σ env Q m d R h q
  obtain ⟨a, ea, h⟩ := bind2 h
  obtain ⟨b, eb, h⟩ := bind2 h
  refine ha H₀ O H σ env _ a.1 a.2 R ea fun x H1 s1 h1 => ?_
  rw [dBl_eq eb] at h1
  refine ⟨b, h1.bl, ?_⟩
  cases b with
  | true =>
    rw [if_pos rfl] at h ⊢
    exact hb H₀ O H1 σ env _ m d (R.keep s1) h fun v H2 s2 h2 => q v H2 (s1.trans s2) (h2.hb fun a z => s1.free z)
  | false =>
    rw [if_neg Bool.false_ne_true] at h ⊢
    cases h
    exact q _ H1 s1 val_b
theorem jt_or {ta tb : TE} {fa fb : Ev → Option (M × D)} (ha : JT K ta fa) (hb : JT K tb fb) : JT K (tOrV ta tb) (jOr fa fb) := by
  intro H₀ O H σ env Q m d R h q
  obtain ⟨a, ea, h⟩ := bind2 h
  obtain ⟨b, eb, h⟩ := bind2 h
  refine ha H₀ O H σ env _ a.1 a.2 R ea fun x H1 s1 h1 => ?_
  rw [dBl_eq eb] at h1
  refine ⟨b, h1.bl, ?_⟩
  cases b with
  | true =>
    rw [if_pos rfl] at h ⊢
    cases h
    exact q _ H1 s1 val_b
  | false =>
    rw [if_neg Bool.false_ne_true] at h ⊢
    exact hb H₀ O H1 σ env _ m d (R.keep s1) h fun v H2 s2 h2 => q v H2 (s1.trans s2) (h2.hb fun a z => s1.free z)
theorem jt_not {ta : TE} {fa : Ev → Option (M × D)} (ha : JT K ta fa) : JT K (tNotV ta) (jNot fa) := by
  intro H₀ O H σ env Q m d R h q
  obtain ⟨a, ea, h⟩ := bind2 h
  obtain ⟨b, eb, h⟩ := bind2 h
  cases h
  refine ha H₀ O H σ env _ a.1 a.2 R ea fun x H1 s1 h1 => ?_
  rw [dBl_eq eb] at h1
  exact ⟨b, h1.bl, q _ H1 s1 val_b⟩
noncomputable def jB (f : Ev → Option (M × D)) : Ev → Option Bool := fun e => (f e).bind dBl
theorem jtt_b {t : TE} {f : Ev → Option (M × D)} (h : JT K t f) : JTT K (tB t) (jB f) := by
  intro H₀ O H σ env Q b R e q
  obtain ⟨a, ea, e⟩ := bind2 e
  refine h H₀ O H σ env _ a.1 a.2 R ea fun x H1 s1 h1 => ?_
  rw [dBl_eq e] at h1
  exact ⟨b, h1.bl, q H1 s1⟩
theorem jtt_test {t : TE} {f : Ev → Option (M × D)} (h : JT K t f) : JTT K (tTest t) (jB f) := jtt_b h
theorem jtt_truth {t : TE} {f : Ev → Option (M × D)} (h : JT K t f) : JTT K (fun σ H Q => t σ H fun x H' => ∃ k, TruV K x H' k ∧ Q k H') (jB f) := by
  intro H₀ O H σ env Q b R e q
  obtain ⟨a, ea, e⟩ := bind2 e
  refine h H₀ O H σ env _ a.1 a.2 R ea fun x H1 s1 h1 => ?_
  rw [dBl_eq e] at h1
  exact ⟨b, by rw [h1.bl]; exact rfl, q H1 s1⟩
noncomputable def bAnd (f g : Ev → Option Bool) : Ev → Option Bool := fun e => (f e).bind fun b => if b = true then g e else some false
noncomputable def bOr (f g : Ev → Option Bool) : Ev → Option Bool := fun e => (f e).bind fun b => if b = true then some true else g e
noncomputable def bNot (f : Ev → Option Bool) : Ev → Option Bool := fun e => (f e).bind fun b => some (!b)
theorem jtt_and {t u : TT} {f g : Ev → Option Bool} (h : JTT K t f) (h' : JTT K u g) : JTT K (tAnd t u) (bAnd f g) := by
  intro H₀ O H σ env Q b R e q
  obtain ⟨c, ec, e⟩ := bind2 e
  refine h H₀ O H σ env _ c R ec fun H1 s1 => ?_
  cases c with
  | true =>
    rw [if_pos rfl] at e ⊢
    exact h' H₀ O H1 σ env _ b (R.keep s1) e fun H2 s2 => q H2 (s1.trans s2)
  | false =>
    rw [if_neg Bool.false_ne_true] at e ⊢
    cases e
    exact q H1 s1
theorem jtt_or {t u : TT} {f g : Ev → Option Bool} (h : JTT K t f) (h' : JTT K u g) : JTT K (tOr t u) (bOr f g) := by
  intro H₀ O H σ env Q b R e q
  obtain ⟨c, ec, e⟩ := bind2 e
  refine h H₀ O H σ env _ c R ec fun H1 s1 => ?_
  cases c with
  | true =>
    rw [if_pos rfl] at e ⊢
    cases e
    exact q H1 s1
  | false =>
    rw [if_neg Bool.false_ne_true] at e ⊢
    exact h' H₀ O H1 σ env _ b (R.keep s1) e fun H2 s2 => q H2 (s1.trans s2)
theorem jtt_not {t : TT} {f : Ev → Option Bool} (h : JTT K t f) : JTT K (tNot t) (bNot f) := by
  intro H₀ O H σ env Q b R e q
  obtain ⟨c, ec, e⟩ := bind2 e
  cases e
  exact h H₀ O H σ env _ c R ec fun H1 s1 => q H1 s1
noncomputable def jIfE (c : Ev → Option Bool) (fa fb : Ev → Option (M × D)) : Ev → Option (M × D) := fun e => (c e).bind fun b => if b = true then fa e else fb e
theorem jt_ifE {t : TT} {c : Ev → Option Bool} {ta tb : TE} {fa fb : Ev → Option (M × D)} (hc : JTT K t c) (ha : JT K ta fa) (hb : JT K tb fb) : JT K (tIf t ta tb) (jIfE c fa fb) := by
  intro H₀ O H σ env Q m d R h q
  obtain ⟨b, eb, h⟩ := bind2 h
  refine hc H₀ O H σ env _ b R eb fun H1 s1 => ?_
  cases b with
  | true =>
    rw [if_pos rfl] at h ⊢
    exact ha H₀ O H1 σ env _ m d (R.keep s1) h fun v H2 s2 h2 => q v H2 (s1.trans s2) (h2.hb fun a z => s1.free z)
  | false =>
    rw [if_neg Bool.false_ne_true] at h ⊢
    exact hb H₀ O H1 σ env _ m d (R.keep s1) h fun v H2 s2 h2 => q v H2 (s1.trans s2) (h2.hb fun a z => s1.free z)
noncomputable def jChain (g g' : M × D → M × D → Option (M × D)) (fa fb fc : Ev → Option (M × D)) : Ev → Option (M × D) := fun e => (fa e).bind fun x => (fb e).bind fun y => (g x y).bind fun z => (dBl z).bind fun k => if k = true then (fc e).bind fun w => g' y w else some (.fr, .bl false)
noncomputable def jNil : Ev → Option (List (M × D)) := fun _ => some []
noncomputable def jCons (f : Ev → Option (M × D)) (g : Ev → Option (List (M × D))) : Ev → Option (List (M × D)) := fun e => (f e).bind fun x => (g e).bind fun r => some (x :: r)
theorem jta_nil : JTA K tNil jNil := by
  intro H₀ O H σ env Q mds R h q
  cases h
  exact q [] H (Same.refl H) .nil
theorem jta_cons {te : TE} {ta : TA} {f : Ev → Option (M × D)} {g : Ev → Option (List (M × D))} (hf : JT K te f) (hg : JTA K ta g) : JTA K (tCons te ta) (jCons f g) := by
  intro H₀ O H σ env Q mds R h q
  obtain ⟨x, ex, h⟩ := bind2 h
  obtain ⟨r, er, h⟩ := bind2 h
  cases h
  refine hf H₀ O H σ env _ x.1 x.2 R ex fun v H1 s1 h1 => ?_
  refine hg H₀ O H1 σ env _ r (R.keep s1) er fun vs H2 s2 h2 => ?_
  exact q (v :: vs) H2 (s1.trans s2) (.cons (h1.keep s2) (pmono (fun _ _ z => z.hb fun a z => s1.free z) h2))
theorem ValL.keep {Hb : Hp} {mds : List (M × D)} {vs : List V} (s : Same H H') (h : ValL K H₀ O Hb H mds vs) : ValL K H₀ O Hb H' mds vs := pmono (fun _ _ z => z.keep s) h
theorem ValL.rps {N : Addr → Prop} {Hb : Hp} : ∀ {mds : List (M × D)} {vs : List V}, (∀ md ∈ mds, ∀ v, Val K H₀ O Hb H md.1 md.2 v → Rp K N H v md.2) → ValL K H₀ O Hb H mds vs → Rps K N H vs (mds.map (·.2))
  | _, _, _, .nil => .nil
  | md :: mds, v :: vs, h, .cons a r => .cons (h md List.mem_cons_self v a) (ValL.rps (fun x hx => h x (List.mem_cons_of_mem _ hx)) r)
theorem same_newJ {p : Addr} {o : HO} (h : H p = none) : Same H (upd H p o) := fun b u e => by rw [upd_ne (ne_of_none e h)]; exact e
noncomputable def jLstG (mds : List (M × D)) : Option (M × D) :=
  if mds.length ≤ sizeLine then
    if (mds.all fun md => sto md.1 md.2) = true then some (.un, .lst (mds.map (·.2)))
    else if (mds.all fun md => sta md.1 md.2) = true then some (.al, .lst (mds.map (·.2))) else none
  else none
noncomputable def jLst (fs : Ev → Option (List (M × D))) : Ev → Option (M × D) := fun e => (fs e).bind jLstG
theorem val_newL {p : Addr} {xs : List V} {ds : List D} (od : ∀ a, O a → ∃ o, H a = some o) (hd : ∀ a o, H₀ a = some o → ∃ o', H a = some o') (hp : H p = none) (r : Rps K (fun a => ¬ O a ∧ H₀ a = none) H xs ds) : Val K H₀ O H (upd H p (.lst xs)) .un (.lst ds) (.ref p) := by
  refine ⟨p, rfl, hp, ?_, ?_, xs, upd_same, ?_⟩
  · cases e : H₀ p with
    | none => rfl
    | some o => obtain ⟨o', e'⟩ := hd p o e; rw [hp] at e'; cases e'
  · intro z; obtain ⟨o, e⟩ := od p z; rw [hp] at e; cases e
  · refine (Rps.wk (fun a h ⟨o, e⟩ => ⟨h, ?_⟩) r).keep (.same (same_newJ hp))
    exact ne_of_none e hp
theorem fresh_no {p : Addr} (od : ∀ a, O a → ∃ o, H a = some o) (hp : H p = none) : ¬ O p := by
  intro z; obtain ⟨o, e⟩ := od p z; rw [hp] at e; cases e
theorem fresh_n0 {p : Addr} (hd : ∀ a o, H₀ a = some o → ∃ o', H a = some o') (hp : H p = none) : H₀ p = none := by
  cases e : H₀ p with
  | none => rfl
  | some o => obtain ⟨o', e'⟩ := hd p o e; rw [hp] at e'; cases e'
theorem jt_lst {ta : TA} {fs : Ev → Option (List (M × D))} (ha : JTA K ta fs) : JT K (tLst ta) (jLst fs) := by
  intro H₀ O H σ env Q m d R h q
  obtain ⟨mds, e, h⟩ := bind2 h
  unfold jLstG at h
  split at h
  · rename_i hl
    refine ha H₀ O H σ env _ mds R e fun vs H1 s1 h1 => ⟨by rw [← Paired.length h1]; exact hl, fun p hp => ?_⟩
    have R1 := R.keep s1
    split at h
    · rename_i hs
      cases h
      rw [List.all_eq_true] at hs
      exact q _ _ (s1.trans (same_newJ hp)) ((val_newL R1.od R1.hd hp (h1.rps fun md hm v hv => hv.sto (hs md hm))).hb fun a z => s1.free z)
    · split at h
      · rename_i hs
        cases h
        rw [List.all_eq_true] at hs
        refine q _ _ (s1.trans (same_newJ hp)) ?_
        exact Rp.lst (.inl upd_same) (fresh_no R1.od hp) ((h1.rps fun md hm v hv => hv.sta (hs md hm)).keep (.same (same_newJ hp)))
      · cases h
  · cases h
noncomputable def jTupG (mds : List (M × D)) : Option (M × D) :=
  if mds.length ≤ sizeLine then
    if (mds.all fun md => sto md.1 md.2) = true then some (.fr, .tup (mds.map (·.2)))
    else if (mds.all fun md => sta md.1 md.2) = true then some (.al, .tup (mds.map (·.2)))
    else if (mds.all fun md => stb md.1 md.2) = true then some (.rb, .tup (mds.map (·.2))) else none
  else none
noncomputable def jTup (fs : Ev → Option (List (M × D))) : Ev → Option (M × D) := fun e => (fs e).bind jTupG
theorem jt_tup {ta : TA} {fs : Ev → Option (List (M × D))} (ha : JTA K ta fs) : JT K (tTup ta) (jTup fs) := by
  intro H₀ O H σ env Q m d R h q
  obtain ⟨mds, e, h⟩ := bind2 h
  unfold jTupG at h
  split at h
  · rename_i hl
    refine ha H₀ O H σ env _ mds R e fun vs H1 s1 h1 => ⟨by rw [← Paired.length h1]; exact hl, fun p hp => ?_⟩
    split at h
    · rename_i hs
      cases h
      rw [List.all_eq_true] at hs
      exact q _ _ (s1.trans (same_newJ hp)) (Rp.tup (.inl (.inl upd_same)) ((h1.rps fun md hm v hv => hv.sto (hs md hm)).keep (.same (same_newJ hp))))
    · split at h
      · rename_i hs
        cases h
        rw [List.all_eq_true] at hs
        exact q _ _ (s1.trans (same_newJ hp)) (Rp.tup (.inl (.inl upd_same)) ((h1.rps fun md hm v hv => hv.sta (hs md hm)).keep (.same (same_newJ hp))))
      · split at h
        · rename_i hs
          cases h
          rw [List.all_eq_true] at hs
          exact q _ _ (s1.trans (same_newJ hp)) (Rp.tup (.inl (.inl upd_same)) ((h1.rps fun md hm v hv => hv.stb (hs md hm)).keep (.same (same_newJ hp))))
        · cases h
  · cases h
noncomputable def mkL (m : M) (ds : List D) : Option (M × D) :=
  if elm m = .al then (if D.imms ds = true then some (.un, .lst ds) else some (.al, .lst ds)) else if elm m = .rb then (if D.imms ds = true then some (.un, .lst ds) else none) else some (.un, .lst ds)
theorem val_mkL {p : Addr} {xs : List V} {ds : List D} {m m' : M} {d : D} (od : ∀ a, O a → ∃ o, H a = some o) (hd : ∀ a o, H₀ a = some o → ∃ o', H a = some o') (hp : H p = none) (r : Rps K (NM H₀ O (elm m)) H xs ds) (h : mkL m ds = some (m', d)) : Val K H₀ O H (upd H p (.lst xs)) m' d (.ref p) := by
  unfold mkL at h
  split at h
  · rename_i e
    rw [e] at r
    split at h
    · rename_i e; cases h; exact val_newL od hd hp (Rps.im e r)
    · cases h; exact Rp.lst (.inl upd_same) (fresh_no od hp) (r.keep (.same (same_newJ hp)))
  · split at h
    · split at h
      · rename_i e; cases h; exact val_newL od hd hp (Rps.im e r)
      · cases h
    · rename_i e1 e2
      cases h
      have e : elm m = .fr := by cases m <;> simp [elm] at e1 e2 ⊢
      rw [e] at r
      exact val_newL od hd hp r
noncomputable def JCB (K : PySem.W.Frag) (r : List V → Hp → VK → Prop) (g : List (M × D) → Option (M × D)) : Prop :=
  ∀ H₀ O H vs mds Q m d, (∀ a, O a → ∃ o, H a = some o) → (∀ a o, H₀ a = some o → ∃ o', H a = some o') → ValL K H₀ O HE H mds vs → g mds = some (m, d) → (∀ v H', Same H H' → Val K H₀ O H H' m d v → Q v H') → r vs H Q
noncomputable def jCB (g : List (M × D) → Option (M × D)) (fs : Ev → Option (List (M × D))) : Ev → Option (M × D) := fun e => (fs e).bind g
theorem jt_cb {r : List V → Hp → VK → Prop} {g : List (M × D) → Option (M × D)} {ta : TA} {fs : Ev → Option (List (M × D))} (hr : JCB K r g) (ha : JTA K ta fs) : JT K (tCB r ta) (jCB g fs) := by
  intro H₀ O H σ env Q m d R h q
  obtain ⟨mds, e, h⟩ := bind2 h
  refine ha H₀ O H σ env _ mds R e fun vs H1 s1 h1 => ?_
  have R1 := R.keep s1
  exact hr H₀ O H1 vs mds Q m d R1.od R1.hd (pmono (fun _ _ z => z.h0) h1) h fun v H3 s3 h3 => q v H3 (s1.trans s3) (h3.hb fun a z => s1.free z)
theorem ValL.one {Hb : Hp} {a : M × D} {vs : List V} (h : ValL K H₀ O Hb H [a] vs) : ∃ v, vs = [v] ∧ Val K H₀ O Hb H a.1 a.2 v := by
  cases h with | cons q t => cases t; exact ⟨_, rfl, q⟩
theorem ValL.two {Hb : Hp} {a b : M × D} {vs : List V} (h : ValL K H₀ O Hb H [a, b] vs) : ∃ v w, vs = [v, w] ∧ Val K H₀ O Hb H a.1 a.2 v ∧ Val K H₀ O Hb H b.1 b.2 w := by
  cases h with | cons q t => cases t with | cons q' t => cases t; exact ⟨_, _, rfl, q, q'⟩
noncomputable def gLen : List (M × D) → Option (M × D)
  | [(_, .lst ds)] => some (.fr, .int ds.length)
  | [(_, .tup ds)] => some (.fr, .int ds.length)
  | [(_, .str z)] => if z.length ≤ sizeLine then some (.fr, .int z.length) else none
  | _ => none
theorem jcb_len : JCB K (fun xs H Q => ∃ x n, xs = [x] ∧ LenV K x H n ∧ Q (.int n) H) gLen := by
  intro H₀ O H vs mds Q m d _ _ hv h q
  unfold gLen at h
  split at h
  · cases h
    obtain ⟨v, rfl, hw⟩ := hv.one
    obtain ⟨a, xs, rfl, r, s⟩ := hw.lst
    exact ⟨_, _, rfl, .inl ⟨xs, r, s.len.symm⟩, q _ H (Same.refl H) val_i⟩
  · cases h
    obtain ⟨v, rfl, hw⟩ := hv.one
    obtain ⟨a, xs, rfl, r, s⟩ := hw.tup
    exact ⟨_, _, rfl, .inr ⟨xs, r, s.len.symm⟩, q _ H (Same.refl H) val_i⟩
  · split at h
    · rename_i hz
      cases h
      obtain ⟨v, rfl, hw⟩ := hv.one
      obtain rfl := hw.str
      exact ⟨_, _, rfl, ⟨hz, rfl⟩, q _ H (Same.refl H) val_i⟩
    · cases h
  · cases h
noncomputable def gAbs : List (M × D) → Option (M × D)
  | [(_, .int i)] => some (.fr, .int (if i < 0 then -i else i))
  | _ => none
theorem jcb_abs : JCB K (fun xs H Q => ∃ i, xs = [.int i] ∧ Q (.int (if i < 0 then -i else i)) H) gAbs := by
  intro H₀ O H vs mds Q m d _ _ hv h q
  unfold gAbs at h
  split at h
  · cases h
    obtain ⟨v, rfl, hw⟩ := hv.one
    obtain rfl := hw.int
    exact ⟨_, rfl, q _ H (Same.refl H) val_i⟩
  · cases h
noncomputable def gInt : List (M × D) → Option (M × D)
  | [(_, .int i)] => some (.fr, .int i)
  | [(_, .bl k)] => some (.fr, .int (if k then 1 else 0))
  | _ => none
theorem jcb_int : JCB K (fun xs H Q => (∃ i, xs = [.int i] ∧ Q (.int i) H) ∨ ∃ k, xs = [.bl k] ∧ Q (.int (if k then 1 else 0)) H) gInt := by
  intro H₀ O H vs mds Q m d _ _ hv h q
  unfold gInt at h
  split at h
  · cases h
    obtain ⟨v, rfl, hw⟩ := hv.one
    obtain rfl := hw.int
    exact .inl ⟨_, rfl, q _ H (Same.refl H) val_i⟩
  · cases h
    obtain ⟨v, rfl, hw⟩ := hv.one
    obtain rfl := hw.bl
    exact .inr ⟨_, rfl, q _ H (Same.refl H) val_i⟩
  · cases h
noncomputable def gList : List (M × D) → Option (M × D)
  | [(m, .lst ds)] => mkL m ds
  | [(m, .tup ds)] => mkL m ds
  | _ => none
theorem jcb_list : JCB K (fun xs H Q => ∃ p ys, xs = [.ref p] ∧ (SqL K H p ys ∨ SqT K H p ys) ∧ ∀ l, H l = none → Q (.ref l) (upd H l (.lst ys))) gList := by
  intro H₀ O H vs mds Q m d od hd hv h q
  unfold gList at h
  split at h
  · obtain ⟨v, rfl, hw⟩ := hv.one
    obtain ⟨a, xs, rfl, r, s⟩ := hw.lst
    exact ⟨_, _, rfl, .inl r, fun l hl => q _ _ (same_newJ hl) (val_mkL od hd hl s h)⟩
  · obtain ⟨v, rfl, hw⟩ := hv.one
    obtain ⟨a, xs, rfl, r, s⟩ := hw.tup
    exact ⟨_, _, rfl, .inr r, fun l hl => q _ _ (same_newJ hl) (val_mkL od hd hl s h)⟩
  · cases h
noncomputable def JTO (K : PySem.W.Frag) (t : TO) (f : Ev → Option (Option Int)) : Prop :=
  ∀ H₀ O H σ env Q b, RelE K H₀ O H σ env → f env = some b → (∀ H', Same H H' → Q b H') → t σ H Q
noncomputable def jNoP : Ev → Option (Option Int) := fun _ => some none
noncomputable def dInt : M × D → Option Int
  | (_, .int i) => some i
  | _ => none
theorem dInt_eq {a : M × D} {b : Int} (h : dInt a = some b) : a.2 = .int b := by
  obtain ⟨m, d⟩ := a
  cases d <;> simp only [dInt] at h <;> first | (cases h; rfl) | cases h
noncomputable def jPart (f : Ev → Option (M × D)) : Ev → Option (Option Int) := fun e => (f e).bind fun x => (dInt x).map some
theorem jto_none : JTO K tNoPart jNoP := by
  intro H₀ O H σ env Q b R h q
  cases h
  exact q H (Same.refl H)
theorem jto_some {t : TE} {f : Ev → Option (M × D)} (h : JT K t f) : JTO K (tPart t) (jPart f) := by
  intro H₀ O H σ env Q b R e q
  obtain ⟨a, ea, e⟩ := bind2 e
  cases ei : dInt a with
  | none => rw [ei] at e; cases e
  | some i =>
    rw [ei] at e; cases e
    refine h H₀ O H σ env _ a.1 a.2 R ea fun x H1 s1 h1 => ?_
    rw [dInt_eq ei] at h1
    exact ⟨i, h1.int, q H1 s1⟩
noncomputable def JSl (K : PySem.W.Frag) (r : V → Option Int → Option Int → Hp → VK → Prop) (g : M × D → Option Int → Option Int → Option (M × D)) : Prop :=
  ∀ H₀ O H x lo hi a Q m d, (∀ a, O a → ∃ o, H a = some o) → (∀ a o, H₀ a = some o → ∃ o', H a = some o') → Val K H₀ O HE H (Prod.fst a) a.2 x → g a lo hi = some (m, d) → (∀ v H', Same H H' → Val K H₀ O H H' m d v → Q v H') → r x lo hi H Q
noncomputable def jSl (g : M × D → Option Int → Option Int → Option (M × D)) (f : Ev → Option (M × D)) (l u : Ev → Option (Option Int)) : Ev → Option (M × D) := fun e => (f e).bind fun x => (l e).bind fun lo => (u e).bind fun hi => g x lo hi
theorem jt_sl {r : V → Option Int → Option Int → Hp → VK → Prop} {g : M × D → Option Int → Option Int → Option (M × D)} {te : TE} {tl th : TO} {f : Ev → Option (M × D)} {l u : Ev → Option (Option Int)} (hr : JSl K r g) (he : JT K te f) (hl : JTO K tl l) (hu : JTO K th u) : JT K (tSl r te tl th) (jSl g f l u) := by
  intro H₀ O H σ env Q m d R h q
  obtain ⟨x, ex, h⟩ := bind2 h
  obtain ⟨lo, el, h⟩ := bind2 h
  obtain ⟨hi, eh, h⟩ := bind2 h
  refine he H₀ O H σ env _ x.1 x.2 R ex fun v H1 s1 h1 => ?_
  refine hl H₀ O H1 σ env _ lo (R.keep s1) el fun H2 s2 => ?_
  refine hu H₀ O H2 σ env _ hi ((R.keep s1).keep s2) eh fun H3 s3 => ?_
  have R3 := ((R.keep s1).keep s2).keep s3
  exact hr H₀ O H3 v lo hi x Q m d R3.od R3.hd ((h1.keep s2).keep s3).h0 h fun v H4 s4 h4 => q v H4 (((s1.trans s2).trans s3).trans s4) (h4.hb fun a z => ((s1.trans s2).trans s3).free z)
noncomputable def cut {α : Type} (xs : List α) (lo hi : Option Int) : List α := (xs.drop (HT.sIx xs.length 0 lo)).take (HT.sIx xs.length xs.length hi - HT.sIx xs.length 0 lo)
noncomputable def gSlL : M × D → Option Int → Option Int → Option (M × D)
  | (m, .lst ds), lo, hi => mkL m (cut ds lo hi)
  | _, _, _ => none
theorem Rps.cut {N : Addr → Prop} {xs : List V} {ds : List D} {lo hi : Option Int} (r : Rps K N H xs ds) : Rps K N H (cutV xs lo hi) (J.cut ds lo hi) := by
  unfold cutV J.cut
  rw [r.len]
  exact (r.drop _).take _
theorem jsl_list : JSl K (rSlL K) gSlL := by
  intro H₀ O H x lo hi a Q m d od hd h1 h q
  obtain ⟨ma, da⟩ := a
  cases da <;> try (cases h; done)
  obtain ⟨p, xs, rfl, r, s⟩ := h1.lst
  exact ⟨p, xs, rfl, r, fun l hl => q _ _ (same_newJ hl) (val_mkL od hd hl s.cut h)⟩
noncomputable def mJ : M → M → M
  | .al, _ => .al
  | _, .al => .al
  | .rb, _ => .rb
  | _, .rb => .rb
  | _, _ => .fr
theorem NM.mJ1 {a b : M} {x : Addr} (ha : elm a ≠ .rb) (hb : elm b ≠ .rb) (h : NM H₀ O (elm a) x) : NM H₀ O (elm (mJ a b)) x := by
  cases a <;> cases b <;> first | exact h | exact h.1 | exact absurd rfl ha | exact absurd rfl hb
theorem NM.mJ2 {a b : M} {x : Addr} (ha : elm a ≠ .rb) (hb : elm b ≠ .rb) (h : NM H₀ O (elm b) x) : NM H₀ O (elm (mJ a b)) x := by
  cases a <;> cases b <;> first | exact h | exact h.1 | exact absurd rfl ha | exact absurd rfl hb
noncomputable def gCat : M × D → M × D → Option (M × D)
  | (m, .lst ds), (n, .lst es) => if elm m = .rb ∨ elm n = .rb then none else if ds.length + es.length ≤ sizeLine then mkL (mJ m n) (ds ++ es) else none
  | _, _ => none
noncomputable def rCatJ (K : PySem.W.Frag) : R2 := fun x y H Q => ∃ l b xs zs, x = .ref l ∧ y = .ref b ∧ SqL K H l xs ∧ SqL K H b zs ∧ xs.length + zs.length ≤ sizeLine ∧ ∀ p, H p = none → Q (.ref p) (upd H p (.lst (xs ++ zs)))
theorem jr_cat : JR K (rCatJ K) gCat := by
  intro H₀ O H x y a b Q m d od hd h1 h2 h q
  obtain ⟨ma, da⟩ := a; obtain ⟨mb, db⟩ := b
  cases da <;> try (cases db <;> cases h; done)
  cases db <;> try (cases h; done)
  simp only [gCat] at h
  split at h
  · cases h
  · rename_i hn
    split at h
    · rename_i hl
      obtain ⟨p, xs, rfl, r, s⟩ := h1.lst
      obtain ⟨p', xs', rfl, r', s'⟩ := h2.lst
      have n1 : elm ma ≠ .rb := fun z => hn (.inl z)
      have n2 : elm mb ≠ .rb := fun z => hn (.inr z)
      refine ⟨p, p', xs, xs', rfl, rfl, r, r', by rw [s.len, s'.len]; exact hl, fun l hl => q _ _ (same_newJ hl) (val_mkL od hd hl (Rps.app (s.wk fun _ h _ => NM.mJ1 n1 n2 h) (s'.wk fun _ h _ => NM.mJ2 n1 n2 h)) h)⟩
    · cases h
end
end J
namespace J
open PySem L2
noncomputable def own : M → Bool
  | .bo => true
  | .bi => true
  | _ => false
theorem own_slm {m : M} (h : own m = true) : slm m = true := by cases m <;> first | rfl | cases h
theorem paired_of {α β : Type} {F : α → β → Prop} : ∀ {l : List α} {r : List β}, l.length = r.length → (∀ (j : Nat) a b, l[j]? = some a → r[j]? = some b → F a b) → Paired F l r
  | [], [], _, _ => .nil
  | a :: l, b :: r, e, h => .cons (h 0 a b rfl rfl) (paired_of (by simpa using e) fun j x y h1 h2 => h (j + 1) x y (by simpa using h1) (by simpa using h2))
  | [], _ :: _, e, _ => by simp at e
  | _ :: _, [], e, _ => by simp at e
noncomputable def NDj (H : Hp) (σ : St) (env : Ev) : Prop :=
  (∀ (i j : Nat) (d d' : D), env[i]? = some (some (.nb, d)) → env[j]? = some (some (.nb, d')) → i = j) ∧
  ∀ (i j : Nat) (d : D) (x : M × D) (p q : Addr) (xs : List V), env[i]? = some (some (.nb, d)) → σ[i]? = some (some (.ref p)) → env[j]? = some (some x) → own x.1 = true → σ[j]? = some (some (.ref q)) → H p = some (.lst xs) → q ≠ p ∧ V.ref q ∉ xs
structure Rel (K : PySem.W.Frag) (H₀ : Hp) (I : Nat → Option Addr) (O : Addr → Prop) (H : Hp) (σ : St) (env : Ev) : Prop where
  e : RelE K H₀ O H σ env
  fr : ∀ a o, (∀ i, I i ≠ some a) → H₀ a = some o → H a = some o
  ow : ∀ a, O a → (∃ i, I i = some a) ∨ H₀ a = none
  ba : ∀ (i : Nat) d p, env[i]? = some (some (.bi, d)) → σ[i]? = some (some (.ref p)) → I i = some p
  dj : ∀ (i j : Nat) (x y : M × D) (p : Addr), env[i]? = some (some x) → env[j]? = some (some y) → own x.1 = true → own y.1 = true → σ[i]? = some (some (.ref p)) → σ[j]? = some (some (.ref p)) → i = j
  nd : NDj H σ env
noncomputable def Stp (O : Addr → Prop) (H : Hp) (O' : Addr → Prop) (H' : Hp) : Prop := ∀ a o, H a = some o → ¬ O a → H' a = some o ∧ ¬ O' a
inductive Fl where
  | nx (e : Ev) | bk (e : Ev) | ct (e : Ev) | rt (e : Ev) (m : M) (d : D)
noncomputable def Post (K : PySem.W.Frag) (H₀ : Hp) (I : Nat → Option Addr) (O : Addr → Prop) (H : Hp) (Ds : Ends) : Fl → Prop
  | .nx e => ∀ O' H' σ', Rel K H₀ I O' H' σ' e → Stp O H O' H' → Ds.nx σ' H'
  | .bk e => ∀ O' H' σ', Rel K H₀ I O' H' σ' e → Stp O H O' H' → Ds.bk σ' H'
  | .ct e => ∀ O' H' σ', Rel K H₀ I O' H' σ' e → Stp O H O' H' → Ds.ct σ' H'
  | .rt e m d => ∀ O' H' σ' v, Rel K H₀ I O' H' σ' e → Stp O H O' H' → Val K H₀ O' HE H' m d v → Ds.rt v H'
noncomputable def JS (K : PySem.W.Frag) (ts : TS) (g : Ev → Option Fl) : Prop :=
  ∀ H₀ I O H σ env Ds fl, Rel K H₀ I O H σ env → g env = some fl → Post K H₀ I O H Ds fl → ts Ds σ H
section
variable {K : PySem.W.Frag} {H H' H₀ : Hp} {I : Nat → Option Addr} {O O' : Addr → Prop} {σ : St} {env : Ev}
theorem Stp.refl : Stp O H O H := fun a o h n => ⟨h, n⟩
theorem Stp.trans {O1 O2 : Addr → Prop} {H1 H2 : Hp} (a : Stp O H O1 H1) (b : Stp O1 H1 O2 H2) : Stp O H O2 H2 := fun x o h n => b x o (a x o h n).1 (a x o h n).2
theorem Stp.same (s : Same H H') : Stp O H O H' := fun a o h n => ⟨s a o h, n⟩
theorem NDj.keep (h : NDj H σ env) (w : ∀ (i : Nat) d p, env[i]? = some (some (.nb, d)) → σ[i]? = some (some (.ref p)) → H' p = H p) : NDj H' σ env :=
  ⟨h.1, fun i j d x p q xs h1 h2 h3 h4 h5 h6 => h.2 i j d x p q xs h1 h2 h3 h4 h5 (by rw [← w i d p h1 h2]; exact h6)⟩
theorem RelE.nest (R : RelE K H₀ O H σ env) {i : Nat} {d : D} {p : Addr} (h1 : env[i]? = some (some (.nb, d))) (h2 : σ[i]? = some (some (.ref p))) : ∃ (qs : List Addr) (dss : List (List D)), d = .lst (dss.map D.lst) ∧ O p ∧ H₀ p = none ∧ H p = some (.lst (qs.map V.ref)) ∧ qs.Nodup ∧ (∀ q ∈ qs, O q ∧ H₀ q = none ∧ q ≠ p) ∧
    Paired (fun q ds => ∃ xs, H q = some (.lst xs) ∧ Rps K (fun a => ¬ O a ∧ H₀ a = none) H xs ds) qs dss := by
  obtain ⟨v, hv, _, hm⟩ := R.at h1
  rw [h2] at hv; cases hv
  obtain ⟨p', qs, dss, e, r⟩ := hm
  cases e
  exact ⟨qs, dss, r⟩
theorem Rel.keep (R : Rel K H₀ I O H σ env) (s : Same H H') : Rel K H₀ I O H' σ env := ⟨R.e.keep s, fun a o n h => s _ _ (R.fr a o n h), R.ow, R.ba, R.dj, R.nd.keep fun i d p h1 h2 => by
  obtain ⟨qs, dss, _, _, _, e, _⟩ := R.e.nest h1 h2
  rw [s _ _ e, e]⟩
noncomputable def slq : M → Bool
  | .al => true
  | .fr => true
  | _ => false
theorem slq_slm {m : M} (h : slq m = true) : slm m = true := by cases m <;> first | rfl | cases h
theorem Post.pre {O1 : Addr → Prop} {H1 : Hp} {Ds : Ends} {fl : Fl} (s : Stp O H O1 H1) (h : Post K H₀ I O H Ds fl) : Post K H₀ I O1 H1 Ds fl := by
  cases fl <;> simp only [Post] at h ⊢
  · exact fun O' H' σ' R t => h O' H' σ' R (s.trans t)
  · exact fun O' H' σ' R t => h O' H' σ' R (s.trans t)
  · exact fun O' H' σ' R t => h O' H' σ' R (s.trans t)
  · exact fun O' H' σ' v R t => h O' H' σ' v R (s.trans t)
noncomputable def jPass : Ev → Option Fl := fun e => some (.nx e)
theorem js_next : JS K tNext jPass := by
  intro H₀ I O H σ env Ds fl R h q
  cases h
  exact q O H σ R Stp.refl
noncomputable def jSeq (f g : Ev → Option Fl) : Ev → Option Fl := fun e => (f e).bind fun r => match r with
  | .nx e' => g e'
  | .bk e' => some (.bk e')
  | .ct e' => some (.ct e')
  | .rt e' m d => some (.rt e' m d)
theorem js_seq {t u : TS} {f g : Ev → Option Fl} (ht : JS K t f) (hu : JS K u g) : JS K (tSeq t u) (jSeq f g) := by
  intro H₀ I O H σ env Ds fl R h q
  obtain ⟨r, er, h⟩ := bind2 h
  refine ht H₀ I O H σ env _ r R er ?_
  cases r with
  | nx e' => exact fun O' H' σ' R' s => hu H₀ I O' H' σ' e' Ds fl R' h (q.pre s)
  | bk e' => cases h; exact q
  | ct e' => cases h; exact q
  | rt e' m d => cases h; exact q
noncomputable def jRet (f : Ev → Option (M × D)) : Ev → Option Fl := fun e => (f e).bind fun x => some (.rt e x.1 x.2)
theorem js_ret {t : TE} {f : Ev → Option (M × D)} (h : JT K t f) : JS K (tRet t) (jRet f) := by
  intro H₀ I O H σ env Ds fl R e q
  obtain ⟨x, ex, e⟩ := bind2 e
  cases e
  exact h H₀ O H σ env _ x.1 x.2 R.e ex fun v H1 s1 h1 => q O H1 σ v (R.keep s1) (Stp.same s1) h1.h0
noncomputable def jRetN : Ev → Option Fl := fun e => some (.rt e .fr .non)
noncomputable def jIf (c : Ev → Option Bool) (f g : Ev → Option Fl) : Ev → Option Fl := fun e => (c e).bind fun b => if b = true then f e else g e
theorem js_if {c : TT} {t u : TS} {fc : Ev → Option Bool} {f g : Ev → Option Fl} (hc : JTT K c fc) (ht : JS K t f) (hu : JS K u g) : JS K (tIfS c t u) (jIf fc f g) := by
  intro H₀ I O H σ env Ds fl R h q
  obtain ⟨b, eb, h⟩ := bind2 h
  refine hc H₀ O H σ env _ b R.e eb fun H1 s1 => ?_
  cases b with
  | true =>
    rw [if_pos rfl] at h ⊢
    exact ht H₀ I O H1 σ env Ds fl (R.keep s1) h (q.pre (Stp.same s1))
  | false =>
    rw [if_neg Bool.false_ne_true] at h ⊢
    exact hu H₀ I O H1 σ env Ds fl (R.keep s1) h (q.pre (Stp.same s1))
noncomputable def slotM : M → Option M
  | .al => some .al
  | .fr => some .fr
  | .un => some .bo
  | _ => none
noncomputable def toSlot (x : M × D) : Option (M × D) := match slotM x.1 with
  | some m => some (m, x.2)
  | none => if x.2.imm = true then some (.fr, x.2) else none
theorem pset {α β : Type} {F : α → β → Prop} {a : α} {b : β} (q : F a b) : ∀ {l : List α} {r : List β} (i : Nat), Paired F l r → Paired F (l.set i a) (r.set i b)
  | _, _, _, .nil => .nil
  | _, _, 0, .cons _ t => .cons q t
  | _, _, i + 1, .cons h t => .cons h (pset q i t)
theorem get_set {α : Type} {l : List α} {i j : Nat} {a b : α} (h : (l.set i a)[j]? = some b) : (j = i ∧ b = a) ∨ (j ≠ i ∧ l[j]? = some b) := by
  rw [List.getElem?_set] at h
  split at h
  · rename_i e
    split at h
    · exact .inl ⟨e.symm, (Option.some.inj h).symm⟩
    · cases h
  · rename_i e
    exact .inr ⟨fun z => e z.symm, h⟩
theorem Rel.own_at {i : Nat} {x : M × D} {p : Addr} (R : Rel K H₀ I O H σ env) (hx : env[i]? = some (some x)) (ho : own x.1 = true) (hp : σ[i]? = some (some (.ref p))) : O p ∧ Cell K (fun a => ¬ O a ∧ H₀ a = none) H p x.2 := by
  obtain ⟨m, d⟩ := x
  obtain ⟨v, hv, n, hm⟩ := R.e.at hx
  rw [hp] at hv
  cases hv
  cases m <;> simp only [own] at ho <;> try (cases ho; done)
  · obtain ⟨p', e, h1, _, c⟩ := hm; cases e; exact ⟨h1, c⟩
  · obtain ⟨p', e, h1, c⟩ := hm; cases e; exact ⟨h1, c⟩
theorem npair_at {F : Addr → List D → Prop} : ∀ {qs : List Addr} {dss : List (List D)} {q : Addr}, Paired F qs dss → q ∈ qs → ∃ ds, F q ds
  | _, _, _, .nil, h => nomatch h
  | _, _, _, .cons a t, h => by
    rcases List.mem_cons.mp h with rfl | h
    · exact ⟨_, a⟩
    · exact npair_at t h
theorem Rel.set_plain {i : Nat} {m : M} {d : D} {v : V} (R : Rel K H₀ I O H σ env) (hm : own m = false) (hu : slq m = true) (h : Val K H₀ O HE H m d v) : Rel K H₀ I O H (σ.set i (some v)) (env.set i (some (m, d))) := by
  refine ⟨⟨pset (fun m' d' q => ?_) i R.e.sl, R.e.od, R.e.hd, R.e.on⟩, R.fr, R.ow, fun i' d' p h1 p1 => ?_, fun i' j x y p h1 h2 o1 o2 p1 p2 => ?_, ⟨fun i' j d1 d2 h1 h2 => ?_, fun i' j d1 x p q xs h1 p1 h2 o2 p2 e => ?_⟩⟩
  · cases q; exact ⟨slq_slm hu, v, rfl, h⟩
  · rcases get_set h1 with ⟨rfl, q⟩ | ⟨n1, q1⟩
    · cases q; cases hm
    · rw [List.getElem?_set_ne (fun z => n1 z.symm)] at p1
      exact R.ba i' d' p q1 p1
  · rcases get_set h1 with ⟨rfl, q⟩ | ⟨n1, q1⟩
    · cases q; rw [hm] at o1; cases o1
    · rcases get_set h2 with ⟨rfl, q⟩ | ⟨n2, q2⟩
      · cases q; rw [hm] at o2; cases o2
      · rw [List.getElem?_set_ne (fun z => n1 z.symm)] at p1
        rw [List.getElem?_set_ne (fun z => n2 z.symm)] at p2
        exact R.dj i' j x y p q1 q2 o1 o2 p1 p2
  · rcases get_set h1 with ⟨rfl, q⟩ | ⟨n1, q1⟩
    · cases q; cases hu
    · rcases get_set h2 with ⟨rfl, q⟩ | ⟨n2, q2⟩
      · cases q; cases hu
      · exact R.nd.1 i' j d1 d2 q1 q2
  · rcases get_set h1 with ⟨rfl, q⟩ | ⟨n1, q1⟩
    · cases q; cases hu
    · rcases get_set h2 with ⟨rfl, q⟩ | ⟨n2, q2⟩
      · cases q; rw [hm] at o2; cases o2
      · rw [List.getElem?_set_ne (fun z => n1 z.symm)] at p1
        rw [List.getElem?_set_ne (fun z => n2 z.symm)] at p2
        exact R.nd.2 i' j d1 x p q xs q1 p1 q2 o2 p2 e
theorem Rel.set_un {i : Nat} {d : D} {v : V} {H1 : Hp} (R : Rel K H₀ I O H σ env) (s : Same H H1) (h : Val K H₀ O H H1 .un d v) : ∃ O', Rel K H₀ I O' H1 (σ.set i (some v)) (env.set i (some (.bo, d))) ∧ Stp O H O' H1 := by
  obtain ⟨p, rfl, hp, h0, ho, c⟩ := h
  have np : ∀ a, (∃ o, H a = some o) → a ≠ p := fun a ⟨o, e⟩ => ne_of_none e hp
  have wk : ∀ {N : Addr → Prop} {d : D} {v : V}, Rp K N H v d → Rp K (fun a => N a ∧ a ≠ p) H1 v d := fun r => (r.wk fun a n e => ⟨n, np a e⟩).keep (.same s)
  have wks : ∀ {N : Addr → Prop} {d : D} {q : Addr}, Cell K N H q d → Cell K (fun a => N a ∧ a ≠ p) H1 q d := fun {N d q} r => by
    obtain ⟨o, e, _⟩ := r.some
    exact (r.wk fun a n e => ⟨n, np a e⟩).keep (.same s) ((s _ _ e).trans e.symm)
  obtain ⟨o, eo, nto⟩ := c.some
  refine ⟨fun a => O a ∨ a = p, ⟨⟨pset (fun m' d' q => ?_) i (pmono (fun e x h m d q => ?_) R.e.sl), ?_, ?_, ?_⟩, ?_, ?_, ?_, ?_, ?_⟩, ?_⟩
  · cases q
    exact ⟨rfl, _, rfl, p, rfl, .inr rfl, h0, c.wk fun a h _ => ⟨fun z => z.elim h.1.1 h.2, h.1.2⟩⟩
  · obtain ⟨n, v, rfl, z⟩ := h m d q
    refine ⟨n, v, rfl, ?_⟩
    cases m
    · exact (wk z).wk fun a h _ => fun z => z.elim h.1 h.2
    · exact (wk z).wk fun a h _ => ⟨fun z => z.elim h.1.1 h.2, h.1.2⟩
    · cases n
    · obtain ⟨q, rfl, h1, h2, c'⟩ := z
      exact ⟨q, rfl, .inl h1, h2, (wks c').wk fun a h _ => ⟨fun z => z.elim h.1.1 h.2, h.1.2⟩⟩
    · obtain ⟨q, rfl, h1, c'⟩ := z
      exact ⟨q, rfl, .inl h1, (wks c').wk fun a h _ => ⟨fun z => z.elim h.1.1 h.2, h.1.2⟩⟩
    · cases n
    · obtain ⟨q, qs, dss, e1, e2, h1, h2, h3, h4, h5, h6⟩ := z
      exact ⟨q, qs, dss, e1, e2, .inl h1, h2, s _ _ h3, h4, fun x hx => ⟨.inl (h5 x hx).1, (h5 x hx).2⟩, npairs (fun x ds _ ⟨xs, a, r⟩ => ⟨xs, s _ _ a, ((r.wk fun a n e => (⟨n, np a e⟩ : (¬ O a ∧ H₀ a = none) ∧ a ≠ p)).keep (.same s)).wk fun a h _ => ⟨fun z => z.elim h.1.1 h.2, h.1.2⟩⟩) h6⟩
  · intro a ha
    rcases ha with ha | rfl
    · obtain ⟨o, e⟩ := R.e.od a ha; exact ⟨o, s _ _ e⟩
    · exact ⟨o, eo⟩
  · exact fun a o h => let ⟨o, e⟩ := R.e.hd a o h; ⟨o, s _ _ e⟩
  · intro a u ha e
    rcases ha with ha | rfl
    · exact (R.e.keep s).on a u ha e
    · rw [eo] at e; cases e; exact nto
  · exact fun a o n h => s _ _ (R.fr a o n h)
  · intro a ha
    rcases ha with ha | rfl
    · exact R.ow a ha
    · exact .inr h0
  · intro i' d' p' h1 p1
    rcases get_set h1 with ⟨rfl, q⟩ | ⟨n1, q1⟩
    · cases q
    · rw [List.getElem?_set_ne (fun z => n1 z.symm)] at p1
      exact R.ba i' d' p' q1 p1
  · intro i' j x y q h1 h2 o1 o2 p1 p2
    rcases get_set h1 with ⟨rfl, q1⟩ | ⟨n1, q1⟩
    · rcases get_set h2 with ⟨rfl, q2⟩ | ⟨n2, q2⟩
      · rfl
      · exfalso
        rw [List.getElem?_set_ne (fun z => n2 z.symm)] at p2
        rcases get_set p1 with ⟨_, z⟩ | ⟨z, _⟩
        · cases z
          obtain ⟨_, c'⟩ := R.own_at q2 o2 p2
          obtain ⟨o', e', _⟩ := c'.some
          rw [hp] at e'; cases e'
        · exact z rfl
    · rcases get_set h2 with ⟨rfl, q2⟩ | ⟨n2, q2⟩
      · exfalso
        rw [List.getElem?_set_ne (fun z => n1 z.symm)] at p1
        rcases get_set p2 with ⟨_, z⟩ | ⟨z, _⟩
        · cases z
          obtain ⟨_, c'⟩ := R.own_at q1 o1 p1
          obtain ⟨o', e', _⟩ := c'.some
          rw [hp] at e'; cases e'
        · exact z rfl
      · rw [List.getElem?_set_ne (fun z => n1 z.symm)] at p1
        rw [List.getElem?_set_ne (fun z => n2 z.symm)] at p2
        exact R.dj i' j x y q q1 q2 o1 o2 p1 p2
  · refine ⟨fun i' j d1 d2 h1 h2 => ?_, fun i' j d1 x p' q xs h1 p1 h2 o2 p2 e => ?_⟩
    · rcases get_set h1 with ⟨rfl, z⟩ | ⟨n1, q1⟩
      · cases z
      · rcases get_set h2 with ⟨rfl, z⟩ | ⟨n2, q2⟩
        · cases z
        · exact R.nd.1 i' j d1 d2 q1 q2
    · rcases get_set h1 with ⟨rfl, z⟩ | ⟨n1, q1⟩
      · cases z
      · rw [List.getElem?_set_ne (fun z => n1 z.symm)] at p1
        obtain ⟨qs, dss, _, _, _, e3, _, _, h6⟩ := R.e.nest q1 p1
        rw [s _ _ e3] at e; cases e
        rcases get_set h2 with ⟨rfl, z⟩ | ⟨n2, q2⟩
        · rcases get_set p2 with ⟨_, z⟩ | ⟨z, _⟩
          · cases z
            refine ⟨(fun z => by rw [z, e3] at hp; cases hp), fun z => ?_⟩
            obtain ⟨a, ha, ea⟩ := List.mem_map.mp z
            cases ea
            obtain ⟨ds, xs, hx, _⟩ := npair_at h6 ha
            rw [hp] at hx; cases hx
          · exact absurd rfl z
        · rw [List.getElem?_set_ne (fun z => n2 z.symm)] at p2
          exact R.nd.2 i' j d1 x p' q _ q1 p1 q2 o2 p2 e3
  · intro a o h n
    exact ⟨s a o h, fun z => z.elim n (np a ⟨o, h⟩)⟩
theorem Rel.give {i : Nat} {x y : M × D} {v : V} {H1 : Hp} (R : Rel K H₀ I O H σ env) (s : Same H H1) (h : Val K H₀ O H H1 x.1 x.2 v) (e : toSlot x = some y) : ∃ O', Rel K H₀ I O' H1 (σ.set i (some v)) (env.set i (some y)) ∧ Stp O H O' H1 := by
  obtain ⟨m, d⟩ := x
  unfold toSlot at e
  cases m <;> simp only [slotM] at e
  · cases e; exact ⟨O, (R.keep s).set_plain rfl rfl h, .same s⟩
  · cases e; exact ⟨O, (R.keep s).set_plain rfl rfl h, .same s⟩
  · cases e; exact R.set_un s h
  · split at e
    · rename_i hi; cases e; exact ⟨O, (R.keep s).set_plain rfl rfl (show Rp K _ H1 v d from h.weak.im hi), .same s⟩
    · cases e
  · split at e
    · rename_i hi; cases e; exact ⟨O, (R.keep s).set_plain rfl rfl (show Rp K _ H1 v d from h.weak.im hi), .same s⟩
    · cases e
  · split at e
    · rename_i hi; cases e; exact ⟨O, (R.keep s).set_plain rfl rfl (show Rp K _ H1 v d from h.weak.im hi), .same s⟩
    · cases e
  · split at e
    · rename_i hi; cases e; exact ⟨O, (R.keep s).set_plain rfl rfl (show Rp K _ H1 v d from h.weak.im hi), .same s⟩
    · cases e
noncomputable def jSet (i : Nat) (f : Ev → Option (M × D)) : Ev → Option Fl := fun e => (f e).bind fun x => (toSlot x).bind fun y => some (.nx (e.set i (some y)))
theorem js_set {i : Nat} {t : TE} {f : Ev → Option (M × D)} (h : JT K t f) : JS K (tAsg t (gName i)) (jSet i f) := by
  intro H₀ I O H σ env Ds fl R e q
  obtain ⟨x, ex, e⟩ := bind2 e
  obtain ⟨y, ey, e⟩ := bind2 e
  cases e
  refine h H₀ O H σ env _ x.1 x.2 R.e ex fun v H1 s1 h1 => ?_
  obtain ⟨O', R', st⟩ := R.give (i := i) s1 h1 ey
  exact q O' H1 _ R' st
theorem Rel.mut {i : Nat} {m : M} {d d' : D} {p : Addr} {o : HO} (R : Rel K H₀ I O H σ env) (hx : env[i]? = some (some (m, d))) (ho : own m = true) (hp : σ[i]? = some (some (.ref p)))
    (c : Cell K (fun a => ¬ O a ∧ H₀ a = none) (upd H p o) p d') : Rel K H₀ I O (upd H p o) σ (env.set i (some (m, d'))) ∧ Stp O H O (upd H p o) := by
  obtain ⟨hO, c0⟩ := R.own_at hx ho hp
  obtain ⟨o0, e0, nt⟩ := c0.some
  have kp : ∀ {N : Addr → Prop}, (∀ a, N a → ¬ O a) → Keeps N H (upd H p o) := fun w a u h z => by
    have hne : a ≠ p := by
      rintro rfl
      rcases z with z | z
      · exact w _ z hO
      · rw [e0] at h; cases h; exact nt z
    rw [upd_ne hne]; exact h
  have hi : i < env.length := by
    rcases Nat.lt_or_ge i env.length with h | h
    · exact h
    · rw [List.getElem?_eq_none h] at hx; cases hx
  have hσ : σ = σ.set i (some (.ref p)) := by
    refine List.ext_getElem? fun j => ?_
    rw [List.getElem?_set]
    split
    · rename_i z; subst z
      have hl : i < σ.length := by rw [← Paired.length R.e.sl]; exact hi
      rw [if_pos hl, hp]
    · rfl
  refine ⟨⟨⟨?_, ?_, ?_, ?_⟩, ?_, R.ow, ?_, ?_, ?_⟩, ?_⟩
  ·
    have base : ∀ (j : Nat) (e : Option (M × D)) (x : Option V), (env.set i (some (m, d')))[j]? = some e → σ[j]? = some x → ∀ m d, e = some (m, d) → slm m = true ∧ ∃ v, x = some v ∧ Val K H₀ O HE (upd H p o) m d v := by
      intro j e x he hxj m1 d1 q
      subst q
      rcases get_set he with ⟨rfl, q⟩ | ⟨nj, q⟩
      · cases q
        rw [hp] at hxj; cases hxj
        refine ⟨own_slm ho, _, rfl, ?_⟩
        cases m <;> simp only [own] at ho <;> try (cases ho; done)
        · obtain ⟨v, hv, n, hm⟩ := R.e.at hx
          rw [hp] at hv; cases hv
          obtain ⟨p', e, h1, h2, _⟩ := hm; cases e
          exact ⟨p, rfl, h1, h2, c⟩
        · exact ⟨p, rfl, hO, c⟩
      · obtain ⟨v, hv, n, hm⟩ := R.e.at q
        rw [hxj] at hv; cases hv
        refine ⟨n, v, rfl, ?_⟩
        have nq : ∀ {p' : Addr}, own m1 = true → v = .ref p' → p' ≠ p := fun {p'} ow1 ev z => by
          subst ev; subst z
          exact nj (R.dj j i _ _ p' q hx ow1 ho hxj hp)
        cases m1
        · exact Rp.keep (kp fun a h => h) hm
        · exact Rp.keep (kp fun a h => h.1) hm
        · cases n
        · obtain ⟨p', rfl, h1, h2, c'⟩ := hm
          exact ⟨p', rfl, h1, h2, c'.keep (kp fun a h => h.1) (upd_ne (nq rfl rfl))⟩
        · obtain ⟨p', rfl, h1, c'⟩ := hm
          exact ⟨p', rfl, h1, c'.keep (kp fun a h => h.1) (upd_ne (nq rfl rfl))⟩
        · cases n
        · obtain ⟨p', qs, dss, rfl, e2, h1, h2, h3, h4, h5, h6⟩ := hm
          obtain ⟨z1, z2⟩ := R.nd.2 j i d1 (m, d) p' p _ q hxj hx ho hp h3
          refine ⟨p', qs, dss, rfl, e2, h1, h2, by rw [upd_ne (fun z => z1 z.symm)]; exact h3, h4, h5, npairs (fun x ds hx ⟨xs, a, r⟩ => ⟨xs, ?_, r.keep (kp fun a h => h.1)⟩) h6⟩
          rw [upd_ne (fun z => z2 (List.mem_map.mpr ⟨x, hx, by rw [z]⟩))]; exact a
    refine paired_of ?_ fun j e x h1 h2 => base j e x h1 h2
    rw [List.length_set]; exact Paired.length R.e.sl
  · intro a ha
    by_cases z : a = p
    · subst z; exact ⟨o, upd_same⟩
    · rw [upd_ne z]; exact R.e.od a ha
  · intro a u h
    by_cases z : a = p
    · subst z; exact ⟨o, upd_same⟩
    · rw [upd_ne z]; exact R.e.hd a u h
  · intro a u ha e
    by_cases z : a = p
    · subst z
      obtain ⟨o1, e1, n1⟩ := c.some
      rw [e] at e1; cases e1; exact n1
    · rw [upd_ne z] at e; exact R.e.on a u ha e
  · intro a u n h
    have z : a ≠ p := by
      rintro rfl
      rcases R.ow a hO with ⟨i, q⟩ | q
      · exact n i q
      · rw [h] at q; cases q
    rw [upd_ne z]; exact R.fr a u n h
  · intro i' e' p' h1 p1
    rcases get_set h1 with ⟨rfl, q⟩ | ⟨n1, q1⟩
    · cases q; exact R.ba _ d p' hx p1
    · exact R.ba i' e' p' q1 p1
  · intro i' j x y q h1 h2 o1 o2 p1 p2
    have f : ∀ {k : Nat} {x : M × D}, (env.set i (some (m, d')))[k]? = some (some x) → own x.1 = true → ∃ x', env[k]? = some (some x') ∧ own x'.1 = true := fun {k x} h o => by
      rcases get_set h with ⟨rfl, q⟩ | ⟨_, q⟩
      · exact ⟨_, hx, ho⟩
      · exact ⟨x, q, o⟩
    obtain ⟨x', a1, b1⟩ := f h1 o1
    obtain ⟨y', a2, b2⟩ := f h2 o2
    exact R.dj i' j x' y' q a1 a2 b1 b2 p1 p2
  · have g : ∀ {k : Nat} {d1 : D}, (env.set i (some (m, d')))[k]? = some (some (.nb, d1)) → env[k]? = some (some (.nb, d1)) := fun {k d1} h => by
      rcases get_set h with ⟨rfl, q⟩ | ⟨_, q⟩
      · cases q; cases ho
      · exact q
    refine ⟨fun i' j d1 d2 h1 h2 => R.nd.1 i' j d1 d2 (g h1) (g h2), fun i' j d1 x p' q xs h1 p1 h2 o2 p2 e => ?_⟩
    obtain ⟨qs, dss, _, _, _, e3, _⟩ := R.e.nest (g h1) p1
    obtain ⟨z1, _⟩ := R.nd.2 i' i d1 (m, d) p' p _ (g h1) p1 hx ho hp e3
    rw [upd_ne (fun z => z1 z.symm)] at e
    rcases get_set h2 with ⟨rfl, z⟩ | ⟨_, z⟩
    · cases z; exact R.nd.2 i' j d1 (m, d) p' q xs (g h1) p1 hx ho p2 e
    · exact R.nd.2 i' j d1 x p' q xs (g h1) p1 z o2 p2 e
  · intro a u h n
    have z : a ≠ p := by rintro rfl; exact n hO
    exact ⟨by rw [upd_ne z]; exact h, n⟩
end
end J
namespace J
open PySem L2
section
variable {K : PySem.W.Frag} {H H' H₀ : Hp} {I : Nat → Option Addr} {O O' : Addr → Prop} {σ : St} {env : Ev}
noncomputable def ownL (i : Nat) (e : Ev) : Option (M × List D) := match e[i]? with
  | some (some (m, .lst ds)) => if own m = true then some (m, ds) else none
  | _ => none
theorem ownL_eq {i : Nat} {e : Ev} {m : M} {ds : List D} (h : ownL i e = some (m, ds)) : e[i]? = some (some (m, .lst ds)) ∧ own m = true := by
  unfold ownL at h
  split at h
  · rename_i e
    split at h
    · cases h; exact ⟨e, by assumption⟩
    · cases h
  · cases h
theorem Rel.lst {i : Nat} {m : M} {ds : List D} (R : Rel K H₀ I O H σ env) (h : ownL i env = some (m, ds)) : ∃ p xs, σ[i]? = some (some (.ref p)) ∧ O p ∧ H p = some (.lst xs) ∧ Rps K (fun a => ¬ O a ∧ H₀ a = none) H xs ds := by
  obtain ⟨e, o⟩ := ownL_eq h
  obtain ⟨v, hv, n, hm⟩ := R.e.at e
  cases m <;> simp only [own] at o <;> try (cases o; done)
  · obtain ⟨p, rfl, h1, h2, xs, c, r⟩ := hm; exact ⟨p, xs, hv, h1, c, r⟩
  · obtain ⟨p, rfl, h1, xs, c, r⟩ := hm; exact ⟨p, xs, hv, h1, c, r⟩
theorem Rps.upd {xs : List V} {ds : List D} {p : Addr} {o : HO} {o0 : HO} (hO : O p) (h0 : H p = some o0) (nt : ¬ isT o0) (r : Rps K (fun a => ¬ O a ∧ H₀ a = none) H xs ds) : Rps K (fun a => ¬ O a ∧ H₀ a = none) (L2.upd H p o) xs ds := by
  refine r.keep fun a u e z => ?_
  have hne : a ≠ p := by
    rintro rfl
    rcases z with z | z
    · exact z.1 hO
    · rw [h0] at e; cases e; exact nt z
  rw [upd_ne hne]; exact e
theorem Rel.mutL {i : Nat} {m : M} {ds : List D} {p : Addr} {xs ys : List V} {es : List D} (R : Rel K H₀ I O H σ env) (h : ownL i env = some (m, ds)) (hp : σ[i]? = some (some (.ref p))) (hx : H p = some (.lst xs)) (r : Rps K (fun a => ¬ O a ∧ H₀ a = none) H ys es) :
    Rel K H₀ I O (L2.upd H p (.lst ys)) σ (env.set i (some (m, .lst es))) ∧ Stp O H O (L2.upd H p (.lst ys)) := by
  obtain ⟨e, o⟩ := ownL_eq h
  have hO := (R.own_at e o hp).1
  exact R.mut e o hp ⟨ys, upd_same, r.upd hO hx (fun z => z)⟩
noncomputable def jApp (i : Nat) (f : Ev → Option (M × D)) : Ev → Option Fl := fun e => (f e).bind fun x => if sto x.1 x.2 = true then (ownL i e).bind fun y => if y.2.length < sizeLine then some (.nx (e.set i (some (y.1, .lst (y.2 ++ [x.2]))))) else none else none
theorem js_app {i : Nat} {t : TE} {f : Ev → Option (M × D)} (h : JT K t f) : JS K (tDrop (tBM K "list" rAppend (tVar i) (tCons t tNil))) (jApp i f) := by
  intro H₀ I O H σ env Ds fl R e q
  obtain ⟨x, ex, e⟩ := bind2 e
  split at e
  · rename_i hs
    obtain ⟨⟨m, ds⟩, ey, e⟩ := bind2 e
    split at e
    · rename_i hl
      cases e
      obtain ⟨p, xs, hp, hO, hx, r⟩ := R.lst ey
      refine ⟨.ref p, hp, .inl ⟨rfl, xs, .inl (.inl hx)⟩, ?_⟩
      refine h H₀ O H σ env _ x.1 x.2 R.e ex fun v H1 s1 h1 => ?_
      refine ⟨p, xs, v, rfl, rfl, s1 _ _ hx, by rw [r.len]; exact hl, ?_⟩
      have R1 := R.keep s1
      obtain ⟨R2, st⟩ := R1.mutL (ys := xs ++ [v]) (es := ds ++ [x.2]) ey hp (s1 _ _ hx) ((r.keep (.same s1)).app (.cons (h1.sto hs) .nil))
      exact q O _ σ R2 ((Stp.same s1).trans st)
    · cases e
  · cases e
noncomputable def jSetIx (i : Nat) (fk fe : Ev → Option (M × D)) : Ev → Option Fl := fun e => (fe e).bind fun x => (fk e).bind fun k => (dInt k).bind fun k => if sto x.1 x.2 = true then (ownL i e).bind fun y => (ixN y.2.length k).bind fun j => some (.nx (e.set i (some (y.1, .lst (y.2.set j x.2))))) else none
theorem js_setIx {i : Nat} {t tk : TE} {f fk : Ev → Option (M × D)} (h : JT K t f) (hk : JT K tk fk) : JS K (tAsg t (gSub (tVar i) tk rSetL)) (jSetIx i fk f) := by
  intro H₀ I O H σ env Ds fl R e q
  obtain ⟨x, ex, e⟩ := bind2 e
  obtain ⟨k, ek, e⟩ := bind2 e
  obtain ⟨k', ek', e⟩ := bind2 e
  split at e
  · rename_i hs
    obtain ⟨⟨m, ds⟩, ey, e⟩ := bind2 e
    obtain ⟨j, ej, e⟩ := bind2 e
    cases e
    obtain ⟨p, xs, hp, hO, hx, r⟩ := R.lst ey
    refine h H₀ O H σ env _ x.1 x.2 R.e ex fun v H1 s1 h1 => ?_
    refine ⟨.ref p, hp, ?_⟩
    refine hk H₀ O H1 σ env _ k.1 k.2 (R.keep s1).e ek fun w H2 s2 h2 => ?_
    rw [dInt_eq ek'] at h2
    have s := s1.trans s2
    refine ⟨p, xs, k', j, rfl, h2.int, s _ _ hx, by rw [r.len]; exact ej, ?_⟩
    obtain ⟨R2, st⟩ := (R.keep s).mutL (ys := xs.set j v) (es := ds.set j x.2) ey hp (s _ _ hx) ((r.keep (.same s)).set ((h1.keep s2).sto hs) j)
    exact q O _ σ R2 ((Stp.same s).trans st)
  · cases e
noncomputable def frz (i : Nat) (e : Ev) : Ev := match e[i]? with
  | some (some (.bo, d)) => e.set i (some (.fr, d))
  | _ => e
noncomputable def jFrz (i : Nat) (g : Ev → Option Fl) : Ev → Option Fl := fun e => g (frz i e)
theorem Rel.frz {i : Nat} (R : Rel K H₀ I O H σ env) : ∃ O', Rel K H₀ I O' H σ (J.frz i env) ∧ Stp O H O' H := by
  unfold J.frz
  split
  · rename_i d e
    obtain ⟨v, hv, n, p, rfl, hO, h0, c⟩ := R.e.at e
    have hi : i < env.length := by
      rcases Nat.lt_or_ge i env.length with h | h
      · exact h
      · rw [List.getElem?_eq_none h] at e; cases e
    have W : ∀ {a : Addr}, ¬ O a → ¬ (O a ∧ a ≠ p) := fun h z => h z.1
    refine ⟨fun a => O a ∧ a ≠ p, ⟨⟨?_, fun a h => R.e.od a h.1, R.e.hd, fun a o h => R.e.on a o h.1⟩, R.fr, fun a h => R.ow a h.1, ?_, ?_, ?_⟩, fun a o h n => ⟨h, W n⟩⟩
    · have base : ∀ (j : Nat) (y : Option (M × D)) (x : Option V), (env.set i (some (.fr, d)))[j]? = some y → σ[j]? = some x → ∀ m d, y = some (m, d) → slm m = true ∧ ∃ v, x = some v ∧ Val K H₀ (fun a => O a ∧ a ≠ p) HE H m d v := by
        intro j y x hy hx m1 d1 q
        subst q
        rcases get_set hy with ⟨rfl, q⟩ | ⟨nj, q⟩
        · cases q
          rw [hv] at hx; cases hx
          exact ⟨rfl, _, rfl, (c.wk fun a h _ => (⟨W h.1, h.2⟩ : ¬ (O a ∧ a ≠ p) ∧ H₀ a = none)).rp ⟨fun z => z.2 rfl, h0⟩⟩
        · obtain ⟨v, hv', n1, hm⟩ := R.e.at q
          rw [hx] at hv'; cases hv'
          refine ⟨n1, v, rfl, ?_⟩
          have nq : ∀ {p' : Addr}, own m1 = true → v = .ref p' → p' ≠ p := fun {p'} ow1 ev z => by
            subst ev; subst z
            exact nj (R.dj j i _ _ p' q e ow1 rfl hx hv)
          cases m1
          · exact Rp.wk (fun a h _ => W h) hm
          · exact Rp.wk (fun a h _ => ⟨W h.1, h.2⟩) hm
          · cases n1
          · obtain ⟨p', rfl, h1, h2, c'⟩ := hm
            exact ⟨p', rfl, ⟨h1, nq rfl rfl⟩, h2, c'.wk fun a h _ => ⟨W h.1, h.2⟩⟩
          · obtain ⟨p', rfl, h1, c'⟩ := hm
            exact ⟨p', rfl, ⟨h1, nq rfl rfl⟩, c'.wk fun a h _ => ⟨W h.1, h.2⟩⟩
          · cases n1
          · obtain ⟨p', qs, dss, rfl, e2, h1, h2, h3, h4, h5, h6⟩ := hm
            obtain ⟨z1, z2⟩ := R.nd.2 j i d1 (.bo, d) p' p _ q hx e rfl hv h3
            exact ⟨p', qs, dss, rfl, e2, ⟨h1, fun z => z1 z.symm⟩, h2, h3, h4, fun x hx => ⟨⟨(h5 x hx).1, fun z => z2 (List.mem_map.mpr ⟨x, hx, by rw [z]⟩)⟩, (h5 x hx).2⟩, npairs (fun x ds _ ⟨xs, a, r⟩ => ⟨xs, a, r.wk fun a h _ => ⟨W h.1, h.2⟩⟩) h6⟩
      refine paired_of ?_ fun j e x h1 h2 => base j e x h1 h2
      rw [List.length_set]; exact Paired.length R.e.sl
    · intro i' d' p' h1 p1
      rcases get_set h1 with ⟨rfl, z⟩ | ⟨_, z1⟩
      · cases z
      · exact R.ba i' d' p' z1 p1
    · intro i' j x y q h1 h2 o1 o2 p1 p2
      rcases get_set h1 with ⟨rfl, z⟩ | ⟨_, z1⟩
      · cases z; cases o1
      · rcases get_set h2 with ⟨rfl, z⟩ | ⟨_, z2⟩
        · cases z; cases o2
        · exact R.dj i' j x y q z1 z2 o1 o2 p1 p2
    · refine ⟨fun i' j d1 d2 h1 h2 => ?_, fun i' j d1 x p' q xs h1 p1 h2 o2 p2 e' => ?_⟩
      · rcases get_set h1 with ⟨rfl, z⟩ | ⟨_, z1⟩
        · cases z
        · rcases get_set h2 with ⟨rfl, z⟩ | ⟨_, z2⟩
          · cases z
          · exact R.nd.1 i' j d1 d2 z1 z2
      · rcases get_set h1 with ⟨rfl, z⟩ | ⟨_, z1⟩
        · cases z
        · rcases get_set h2 with ⟨rfl, z⟩ | ⟨_, z2⟩
          · cases z; cases o2
          · exact R.nd.2 i' j d1 x p' q xs z1 p1 z2 o2 p2 e'
  · exact ⟨O, R, Stp.refl⟩
theorem js_frz {i : Nat} {t : TS} {g : Ev → Option Fl} (h : JS K t g) : JS K t (jFrz i g) := by
  intro H₀ I O H σ env Ds fl R e q
  obtain ⟨O', R', st⟩ := R.frz (i := i)
  exact h H₀ I O' H σ _ Ds fl R' e (q.pre st)
theorem Rp.stp {N : Addr → Prop} {v : V} {d : D} {O2 : Addr → Prop} {H2 : Hp} (on : ∀ a o, O a → H a = some o → ¬ isT o) (st : Stp O H O2 H2) (w : ∀ a, N a → ¬ O a) (r : Rp K N H v d) : Rp K (fun a => N a ∧ ¬ O2 a) H2 v d := by
  refine (Rp.wk (N' := fun a => N a ∧ ¬ O2 a) (fun a n ⟨o, e⟩ => ⟨n, (st a o e (w a n)).2⟩) r).keep fun a o e z => ?_
  refine (st a o e ?_).1
  rcases z with z | z
  · exact w a z.1
  · exact fun h => on a o h e z
structure ItOk (K : PySem.W.Frag) (H₀ : Hp) (O : Addr → Prop) (J : It) (H : Hp) (m : M) (ds : List D) : Prop where
  go : ∀ O2 H2 i, Stp O H O2 H2 → i < ds.length → J.go i H2
  yld : ∀ O2 H2 i x H3, Stp O H O2 H2 → i < ds.length → J.yld i H2 x H3 → Same H2 H3 ∧ ∃ d, ds[i]? = some d ∧ Val K H₀ O2 HE H3 m d x
  stop : ∀ O2 H2, Stp O H O2 H2 → J.stop ds.length H2
noncomputable def slm2 : M → Bool
  | .al => true
  | .fr => true
  | _ => false
noncomputable def JI (K : PySem.W.Frag) (wi : TI) (it : Ev → Option (M × List D)) : Prop :=
  ∀ H₀ O H σ env R m ds, RelE K H₀ O H σ env → it env = some (m, ds) → (∀ J H', Same H H' → slm2 m = true → ItOk K H₀ O J H' m ds → R J H') → wi σ H R
noncomputable def itm : M → Option M
  | .al => some .al
  | .fr => some .fr
  | .un => some .fr
  | _ => none
noncomputable def itL (f : Ev → Option (M × D)) : Ev → Option (M × List D) := fun e => (f e).bind fun x => match x.2 with
  | .lst ds => (itm x.1).map fun m => (m, ds)
  | _ => none
theorem itm_val {m n : M} {ds : List D} {v : V} {Hb : Hp} (e : itm m = some n) (h : Val K H₀ O Hb H m (.lst ds) v) : slm2 n = true ∧ ∃ a xs, v = .ref a ∧ ((Rd H a (.lst xs) ∧ ¬ O a) ∨ SqK K a xs) ∧ Rps K (NM H₀ O n) H xs ds := by
  cases m <;> simp only [itm] at e <;> cases e
  · cases h with
    | lst r n q => exact ⟨rfl, _, _, rfl, .inl ⟨r, n⟩, q⟩
    | lstK r q => exact ⟨rfl, _, _, rfl, .inr r, q⟩
  · cases h with
    | lst r n q => exact ⟨rfl, _, _, rfl, .inl ⟨r, n.1⟩, q⟩
    | lstK r q => exact ⟨rfl, _, _, rfl, .inr r, q⟩
  · obtain ⟨p, rfl, _, _, h2, xs, q, r⟩ := h; exact ⟨rfl, _, _, rfl, .inl ⟨.inl q, h2⟩, r.wk fun a h _ => h.1⟩
theorem NM.no {n : M} {a : Addr} (e : slm2 n = true) (h : NM H₀ O n a) : ¬ O a := by
  cases n <;> first | exact h | exact h.1 | cases e
theorem val_stp {n : M} {d : D} {v : V} {O2 : Addr → Prop} {H2 : Hp} (e : slm2 n = true) (on : ∀ a o, O a → H a = some o → ¬ isT o) (st : Stp O H O2 H2) (r : Rp K (NM H₀ O n) H v d) : Val K H₀ O2 HE H2 n d v := by
  have z := Rp.stp on st (fun a h => NM.no e h) r
  cases n
  · exact z.wk fun a h _ => h.2
  · exact z.wk fun a h _ => ⟨h.2, h.1.2⟩
  · cases e
  · cases e
  · cases e
  · cases e
  · cases e
theorem itok_list {a : Addr} {xs : List V} {ds : List D} {n : M} (e : slm2 n = true) (on : ∀ a o, O a → H a = some o → ¬ isT o) (hr : (Rd H a (.lst xs) ∧ ¬ O a) ∨ SqK K a xs) (r : Rps K (NM H₀ O n) H xs ds) : ItOk K H₀ O (Itl K a) H n ds := by
  have st : ∀ {O2 : Addr → Prop} {H2 : Hp}, Stp O H O2 H2 → SqL K H2 a xs := fun {O2 H2} s => by
    rcases hr with ⟨h | ⟨o, h⟩, ha⟩ | h
    · exact .inl (.inl (s _ _ h ha).1)
    · exact .inl (.inr ⟨o, (s _ _ h ha).1⟩)
    · exact .inr h
  refine ⟨fun O2 H2 i s hi => ?_, fun O2 H2 i x H3 s hi y => ?_, fun O2 H2 s => ⟨xs, st s, by rw [r.len]; exact Nat.le_refl _⟩⟩
  · exact ⟨xs, xs[i]'(by rw [r.len]; exact hi), st s, by simp⟩
  · obtain ⟨rfl, y⟩ := y
    have y := y xs (st s)
    obtain ⟨v, hv, rv⟩ := r.get (i := i) (d := ds[i]) (by simp [hi])
    rw [y] at hv; cases hv
    exact ⟨Same.refl _, ds[i], by simp [hi], val_stp e on s rv⟩
theorem ji_list {t : TE} {f : Ev → Option (M × D)} (h : JT K t f) : JI K (iList K t) (itL f) := by
  intro H₀ O H σ env R m ds Re e q
  obtain ⟨⟨m0, d0⟩, ex, e⟩ := bind2 e
  cases d0 <;> simp only at e <;> try (cases e; done)
  cases em : itm m0 with
  | none => rw [em] at e; cases e
  | some n =>
    rw [em] at e; cases e
    refine h H₀ O H σ env _ _ _ Re ex fun v H1 s1 h1 => ?_
    obtain ⟨e1, a, xs, rfl, hr, r⟩ := itm_val em h1
    exact ⟨a, rfl, ⟨xs, hr.elim (fun z => .inl z.1) .inr⟩, q _ H1 s1 e1 (itok_list e1 (Re.keep s1).on hr r)⟩
theorem itok_tup {a : Addr} {xs : List V} {ds : List D} {n : M} (e : slm2 n = true) (on : ∀ a o, O a → H a = some o → ¬ isT o) (hr : SqT K H a xs) (r : Rps K (NM H₀ O n) H xs ds) : ItOk K H₀ O (Itt K a) H n ds := by
  have st : ∀ {O2 : Addr → Prop} {H2 : Hp}, Stp O H O2 H2 → SqT K H2 a xs := fun {O2 H2} s => by
    rcases hr with (h | ⟨o, h⟩) | h
    · exact .inl (.inl (s _ _ h fun z => on _ _ z h trivial).1)
    · exact .inl (.inr ⟨o, (s _ _ h fun z => on _ _ z h trivial).1⟩)
    · exact .inr h
  refine ⟨fun O2 H2 i s hi => ?_, fun O2 H2 i x H3 s hi y => ?_, fun O2 H2 s => ⟨xs, st s, by rw [r.len]; exact Nat.le_refl _⟩⟩
  · exact ⟨xs, xs[i]'(by rw [r.len]; exact hi), st s, by simp⟩
  · obtain ⟨rfl, y⟩ := y
    have y := y xs (st s)
    obtain ⟨v, hv, rv⟩ := r.get (i := i) (d := ds[i]) (by simp [hi])
    rw [y] at hv; cases hv
    exact ⟨Same.refl _, ds[i], by simp [hi], val_stp e on s rv⟩
noncomputable def itT (f : Ev → Option (M × D)) : Ev → Option (M × List D) := fun e => (f e).bind fun x => match x.2 with
  | .tup ds => (itm x.1).map fun m => (m, ds)
  | _ => none
theorem ji_tup {t : TE} {f : Ev → Option (M × D)} (h : JT K t f) : JI K (iTup K t) (itT f) := by
  intro H₀ O H σ env R m ds Re e q
  obtain ⟨⟨m0, d0⟩, ex, e⟩ := bind2 e
  cases d0 <;> simp only at e <;> try (cases e; done)
  cases em : itm m0 with
  | none => rw [em] at e; cases e
  | some n =>
    rw [em] at e; cases e
    refine h H₀ O H σ env _ _ _ Re ex fun v H1 s1 h1 => ?_
    obtain ⟨a, xs, rfl, hr, r⟩ := h1.tup
    have e1 : elm m0 = m ∧ slm2 m = true := by clear ex h1 r; cases m0 <;> cases em <;> exact ⟨rfl, rfl⟩
    rw [e1.1] at r
    exact ⟨a, rfl, ⟨xs, hr⟩, q _ H1 s1 e1.2 (itok_tup e1.2 (Re.keep s1).on hr r)⟩
noncomputable def rng (lo : Int) (n : Nat) : List D := (List.range n).map fun (k : Nat) => .int (lo + (k : Int))
theorem itok_rng {lo : Int} {n : Nat} : ItOk K H₀ O (Itr lo n) H .fr (rng lo n) := by
  have l : (rng lo n).length = n := by simp [rng]
  refine ⟨fun O2 H2 i s hi => by rw [l] at hi; exact hi, fun O2 H2 i x H3 s hi y => ?_, fun O2 H2 s => by rw [l]; exact Nat.le_refl n⟩
  obtain ⟨rfl, rfl⟩ := y
  rw [l] at hi
  exact ⟨Same.refl _, .int (lo + i), by simp [rng, hi], Rp.int _⟩
theorem p62 : (2 : Int) ^ 62 = 4611686018427387904 := by decide
noncomputable def itR1 (fs : Ev → Option (List (M × D))) : Ev → Option (M × List D) := fun e => (fs e).bind fun l => match l with
  | [(_, .int j)] => if -4611686018427387904 ≤ j ∧ j < 4611686018427387904 then some (.fr, rng 0 j.toNat) else none
  | _ => none
theorem ji_rng1 {t : TA} {fs : Ev → Option (List (M × D))} (h : JTA K t fs) : JI K (iRng1 t) (itR1 fs) := by
  intro H₀ O H σ env R m ds Re e q
  obtain ⟨l, el, e⟩ := bind2 e
  split at e
  · split at e
    · rename_i hj
      cases e
      refine h H₀ O H σ env _ _ Re el fun vs H1 s1 h1 => ?_
      obtain ⟨v, rfl, hv⟩ := h1.one
      obtain rfl := hv.int
      exact ⟨_, rfl, by rw [p62]; exact hj.1, by rw [p62]; exact hj.2, q _ H1 s1 rfl itok_rng⟩
    · cases e
  · cases e
end
end J
namespace J
open PySem L2
section
variable {K : PySem.W.Frag} {H H' H₀ : Hp} {I : Nat → Option Addr} {O O' : Addr → Prop} {σ : St} {env : Ev}
noncomputable def JG (K : PySem.W.Frag) (g : TG) (fg : M × D → Ev → Option Ev) : Prop :=
  ∀ H₀ I O H σ env x v env' Q, Rel K H₀ I O H σ env → slm2 (Prod.fst x) = true → Val K H₀ O HE H (Prod.fst x) x.2 v → fg x env = some env' → (∀ σ', Rel K H₀ I O H σ' env' → Q σ' H) → g v σ H Q
noncomputable def JGs (K : PySem.W.Frag) (g : TGs) (fg : M → List D → Ev → Option Ev) : Prop :=
  ∀ H₀ I O H σ env m ds vs env' Q, Rel K H₀ I O H σ env → slm2 m = true → Rps K (NM H₀ O m) H vs ds → fg m ds env = some env' → (∀ σ', Rel K H₀ I O H σ' env' → Q σ' H) → g vs σ H Q
noncomputable def gN (i : Nat) : M × D → Ev → Option Ev := fun x e => some (e.set i (some x))
theorem jg_name {i : Nat} : JG K (gName i) (gN i) := by
  intro H₀ I O H σ env x v env' Q R hm hv e q
  cases e
  obtain ⟨m, d⟩ := x
  exact q _ (R.set_plain (by cases m <;> first | rfl | cases hm) (by cases m <;> first | rfl | cases hm) hv)
noncomputable def gNil' : M → List D → Ev → Option Ev := fun _ ds e => match ds with
  | [] => some e
  | _ => none
noncomputable def gCons' (f : M × D → Ev → Option Ev) (g : M → List D → Ev → Option Ev) : M → List D → Ev → Option Ev := fun m ds e => match ds with
  | d :: r => (f (m, d) e).bind fun e' => g m r e'
  | [] => none
theorem jgs_nil : JGs K gNil gNil' := by
  intro H₀ I O H σ env m ds vs env' Q R hm hv e q
  cases hv with
  | nil => cases e; exact ⟨rfl, q _ R⟩
  | cons => cases e
theorem jgs_cons {g : TG} {gs : TGs} {f : M × D → Ev → Option Ev} {fs : M → List D → Ev → Option Ev} (h : JG K g f) (hs : JGs K gs fs) : JGs K (gCons g gs) (gCons' f fs) := by
  intro H₀ I O H σ env m ds vs env' Q R hm hv e q
  cases hv with
  | nil => cases e
  | @cons v d vs ds hv r =>
    obtain ⟨e', e1, e⟩ := bind2 e
    refine ⟨v, vs, rfl, ?_⟩
    have hv' : Val K H₀ O HE H m d v := by cases m <;> first | exact hv | cases hm
    exact h H₀ I O H σ env (m, d) v e' _ R hm hv' e1 fun σ' R' => hs H₀ I O H σ' e' m ds vs env' Q R' hm r e q
noncomputable def gT (n : Nat) (f : M → List D → Ev → Option Ev) : M × D → Ev → Option Ev := fun x e => match x.2 with
  | .tup ds => if ds.length = n then f (elm x.1) ds e else none
  | _ => none
theorem jg_tup {n : Nat} {gs : TGs} {fs : M → List D → Ev → Option Ev} (hs : JGs K gs fs) : JG K (gTup K n gs) (gT n fs) := by
  intro H₀ I O H σ env x v env' Q R hm hv e q
  obtain ⟨m, d⟩ := x
  cases d <;> simp only [gT] at e <;> try (cases e; done)
  split at e
  · rename_i hl
    obtain ⟨a, xs, rfl, hs', r⟩ := hv.tup
    exact ⟨a, xs, rfl, hs', by rw [r.len]; exact hl, hs H₀ I O H σ env (elm m) _ xs env' Q R (by cases m <;> first | rfl | cases hm) r e q⟩
  · cases e
noncomputable def gL (n : Nat) (f : M → List D → Ev → Option Ev) : M × D → Ev → Option Ev := fun x e => match x.2 with
  | .lst ds => if ds.length = n then f (elm x.1) ds e else none
  | _ => none
noncomputable def unfr : M → M
  | .un => .fr
  | m => m
noncomputable def jAsg (fg : M × D → Ev → Option Ev) (f : Ev → Option (M × D)) : Ev → Option Fl := fun e => (f e).bind fun x => if slm2 (unfr x.1) = true then (fg (unfr x.1, x.2) e).bind fun e' => some (.nx e') else none
theorem js_asg {t : TE} {g : TG} {f : Ev → Option (M × D)} {fg : M × D → Ev → Option Ev} (h : JT K t f) (hg : JG K g fg) : JS K (tAsg t g) (jAsg fg f) := by
  intro H₀ I O H σ env Ds fl R e q
  obtain ⟨⟨m, d⟩, ex, e⟩ := bind2 e
  split at e
  · rename_i hm
    obtain ⟨e', e1, e⟩ := bind2 e
    cases e
    refine h H₀ O H σ env _ m d R.e ex fun v H1 s1 h1 => ?_
    refine hg H₀ I O H1 σ env _ v e' _ (R.keep s1) hm ?_ e1 fun σ' R' => q O H1 σ' R' (Stp.same s1)
    cases m
    · exact h1
    · exact h1
    · exact h1.sto rfl
    · cases hm
    · cases hm
    · cases hm
    · cases hm
  · cases e
noncomputable def forL (g : M × D → Ev → Option Ev) (b : Ev → Option Fl) (m : M) : List D → Ev → Option Fl
  | [], e => some (.nx e)
  | d :: ds, e => (g (m, d) e).bind fun e1 => (b e1).bind fun r => match r with
    | .nx e2 => forL g b m ds e2
    | .ct e2 => forL g b m ds e2
    | .bk e2 => some (.nx e2)
    | .rt e2 m' d' => some (.rt e2 m' d')
noncomputable def jFor (it : Ev → Option (M × List D)) (g : M × D → Ev → Option Ev) (b : Ev → Option Fl) : Ev → Option Fl := fun e => (it e).bind fun x => forL g b x.1 x.2 e
theorem js_for {wi : TI} {g : TG} {tb : TS} {it : Ev → Option (M × List D)} {fg : M × D → Ev → Option Ev} {b : Ev → Option Fl} (hi : JI K wi it) (hg : JG K g fg) (hb : JS K tb b) : JS K (tFor wi g tb) (jFor it fg b) := by
  intro H₀ I O H σ env Ds fl R e q
  obtain ⟨⟨m, ds⟩, ei, e⟩ := bind2 e
  refine hi H₀ O H σ env _ m ds R.e ei fun J H1 s1 hm ok => ?_
  have q1 := q.pre (Stp.same s1)
  refine ⟨fun i n σ2 H2 => ∃ O2 env2, Rel K H₀ I O2 H2 σ2 env2 ∧ Stp O H1 O2 H2 ∧ i ≤ ds.length ∧ n = ds.length - i ∧ forL fg b m (ds.drop i) env2 = some fl, ⟨_, O, env, R.keep s1, Stp.refl, Nat.zero_le _, rfl, e⟩, ?_⟩
  rintro i n σ2 H2 ⟨O2, env2, R2, st, hle, rfl, ef⟩
  by_cases hlt : i < ds.length
  · refine .inr ⟨ok.go O2 H2 i st hlt, fun σ' H' => ∃ O2 env2, Rel K H₀ I O2 H' σ' env2 ∧ Stp O H1 O2 H' ∧ forL fg b m (ds.drop (i + 1)) env2 = some fl, ?_, ?_⟩
    · rintro σ' H' ⟨O3, env3, R3, st3, ef3⟩
      exact ⟨ds.length - (i + 1), by omega, O3, env3, R3, st3, hlt, rfl, ef3⟩
    · intro x H3 y
      obtain ⟨s3, d, hd, hv⟩ := ok.yld O2 H2 i x H3 st hlt y
      have hdr : ds.drop i = d :: ds.drop (i + 1) := by
        rw [List.drop_eq_getElem_cons hlt]
        rw [List.getElem?_eq_getElem hlt] at hd
        cases hd; rfl
      rw [hdr] at ef
      simp only [forL] at ef
      obtain ⟨e1, g1, ef⟩ := bind2 ef
      obtain ⟨r, br, ef⟩ := bind2 ef
      refine hg H₀ I O2 H3 σ2 env2 (m, d) x e1 _ (R2.keep s3) hm hv g1 fun σ4 R4 => ?_
      have st4 := st.trans (Stp.same (O := O2) s3)
      refine hb H₀ I O2 H3 σ4 e1 _ r R4 br ?_
      cases r with
      | nx e2 => exact fun O5 H5 σ5 R5 st5 => ⟨O5, e2, R5, st4.trans st5, ef⟩
      | ct e2 => exact fun O5 H5 σ5 R5 st5 => ⟨O5, e2, R5, st4.trans st5, ef⟩
      | bk e2 => cases ef; exact (q1.pre st4)
      | rt e2 m' d' => cases ef; exact (q1.pre st4)
  · have hi : i = ds.length := by omega
    subst hi
    rw [List.drop_length] at ef
    cases ef
    exact .inl ⟨ok.stop O2 H2 st, q1 O2 H2 σ2 R2 st⟩
noncomputable def whileN (c : Ev → Option Bool) (b : Ev → Option Fl) : Nat → Ev → Option Fl
  | 0, _ => none
  | n + 1, e => (c e).bind fun k => if k = true then (b e).bind fun r => (match r with
      | .nx e2 => whileN c b n e2
      | .ct e2 => whileN c b n e2
      | .bk e2 => some (.nx e2)
      | .rt e2 m' d' => some (.rt e2 m' d')) else some (.nx e)
open Classical in
noncomputable def jWhile (c : Ev → Option Bool) (b : Ev → Option Fl) : Ev → Option Fl := fun e => if h : ∃ n fl, whileN c b n e = some fl then some (Classical.choose (Classical.choose_spec h)) else none
noncomputable def RetOk (K : PySem.W.Frag) (H H' : Hp) : M → D → V → Prop
  | .un, d, v => ∃ p, v = .ref p ∧ H p = none ∧ Cell K (fun a => H a = none ∧ a ≠ p) H' p d
  | .fr, d, v => Rp K (fun a => H a = none) H' v d
  | _, _, _ => False
noncomputable def spJ (K : PySem.W.Frag) (n : Nat) (F : List D → Option (M × D)) : Sp := fun vs H Q _ => vs.length = n ∧ ∃ ds m d, Rps K (fun _ => True) H vs ds ∧ F ds = some (m, d) ∧ ∀ v H', Same H H' → RetOk K H H' m d v → Q v H'
noncomputable def out : Fl → Option (M × D)
  | .nx _ => some (.fr, .non)
  | .rt _ .un d => some (.un, d)
  | .rt _ .bo d => some (.un, d)
  | .rt _ .fr d => some (.fr, d)
  | .rt _ .rb d => some (.fr, d)
  | .rt _ .nb d => some (.fr, d)
  | .rt _ .al d => if d.imm = true then some (.fr, d) else none
  | _ => none
noncomputable def fn (L : Nat) (g : Ev → Option Fl) : List D → Option (M × D) := fun ds => (g (ds.map (fun d => some (.al, d)) ++ List.replicate (L - ds.length) none)).bind out
theorem start_rel {vs : List V} {ds : List D} (r : Rps K (fun _ => True) H vs ds) (k : Nat) : Paired (fun (e : Option (M × D)) (x : Option V) => ∀ m d, e = some (m, d) → slm m = true ∧ ∃ v, x = some v ∧ Val K H (fun _ => False) HE H m d v) (ds.map (fun d => some (.al, d)) ++ List.replicate k none) (vs.map some ++ List.replicate k none) := by
  have rep : ∀ k, Paired (fun (e : Option (M × D)) (x : Option V) => ∀ m d, e = some (m, d) → slm m = true ∧ ∃ v, x = some v ∧ Val K H (fun _ => False) HE H m d v) (List.replicate k none) (List.replicate k none) := fun k => by
    induction k with
    | zero => exact .nil
    | succ k ih => exact .cons (fun m d e => nomatch e) ih
  have go : ∀ {vs : List V} {ds : List D}, Rps K (fun _ => True) H vs ds → Paired (fun (e : Option (M × D)) (x : Option V) => ∀ m d, e = some (m, d) → slm m = true ∧ ∃ v, x = some v ∧ Val K H (fun _ => False) HE H m d v) (ds.map (fun d => some (.al, d)) ++ List.replicate k none) (vs.map some ++ List.replicate k none) := by
    intro vs ds
    induction vs generalizing ds with
    | nil => intro r; cases r; exact rep k
    | cons v vs ih => intro r; cases r with | cons h r => exact .cons (fun m d e => by cases e; exact ⟨rfl, v, rfl, h.wk fun _ _ _ z => z⟩) (ih r)
  exact go r
theorem start_nob {ds : List D} {k i : Nat} {d : D} (h : (ds.map (fun d => some (M.al, d)) ++ List.replicate k none)[i]? = some (some (M.bi, d))) : False := by
  have hm := List.mem_of_getElem? h
  rcases List.mem_append.mp hm with z | z
  · obtain ⟨d, _, e⟩ := List.mem_map.mp z; cases e
  · have := List.eq_of_mem_replicate z; cases this
theorem start_nonb {ds : List D} {k i : Nat} {d : D} (h : (ds.map (fun d => some (M.al, d)) ++ List.replicate k none)[i]? = some (some (M.nb, d))) : False := by
  have hm := List.mem_of_getElem? h
  rcases List.mem_append.mp hm with z | z
  · obtain ⟨d, _, e⟩ := List.mem_map.mp z; cases e
  · have := List.eq_of_mem_replicate z; cases this
theorem body_ok {ts : TS} {g : Ev → Option Fl} {n : Nat} {N : List Str} {vs : List V} {Q : VK} {E : XK} (h : JS K ts g) (hs : spJ K n (fn N.length g) vs H Q E) : ts { nx := fun _ H' => Q .non H', rt := Q } (L2.start N vs) H := by
  obtain ⟨hl, ds, m, d, r, e, q⟩ := hs
  obtain ⟨fl, ef, eo⟩ := bind2 e
  have R : Rel K H (fun _ => none) (fun _ => False) H (L2.start N vs) (ds.map (fun d => some (.al, d)) ++ List.replicate (N.length - ds.length) none) :=
    ⟨⟨by unfold L2.start; rw [r.len]; exact start_rel r _, fun _ z => z.elim, fun a o e => ⟨o, e⟩, fun _ _ z => z.elim⟩, fun a o _ e => e, fun _ z => z.elim, fun i d p h1 => (start_nob h1).elim, (fun i j x y p h1 h2 o1 o2 => by
      exfalso
      have k : ∀ {i : Nat} {x : M × D}, (ds.map (fun d => some (M.al, d)) ++ List.replicate (N.length - ds.length) none)[i]? = some (some x) → x.1 = .al := fun {i x} h => by
        have hm := List.mem_of_getElem? h
        rcases List.mem_append.mp hm with z | z
        · obtain ⟨d, _, e⟩ := List.mem_map.mp z; cases e; rfl
        · have := List.eq_of_mem_replicate z; cases this
      rw [k h1] at o1; cases o1), ⟨fun i j d d' h1 => (start_nonb h1).elim, fun i j d x p q xs h1 => (start_nonb h1).elim⟩⟩
  refine h H (fun _ => none) (fun _ => False) H _ _ _ fl R ef ?_
  cases fl with
  | nx e' => cases eo; exact fun O' H' σ' R' st => q .non H' (fun a o e => R'.fr a o (fun _ z => nomatch z) e) Rp.non
  | bk e' => cases eo
  | ct e' => cases eo
  | rt e' m' d' =>
    intro O' H' σ' v R' st hv
    have sm : Same H H' := fun a o e => R'.fr a o (fun _ z => nomatch z) e
    cases m' <;> simp only [out] at eo
    · split at eo
      · rename_i hi; cases eo; exact q v H' sm (show Rp K _ H' v d from hv.weak.im hi)
      · cases eo
    · cases eo; exact q v H' sm (show Rp K _ H' v d from Rp.wk (fun a h _ => h.2) hv)
    · cases eo
      obtain ⟨p, rfl, _, h0, _, c⟩ := hv
      exact q _ H' sm ⟨p, rfl, h0, c.wk fun a h _ => ⟨h.1.2, h.2⟩⟩
    · cases eo
      obtain ⟨p, rfl, hO, h0, c⟩ := hv
      exact q _ H' sm ⟨p, rfl, h0, c.wk fun a h _ => ⟨h.2, fun z => h.1 (z ▸ hO)⟩⟩
    · cases eo
    · cases eo; exact q v H' sm (show Rp K _ H' v d from hv)
    · cases eo; exact q v H' sm (show Rp K _ H' v d from Nest.rp (fun _ z => z) hv)
noncomputable def jCall (F : List D → Option (M × D)) (fs : Ev → Option (List (M × D))) : Ev → Option (M × D) := fun e => (fs e).bind fun mds => F (mds.map (·.2))
theorem val_ret {m : M} {d : D} {v : V} (od : ∀ a, O a → ∃ o, H a = some o) (hd : ∀ a o, H₀ a = some o → ∃ o', H a = some o') (h : RetOk K H H' m d v) : Val K H₀ O H H' m d v := by
  cases m <;> try exact h.elim
  · exact Rp.wk (fun a h _ => ⟨fresh_no od h, fresh_n0 hd h⟩) h
  · obtain ⟨p, rfl, hp, c⟩ := h
    exact ⟨p, rfl, hp, fresh_n0 hd hp, fresh_no od hp, c.wk fun a h _ => ⟨⟨fresh_no od h.1, fresh_n0 hd h.1⟩, h.2⟩⟩
theorem jt_call {n : Nat} {F : List D → Option (M × D)} {ta : TA} {fs : Ev → Option (List (M × D))} {E : XK} (ha : JTA K ta fs) (hl : ∀ e mds, fs e = some mds → mds.length = n) : JT K (tCall (spJ K n F) [] E ta) (jCall F fs) := by
  intro H₀ O H σ env Q m d R h q
  obtain ⟨mds, e, h⟩ := bind2 h
  refine ha H₀ O H σ env _ mds R e fun vs H1 s1 h1 => ?_
  have R1 := R.keep s1
  rw [List.append_nil]
  refine ⟨by rw [← Paired.length h1]; exact hl _ _ e, mds.map (·.2), m, d, h1.rps (fun md hm v hv => hv.weak), h, fun v H2 s2 h2 => ?_⟩
  exact q v H2 (s1.trans s2) ((val_ret R1.od R1.hd h2).hb fun a z => s1.free z)
end
end J
namespace J
open PySem L2
section
variable {K : PySem.W.Frag} {H H' H₀ : Hp} {O O' : Addr → Prop} {σ : St} {env : Ev}
noncomputable def gNeg : M × D → Option (M × D)
  | (_, .int i) => some (.fr, .int (-i))
  | _ => none
theorem ju_neg : JU K (rU fun i => .int (-i)) gNeg := by
  intro H₀ O H x a Q m d _ _ h1 h q
  obtain ⟨ma, da⟩ := a
  cases da <;> cases h
  exact ⟨_, h1.int, q _ H (Same.refl H) val_i⟩
noncomputable def CDivJ (i j : Int) : Prop := 0 < j ∧ j < 1606938044258990275541962092341162602522202993782792835301376
noncomputable def jDivJ := gI (fun _ j => 0 < j ∧ j < 1606938044258990275541962092341162602522202993782792835301376) (· / ·)
theorem jr_divJ : JR K (rI CDivJ fun i j => .int (i / j)) jDivJ := jr_i fun _ _ h => h
theorem log2_lt {n : Nat} (h : n < 2 ^ 200) : n.log2 < 9000 := by
  rcases Nat.eq_zero_or_pos n with rfl | h0
  · decide
  · exact Nat.lt_trans ((Nat.log2_lt (by omega)).mpr h) (by decide)
theorem op_fdivJ {X : Cx} : OpR X (binaryOp .FloorDiv) (rI CDivJ fun i j => .int (i / j)) := opI fun i j _ _ _ _ _ hc q => by
  have e : i / j = i.fdiv j := (Int.fdiv_eq_ediv_of_nonneg i (Int.le_of_lt hc.1)).symm
  rw [e] at q
  have h1 := hc.1
  have h2 := hc.2
  have hl : j.natAbs < 2 ^ 200 := by
    have e2 : (2 : Nat) ^ 200 = 1606938044258990275541962092341162602522202993782792835301376 := by decide
    rw [e2]; omega
  exact PyProof.Rows.floordiv_int (Int.ne_of_gt hc.1) q (.inl (PyProof.noPylong_of_log2 (log2_lt hl)))
theorem op_catJ {X : Cx} : OpR X (binaryOp .Add) (rCatJ X.K) := by
  intro pins s σ H x y v u Q I rx ry h
  obtain ⟨l, b, xs, zs, rfl, rfl, hl, hb, hz, q⟩ := h
  cases (show v = Value.ref l from rx)
  cases (show u = Value.ref b from ry)
  obtain ⟨its, r, pl, _⟩ := I.list hl
  obtain ⟨its2, r2, pm, _⟩ := I.list hb
  obtain ⟨⟨cls, dd, data, sl⟩, ho, hc, n, hd⟩ := pl.isList
  obtain ⟨⟨cls2, dd2, data2, sl2⟩, ho2, hc2, n2, hd2⟩ := pm.isList
  simp only at hc hd hc2 hd2
  subst hc hd hc2 hd2
  have ea : its.toArray ++ its2.toArray = (its ++ its2).toArray := by simp
  have e1 := r.length
  have e2 := r2.length
  refine concat_meets ⟨_, ho, rfl⟩ ⟨_, ho2, rfl⟩ noFill_list_add seq_list_add PySem.F.slot_list_add PySem.F.entry_list_add (PySem.F.args_list_add_2 _ _) (PyProof.Rows.list_addW l b its.toArray its2.toArray n n2 dd dd2 sl sl2 (by rw [List.size_toArray, List.size_toArray]; omega)) ⟨ho, ho2, ?_⟩
  rw [ea]
  exact ⟨.ref _, _, I.lnew (t' := s.toks) (r.append r2) (by rw [List.length_append]; omega), rfl, q _ I.fresh⟩
theorem op_catJK {X : Cx} (h : X.K = K) : OpR X (binaryOp .Add) (rCatJ K) := by subst h; exact op_catJ
theorem jt_chain {r r' : R2} {g g' : M × D → M × D → Option (M × D)} {ta tb tc : TE} {fa fb fc : Ev → Option (M × D)} (hr : JR K r g) (hr' : JR K r' g') (ha : JT K ta fa) (hb : JT K tb fb) (hc : JT K tc fc) : JT K (tChain r r' ta tb tc) (jChain g g' fa fb fc) := by
  intro H₀ O H σ env Q m d R h q
  obtain ⟨a, ea, h⟩ := bind2 h
  obtain ⟨b, eb, h⟩ := bind2 h
  obtain ⟨z, ez, h⟩ := bind2 h
  obtain ⟨k, ek, h⟩ := bind2 h
  refine ha H₀ O H σ env _ a.1 a.2 R ea fun x H1 s1 h1 => ?_
  refine hb H₀ O H1 σ env _ b.1 b.2 (R.keep s1) eb fun y H2 s2 h2 => ?_
  have R2 := (R.keep s1).keep s2
  refine hr H₀ O H2 x y a b _ z.1 z.2 R2.od R2.hd (h1.keep s2).h0 h2.h0 ez fun v H3 s3 h3 => ?_
  rw [dBl_eq ek] at h3
  refine ⟨k, h3.bl, ?_⟩
  cases k with
  | false =>
    rw [if_neg Bool.false_ne_true] at h ⊢
    cases h
    exact q _ H3 ((s1.trans s2).trans s3) val_b
  | true =>
    rw [if_pos rfl] at h ⊢
    obtain ⟨c, ec, h⟩ := bind2 h
    refine hc H₀ O H3 σ env _ c.1 c.2 (R2.keep s3) ec fun w H4 s4 h4 => ?_
    have R4 := (R2.keep s3).keep s4
    refine hr' H₀ O H4 y w b c Q m d R4.od R4.hd ((h2.keep s3).keep s4).h0 h4.h0 h fun v H5 s5 h5 => ?_
    have s := ((s1.trans s2).trans s3).trans s4
    exact q v H5 (s.trans s5) (h5.hb fun a z => s.free z)
noncomputable def dScs : List D → Option (List V)
  | [] => some []
  | d :: ds => (dSc d).bind fun v => (dScs ds).bind fun r => some (v :: r)
theorem rps_scs {N : Addr → Prop} : ∀ {ds : List D} {vs ws : List V}, Rps K N H vs ds → dScs ds = some ws → vs = ws ∧ ws.all flatV = true
  | _, _, _, .nil, e => by cases e; exact ⟨rfl, rfl⟩
  | d :: ds, v :: vs, ws, .cons h r, e => by
    obtain ⟨w, ew, e⟩ := bind2 e
    obtain ⟨r', er, e⟩ := bind2 e
    cases e
    obtain ⟨rfl, f⟩ := rps_scs r er
    obtain rfl := rp_sc h ew
    refine ⟨rfl, ?_⟩
    rw [List.all_cons, f, Bool.and_true]
    cases h <;> simp only [dSc] at ew <;> first | rfl | cases ew
noncomputable def seqD : D → Option (List D)
  | .lst ds => some ds
  | .tup ds => some ds
  | _ => none
noncomputable def gInF (neg : Bool) : M × D → M × D → Option (M × D) := fun a b => (dSc a.2).bind fun x => (seqD b.2).bind fun ds => (dScs ds).bind fun vs => some (.fr, .bl (if neg then !inV x vs else inV x vs))
theorem seq_val {m : M} {d : D} {ds : List D} {v : V} {Hb : Hp} (e : seqD d = some ds) (h : Val K H₀ O Hb H m d v) : ∃ p xs, v = .ref p ∧ (SqL K H p xs ∨ SqT K H p xs) ∧ Rps K (NM H₀ O (elm m)) H xs ds := by
  cases d <;> simp only [seqD] at e <;> cases e
  · obtain ⟨p, xs, rfl, h, r⟩ := h.tup; exact ⟨p, xs, rfl, .inr h, r⟩
  · obtain ⟨p, xs, rfl, h, r⟩ := h.lst; exact ⟨p, xs, rfl, .inl h, r⟩
theorem dSc_flat {d : D} {x : V} (e : dSc d = some x) : flatV x = true := by
  cases d <;> simp only [dSc] at e <;> cases e <;> rfl
theorem jr_in {neg : Bool} : JR K (rIn K neg) (gInF neg) := by
  intro H₀ O H x y a b Q m d _ _ h1 h2 h q
  obtain ⟨x', ex, h⟩ := bind2 h
  obtain ⟨ds, ed, h⟩ := bind2 h
  obtain ⟨vs, ev, h⟩ := bind2 h
  cases h
  obtain ⟨p, xs, rfl, hs, r⟩ := seq_val ed h2
  obtain ⟨rfl, f⟩ := rps_scs r ev
  obtain rfl := rp_sc h1.weak ex
  exact ⟨p, _, rfl, hs, dSc_flat ex, f, q _ H (Same.refl H) val_b⟩
theorem slm2_slm {m : M} (h : slm2 m = true) : slm m = true := by cases m <;> first | rfl | cases h
noncomputable def bYes : Ev → Option Bool := fun _ => some true
theorem jtt_yes : JTT K tYes bYes := by
  intro H₀ O H σ env Q b R h q
  cases h
  exact q H (Same.refl H)
noncomputable def frE (e : Ev) (ix : List Nat) : Ev := ix.map fun i => (e[i]?).getD none
noncomputable def compL (fc : Ev → Option Bool) (fe : Ev → Option (M × D)) (m : M) (fr : Ev) : List D → Option (List (M × D))
  | [] => some []
  | d :: ds => (fc (some (m, d) :: fr)).bind fun b => if b = true then (fe (some (m, d) :: fr)).bind fun x => (compL fc fe m fr ds).bind fun r => some (x :: r) else compL fc fe m fr ds
noncomputable def jComp (it : Ev → Option (M × List D)) (ix : List Nat) (fc : Ev → Option Bool) (fe : Ev → Option (M × D)) : Ev → Option (M × D) := fun e => (it e).bind fun x => (compL fc fe x.1 (frE e ix) x.2).bind jLstG
theorem RelE.fr {ix : List Nat} (R : RelE K H₀ O H σ env) : Paired (fun (e : Option (M × D)) (x : Option V) => ∀ m d, e = some (m, d) → slm m = true ∧ ∃ v, x = some v ∧ Val K H₀ O HE H m d v) (frE env ix) (frOf σ ix) := by
  unfold frE frOf
  induction ix with
  | nil => exact .nil
  | cons i ix ih =>
    refine .cons (fun m d e => ?_) ih
    have e' : env[i]? = some (some (m, d)) := by
      have e : (env[i]?).getD none = some (m, d) := e
      cases q : env[i]? with
      | none => rw [q] at e; cases e
      | some z => rw [q] at e; exact congrArg some e
    obtain ⟨v, hv, n, h⟩ := R.at e'
    exact ⟨n, v, by show (σ[i]?).getD none = _; rw [hv]; rfl, h⟩
theorem RelE.more {C : Addr} (R : RelE K H₀ O H σ env) (hC : H C = none) {H2 : Hp} (s : Same H H2) (ys : List V) (e : H2 C = some (.lst ys)) : RelE K H₀ (fun a => O a ∨ a = C) H2 σ env := by
  have np : ∀ a, (∃ o, H a = some o) → a ≠ C := fun a ⟨o, e⟩ => ne_of_none e hC
  have w : ∀ {N : Addr → Prop} {d : D} {v : V}, Rp K N H v d → Rp K (fun a => N a ∧ a ≠ C) H2 v d := fun r => (r.wk fun a n e => ⟨n, np a e⟩).keep (.same s)
  have ws : ∀ {N : Addr → Prop} {d : D} {q : Addr}, Cell K N H q d → Cell K (fun a => N a ∧ a ≠ C) H2 q d := fun {N d q} r => by
    obtain ⟨o, e, _⟩ := r.some
    exact (r.wk fun a n e => ⟨n, np a e⟩).keep (.same s) ((s _ _ e).trans e.symm)
  refine ⟨pmono (fun e x h m d q => ?_) R.sl, fun a h => ?_, fun a o h => ?_, fun a o h q => ?_⟩
  · obtain ⟨n, v, rfl, z⟩ := h m d q
    refine ⟨n, v, rfl, ?_⟩
    cases m
    · exact (w z).wk fun a h _ => fun z => z.elim h.1 h.2
    · exact (w z).wk fun a h _ => ⟨fun z => z.elim h.1.1 h.2, h.1.2⟩
    · cases n
    · obtain ⟨q, rfl, h1, h2, c'⟩ := z
      exact ⟨q, rfl, .inl h1, h2, (ws c').wk fun a h _ => ⟨fun z => z.elim h.1.1 h.2, h.1.2⟩⟩
    · obtain ⟨q, rfl, h1, c'⟩ := z
      exact ⟨q, rfl, .inl h1, (ws c').wk fun a h _ => ⟨fun z => z.elim h.1.1 h.2, h.1.2⟩⟩
    · cases n
    · obtain ⟨q, qs, dss, e1, e2, h1, h2, h3, h4, h5, h6⟩ := z
      exact ⟨q, qs, dss, e1, e2, .inl h1, h2, s _ _ h3, h4, fun x hx => ⟨.inl (h5 x hx).1, (h5 x hx).2⟩, npairs (fun x ds _ ⟨xs, a, r⟩ => ⟨xs, s _ _ a, ((r.wk fun a n e => (⟨n, np a e⟩ : (¬ O a ∧ H₀ a = none) ∧ a ≠ C)).keep (.same s)).wk fun a h _ => ⟨fun z => z.elim h.1.1 h.2, h.1.2⟩⟩) h6⟩
  · rcases h with h | rfl
    · obtain ⟨o, q⟩ := R.od a h; exact ⟨o, s _ _ q⟩
    · exact ⟨_, e⟩
  · obtain ⟨o', q⟩ := R.hd a o h; exact ⟨o', s _ _ q⟩
  · rcases h with h | rfl
    · exact (R.keep s).on a o h q
    · rw [e] at q; cases q; exact fun z => z
theorem comp_core {J : It} {m : M} {ds : List D} {tc : TT} {te : TE} {fc : Ev → Option Bool} {fe : Ev → Option (M × D)} {H1 : Hp} {ix : List Nat} {tot : List (M × D)} {bb : Bool} {Q : Addr → Hp → Prop} {C : Addr}
    (R : RelE K H₀ O H1 σ env) (hm : slm2 m = true) (ok : ItOk K H₀ O J H1 m ds) (hc : JTT K tc fc) (he : JT K te fe) (hl : tot.length ≤ sizeLine) (et : compL fc fe m (frE env ix) ds = some tot)
    (hs : ∀ x ∈ tot, (if bb then sto x.1 x.2 else sta x.1 x.2) = true) (hC : H1 C = none)
    (q : ∀ ys H', Same H1 H' → H' C = some (.lst ys) → Rps K (fun a => ¬ (O a ∨ a = C) ∧ (bb = true → H₀ a = none)) H' ys (tot.map (·.2)) → Q C H') : CompW J C H1 (frOf σ ix) tc te Q := by
  have hN : ∀ {N : Addr → Prop} {Ha Hb : Hp}, (∀ a, N a → a ≠ C) → (∀ b o, b ≠ C → Ha b = some o → Hb b = some o) → (∀ o, Ha C = some o → ¬ isT o) → Keeps N Ha Hb := fun w s nt a o e z => s a o (by
    rcases z with z | z
    · exact w a z
    · rintro rfl; exact nt o e z) e
  refine ⟨fun i n H2 => n = ds.length - i ∧ i ≤ ds.length ∧ Same H1 H2 ∧ ∃ ys acc rest, H2 C = some (.lst ys) ∧ compL fc fe m (frE env ix) (ds.drop i) = some rest ∧ tot = acc ++ rest ∧ Rps K (fun a => ¬ (O a ∨ a = C) ∧ (bb = true → H₀ a = none)) H2 ys (acc.map (·.2)), ⟨_, rfl, Nat.zero_le _, same_newJ hC, [], [], tot, upd_same, et, rfl, .nil⟩, ?_⟩
  rintro i n H2 ⟨rfl, hle, s2, ys, acc, rest, hys, er, etot, rr⟩
  have st2 : Stp O H1 O H2 := Stp.same s2
  by_cases hlt : i < ds.length
  · refine .inr ⟨ok.go O H2 i st2 hlt, fun x H3 y => ?_⟩
    have st2' : Stp O H1 (fun a => O a ∨ a = C) H2 := fun a o e n => ⟨s2 a o e, fun z => z.elim n (ne_of_none e hC)⟩
    obtain ⟨s3, d, hd, hv⟩ := ok.yld (fun a => O a ∨ a = C) H2 i x H3 st2' hlt y
    have R2 := R.more hC s2 ys hys
    have R3 := R2.keep s3
    have R3' : RelE K H₀ (fun a => O a ∨ a = C) H3 (some x :: frOf σ ix) (some (m, d) :: frE env ix) :=
      ⟨.cons (fun m' d' e => by cases e; exact ⟨slm2_slm hm, x, rfl, hv⟩) R3.fr, R3.od, R3.hd, R3.on⟩
    have hdr : ds.drop i = d :: ds.drop (i + 1) := by
      rw [List.drop_eq_getElem_cons hlt]
      rw [List.getElem?_eq_getElem hlt] at hd
      cases hd; rfl
    rw [hdr] at er
    simp only [compL] at er
    obtain ⟨b, eb, er⟩ := bind2 er
    refine hc H₀ _ H3 _ _ _ b R3' eb fun H4 s4 => ?_
    cases b with
    | true =>
      rw [if_pos rfl] at er ⊢
      obtain ⟨z, ez, er⟩ := bind2 er
      obtain ⟨r', er', er⟩ := bind2 er
      cases er
      refine he H₀ _ H4 _ _ _ z.1 z.2 (R3'.keep s4) ez fun w H5 s5 h5 => ?_
      have s25 : Same H2 H5 := (s3.trans s4).trans s5
      have hyl : ys.length = acc.length := by rw [rr.len, List.length_map]
      have hla : acc.length < sizeLine := by
        have e1 := congrArg List.length etot
        rw [List.length_append, List.length_cons] at e1
        omega
      refine ⟨ys, s25 _ _ hys, by rw [hyl]; exact hla, ds.length - (i + 1), by omega, rfl, hlt, ?_, ys ++ [w], acc ++ [z], r', upd_same, er', by rw [etot, List.append_assoc]; rfl, ?_⟩
      · intro a o e
        rw [upd_ne (ne_of_none e hC)]
        exact s25 _ _ (s2 _ _ e)
      · rw [List.map_append]
        have hz : Rp K (fun a => ¬ (O a ∨ a = C) ∧ (bb = true → H₀ a = none)) H5 w z.2 := by
          have h := hs z (by rw [etot]; exact List.mem_append_right _ List.mem_cons_self)
          cases bb with
          | true => exact (h5.sto h).wk fun a h _ => ⟨h.1, fun _ => h.2⟩
          | false => exact (h5.sta h).wk fun a h _ => ⟨h, fun z => nomatch z⟩
        have kp : Keeps (fun a => ¬ (O a ∨ a = C) ∧ (bb = true → H₀ a = none)) H5 (upd H5 C (.lst (ys ++ [w]))) := hN (fun a h z => h.1 (.inr z)) (fun b o ne e => by rw [upd_ne ne]; exact e) (fun o e => by rw [s25 _ _ hys] at e; cases e; exact fun z => z)
        exact ((rr.keep (.same s25)).keep kp).app (.cons (hz.keep kp) .nil)
    | false =>
      rw [if_neg Bool.false_ne_true] at er ⊢
      have s24 := s3.trans s4
      exact ⟨ds.length - (i + 1), by omega, rfl, hlt, s2.trans s24, ys, acc, rest, s24 _ _ hys, er, etot, rr.keep (.same s24)⟩
  · have hi : i = ds.length := by omega
    subst hi
    rw [List.drop_length] at er
    cases er
    rw [List.append_nil] at etot
    subst etot
    exact .inl ⟨ok.stop O H2 st2, q ys H2 s2 hys rr⟩
theorem jt_comp {wi : TI} {ix : List Nat} {tc : TT} {te : TE} {it : Ev → Option (M × List D)} {fc : Ev → Option Bool} {fe : Ev → Option (M × D)} (hi : JI K wi it) (hc : JTT K tc fc) (he : JT K te fe) : JT K (tComp wi ix tc te) (jComp it ix fc fe) := by
  intro H₀ O H σ env Q m d R e q
  obtain ⟨⟨mi, ds⟩, ei, e⟩ := bind2 e
  obtain ⟨tot, et, e⟩ := bind2 e
  refine hi H₀ O H σ env _ mi ds R ei fun J H1 s1 hm ok C hC => ?_
  have R1 := R.keep s1
  unfold jLstG at e
  split at e
  · rename_i hl
    split at e
    · rename_i ha
      cases e
      rw [List.all_eq_true] at ha
      refine comp_core (bb := true) R1 hm ok hc he hl et (fun x hx => ha x hx) hC fun ys H' s' hy r => ?_
      refine q _ H' (s1.trans s') ⟨C, rfl, s1.free hC, fresh_n0 R1.hd hC, fresh_no R1.od hC, ys, hy, r.wk fun a h _ => ⟨⟨fun z => h.1 (.inl z), h.2 rfl⟩, fun z => h.1 (.inr z)⟩⟩
    · split at e
      · rename_i ha
        cases e
        rw [List.all_eq_true] at ha
        refine comp_core (bb := false) R1 hm ok hc he hl et (fun x hx => ha x hx) hC fun ys H' s' hy r => ?_
        exact q _ H' (s1.trans s') (Rp.lst (.inl hy) (fresh_no R1.od hC) (r.wk fun a h _ => fun z => h.1 (.inl z)))
      · cases e
  · cases e
theorem len_nil : ∀ e mds, jNil e = some mds → mds.length = 0 := fun e mds h => by cases h; rfl
theorem len_cons {n : Nat} {f : Ev → Option (M × D)} {g : Ev → Option (List (M × D))} (h : ∀ e mds, g e = some mds → mds.length = n) : ∀ e mds, jCons f g e = some mds → mds.length = n + 1 := fun e mds q => by
  obtain ⟨x, ex, q⟩ := bind2 q
  obtain ⟨r, er, q⟩ := bind2 q
  cases q
  rw [List.length_cons, h e r er]
end
end J
namespace J
open PySem L2
section
variable {K : PySem.W.Frag} {H H' H₀ : Hp} {O O' : Addr → Prop} {σ : L2.St} {env : Ev}
theorem opOr {X : Cx} {f : Value → Value → Sem Value} {r r' : R2} (h : OpR X f r) (h' : OpR X f r') : OpR X f (fun x y H Q => r x y H Q ∨ r' x y H Q) :=
  fun pins s σ H x y v u Q I rx ry q => q.elim (h pins s σ H x y v u Q I rx ry) (h' pins s σ H x y v u Q I rx ry)
noncomputable def gOr (g g' : M × D → M × D → Option (M × D)) : M × D → M × D → Option (M × D) := fun a b => match g a b with
  | some z => some z
  | none => g' a b
theorem jr_or {r r' : R2} {g g' : M × D → M × D → Option (M × D)} (h : JR K r g) (h' : JR K r' g') : JR K (fun x y H Q => r x y H Q ∨ r' x y H Q) (gOr g g') := by
  intro H₀ O H x y a b Q m d od hd h1 h2 e q
  unfold gOr at e
  split at e
  · rename_i z ez; cases e; exact .inl (h H₀ O H x y a b Q m d od hd h1 h2 ez q)
  · exact .inr (h' H₀ O H x y a b Q m d od hd h1 h2 e q)
noncomputable def gAddS : M × D → M × D → Option (M × D)
  | (_, .str x), (_, .str y) => if x.length + y.length ≤ sizeLine then some (.fr, .str (x ++ y)) else none
  | _, _ => none
theorem jr_addS : JR K (fun x y H Q => ∃ i j, x = .str i ∧ y = .str j ∧ i.length + j.length ≤ sizeLine ∧ Q (.str (i ++ j)) H) gAddS := by
  intro H₀ O H x y a b Q m d _ _ h1 h2 h q
  obtain ⟨ma, da⟩ := a; obtain ⟨mb, db⟩ := b
  cases da <;> try (cases h; done)
  cases db <;> try (cases h; done)
  simp only [gAddS] at h
  split at h
  · rename_i hl; cases h
    exact ⟨_, _, h1.str, h2.str, hl, q _ H (Same.refl H) val_s⟩
  · cases h
noncomputable def rCatB (K : PySem.W.Frag) : R2 := fun x y H Q => ∃ a b xs ys, x = .ref a ∧ y = .ref b ∧ SqT K H a xs ∧ SqT K H b ys ∧ xs.length + ys.length ≤ sizeLine ∧ ∀ p H', Same H H' → SqT K H' p (xs ++ ys) → Q (.ref p) H'
theorem op_catB {X : Cx} : OpR X (binaryOp .Add) (rCatB X.K) := by
  intro pins s σ H x y v u Q I rx ry h
  obtain ⟨a, b, xs, ys, rfl, rfl, ha, hb, hz, q⟩ := h
  by_cases e : xs = []
  · subst e
    cases rx; cases ry
    obtain ⟨its, r1, p1, _⟩ := I.tuple ha; obtain ⟨its2, r2, p2, _⟩ := I.tuple hb
    cases r1
    exact cat_tup0 p1 p2 ⟨.ref b, H, I, rfl, q b H (Same.refl H) hb⟩
  · refine op_catT pins s σ H (.ref a) (.ref b) v u Q I rx ry ⟨a, b, xs, ys, rfl, rfl, ha, hb, e, hz, fun e2 => ?_, fun _ p hp => q p _ (same_newJ hp) (SqT.of upd_same)⟩
    subst e2
    exact q a H (Same.refl H) (by rw [List.append_nil]; exact ha)
theorem op_catBK {X : Cx} (h : X.K = K) : OpR X (binaryOp .Add) (rCatB K) := by subst h; exact op_catB
noncomputable def gCatT : M × D → M × D → Option (M × D)
  | (m, .tup ds), (n, .tup es) => if elm m = .rb ∨ elm n = .rb then none else if ds.length + es.length ≤ sizeLine then some (elm (mJ m n), .tup (ds ++ es)) else none
  | _, _ => none
theorem jr_catT : JR K (rCatB K) gCatT := by
  intro H₀ O H x y a b Q m d od hd h1 h2 h q
  obtain ⟨ma, da⟩ := a; obtain ⟨mb, db⟩ := b
  cases da <;> try (cases db <;> cases h; done)
  cases db <;> try (cases h; done)
  simp only [gCatT] at h
  split at h
  · cases h
  · rename_i hn
    split at h
    · rename_i hl
      cases h
      obtain ⟨p, xs, rfl, r, s⟩ := h1.tup
      obtain ⟨p', xs', rfl, r', s'⟩ := h2.tup
      have n1 : elm ma ≠ .rb := fun z => hn (.inl z)
      have n2 : elm mb ≠ .rb := fun z => hn (.inr z)
      refine ⟨p, p', xs, xs', rfl, rfl, r, r', by rw [s.len, s'.len]; exact hl, fun l H' sm hq => q _ _ sm (Val.el (Rp.tup hq ?_))⟩
      exact (Rps.app (s.wk fun _ h _ => NM.mJ1 n1 n2 h) (s'.wk fun _ h _ => NM.mJ2 n1 n2 h)).keep (.same sm)
    · cases h
noncomputable def rSlB (K : PySem.W.Frag) : V → Option Int → Option Int → Hp → VK → Prop := fun x lo hi H Q => ∃ a xs, x = .ref a ∧ SqT K H a xs ∧ ∀ p H', Same H H' → SqT K H' p (cutV xs lo hi) → Q (.ref p) H'
theorem sl_tupB {X : Cx} : SlR X (rSlB X.K) := by
  intro pins s σ H x v vl vu lo hi sl Q I rx hs pl pu h
  obtain ⟨a, xs, rfl, hx, q⟩ := h
  by_cases e : HT.sIx xs.length 0 lo = 0 ∧ HT.sIx xs.length xs.length hi = xs.length
  · cases rx
    obtain ⟨its, r, ht, hz⟩ := I.tuple hx
    have hlen : its.toArray.size = xs.length := by rw [List.size_toArray]; exact r.length.symm
    refine ⟨"tuple", _, PyProof.Rows.slot_tuple_getitem.lookup, ht.typeIs, getItem_tuple_all ht hs pl pu (by rw [hlen]; exact e.1) (by rw [hlen]; exact e.2) ⟨.ref a, H, I, rfl, q a H (Same.refl H) ?_⟩⟩
    have ec : cutV xs lo hi = xs := by unfold cutV; rw [e.1, e.2, List.drop_zero, Nat.sub_zero]; exact List.take_of_length_le (Nat.le_refl _)
    rw [ec]; exact hx
  · exact sl_tup pins s σ H (.ref a) v vl vu lo hi sl Q I rx hs pl pu ⟨a, xs, rfl, hx, e, fun p hp => q p _ (same_newJ hp) (SqT.of upd_same)⟩
noncomputable def gSlT : M × D → Option Int → Option Int → Option (M × D)
  | (m, .tup ds), lo, hi => some (elm m, .tup (cut ds lo hi))
  | _, _, _ => none
theorem jsl_tup : JSl K (rSlB K) gSlT := by
  intro H₀ O H x lo hi a Q m d od hd h1 h q
  obtain ⟨ma, da⟩ := a
  cases da <;> try (cases h; done)
  cases h
  obtain ⟨p, xs, rfl, r, s⟩ := h1.tup
  exact ⟨p, xs, rfl, r, fun l H' sm hq => q _ _ sm (Val.el (Rp.tup hq (s.cut.keep (.same sm))))⟩
noncomputable def gSlS : M × D → Option Int → Option Int → Option (M × D)
  | (_, .str z), lo, hi => if z.length ≤ sizeLine then some (.fr, .str (Txt.slice z lo hi)) else none
  | _, _, _ => none
theorem jsl_str : JSl K (fun x lo hi H Q => ∃ z : Str, x = .str z ∧ z.length ≤ sizeLine ∧ Q (.str (Txt.slice z lo hi)) H) gSlS := by
  intro H₀ O H x lo hi a Q m d od hd h1 h q
  obtain ⟨ma, da⟩ := a
  cases da <;> try (cases h; done)
  simp only [gSlS] at h
  split at h
  · rename_i hl; cases h; exact ⟨_, h1.str, hl, q _ H (Same.refl H) val_s⟩
  · cases h
noncomputable def slOr (g g' : M × D → Option Int → Option Int → Option (M × D)) : M × D → Option Int → Option Int → Option (M × D) := fun a l h => match g a l h with
  | some z => some z
  | none => g' a l h
theorem jsl_or {r r' : V → Option Int → Option Int → Hp → VK → Prop} {g g' : M × D → Option Int → Option Int → Option (M × D)} (h : JSl K r g) (h' : JSl K r' g') : JSl K (fun x l u H Q => r x l u H Q ∨ r' x l u H Q) (slOr g g') := by
  intro H₀ O H x lo hi a Q m d od hd h1 e q
  unfold slOr at e
  split at e
  · rename_i z ez; cases e; exact .inl (h H₀ O H x lo hi a Q m d od hd h1 ez q)
  · exact .inr (h' H₀ O H x lo hi a Q m d od hd h1 e q)
theorem slR_or {X : Cx} {r r' : V → Option Int → Option Int → Hp → VK → Prop} (h : SlR X r) (h' : SlR X r') : SlR X (fun x l u H Q => r x l u H Q ∨ r' x l u H Q) :=
  fun pins s σ H x v vl vu lo hi sl Q I rx hs pl pu q => q.elim (h pins s σ H x v vl vu lo hi sl Q I rx hs pl pu) (h' pins s σ H x v vl vu lo hi sl Q I rx hs pl pu)
noncomputable abbrev rAdd (K : PySem.W.Frag) : R2 := fun x y H Q => rI0 (fun i j => .int (i + j)) x y H Q ∨ (fun x y H Q => (fun x y H Q => ∃ i j, x = .str i ∧ y = .str j ∧ i.length + j.length ≤ sizeLine ∧ Q (.str (i ++ j)) H) x y H Q ∨ (fun x y H Q => rCatJ K x y H Q ∨ rCatB K x y H Q) x y H Q) x y H Q
noncomputable def gAdd := gOr jAdd (gOr gAddS (gOr gCat gCatT))
theorem op_addJ {X : Cx} (h : X.K = K) : OpR X (binaryOp .Add) (rAdd K) := opOr op_add (opOr op_add_str (opOr (op_catJK h) (op_catBK h)))
theorem jr_addJ : JR K (rAdd K) gAdd := jr_or jr_add (jr_or jr_addS (jr_or jr_cat jr_catT))
noncomputable abbrev rSl (K : PySem.W.Frag) : V → Option Int → Option Int → Hp → VK → Prop := fun x l u H Q => rSlL K x l u H Q ∨ (fun x l u H Q => rSlB K x l u H Q ∨ (fun x lo hi H Q => ∃ z : Str, x = .str z ∧ z.length ≤ sizeLine ∧ Q (.str (Txt.slice z lo hi)) H) x l u H Q) x l u H Q
noncomputable def gSl := slOr gSlL (slOr gSlT gSlS)
theorem sl_J {X : Cx} (h : X.K = K) : SlR X (rSl K) := by subst h; exact slR_or sl_list (slR_or sl_tupB sl_str)
theorem jsl_J : JSl K (rSl K) gSl := jsl_or jsl_list (jsl_or jsl_tup jsl_str)
noncomputable def JBM (K : PySem.W.Frag) (T : String) (r : V → List V → Hp → VK → Prop) (g : M × D → List (M × D) → Option (M × D)) : Prop :=
  ∀ H₀ O H x vs a mds Q m d, (∀ a, O a → ∃ o, H a = some o) → (∀ a o, H₀ a = some o → ∃ o', H a = some o') → Val K H₀ O HE H (Prod.fst a) a.2 x → ValL K H₀ O HE H mds vs → g a mds = some (m, d) → (∀ v H', Same H H' → Val K H₀ O H H' m d v → Q v H') → r x vs H Q
noncomputable def jBM (ty : D → Bool) (g : M × D → List (M × D) → Option (M × D)) (f : Ev → Option (M × D)) (fs : Ev → Option (List (M × D))) : Ev → Option (M × D) := fun e => (f e).bind fun x => if ty x.2 = true then (fs e).bind fun l => g x l else none
noncomputable def isS : D → Bool
  | .str _ => true
  | _ => false
theorem jt_bmS {r : V → List V → Hp → VK → Prop} {g : M × D → List (M × D) → Option (M × D)} {te : TE} {ta : TA} {f : Ev → Option (M × D)} {fs : Ev → Option (List (M × D))} (hr : JBM K "str" r g) (he : JT K te f) (ha : JTA K ta fs) : JT K (tBM K "str" r te ta) (jBM isS g f fs) := by
  intro H₀ O H σ env Q m d R h q
  obtain ⟨⟨mx, dx⟩, ex, h⟩ := bind2 h
  split at h
  · rename_i hs
    obtain ⟨l, el, h⟩ := bind2 h
    refine he H₀ O H σ env _ mx dx R ex fun v H1 s1 h1 => ?_
    cases dx <;> simp only [isS] at hs <;> try (cases hs; done)
    obtain rfl := h1.str
    refine ⟨rfl, ha H₀ O H1 σ env _ l (R.keep s1) el fun vs H2 s2 h2 => ?_⟩
    have R2 := (R.keep s1).keep s2
    exact hr H₀ O H2 _ vs (mx, .str _) l Q m d R2.od R2.hd (h1.keep s2).h0 (pmono (fun _ _ z => z.h0) h2) h fun v H3 s3 h3 => q v H3 ((s1.trans s2).trans s3) (h3.hb fun a z => (s1.trans s2).free z)
  · cases h
theorem mt_index {X : Cx} : MtR X "str.index" (fun x xs H Q => ∃ (z y : Str) (i : Nat) (rest : List Nat), x = .str z ∧ xs = [.str y] ∧ Builtin.Str.occurrences z y 0 z.length 1 = i :: rest ∧ Q (.int i) H) := by
  intro pins s σ H x xs v us Q I rx r h
  obtain ⟨z, y, i, rest, rfl, rfl, ho, q⟩ := h
  obtain ⟨u, rfl, ru⟩ := vals1 r
  obtain ⟨tk, rfl⟩ := (show ∃ t, v = Value.str z t from rx)
  obtain ⟨tk', rfl⟩ := (show ∃ t, u = Value.str y t from ru)
  exact SC.index ho ⟨.int i, H, I.tok _, ⟨_, rfl⟩, q⟩
noncomputable def gIndex : M × D → List (M × D) → Option (M × D)
  | (_, .str z), [(_, .str y)] => match Builtin.Str.occurrences z y 0 z.length 1 with
    | i :: _ => some (.fr, .int i)
    | [] => none
  | _, _ => none
theorem jbm_index : JBM K "str" (fun x xs H Q => ∃ (z y : Str) (i : Nat) (rest : List Nat), x = .str z ∧ xs = [.str y] ∧ Builtin.Str.occurrences z y 0 z.length 1 = i :: rest ∧ Q (.int i) H) gIndex := by
  intro H₀ O H x vs a mds Q m d _ _ h1 h2 h q
  unfold gIndex at h
  split at h
  · split at h
    · rename_i i rest ho
      cases h
      obtain ⟨v, rfl, hv⟩ := h2.one
      exact ⟨_, _, i, rest, h1.str, by rw [hv.str], ho, q _ H (Same.refl H) val_i⟩
    · cases h
  · cases h
noncomputable def tyN : D → String
  | .non => "NoneType"
  | .bl _ => "bool"
  | .int _ => "int"
  | .str _ => "str"
  | .ty _ => "type"
  | .tup _ => "tuple"
  | .lst _ => "list"
  | .dk _ => "dict"
  | .dt _ => "dict"
noncomputable def gIsi : List (M × D) → Option (M × D)
  | [(_, d), (_, .ty T)] => if tyN d = "type" then none else if ["bool", "int", "str", "tuple", "list", "dict"].contains T = true then some (.fr, .bl (tyN d == T || (tyN d == "bool" && T == "int"))) else none
  | _ => none
end
end J
namespace J
open PySem L2
inductive TyJ (K : PySem.W.Frag) (H : Hp) : V → String → Prop where
  | non : TyJ K H .non "NoneType"
  | bl (x : Bool) : TyJ K H (.bl x) "bool"
  | int (i : Int) : TyJ K H (.int i) "int"
  | str (x : Str) : TyJ K H (.str x) "str"
  | lst {a : Addr} {xs : List V} (e : SqL K H a xs) : TyJ K H (.ref a) "list"
  | tup {a : Addr} {xs : List V} (e : SqT K H a xs) : TyJ K H (.ref a) "tuple"
  | dK {a : Addr} {kvs : List (Key × V)} (e : Rd H a (.dK kvs)) : TyJ K H (.ref a) "dict"
  | dT {a : Addr} {kvs : List (List Key × V)} (e : Rd H a (.dT kvs)) : TyJ K H (.ref a) "dict"
noncomputable def isB (t T : String) : Bool := t == T || (t == "bool" && T == "int")
theorem kit_ok (K : PySem.W.Frag) {t T : String} (h1 : ["NoneType", "bool", "int", "str", "tuple", "list", "dict"].contains t = true) (h2 : ["bool", "int", "str", "tuple", "list", "dict"].contains T = true) : PySem.W.kitOne K (.type t) (.type T) = some (isB t T) := by
  simp only [List.contains_cons, List.contains_nil, Bool.or_false, Bool.or_eq_true, beq_iff_eq] at h1 h2
  rcases h1 with rfl | rfl | rfl | rfl | rfl | rfl | rfl <;> rcases h2 with rfl | rfl | rfl | rfl | rfl | rfl <;> rfl
section
variable {K : PySem.W.Frag} {H H' H₀ : Hp} {O O' : Addr → Prop} {σ : L2.St} {env : Ev}
theorem tyJ_in {x : V} {t : String} (h : TyJ K H x t) : ["NoneType", "bool", "int", "str", "tuple", "list", "dict"].contains t = true := by cases h <;> decide
theorem call_isiJ {X : Cx} (hK : X.K = K) : CallR X (.builtin "isinstance") (fun xs H Q => ∃ x T t, xs = [x, .ty T] ∧ TyJ K H x t ∧ ["bool", "int", "str", "tuple", "list", "dict"].contains T = true ∧ Q (.bl (isB t T)) H) := by
  subst hK
  intro pins s σ H xs us Q I r h
  obtain ⟨x, T, t, rfl, ty, hT, q⟩ := h
  obtain ⟨u, u', rfl, rx, ry⟩ := vals2 r
  cases (show u' = Value.type T from ry)
  have e := kit_ok X.K (tyJ_in ty) hT
  have fin : ∀ tk, EP X pins σ Q (.bool (isB t T)) { s with toks := tk } := fun tk => ⟨.bl (isB t T), H, I.tok tk, rfl, q⟩
  cases ty with
  | non => cases (show u = Value.none from rx); exact PySem.W.kia_one PySem.W.kitx_none I.kIn True.intro e (fun z => nomatch z) fin
  | bl y => cases (show u = Value.bool y from rx); exact PySem.W.kia_one PySem.W.kitx_bool I.kIn True.intro e (fun z => nomatch z) fin
  | int i => obtain ⟨t, q⟩ := (show ∃ t, u = Value.int i t from rx); cases q; exact PySem.W.kia_one PySem.W.kitx_int I.kIn True.intro e (fun z => nomatch z) fin
  | str y => obtain ⟨t, q⟩ := (show ∃ t, u = Value.str y t from rx); cases q; exact PySem.W.kia_one PySem.W.kitx_str I.kIn True.intro e (fun z => nomatch z) fin
  | @lst a xs ea =>
    cases (show u = Value.ref a from rx)
    obtain ⟨its, _, ⟨o, n, h1, h2, _⟩, _⟩ := I.list ea
    exact PySem.W.kia_one PySem.W.kitx_list I.kIn ⟨o, h1, h2⟩ e (fun z => nomatch z) fin
  | @tup a xs ea =>
    cases (show u = Value.ref a from rx)
    obtain ⟨its, _, p, _⟩ := I.tuple ea
    obtain ⟨o, h1, h2, _⟩ := p
    exact PySem.W.kia_one PySem.W.kitx_tuple I.kIn ⟨o, h1, h2⟩ e (fun z => nomatch z) fin
  | @dK a kvs ea =>
    cases (show u = Value.ref a from rx)
    obtain ⟨_, _, vs, _, p⟩ := ea.ok I.hok
    obtain ⟨o, es, ep, h1, h2, _⟩ := p
    exact PySem.W.kia_one PySem.W.kitx_dict I.kIn ⟨o, h1, h2.1⟩ e (fun z => nomatch z) fin
  | @dT a kvs ea =>
    cases (show u = Value.ref a from rx)
    obtain ⟨_, _, vs, _, o, es, ep, h1, h2, _⟩ := ea.ok I.hok
    exact PySem.W.kia_one PySem.W.kitx_dict I.kIn ⟨o, h1, h2.1⟩ e (fun z => nomatch z) fin
theorem rp_tyJ {N : Addr → Prop} {v : V} {d : D} (h : Rp K N H v d) (n : tyN d ≠ "type") : TyJ K H v (tyN d) := by
  cases h with
  | non => exact .non
  | bl b => exact .bl b
  | int i => exact .int i
  | str x => exact .str x
  | ty x => exact absurd rfl n
  | tup h _ => exact .tup h
  | lst h _ _ => exact .lst (.inl h)
  | lstK h _ => exact .lst (.inr h)
  | dk h _ _ _ => exact .dK h
  | dt h _ _ _ => exact .dT h
theorem jcb_isi : JCB K (fun xs H Q => ∃ x T t, xs = [x, .ty T] ∧ TyJ K H x t ∧ ["bool", "int", "str", "tuple", "list", "dict"].contains T = true ∧ Q (.bl (isB t T)) H) gIsi := by
  intro H₀ O H vs mds Q m d _ _ hv h q
  unfold gIsi at h
  split at h
  · split at h
    · cases h
    · rename_i hn
      split at h
      · rename_i hT
        cases h
        obtain ⟨v, w, rfl, hx, hw⟩ := hv.two
        obtain rfl := hw.ty
        exact ⟨v, _, _, rfl, rp_tyJ hx.weak hn, hT, q _ H (Same.refl H) val_b⟩
      · cases h
  · cases h
end
end J
namespace J
open PySem L2
section
variable {K : PySem.W.Frag} {H : Hp}
theorem rp_ints {N : Addr → Prop} : ∀ (ns : List Int), Rps K N H (ns.map V.int) (ns.map D.int)
  | [] => .nil
  | n :: ns => .cons (.int n) (rp_ints ns)
theorem law_sp {F : List D → Option (M × D)} {a : Addr} {ns : List Int} {E : XK} (h : SqL K H a (ns.map V.int)) (e : ∃ m, F [.lst (ns.map .int)] = some (m, .bl true)) : spJ K 1 F [.ref a] H (fun v _ => v = .bl true) E := by
  obtain ⟨m, e⟩ := e
  refine ⟨rfl, _, m, _, .cons ?_ .nil, e, fun v H' _ r => ?_⟩
  · rcases h with h | h
    · exact .lst h trivial (rp_ints ns)
    · exact .lstK h (rp_ints ns)
  · cases m <;> try exact r.elim
    · exact Rp.bl_inv r
    · obtain ⟨p, _, _, c⟩ := r; exact c.elim
end
end J
namespace J
open PySem L2
section
variable {m n : M} {i j : Int} {x y : Str} {b c : Bool} {ds es : List D} {d : D}
theorem eq_ii : gEq (m, .int i) (n, .int j) = some (.fr, .bl (decide (i = j))) := by simp [gEq, dSc, scal]
theorem eq_ss : gEq (m, .str x) (n, .str y) = some (.fr, .bl (decide (x = y))) := by simp [gEq, dSc, scal]
theorem eq_bb : gEq (m, .bl b) (n, .bl c) = some (.fr, .bl (decide (b = c))) := by simp [gEq, dSc, scal]
theorem ne_ii : gNe (m, .int i) (n, .int j) = some (.fr, .bl (!decide (i = j))) := by simp [gNe, dSc, scal]
theorem ne_ss : gNe (m, .str x) (n, .str y) = some (.fr, .bl (!decide (x = y))) := by simp [gNe, dSc, scal]
theorem add_ii : gAdd (m, .int i) (n, .int j) = some (.fr, .int (i + j)) := rfl
theorem add_ss (h : x.length + y.length ≤ sizeLine) : gAdd (m, .str x) (n, .str y) = some (.fr, .str (x ++ y)) := by
  show (match (none : Option (M × D)) with | some z => some z | none => gOr gAddS (gOr gCat gCatT) (m, .str x) (n, .str y)) = _
  show (match gAddS (m, .str x) (n, .str y) with | some z => some z | none => _) = _
  simp only [gAddS, if_pos h]
theorem cat_ll (hm : elm m ≠ .rb) (hn : elm n ≠ .rb) (h : ds.length + es.length ≤ sizeLine) : gAdd (m, .lst ds) (n, .lst es) = mkL (mJ m n) (ds ++ es) := by
  show (match gCat (m, .lst ds) (n, .lst es) with | some z => some z | none => none) = _
  simp only [gCat, hm, hn, or_self, if_false, h, if_true]
  cases mkL (mJ m n) (ds ++ es) <;> rfl
theorem cat_tt (hm : elm m ≠ .rb) (hn : elm n ≠ .rb) (h : ds.length + es.length ≤ sizeLine) : gAdd (m, .tup ds) (n, .tup es) = some (elm (mJ m n), .tup (ds ++ es)) := by
  show (match (none : Option (M × D)) with | some z => some z | none => gCatT (m, .tup ds) (n, .tup es)) = _
  simp only [gCatT, hm, hn, or_self, if_false, h, if_true]
theorem sub_ii : jSub (m, .int i) (n, .int j) = some (.fr, .int (i - j)) := rfl
theorem mul_r (h : -18446744073709551616 < j ∧ j < 18446744073709551616) : jMul (m, .int i) (n, .int j) = some (.fr, .int (i * j)) := by show (if _ then _ else _) = _; rw [if_pos (.inr h)]
theorem mul_l (h : -18446744073709551616 < i ∧ i < 18446744073709551616) : jMul (m, .int i) (n, .int j) = some (.fr, .int (i * j)) := by show (if _ then _ else _) = _; rw [if_pos (.inl h)]
theorem mod_ii (h : 0 < j) : jMod (m, .int i) (n, .int j) = some (.fr, .int (i % j)) := by show (if _ then _ else _) = _; rw [if_pos h]
theorem div_ii (h : 0 < j ∧ j < 1606938044258990275541962092341162602522202993782792835301376) : jDivJ (m, .int i) (n, .int j) = some (.fr, .int (i / j)) := by show (if _ then _ else _) = _; rw [if_pos h]
theorem pow_ii (h : 0 ≤ j ∧ j ≤ 1000000 ∧ i.natAbs < 2 ^ 64) : jPow (m, .int i) (n, .int j) = some (.fr, .int (i ^ j.toNat)) := by show (if _ then _ else _) = _; rw [if_pos h]
theorem pow64 : jPow (m, .int 2) (n, .int 64) = some (.fr, .int 18446744073709551616) := by
  rw [pow_ii (by decide)]
  have : (2 : Int) ^ (64 : Int).toNat = 18446744073709551616 := by decide
  rw [this]
theorem lt_ii : jLt (m, .int i) (n, .int j) = some (.fr, .bl (decide (i < j))) := rfl
theorem le_ii : jLe (m, .int i) (n, .int j) = some (.fr, .bl (decide (i ≤ j))) := rfl
theorem gt_ii : jGt (m, .int i) (n, .int j) = some (.fr, .bl (decide (j < i))) := rfl
theorem ge_ii : jGe (m, .int i) (n, .int j) = some (.fr, .bl (decide (j ≤ i))) := rfl
theorem neg_i : gNeg (m, .int i) = some (.fr, .int (-i)) := rfl
theorem ix_li : gIx (m, .lst ds) (n, .int i) = (atI ds i).map fun d => (elm m, d) := rfl
theorem ix_ti : gIx (m, .tup ds) (n, .int i) = (atI ds i).map fun d => (elm m, d) := rfl
theorem ix_si (h : x.length ≤ sizeLine) : gIx (m, .str x) (n, .int i) = (atI x.cps.toList i).map fun c => (.fr, .str ⟨#[c]⟩) := by simp [gIx, h]
theorem len_l : gLen [(m, .lst ds)] = some (.fr, .int ds.length) := rfl
theorem len_t : gLen [(m, .tup ds)] = some (.fr, .int ds.length) := rfl
theorem len_s (h : x.length ≤ sizeLine) : gLen [(m, .str x)] = some (.fr, .int x.length) := by simp [gLen, h]
theorem abs_i : gAbs [(m, .int i)] = some (.fr, .int (if i < 0 then -i else i)) := rfl
theorem int_i : gInt [(m, .int i)] = some (.fr, .int i) := rfl
theorem int_b : gInt [(m, .bl b)] = some (.fr, .int (if b then 1 else 0)) := rfl
theorem dBl_b : dBl (m, .bl b) = some b := rfl
theorem dInt_i : dInt (m, .int i) = some i := rfl
theorem slot_fr : toSlot (.fr, d) = some (.fr, d) := rfl
theorem slot_al : toSlot (.al, d) = some (.al, d) := rfl
theorem slot_un : toSlot (.un, d) = some (.bo, d) := rfl
theorem out_fr {e : Ev} : out (.rt e .fr d) = some (.fr, d) := rfl
theorem out_un {e : Ev} : out (.rt e .un d) = some (.un, d) := rfl
theorem out_bo {e : Ev} : out (.rt e .bo d) = some (.un, d) := rfl
theorem out_nx {e : Ev} : out (.nx e) = some (.fr, .non) := rfl
theorem out_al {e : Ev} (h : d.imm = true) : out (.rt e .al d) = some (.fr, d) := by simp [out, h]
theorem sto_fr : sto .fr d = true := rfl
theorem sto_un : sto .un d = true := rfl
theorem sto_al : sto .al d = d.imm := rfl
theorem im_i : D.imm (.int i) = true := by simp only [D.imm]
theorem im_s : D.imm (.str x) = true := by simp only [D.imm]
theorem im_b : D.imm (.bl b) = true := by simp only [D.imm]
theorem im_n : D.imm .non = true := by simp only [D.imm]
theorem elm_al : elm .al = .al := rfl
theorem elm_fr : elm .fr = .fr := rfl
theorem elm_un : elm .un = .fr := rfl
theorem elm_bo : elm .bo = .fr := rfl
theorem mkL_al (h : D.imms ds = true) : mkL .al ds = some (.un, .lst ds) := by simp [mkL, elm, h]
theorem mkL_fr : mkL .fr ds = some (.un, .lst ds) := by simp [mkL, elm]
theorem seq_nx {f g : Ev → Option Fl} {e e' : Ev} (h : f e = some (.nx e')) : jSeq f g e = g e' := by simp [jSeq, h]
theorem seq_rt {f g : Ev → Option Fl} {e e' : Ev} (h : f e = some (.rt e' m d)) : jSeq f g e = some (.rt e' m d) := by simp [jSeq, h]
theorem if_t {c : Ev → Option Bool} {f g : Ev → Option Fl} {e : Ev} (h : c e = some true) : jIf c f g e = f e := by simp [jIf, h]
theorem if_f {c : Ev → Option Bool} {f g : Ev → Option Fl} {e : Ev} (h : c e = some false) : jIf c f g e = g e := by simp [jIf, h]
theorem imms_ints : ∀ ns : List Int, D.imms (ns.map .int) = true
  | [] => by simp only [List.map_nil, D.imms]
  | n :: ns => by simp only [List.map_cons, D.imms, D.imm, imms_ints ns, Bool.and_self]
theorem atI_nat {α : Type} {l : List α} {k : Nat} (h : k < l.length) : L2.atI l (k : Int) = some l[k] := by
  unfold L2.atI L2.ixN
  rw [if_pos (Int.natCast_nonneg k), if_pos (by omega)]
  simp [h]
theorem atI_get {α : Type} {l : List α} {k : Int} (h0 : 0 ≤ k) (h1 : k < l.length) : L2.atI l k = some (l[k.toNat]'(by omega)) := by
  unfold L2.atI L2.ixN
  rw [if_pos h0, if_pos h1]
  have : k.toNat < l.length := by omega
  simp [this]
theorem atI_ints {ns : List Int} {k : Int} (h0 : 0 ≤ k) (h1 : k < ns.length) : ∃ c, L2.atI (ns.map D.int) k = some (.int c) := by
  rw [atI_get h0 (by simpa using h1)]
  exact ⟨ns[k.toNat]'(by omega), by simp⟩
end
end J
namespace J
open PySem L2
theorem forL_inv {g : M × D → Ev → Option Ev} {b : Ev → Option Fl} {m : M} : ∀ {ds : List D} {e : Ev} (Iv : Nat → Ev → Prop), Iv 0 e →
    (∀ (k : Nat) d e, ds[k]? = some d → Iv k e → ∃ e1 e2, g (m, d) e = some e1 ∧ b e1 = some (.nx e2) ∧ Iv (k + 1) e2) → ∃ e', forL g b m ds e = some (.nx e') ∧ Iv ds.length e'
  | [], e, Iv, h0, _ => ⟨e, rfl, h0⟩
  | d :: ds, e, Iv, h0, hs => by
    obtain ⟨e1, e2, h1, h2, h3⟩ := hs 0 d e rfl h0
    obtain ⟨e', h4, h5⟩ := forL_inv (ds := ds) (e := e2) (fun k e => Iv (k + 1) e) h3 fun k d e hd hi => hs (k + 1) d e (by simpa using hd) hi
    refine ⟨e', ?_, h5⟩
    simp only [forL, h1, h2, Option.bind_some]
    exact h4
theorem rng_at {lo : Int} {n k : Nat} {d : D} (h : (rng lo n)[k]? = some d) : k < n ∧ d = .int (lo + k) := by
  unfold rng at h
  rw [List.getElem?_map] at h
  have hk : k < n := by
    rcases Nat.lt_or_ge k n with z | z
    · exact z
    · rw [List.getElem?_eq_none (by simpa using z)] at h; cases h
  rw [List.getElem?_range hk] at h
  cases h
  exact ⟨hk, rfl⟩
theorem rng_len {lo : Int} {n : Nat} : (rng lo n).length = n := by simp [rng]
theorem szT {n : Nat} (h : n ≤ 1000) : (n ≤ sizeLine) = True := eq_true (Nat.le_trans h (by decide))
theorem szT' {n : Nat} (h : n ≤ 1000) : (n < sizeLine) = True := eq_true (Nat.lt_of_le_of_lt h (by decide))
theorem mJ_bu : mJ .bo .un = .fr := rfl
theorem mJ_au : mJ .al .un = .al := rfl
end J
namespace J
open PySem PySem.Spec PyProof.Rows L2
section
variable {X : Cx} {pins : List (Addr × Obj)} {σ : L2.St} {H : Hp} {s : Shared} {h' : Heap}
theorem inv_turned {fp : List Addr} {t' : Nat} (I : L2.Inv X pins σ H s) (k : ∀ b o, b ∉ fp → s.heap.get? b = some o → h'.get? b = some o) (hf : ∀ b ∈ fp, FpOk X pins H b) : L2.Inv X pins σ H { s with heap := h', toks := t' } := by
  have nit : ∀ b u, H b = some u → b ∉ fp := fun b u e z => by rw [(hf b z).1] at e; cases e
  refine I.step (g' := s.gens) (d' := s.drawn) (ch := fp) (fun b hb => ?_) (fun b o _ _ hc e _ => k b o hc e) (fun b o _ _ hc e _ => ⟨o.slots, k b o hc e⟩) (fun _ _ _ _ n => n)
    (fun b o hc e => ⟨o, k b o hc e⟩) (fun _ _ e => e) (fun _ _ _ e => e) (fun b ps e => ⟨#[], by rw [e]; simp⟩) (fun m hm => ?_) (fun b u e => ?_) I.bare
  · obtain ⟨f0, f1, f2, f3, f4, f5⟩ := hf b hb
    exact ⟨f3, f1, f4, f5⟩
  · obtain ⟨o, es, ep, ho, r⟩ := hm
    exact ⟨o, es, ep, k _ o (fun z => (hf _ z).2.1 rfl) ho, r⟩
  · refine (I.hok b u e).stay (fun c v hc q => k c v ?_ q) (fun _ q => q) fun _ _ q => q
    rcases hc with z | z
    · rw [z]; exact nit b u e
    · exact nit c _ z
theorem inv_turnedL {fp : List Addr} {t' : Nat} {o : HO} (I : L2.Inv X pins σ H s) (k : ∀ b o, b ∉ fp → s.heap.get? b = some o → h'.get? b = some o) (hf : ∀ b ∈ fp, FpOk X pins H b) (new : ObjOk X.prog X.w (upd H s.heap.objs.size o) h' s.heap.objs.size o) :
    L2.Inv X pins σ (upd H s.heap.objs.size o) { s with heap := h', toks := t' } := by
  have nit : ∀ b u, H b = some u → b ∉ fp := fun b u e z => by rw [(hf b z).1] at e; cases e
  have hT : H s.heap.objs.size = none := I.hok.fresh (Nat.le_refl _)
  have neT : ∀ b u, H b = some u → b ≠ s.heap.objs.size := fun b u e => ne_of_none e hT
  have neB : ∀ b o, s.heap.get? b = some o → b ≠ s.heap.objs.size := fun b o e => Nat.ne_of_lt (Heap.lt_size e)
  refine I.step (g' := s.gens) (d' := s.drawn) (ch := fp) (fun b hb => ?_) (fun b o _ _ hc e _ => k b o hc e) (fun b o _ _ hc e _ => ⟨o.slots, k b o hc e⟩) (fun b o _ e n => by rw [upd_ne (neB b o e)]; exact n)
    (fun b o hc e => ⟨o, k b o hc e⟩) (fun b xs e => by rw [upd_ne (neT b _ e)]; exact e) (fun b _ _ e => by rw [upd_ne (neT b _ e)]; exact e) (fun b ps e => ⟨#[], by rw [upd_ne (neT b _ e), e]; simp⟩) (fun m hm => ?_) (fun b u e => ?_) I.bare
  · obtain ⟨f0, f1, f2, f3, f4, f5⟩ := hf b hb
    exact ⟨f3, f1, f4, f5⟩
  · obtain ⟨o, es, ep, ho, r⟩ := hm
    exact ⟨o, es, ep, k _ o (fun z => (hf _ z).2.1 rfl) ho, r⟩
  · by_cases hb : b = s.heap.objs.size
    · subst hb; rw [upd_same] at e; cases e; exact new
    · rw [upd_ne hb] at e
      refine (I.hok b u e).stay (fun c v hc q => k c v ?_ q) (fun c q => by rw [upd_ne (neT c _ q)]; exact q) fun c xs q => by rw [upd_ne (neT c _ q)]; exact q
      rcases hc with z | z
      · rw [z]; exact nit b u e
      · exact nit c _ z
end
noncomputable def Ite (K : PySem.W.Frag) (a : Addr) : It :=
  ⟨fun i H => ∃ xs x, SqL K H a xs ∧ xs[i]? = some x, fun i H x H' => ∃ t y, x = .ref t ∧ H t = none ∧ H' = upd H t (.tup [.int i, y]) ∧ ∀ xs, SqL K H a xs → xs[i]? = some y, fun i H => ∃ xs, SqL K H a xs ∧ xs.length ≤ i⟩
theorem turn_enum {P : Program} {w : World} {K : PySem.W.Frag} {elts : List Expr} {x1} {pos : Pos} (a e it : Addr) (hei : e ≠ it) : Turn P w K (.Tuple elts x1 pos) (Ite K a) [e, it] e (fun i h => (∃ old, IsEnum h e it i old) ∧ h.IsListIter it a i) where
  mem := by simp
  obj := fun i h st b hb => by
    obtain ⟨⟨old, he⟩, o, ho, c, d⟩ := st
    rcases List.mem_cons.mp hb with rfl | hb
    · exact ⟨_, he, fun v z => nomatch z⟩
    · have e : b = it := by simpa using hb
      subst e
      exact ⟨o, ho, fun v z => by rw [d] at z; cases z⟩
  keep := fun i h h' st k => by
    obtain ⟨⟨old, he⟩, hit⟩ := st
    exact ⟨⟨old, k e (by simp) _ he⟩, hit.at fun o q => k it (by simp) o q⟩
  item := by
    intro X hP hw hK hc i pins s σ H E I hf st hg
    subst hP hw hK
    obtain ⟨xs, x, hq, hx⟩ := hg
    obtain ⟨its, rv, p, hz⟩ := I.list hq
    obtain ⟨u, hu, ru⟩ := rv.get hx
    obtain ⟨⟨old, he⟩, hit⟩ := st
    have hel : e < s.heap.objs.size := Heap.lt_size he
    have hil : it < s.heap.objs.size := by obtain ⟨_, q, _⟩ := hit; exact Heap.lt_size q
    have hT : H s.heap.objs.size = none := I.hok.fresh (Nat.le_refl _)
    refine wpAny_pyNext_enum_item he hit p.isList (x := u) (by simpa using hu) hei fun h1 ho hit1 ht hsz hk => ⟨_, rfl, ?_⟩
    refine wpAny_letOwnedTupleGo_enum ho fun h2 he2 sb => ?_
    have ht2 : h2.get? s.heap.objs.size = some { cls := .type "tuple", data := .seq #[.int i s.toks, u] } := (sb.2 _ (Nat.ne_of_gt hel)).trans ht
    have k2 : ∀ b o, b ∉ [e, it] → s.heap.get? b = some o → h2.get? b = some o := fun b o nb q => by
      have n1 : b ≠ e := fun z => nb (by simp [z])
      have n2 : b ≠ it := fun z => nb (by simp [z])
      exact (sb.2 b n1).trans (hk b o n1 n2 q)
    refine ⟨.ref s.heap.objs.size, upd H s.heap.objs.size (.tup [.int i, x]), ?_, rfl, ⟨s.heap.objs.size, x, rfl, hT, rfl, fun ys hy => by rw [I.list_inj hy hq]; exact hx⟩, ⟨⟨_, by simpa using he2⟩, hit1.at fun o q => (sb.2 it hei.symm).trans q⟩, fun b hb => ?_⟩
    · refine inv_turnedL (t' := s.toks + 1) I k2 hf ⟨by show 2 ≤ sizeLine; decide, [.int i s.toks, u], .cons ⟨_, rfl⟩ (.cons ru .nil), ⟨_, ht2, rfl, _, rfl⟩⟩
    · have hb' : b < s.heap.objs.size := by
        rcases List.mem_cons.mp hb with rfl | hb
        · exact hel
        · have e : b = it := by simpa using hb
          rw [e]; exact hil
      rw [upd_ne (Nat.ne_of_lt hb')]
      exact (hf b hb).1
  done := by
    intro X hP hw hK hc i pins s σ H E I hf st hg
    subst hP hw hK
    obtain ⟨xs, hq, hx⟩ := hg
    obtain ⟨its, rv, p, hz⟩ := I.list hq
    obtain ⟨⟨old, he⟩, hit⟩ := st
    have hl := rv.length
    refine wpAny_pyNext_enum_end (I.ok.hd hc) he hit p.isList (by simp; omega) fun h1 eb => ⟨rfl, ?_⟩
    exact inv_turned (fp := [e, it]) (t' := s.toks) I (fun b o nb q => eb b o (fun z => nb (by simp [z])) q) hf
  self := fun A i s Q E st h => by
    obtain ⟨⟨old, he⟩, _⟩ := st
    exact wpAny_pyIter_enum he h
section
variable {X : Cx}
noncomputable def iEnum (K : PySem.W.Frag) (ta : TA) : TI := fun σ H R => ta σ H fun vs H1 => ∃ a xs, vs = [.ref a] ∧ SqL K H1 a xs ∧ R (Ite K a) H1
theorem pi_enum {a : Expr} {ta : TA} {p pos pos' : Pos} {elts : List Expr} {x1} (hg : Gl X "enumerate") (hm : X.mg "enumerate" = none) (ha : PA X [a] ta) (hs : starEach [a] X.env = [(false, eval a X.env)] := by rfl) : PI X (.Tuple elts x1 pos') (.Call (.Name "enumerate" p) [a] [] pos) (iEnum X.K ta) := by
  intro pins s σ H R I h
  refine Call_ (ld_blt I hg hm PyProof.Rows.Boot.«enumerate» (PyProof.Rows.callWith_type1 (thn (ha pos pins s σ H _ I h) fun us s1 ⟨vs, H1, I1, r1, q1⟩ => ?_) hs rfl))
  obtain ⟨l, xs, e, hq, q⟩ := q1
  subst e
  cases r1 with
  | cons r rr =>
    cases rr
    cases r
    obtain ⟨its, rv, pl, hz⟩ := I1.list hq
    refine call_enumerate_list pl.isList fun h1 he hit hsz hk => ?_
    have I2 : L2.Inv X pins σ H1 { s1 with heap := h1 } := I1.kept (t' := s1.toks) hk
    refine wpAny_pyIter_enum he ?_
    have n1 : s1.heap.objs.size + 1 ≠ s1.heap.objs.size := by omega
    refine ⟨s1.heap.objs.size + 1, [s1.heap.objs.size + 1, s1.heap.objs.size], _, _, H1, rfl, I2, turn_enum l _ _ n1, ⟨⟨_, he⟩, hit⟩, fun b hb => ?_, q⟩
    have hb' : s1.heap.objs.size ≤ b := by
      rcases List.mem_cons.mp hb with rfl | hb
      · omega
      · have e : b = s1.heap.objs.size := by simpa using hb
        exact Nat.le_of_eq e.symm
    have z := I1.fpOk (H' := H1) hb' (I1.hok.fresh hb')
    exact z
theorem pi_enumK {K : PySem.W.Frag} {a : Expr} {ta : TA} {p pos pos' : Pos} {elts : List Expr} {x1} (hK : X.K = K) (hg : Gl X "enumerate") (hm : X.mg "enumerate" = none) (ha : PA X [a] ta) (hs : starEach [a] X.env = [(false, eval a X.env)] := by rfl) : PI X (.Tuple elts x1 pos') (.Call (.Name "enumerate" p) [a] [] pos) (iEnum K ta) := by subst hK; exact pi_enum hg hm ha hs
end
noncomputable def enumD (ds : List D) : List D := ds.mapIdx fun i d => .tup [.int i, d]
noncomputable def itE (fs : Ev → Option (List (M × D))) : Ev → Option (M × List D) := fun e => (fs e).bind fun l => match l with
  | [(m, .lst ds)] => (itm m).map fun n => (n, enumD ds)
  | _ => none
section
variable {K : PySem.W.Frag} {H H' H₀ : Hp} {O O' : Addr → Prop} {σ : L2.St} {env : Ev}
theorem itok_enum {a : Addr} {xs : List V} {ds : List D} {n : M} (e : slm2 n = true) (on : ∀ a o, O a → H a = some o → ¬ isT o) (hr : (Rd H a (.lst xs) ∧ ¬ O a) ∨ SqK K a xs) (r : Rps K (NM H₀ O n) H xs ds) : ItOk K H₀ O (Ite K a) H n (enumD ds) := by
  have st : ∀ {O2 : Addr → Prop} {H2 : Hp}, Stp O H O2 H2 → SqL K H2 a xs := fun {O2 H2} s => by
    rcases hr with ⟨h | ⟨o, h⟩, ha⟩ | h
    · exact .inl (.inl (s _ _ h ha).1)
    · exact .inl (.inr ⟨o, (s _ _ h ha).1⟩)
    · exact .inr h
  have l : (enumD ds).length = ds.length := by simp [enumD]
  refine ⟨fun O2 H2 i s hi => ?_, fun O2 H2 i x H3 s hi y => ?_, fun O2 H2 s => ⟨xs, st s, by rw [r.len, l]; exact Nat.le_refl _⟩⟩
  · rw [l] at hi
    exact ⟨xs, xs[i]'(by rw [r.len]; exact hi), st s, by simp⟩
  · rw [l] at hi
    obtain ⟨t, z, rfl, ht, rfl, y⟩ := y
    have y := y xs (st s)
    obtain ⟨v, hv, rv⟩ := r.get (i := i) (d := ds[i]) (by simp [hi])
    rw [y] at hv; cases hv
    have sm : Same H2 (upd H2 t (.tup [.int i, z])) := same_newJ ht
    have hz := (val_stp e on s rv).keep sm
    refine ⟨sm, .tup [.int i, ds[i]], by simp [enumD, hi], ?_⟩
    cases n
    · exact Rp.tup (SqT.of upd_same) (.cons (.int _) (.cons hz .nil))
    · exact Rp.tup (SqT.of upd_same) (.cons (.int _) (.cons hz .nil))
    · cases e
    · cases e
    · cases e
    · cases e
    · cases e
theorem ji_enum {t : TA} {fs : Ev → Option (List (M × D))} (h : JTA K t fs) : JI K (iEnum K t) (itE fs) := by
  intro H₀ O H σ env R m ds Re e q
  obtain ⟨l, el, e⟩ := bind2 e
  split at e
  · rename_i m0 d0
    cases em : itm m0 with
    | none => rw [em] at e; cases e
    | some n =>
      rw [em] at e; cases e
      refine h H₀ O H σ env _ _ Re el fun vs H1 s1 h1 => ?_
      obtain ⟨v, rfl, hv⟩ := h1.one
      obtain ⟨e1, a, xs, rfl, hr, r⟩ := itm_val em hv
      exact ⟨a, xs, rfl, hr.elim (fun z => .inl z.1) .inr, q _ H1 s1 e1 (itok_enum e1 (Re.keep s1).on hr r)⟩
  · cases e
end
end J
namespace J
open PySem L2
noncomputable def cim : D → Bool
  | .lst ds => D.imms ds
  | .dk ks => D.imms (ks.map (·.2))
  | .dt ks => D.imms (ks.map (·.2))
  | _ => false
noncomputable def IOA (io : List Nat) (vs : List V) (a : Addr) : Prop := ∃ i, i ∈ io ∧ vs[i]? = some (.ref a)
structure ArgsIO (K : PySem.W.Frag) (H : Hp) (io : List Nat) (vs : List V) (ds : List D) : Prop where
  len : vs.length = ds.length
  rd : ∀ (i : Nat) v d, i ∉ io → vs[i]? = some v → ds[i]? = some d → Rp K (fun a => ¬ IOA io vs a) H v d
  cl : ∀ (i : Nat) d, i ∈ io → ds[i]? = some d → ∃ p, vs[i]? = some (.ref p) ∧ Cell K (fun _ => False) H p d
  dj : ∀ (i j : Nat) p, i ∈ io → j ∈ io → vs[i]? = some (.ref p) → vs[j]? = some (.ref p) → i = j
noncomputable def spIO (K : PySem.W.Frag) (n : Nat) (io : List Nat) (F : List D → Option (M × D × List D)) : Sp := fun vs H Q _ => vs.length = n ∧ ∃ ds m d outs, ArgsIO K H io vs ds ∧ F ds = some (m, d, outs) ∧
  ∀ v H', (∀ a o, ¬ IOA io vs a → H a = some o → H' a = some o) → outs.length = io.length → (∀ (k i : Nat) o, io[k]? = some i → outs[k]? = some o → ∃ p, vs[i]? = some (.ref p) ∧ Cell K (fun _ => False) H' p o) → RetOk K H H' m d v → Q v H'
noncomputable def envOf : Fl → Ev
  | .nx e => e
  | .bk e => e
  | .ct e => e
  | .rt e _ _ => e
noncomputable def collect : List Nat → Ev → Option (List D)
  | [], _ => some []
  | i :: io, e => match e[i]? with
    | some (some (.bi, d)) => if cim d = true then (collect io e).bind fun r => some (d :: r) else none
    | _ => none
noncomputable def outIO (io : List Nat) (fl : Fl) : Option (M × D × List D) := (out fl).bind fun x => (collect io (envOf fl)).bind fun o => some (x.1, x.2, o)
noncomputable def startIO (io : List Nat) (ds : List D) : Ev := ds.mapIdx fun i d => some (if i ∈ io then M.bi else M.al, d)
noncomputable def fnIO (L : Nat) (io : List Nat) (g : Ev → Option Fl) : List D → Option (M × D × List D) := fun ds => (g (startIO io ds ++ List.replicate (L - ds.length) none)).bind (outIO io)
section
variable {K : PySem.W.Frag} {H H' H₀ : Hp} {I : Nat → Option Addr} {O O' : Addr → Prop} {σ : L2.St} {env : Ev}
theorem Cell.im {N N' : Addr → Prop} {p : Addr} {d : D} (e : cim d = true) (h : Cell K N H p d) : Cell K N' H p d := by
  cases d <;> simp only [cim] at e <;> try (cases e; done)
  · obtain ⟨xs, q, r⟩ := h; exact ⟨xs, q, r.im e⟩
  · obtain ⟨xs, q, z, r⟩ := h; exact ⟨xs, q, z, r.im e⟩
  · obtain ⟨xs, q, z, r⟩ := h; exact ⟨xs, q, z, r.im e⟩
theorem collect_len : ∀ {io : List Nat} {e : Ev} {r : List D}, collect io e = some r → r.length = io.length
  | [], _, _, h => by cases h; rfl
  | i :: io, e, r, h => by
    simp only [collect] at h
    split at h
    · split at h
      · obtain ⟨r', er, h⟩ := bind2 h
        cases h
        rw [List.length_cons, List.length_cons, collect_len er]
      · cases h
    · cases h
theorem collect_at : ∀ {io : List Nat} {e : Ev} {r : List D} {k i : Nat} {o : D}, collect io e = some r → io[k]? = some i → r[k]? = some o → e[i]? = some (some (.bi, o)) ∧ cim o = true
  | [], _, _, _, _, _, _, h1, _ => by simp at h1
  | j :: io, e, r, k, i, o, h, h1, h2 => by
    simp only [collect] at h
    split at h
    · rename_i d hd
      split at h
      · rename_i hc
        obtain ⟨r', er, h⟩ := bind2 h
        cases h
        cases k with
        | zero => simp at h1 h2; subst h1; subst h2; exact ⟨hd, hc⟩
        | succ k => exact collect_at er (by simpa using h1) (by simpa using h2)
      · cases h
    · cases h
theorem body_okIO {ts : TS} {g : Ev → Option Fl} {n : Nat} {io : List Nat} {N : List Str} {vs : List V} {Q : VK} {E : XK} (h : JS K ts g) (hs : spIO K n io (fnIO N.length io g) vs H Q E) : ts { nx := fun _ H' => Q .non H', rt := Q } (L2.start N vs) H := by
  obtain ⟨hl, ds, m, d, outs, A, e, q⟩ := hs
  obtain ⟨fl, ef, eo⟩ := bind2 e
  obtain ⟨x, ex, eo⟩ := bind2 eo
  obtain ⟨oo, ec, eo⟩ := bind2 eo
  cases eo
  let I0 : Nat → Option Addr := fun i => if i ∈ io then (match vs[i]? with | some (.ref p) => some p | _ => none) else none
  have I0e : ∀ {i p}, I0 i = some p → i ∈ io ∧ vs[i]? = some (.ref p) := fun {i p} z => by
    simp only [I0] at z
    split at z
    · rename_i hi
      split at z
      · rename_i w hw; cases z; exact ⟨hi, hw⟩
      · cases z
    · cases z
  have I0m : ∀ {i p}, i ∈ io → vs[i]? = some (.ref p) → I0 i = some p := fun {i p} hi hv => by simp only [I0, if_pos hi, hv]
  have start0 : ∀ {i : Nat} {y : M × D}, (startIO io ds ++ List.replicate (N.length - ds.length) none)[i]? = some (some y) → ds[i]? = some y.2 ∧ y.1 = (if i ∈ io then M.bi else M.al) := fun {i y} z => by
    rw [List.getElem?_append] at z
    split at z
    · rename_i hi
      simp only [startIO, List.getElem?_mapIdx, List.length_mapIdx] at z hi
      rw [List.getElem?_eq_getElem hi] at z ⊢
      simp only [Option.map_some, Option.some.injEq] at z
      subst z; exact ⟨rfl, rfl⟩
    · have := List.mem_of_getElem? z
      have := List.eq_of_mem_replicate this
      cases this
  have σat : ∀ {i : Nat} {v : V}, vs[i]? = some v → (L2.start N vs)[i]? = some (some v) := fun {i v} z => by
    unfold L2.start
    have hi : i < vs.length := (List.getElem?_eq_some_iff.mp z).1
    rw [List.getElem?_append_left (by simpa using hi), List.getElem?_map, z]; rfl
  have R : Rel K H I0 (IOA io vs) H (L2.start N vs) (startIO io ds ++ List.replicate (N.length - ds.length) none) := by
    refine ⟨⟨paired_of ?_ ?_, ?_, fun a o e => ⟨o, e⟩, ?_⟩, fun a o _ e => e, ?_, ?_, ?_, ?_⟩
    · unfold L2.start startIO; simp [A.len]
    · intro j y z hy hz m' d' ey
      subst ey
      obtain ⟨hd, hm⟩ := start0 hy
      have hj : j < vs.length := by rw [A.len]; exact (List.getElem?_eq_some_iff.mp hd).1
      have hv : vs[j]? = some vs[j] := List.getElem?_eq_getElem hj
      rw [σat hv] at hz; cases hz
      simp only at hm hd
      by_cases hi : j ∈ io
      · rw [if_pos hi] at hm; subst hm
        obtain ⟨p, hp, c⟩ := A.cl j d' hi hd
        rw [hv] at hp
        refine ⟨rfl, _, rfl, p, Option.some.inj hp, ⟨j, hi, by rw [hv, hp]⟩, c.wk fun _ z _ => z.elim⟩
      · rw [if_neg hi] at hm; subst hm
        exact ⟨rfl, _, rfl, A.rd j _ d' hi hv hd⟩
    · rintro a ⟨i, hi, hv⟩
      have hlt : i < ds.length := by rw [← A.len]; exact (List.getElem?_eq_some_iff.mp hv).1
      obtain ⟨p, hp, c⟩ := A.cl i ds[i] hi (List.getElem?_eq_getElem hlt)
      rw [hv] at hp; cases hp
      obtain ⟨o, eo, _⟩ := c.some
      exact ⟨o, eo⟩
    · rintro a o ⟨i, hi, hv⟩ eo
      have hlt : i < ds.length := by rw [← A.len]; exact (List.getElem?_eq_some_iff.mp hv).1
      obtain ⟨p, hp, c⟩ := A.cl i ds[i] hi (List.getElem?_eq_getElem hlt)
      rw [hv] at hp; cases hp
      obtain ⟨o', eo', nt⟩ := c.some
      rw [eo] at eo'; cases eo'; exact nt
    · rintro a ⟨i, hi, hv⟩; exact .inl ⟨i, I0m hi hv⟩
    · intro i d' p h1 p1
      obtain ⟨hd, hm⟩ := start0 h1
      by_cases hi : i ∈ io
      · obtain ⟨p', hp, _⟩ := A.cl i d' hi hd
        rw [σat hp] at p1; cases p1
        exact I0m hi hp
      · rw [if_neg hi] at hm; cases hm
    · intro i j y z p h1 h2 o1 o2 p1 p2
      obtain ⟨d1, m1⟩ := start0 h1
      obtain ⟨d2, m2⟩ := start0 h2
      have hi : i ∈ io := by
        by_cases hi : i ∈ io
        · exact hi
        · rw [if_neg hi] at m1; rw [m1] at o1; cases o1
      have hj : j ∈ io := by
        by_cases hj : j ∈ io
        · exact hj
        · rw [if_neg hj] at m2; rw [m2] at o2; cases o2
      obtain ⟨q1, hp1, _⟩ := A.cl i _ hi d1
      obtain ⟨q2, hp2, _⟩ := A.cl j _ hj d2
      rw [σat hp1] at p1; cases p1
      rw [σat hp2] at p2; cases p2
      exact A.dj i j p hi hj hp1 hp2
    · have no : ∀ {i : Nat} {d : D}, (startIO io ds ++ List.replicate (N.length - ds.length) none)[i]? = some (some (M.nb, d)) → False := fun {i d} z => by
        obtain ⟨_, hm⟩ := start0 z
        simp only at hm
        split at hm <;> cases hm
      exact ⟨fun i j d d' h1 => (no h1).elim, fun i j d x p q xs h1 => (no h1).elim⟩
  have fin : ∀ (O' : Addr → Prop) (H' : Hp) (σ' : L2.St) (v : V), Rel K H I0 O' H' σ' (envOf fl) → RetOk K H H' x.1 x.2 v → Q v H' := by
    intro O' H' σ' v R' ro
    refine q v H' (fun a o n e => R'.fr a o (fun i z => n ⟨i, (I0e z).1, (I0e z).2⟩) e) (collect_len ec) (fun k i o h1 h2 => ?_) ro
    obtain ⟨he, hc⟩ := collect_at ec h1 h2
    obtain ⟨w, hw, _, p, rfl, _, c⟩ := R'.e.at he
    have := R'.ba i o p he hw
    exact ⟨p, (I0e this).2, c.im hc⟩
  refine h H I0 (IOA io vs) H _ _ _ fl R ef ?_
  cases fl with
  | nx e' => cases ex; exact fun O' H' σ' R' st => fin O' H' σ' .non R' Rp.non
  | bk e' => cases ex
  | ct e' => cases ex
  | rt e' m' d' =>
    intro O' H' σ' v R' st hv
    refine fin O' H' σ' v R' ?_
    cases m' <;> simp only [out] at ex
    · split at ex
      · rename_i hi; cases ex; exact (show Rp K _ H' v d' from hv.weak.im hi)
      · cases ex
    · cases ex; exact (show Rp K _ H' v d' from Rp.wk (fun a h _ => h.2) hv)
    · cases ex
      obtain ⟨p, rfl, _, h0, _, c⟩ := hv
      exact ⟨p, rfl, h0, c.wk fun a h _ => ⟨h.1.2, h.2⟩⟩
    · cases ex
      obtain ⟨p, rfl, hO, h0, c⟩ := hv
      exact ⟨p, rfl, h0, c.wk fun a h _ => ⟨h.2, fun z => h.1 (z ▸ hO)⟩⟩
    · cases ex
    · cases ex; exact (show Rp K _ H' v d' from hv)
    · cases ex; exact (show Rp K _ H' v d' from Nest.rp (fun _ z => z) hv)
end
end J
namespace J
open PySem L2
section
variable {K : PySem.W.Frag} {H H' H₀ : Hp} {I : Nat → Option Addr} {O O' : Addr → Prop} {σ : L2.St} {env : Ev}
theorem Rel.muts {env' : Ev} {P : Addr → Prop} (R : Rel K H₀ I O H σ env) (hP : ∀ a, P a → O a) (hW : ∀ a, P a → ∃ (j : Nat) (x : M × D), env[j]? = some (some x) ∧ own x.1 = true ∧ σ[j]? = some (some (.ref a))) (kp : ∀ a o, ¬ P a → H a = some o → H' a = some o) (cs : ∀ a, P a → ∃ o, H' a = some o ∧ ¬ isT o) (hl : env'.length = env.length)
    (sl : ∀ (j : Nat) x', env'[j]? = some (some x') → (env[j]? = some (some x') ∧ ∀ p, own x'.1 = true → σ[j]? = some (some (.ref p)) → ¬ P p) ∨
      (∃ d p, env[j]? = some (some (x'.1, d)) ∧ own x'.1 = true ∧ σ[j]? = some (some (.ref p)) ∧ Cell K (fun a => ¬ O a ∧ H₀ a = none) H' p x'.2)) :
    Rel K H₀ I O H' σ env' ∧ Stp O H O H' := by
  have kN : ∀ {N : Addr → Prop}, (∀ a, N a → ¬ O a) → Keeps N H H' := fun w a u h z => kp a u (fun hp => by
    rcases z with z | z
    · exact w a z (hP a hp)
    · exact R.e.on a u (hP a hp) h z) h
  have old : ∀ {j : Nat} {x' : M × D}, env'[j]? = some (some x') → ∃ d, env[j]? = some (some (x'.1, d)) := fun {j x'} h => by
    rcases sl j x' h with ⟨q, _⟩ | ⟨d, p, q, _⟩
    · exact ⟨x'.2, q⟩
    · exact ⟨d, q⟩
  have nbP : ∀ {j : Nat} {d : D} {p : Addr} {xs : List V}, env[j]? = some (some (.nb, d)) → σ[j]? = some (some (.ref p)) → H p = some (.lst xs) → ∀ a, P a → a ≠ p ∧ V.ref a ∉ xs := fun {j d p xs} h1 h2 h3 a ha => by
    obtain ⟨j', x, e1, e2, e3⟩ := hW a ha
    exact R.nd.2 j j' d x p a xs h1 h2 e1 e2 e3 h3
  have nbO : ∀ {j : Nat} {d : D}, env'[j]? = some (some (.nb, d)) → env[j]? = some (some (.nb, d)) := fun {j d} h => by
    rcases sl j (.nb, d) h with ⟨q, _⟩ | ⟨d0, p, q, ow, _⟩
    · exact q
    · cases ow
  refine ⟨⟨⟨paired_of (by rw [hl]; exact Paired.length R.e.sl) ?_, ?_, ?_, ?_⟩, ?_, R.ow, ?_, ?_, ?_⟩, ?_⟩
  · intro j y z hy hz m d ey
    subst ey
    rcases sl j (m, d) hy with ⟨q, np⟩ | ⟨d0, p, q, ow, hp, c⟩
    · obtain ⟨v, hv, n, hm⟩ := R.e.at q
      rw [hz] at hv; cases hv
      refine ⟨n, v, rfl, ?_⟩
      cases m
      · exact Rp.keep (kN fun a h => h) hm
      · exact Rp.keep (kN fun a h => h.1) hm
      · cases n
      · obtain ⟨p, rfl, h1, h2, c⟩ := hm
        obtain ⟨o, eo, _⟩ := c.some
        exact ⟨p, rfl, h1, h2, c.keep (kN fun a h => h.1) ((kp p o (np p rfl hz) eo).trans eo.symm)⟩
      · obtain ⟨p, rfl, h1, c⟩ := hm
        obtain ⟨o, eo, _⟩ := c.some
        exact ⟨p, rfl, h1, c.keep (kN fun a h => h.1) ((kp p o (np p rfl hz) eo).trans eo.symm)⟩
      · cases n
      · obtain ⟨p', qs, dss, rfl, e2, h1, h2, h3, h4, h5, h6⟩ := hm
        have nb := nbP q hz h3
        exact ⟨p', qs, dss, rfl, e2, h1, h2, kp _ _ (fun z => (nb _ z).1 rfl) h3, h4, h5, npairs (fun x ds hx ⟨xs, a, r⟩ => ⟨xs, kp _ _ (fun z => (nb _ z).2 (List.mem_map.mpr ⟨x, hx, rfl⟩)) a, r.keep (kN fun a h => h.1)⟩) h6⟩
    · obtain ⟨v, hv, n, hm⟩ := R.e.at q
      rw [hz] at hp hv; cases hp; cases hv
      refine ⟨n, _, rfl, ?_⟩
      simp only at c ow
      cases m <;> simp only [own] at ow <;> try (cases ow; done)
      · obtain ⟨p', e, h1, h2, _⟩ := hm; cases e; exact ⟨p, rfl, h1, h2, c⟩
      · obtain ⟨p', e, h1, _⟩ := hm; cases e; exact ⟨p, rfl, h1, c⟩
  · intro a ha
    by_cases z : P a
    · obtain ⟨o, e, _⟩ := cs a z; exact ⟨o, e⟩
    · obtain ⟨o, e⟩ := R.e.od a ha; exact ⟨o, kp a o z e⟩
  · intro a o h
    obtain ⟨o', e⟩ := R.e.hd a o h
    by_cases z : P a
    · obtain ⟨o, e, _⟩ := cs a z; exact ⟨o, e⟩
    · exact ⟨o', kp a o' z e⟩
  · intro a o ha e
    by_cases z : P a
    · obtain ⟨o', e', n⟩ := cs a z; rw [e] at e'; cases e'; exact n
    · obtain ⟨o', e'⟩ := R.e.od a ha
      have := kp a o' z e'
      rw [e] at this; cases this
      exact R.e.on a _ ha e'
  · intro a o n h
    refine kp a o (fun z => ?_) (R.fr a o n h)
    rcases R.ow a (hP a z) with ⟨i, q⟩ | q
    · exact n i q
    · rw [h] at q; cases q
  · intro i d p h1 p1
    obtain ⟨d0, q⟩ := old h1
    exact R.ba i d0 p q p1
  · intro i j x y p h1 h2 o1 o2 p1 p2
    obtain ⟨d1, q1⟩ := old h1
    obtain ⟨d2, q2⟩ := old h2
    exact R.dj i j _ _ p q1 q2 o1 o2 p1 p2
  · refine ⟨fun i j d d' h1 h2 => R.nd.1 i j d d' (nbO h1) (nbO h2), fun i j d x p q xs h1 p1 h2 o2 p2 e => ?_⟩
    obtain ⟨qs, dss, _, _, _, e3, _⟩ := R.e.nest (nbO h1) p1
    have nb := nbP (nbO h1) p1 e3
    have e4 := kp _ _ (fun z => (nb _ z).1 rfl) e3
    rw [e4] at e; cases e
    obtain ⟨d2, q2⟩ := old h2
    exact R.nd.2 i j d (x.1, d2) p q _ (nbO h1) p1 q2 o2 p2 e3
  · intro a o h n
    exact ⟨kp a o (fun z => n (hP a z)) h, n⟩
noncomputable def JTV (K : PySem.W.Frag) (ta : TA) (fs : Ev → Option (List (M × D))) (pos : List (Nat × Nat)) : Prop :=
  ∀ H₀ O H σ env Q mds, RelE K H₀ O H σ env → fs env = some mds → (∀ vs H', Same H H' → ValL K H₀ O H H' mds vs → (∀ ij ∈ pos, ∃ v x, vs[ij.1]? = some v ∧ σ[ij.2]? = some (some v) ∧ env[ij.2]? = some (some x) ∧ mds[ij.1]? = some x) → Q vs H') → ta σ H Q
theorem jtv_nil : JTV K tNil jNil [] := by
  intro H₀ O H σ env Q mds R h q
  cases h
  exact q [] H (Same.refl H) .nil (fun _ z => nomatch z)
noncomputable def shf (pos : List (Nat × Nat)) : List (Nat × Nat) := pos.map fun ij => (ij.1 + 1, ij.2)
theorem jtv_cons {te : TE} {ta : TA} {f : Ev → Option (M × D)} {g : Ev → Option (List (M × D))} {pos : List (Nat × Nat)} (hf : JT K te f) (hg : JTV K ta g pos) : JTV K (tCons te ta) (jCons f g) (shf pos) := by
  intro H₀ O H σ env Q mds R h q
  obtain ⟨x, ex, h⟩ := bind2 h
  obtain ⟨r, er, h⟩ := bind2 h
  cases h
  refine hf H₀ O H σ env _ x.1 x.2 R ex fun v H1 s1 h1 => ?_
  refine hg H₀ O H1 σ env _ r (R.keep s1) er fun vs H2 s2 h2 hp => ?_
  refine q (v :: vs) H2 (s1.trans s2) (.cons (h1.keep s2) (pmono (fun _ _ z => z.hb fun a z => s1.free z) h2)) (fun ij hij => ?_)
  obtain ⟨ij', hm, rfl⟩ := List.mem_map.mp hij
  obtain ⟨w, y, a, b, c, d⟩ := hp ij' hm
  exact ⟨w, y, by simpa using a, b, c, by simpa using d⟩
theorem jtv_var {i : Nat} {ta : TA} {g : Ev → Option (List (M × D))} {pos : List (Nat × Nat)} (hg : JTV K ta g pos) : JTV K (tCons (tVar i) ta) (jCons (jV i) g) ((0, i) :: shf pos) := by
  intro H₀ O H σ env Q mds R h q
  obtain ⟨x, ex, h⟩ := bind2 h
  obtain ⟨r, er, h⟩ := bind2 h
  cases h
  have ei : env[i]? = some (some x) := by
    unfold jV at ex
    cases e : env[i]? with
    | none => rw [e] at ex; cases ex
    | some z => rw [e] at ex; exact congrArg some ex
  obtain ⟨v, hv, n, hm⟩ := R.at ei
  refine ⟨v, hv, ?_⟩
  refine hg H₀ O H σ env _ r R er fun vs H2 s2 h2 hp => ?_
  refine q (v :: vs) H2 s2 (.cons ((hm.of_h0 n).keep s2) h2) (fun ij hij => ?_)
  rcases List.mem_cons.mp hij with rfl | hij
  · exact ⟨v, x, rfl, hv, ei, rfl⟩
  · obtain ⟨ij', hm, rfl⟩ := List.mem_map.mp hij
    obtain ⟨w, y, a, b, c, d⟩ := hp ij' hm
    exact ⟨w, y, by simpa using a, b, c, by simpa using d⟩
noncomputable def setIO : List Nat → List D → Ev → Option Ev
  | [], [], e => some e
  | j :: sl, o :: outs, e => match e[j]? with
    | some (some (m, _)) => setIO sl outs (e.set j (some (m, o)))
    | _ => none
  | _, _, _ => none
end
end J
namespace J
open PySem L2
section
variable {K : PySem.W.Frag} {H H' H₀ : Hp} {I : Nat → Option Addr} {O O' : Addr → Prop} {σ : L2.St} {env : Ev}
theorem ValL.at {Hb : Hp} : ∀ {mds : List (M × D)} {vs : List V} {i : Nat} {x : M × D}, ValL K H₀ O Hb H mds vs → mds[i]? = some x → ∃ v, vs[i]? = some v ∧ Val K H₀ O Hb H x.1 x.2 v
  | _, _, _, _, .nil, e => by simp at e
  | _, _, 0, _, .cons h _, e => by simp at e; subst e; exact ⟨_, rfl, h⟩
  | _, _, i + 1, x, .cons _ r, e => by
    obtain ⟨v, h1, h2⟩ := ValL.at (i := i) (x := x) r (by simpa using e)
    exact ⟨v, by simpa using h1, h2⟩
theorem nodup_ix {α : Type} : ∀ {l : List α} {i j : Nat} {a : α}, l.Nodup → l[i]? = some a → l[j]? = some a → i = j
  | [], _, _, _, _, h, _ => by simp at h
  | x :: l, 0, 0, _, _, _, _ => rfl
  | x :: l, 0, j + 1, a, nd, h1, h2 => by
    simp at h1; subst h1
    exact absurd (List.mem_of_getElem? (show l[j]? = some x by simpa using h2)) (List.nodup_cons.mp nd).1
  | x :: l, i + 1, 0, a, nd, h1, h2 => by
    simp at h2; subst h2
    exact absurd (List.mem_of_getElem? (show l[i]? = some x by simpa using h1)) (List.nodup_cons.mp nd).1
  | x :: l, i + 1, j + 1, a, nd, h1, h2 => by
    rw [nodup_ix (List.nodup_cons.mp nd).2 (show l[i]? = some a by simpa using h1) (by simpa using h2)]
theorem setIO_len : ∀ {sl : List Nat} {outs : List D} {e e' : Ev}, setIO sl outs e = some e' → e'.length = e.length ∧ outs.length = sl.length
  | [], [], _, _, h => by cases h; exact ⟨rfl, rfl⟩
  | [], _ :: _, _, _, h => by cases h
  | _ :: _, [], _, _, h => by cases h
  | j :: sl, o :: outs, e, e', h => by
    simp only [setIO] at h
    split at h
    · have := setIO_len h
      rw [List.length_set] at this
      exact ⟨this.1, by rw [List.length_cons, List.length_cons, this.2]⟩
    · cases h
theorem setIO_ne : ∀ {sl : List Nat} {outs : List D} {e e' : Ev} {i : Nat}, setIO sl outs e = some e' → i ∉ sl → e'[i]? = e[i]?
  | [], [], _, _, _, h, _ => by cases h; rfl
  | [], _ :: _, _, _, _, h, _ => by cases h
  | _ :: _, [], _, _, _, h, _ => by cases h
  | j :: sl, o :: outs, e, e', i, h, hn => by
    simp only [setIO] at h
    split at h
    · rw [setIO_ne h (fun z => hn (List.mem_cons_of_mem _ z)), List.getElem?_set_ne (fun z => hn (by rw [z]; exact List.mem_cons_self))]
    · cases h
theorem setIO_at : ∀ {sl : List Nat} {outs : List D} {e e' : Ev} {k j : Nat}, setIO sl outs e = some e' → sl.Nodup → sl[k]? = some j → ∃ m d o, e[j]? = some (some (m, d)) ∧ outs[k]? = some o ∧ e'[j]? = some (some (m, o))
  | [], _, _, _, _, _, _, _, h1 => by simp at h1
  | _ :: _, [], _, _, _, _, h, _, _ => by cases h
  | i :: sl, o :: outs, e, e', k, j, h, nd, h1 => by
    simp only [setIO] at h
    split at h
    · rename_i m d hd
      obtain ⟨n1, n2⟩ := List.nodup_cons.mp nd
      cases k with
      | zero =>
        simp at h1; subst h1
        refine ⟨m, d, o, hd, rfl, ?_⟩
        rw [setIO_ne h n1]
        have hi : i < e.length := (List.getElem?_eq_some_iff.mp hd).1
        rw [List.getElem?_set_self hi]
      | succ k =>
        have h1' : sl[k]? = some j := by simpa using h1
        obtain ⟨m', d', o', a, b, c⟩ := setIO_at h n2 h1'
        have hj : i ≠ j := fun z => n1 (z ▸ List.mem_of_getElem? h1')
        rw [List.getElem?_set_ne hj] at a
        exact ⟨m', d', o', a, by simpa using b, c⟩
    · cases h
structure IOok (io sl : List Nat) (pos : List (Nat × Nat)) (mds : List (M × D)) : Prop where
  c1 : ∀ (k i : Nat), io[k]? = some i → ∃ j, sl[k]? = some j ∧ (i, j) ∈ pos
  c2 : sl.Nodup
  c3 : ∀ (i : Nat) x, i ∉ io → mds[i]? = some x → sta x.1 x.2 = true ∨ (own x.1 = true ∧ ∃ j, (i, j) ∈ pos ∧ j ∉ sl)
  c4 : ∀ (i : Nat) x, i ∈ io → mds[i]? = some x → own x.1 = true ∧ cim x.2 = true
  c5 : sl.length = io.length
noncomputable def ioB (io sl : List Nat) (pos : List (Nat × Nat)) (mds : List (M × D)) : Bool :=
  decide (sl.length = io.length) && decide sl.Nodup && (List.range io.length).all (fun k => match io[k]?, sl[k]? with | some i, some j => decide ((i, j) ∈ pos) | _, _ => false) &&
  (List.range mds.length).all (fun i => match mds[i]? with
    | some x => if i ∈ io then own x.1 && cim x.2 else sta x.1 x.2 || (own x.1 && pos.any fun ij => decide (ij.1 = i) && !decide (ij.2 ∈ sl))
    | none => true)
theorem ioB_ok {io sl : List Nat} {pos : List (Nat × Nat)} {mds : List (M × D)} (h : ioB io sl pos mds = true) : IOok io sl pos mds := by
  unfold ioB at h
  simp only [Bool.and_eq_true, decide_eq_true_eq, List.all_eq_true, List.mem_range] at h
  obtain ⟨⟨⟨h1, h2⟩, h3⟩, h4⟩ := h
  refine ⟨fun k i hk => ?_, h2, fun i x hi hx => ?_, fun i x hi hx => ?_, h1⟩
  · have hlt : k < io.length := (List.getElem?_eq_some_iff.mp hk).1
    have q := h3 k hlt
    rw [hk] at q
    cases e : sl[k]? with
    | none => rw [e] at q; cases q
    | some j => rw [e] at q; exact ⟨j, rfl, by simpa using q⟩
  · have hlt : i < mds.length := (List.getElem?_eq_some_iff.mp hx).1
    have q := h4 i hlt
    rw [hx] at q
    simp only [if_neg hi, Bool.or_eq_true, Bool.and_eq_true, List.any_eq_true] at q
    rcases q with q | ⟨q, ij, hm, z⟩
    · exact .inl q
    · refine .inr ⟨q, ij.2, ?_, by simpa using z.2⟩
      have e : ij.1 = i := by simpa using z.1
      rw [← e]; exact hm
  · have hlt : i < mds.length := (List.getElem?_eq_some_iff.mp hx).1
    have q := h4 i hlt
    rw [hx] at q
    simpa only [if_pos hi, Bool.and_eq_true] using q
noncomputable def jCallIO (io sl : List Nat) (pos : List (Nat × Nat)) (F : List D → Option (M × D × List D)) (fs : Ev → Option (List (M × D))) : Ev → Option (M × D × Ev) := fun e => (fs e).bind fun mds => if ioB io sl pos mds = true then (F (mds.map (·.2))).bind fun r => (setIO sl r.2.2 e).bind fun e' => some (r.1, r.2.1, e') else none
theorem callIO {n : Nat} {io sl : List Nat} {pos : List (Nat × Nat)} {F : List D → Option (M × D × List D)} {fs : Ev → Option (List (M × D))} {ta : TA} {E : XK} {m : M} {d : D} {e' : Ev} {Q : VK} (R : Rel K H₀ I O H σ env) (ha : JTV K ta fs pos) (hl : ∀ e mds, fs e = some mds → mds.length = n)
    (h : jCallIO io sl pos F fs env = some (m, d, e')) (q : ∀ v H', Rel K H₀ I O H' σ e' → Stp O H O H' → (m = .un ∨ m = .fr) → Rp K (fun a => ¬ O a ∧ H₀ a = none) H' v d → Q v H') : tCall (spIO K n io F) [] E ta σ H Q := by
  obtain ⟨mds, em, h⟩ := bind2 h
  split at h
  · rename_i hb
    have ok := ioB_ok hb
    obtain ⟨⟨m1, d1, outs⟩, eF, h⟩ := bind2 h
    obtain ⟨e1, es, h⟩ := bind2 h
    cases h
    refine ha H₀ O H σ env _ mds R.e em fun vs H1 s1 hv hp => ?_
    have R1 := R.keep s1
    have hlen : mds.length = vs.length := Paired.length hv
    have at_ : ∀ {i : Nat} {x : M × D}, mds[i]? = some x → ∃ v, vs[i]? = some v ∧ Val K H₀ O H H1 x.1 x.2 v := fun {i x} hx => ValL.at hv hx
    have own_ : ∀ {i j : Nat}, (i, j) ∈ pos → ∀ {x : M × D}, mds[i]? = some x → own x.1 = true → ∃ p : Addr, vs[i]? = some (V.ref p) ∧ σ[j]? = some (some (V.ref p)) ∧ env[j]? = some (some x) ∧ O p ∧ Cell K (fun a => ¬ O a ∧ H₀ a = none) H1 p x.2 := fun {i j} hij {x} hx ox => by
      obtain ⟨v, x', a, b, c, z⟩ := hp (i, j) hij
      simp only at a b c z
      rw [hx] at z; cases z
      obtain ⟨w, hw, _, hm⟩ := R1.e.at (i := j) (m := x.1) (d := x.2) c
      rw [b] at hw; cases hw
      obtain ⟨mx, dx⟩ := x
      cases mx <;> simp only [own] at ox <;> try (cases ox; done)
      · obtain ⟨p, rfl, h1, h2, cc⟩ := hm; exact ⟨p, a, b, c, h1, cc⟩
      · obtain ⟨p, rfl, h1, cc⟩ := hm; exact ⟨p, a, b, c, h1, cc⟩
    have ioAt : ∀ {i : Nat} {p : Addr}, i ∈ io → vs[i]? = some (V.ref p) → ∃ (k j : Nat) (x : M × D), io[k]? = some i ∧ sl[k]? = some j ∧ mds[i]? = some x ∧ σ[j]? = some (some (V.ref p)) ∧ env[j]? = some (some x) ∧ own x.1 = true ∧ O p ∧ Cell K (fun a => ¬ O a ∧ H₀ a = none) H1 p x.2 ∧ cim x.2 = true := fun {i p} hi hvi => by
      obtain ⟨k, hk⟩ := List.getElem?_of_mem hi
      obtain ⟨j, hj, hpos⟩ := ok.c1 k i hk
      have hlt : i < mds.length := by rw [hlen]; exact (List.getElem?_eq_some_iff.mp hvi).1
      have hx : mds[i]? = some mds[i] := List.getElem?_eq_getElem hlt
      obtain ⟨ox, cx⟩ := ok.c4 i _ hi hx
      obtain ⟨p', a, b, c, h1, cc⟩ := own_ hpos hx ox
      rw [hvi] at a; cases a
      exact ⟨k, j, _, hk, hj, hx, b, c, ox, h1, cc, cx⟩
    have sub : ∀ a, IOA io vs a → O a := fun a ⟨i, hi, hvi⟩ => by
      obtain ⟨_, _, _, _, _, _, _, _, _, h1, _⟩ := ioAt hi hvi; exact h1
    have A : ArgsIO K H1 io vs (mds.map (·.2)) := by
      refine ⟨by rw [List.length_map, hlen], fun i v d hi hvi hd => ?_, fun i d hi hd => ?_, fun i j p hi hj h1 h2 => ?_⟩
      · rw [List.getElem?_map] at hd
        cases hx : mds[i]? with
        | none => rw [hx] at hd; cases hd
        | some x =>
          rw [hx] at hd; cases hd
          obtain ⟨v', hv', hval⟩ := at_ hx
          rw [hvi] at hv'; cases hv'
          rcases ok.c3 i x hi hx with z | ⟨z, j, hj, nj⟩
          · exact (hval.sta z).wk fun a h _ => fun w => h (sub a w)
          · obtain ⟨p, a, b, c, h1, cc⟩ := own_ hj hx z
            rw [hvi] at a; cases a
            refine (cc.wk fun a h _ => (fun w => h.1 (sub a w) : ¬ IOA io vs a)).rp (fun ⟨i2, hi2, hv2⟩ => ?_)
            obtain ⟨k, j2, x2, _, hj2, _, s2, e2, o2, _⟩ := ioAt hi2 hv2
            have := R.dj j j2 x x2 p c e2 z o2 b s2
            exact nj (this ▸ List.mem_of_getElem? hj2)
      · rw [List.getElem?_map] at hd
        cases hx : mds[i]? with
        | none => rw [hx] at hd; cases hd
        | some x =>
          rw [hx] at hd; cases hd
          obtain ⟨k, hk⟩ := List.getElem?_of_mem hi
          obtain ⟨j, hj, hpos⟩ := ok.c1 k i hk
          obtain ⟨ox, cx⟩ := ok.c4 i _ hi hx
          obtain ⟨p', a, b, c, h1, cc⟩ := own_ hpos hx ox
          exact ⟨p', a, cc.im cx⟩
      · obtain ⟨k1, j1, x1, k1e, j1e, _, s1', e1', o1, _⟩ := ioAt hi h1
        obtain ⟨k2, j2, x2, k2e, j2e, _, s2', e2', o2, _⟩ := ioAt hj h2
        have ej := R.dj j1 j2 x1 x2 p e1' e2' o1 o2 s1' s2'
        subst ej
        have ek : k1 = k2 := nodup_ix ok.c2 j1e j2e
        subst ek
        rw [k1e] at k2e; exact Option.some.inj k2e
    rw [List.append_nil]
    refine ⟨by rw [← hlen]; exact hl _ _ em, mds.map (·.2), m1, d1, outs, A, eF, fun v H2 kp ol oc ro => ?_⟩
    obtain ⟨el, eo⟩ := setIO_len es
    have cs : ∀ a, IOA io vs a → ∃ o, H2 a = some o ∧ ¬ isT o := fun a ⟨i, hi, hvi⟩ => by
      obtain ⟨k, hk⟩ := List.getElem?_of_mem hi
      have hko : k < outs.length := by rw [ol]; exact (List.getElem?_eq_some_iff.mp hk).1
      obtain ⟨p, hp', c⟩ := oc k i _ hk (List.getElem?_eq_getElem hko)
      rw [hvi] at hp'; cases hp'
      exact c.some
    obtain ⟨R2, st⟩ := R1.muts (P := IOA io vs) (env' := e') sub (fun a ⟨i, hi, hvi⟩ => by
      obtain ⟨k3, j3, x3, _, _, _, s3, e3, o3, _⟩ := ioAt hi hvi
      exact ⟨j3, x3, e3, o3, s3⟩) kp cs el (fun j x' hx' => by
      by_cases hj : j ∈ sl
      · obtain ⟨k, hk⟩ := List.getElem?_of_mem hj
        obtain ⟨m0, d0, o0, a, b, c⟩ := setIO_at es ok.c2 hk
        rw [hx'] at c; cases c
        have hki : k < io.length := by rw [← ok.c5]; exact (List.getElem?_eq_some_iff.mp hk).1
        have hik : io[k]? = some io[k] := List.getElem?_eq_getElem hki
        obtain ⟨j', hj', hpos⟩ := ok.c1 k _ hik
        rw [hk] at hj'; cases hj'
        obtain ⟨p, hvp, cell⟩ := oc k _ _ hik b
        have himem : io[k] ∈ io := List.getElem_mem hki
        obtain ⟨k3, j3, x3, k3e, j3e, _, s3, e3, o3, _⟩ := ioAt himem hvp
        have hlt : io[k] < mds.length := by rw [hlen]; exact (List.getElem?_eq_some_iff.mp hvp).1
        have hx : mds[io[k]]? = some mds[io[k]] := List.getElem?_eq_getElem hlt
        obtain ⟨ox, _⟩ := ok.c4 _ _ himem hx
        obtain ⟨p', a', b', c', _⟩ := own_ hpos hx ox
        rw [hvp] at a'; cases a'
        rw [a] at c'
        have c'' := Option.some.inj (Option.some.inj c')
        refine .inr ⟨d0, p, a, ?_, b', cell.wk fun _ z _ => z.elim⟩
        rw [← c''] at ox; exact ox
      · rw [setIO_ne es hj] at hx'
        refine .inl ⟨hx', fun p ow hs ⟨i2, hi2, hv2⟩ => ?_⟩
        obtain ⟨k, j2, x2, _, hj2, _, s2, e2, o2, _⟩ := ioAt hi2 hv2
        have := R.dj j j2 x' x2 p hx' e2 ow o2 hs s2
        exact hj (this ▸ List.mem_of_getElem? hj2))
    have mm : m1 = .un ∨ m1 = .fr := by cases m1 <;> first | exact .inl rfl | exact .inr rfl | exact ro.elim
    have hval := val_ret (H₀ := H₀) R1.e.od R1.e.hd ro
    exact q v H2 R2 ((Stp.same s1).trans st) mm (hval.sto (by rcases mm with rfl | rfl <;> rfl))
  · cases h
noncomputable def jDropIO (io sl : List Nat) (pos : List (Nat × Nat)) (F : List D → Option (M × D × List D)) (fs : Ev → Option (List (M × D))) : Ev → Option Fl := fun e => (jCallIO io sl pos F fs e).bind fun r => some (.nx r.2.2)
theorem js_dropIO {n : Nat} {io sl : List Nat} {pos : List (Nat × Nat)} {F : List D → Option (M × D × List D)} {fs : Ev → Option (List (M × D))} {ta : TA} {E : XK} (ha : JTV K ta fs pos) (hl : ∀ e mds, fs e = some mds → mds.length = n) : JS K (tDrop (tCall (spIO K n io F) [] E ta)) (jDropIO io sl pos F fs) := by
  intro H₀ I O H σ env Ds fl R e q
  obtain ⟨⟨m, d, e'⟩, er, e⟩ := bind2 e
  cases e
  exact callIO R ha hl er fun v H' R' st _ _ => q O H' σ R' st
end
end J
namespace J
open PySem L2
mutual
noncomputable def toPy : D → PyData
  | .non => .none
  | .bl b => .bool b
  | .int i => .int i
  | .str x => .str x
  | .tup ds => .tuple (toPys ds)
  | .lst ds => .list (toPys ds)
  | .ty _ => .none
  | .dk _ => .none
  | .dt _ => .none
noncomputable def toPys : List D → List PyData
  | [] => []
  | d :: ds => toPy d :: toPys ds
end
mutual
noncomputable def plain : D → Bool
  | .tup ds => plains ds
  | .lst ds => plains ds
  | .ty _ => false
  | .dk _ => false
  | .dt _ => false
  | .non => true
  | .bl _ => true
  | .int _ => true
  | .str _ => true
noncomputable def plains : List D → Bool
  | [] => true
  | d :: ds => plain d && plains ds
end
section
variable {K : PySem.W.Frag} {H H' H₀ : Hp} {O O' : Addr → Prop} {σ : L2.St} {env : Ev}
mutual
theorem rp_dn {N : Addr → Prop} : ∀ {v : V} {d : D}, plain d = true → Rp K N H v d → Dn K H v (toPy d)
  | _, _, _, .non => by simp only [toPy]; exact .non
  | _, _, _, .bl b => by simp only [toPy]; exact .bl b
  | _, _, _, .int i => by simp only [toPy]; exact .int i
  | _, _, _, .str x => by simp only [toPy]; exact .str x
  | _, .ty n, e, .ty _ => by simp [plain] at e
  | _, .tup ds, e, .tup h r => by simp only [toPy]; exact .tup h (rps_dns (by simpa only [plain] using e) r)
  | _, .lst ds, e, .lst h n r => by simp only [toPy]; exact .lst (.inl h) (rps_dns (by simpa only [plain] using e) r)
  | _, .lst ds, e, .lstK h r => by simp only [toPy]; exact .lst (.inr h) (rps_dns (by simpa only [plain] using e) r)
  | _, .dk ds, e, .dk h n _ r => by simp [plain] at e
  | _, .dt ds, e, .dt h n _ r => by simp [plain] at e
theorem rps_dns {N : Addr → Prop} : ∀ {vs : List V} {ds : List D}, plains ds = true → Rps K N H vs ds → Dns K H vs (toPys ds)
  | _, _, _, .nil => by simp only [toPys]; exact .nil
  | _, d :: ds, e, .cons h r => by
    have e' : plain d = true ∧ plains ds = true := by simpa [plains] using e
    simp only [toPys]
    exact .cons (rp_dn e'.1 h) (rps_dns e'.2 r)
end
noncomputable def likeB : D → D → Bool
  | .lst _, .lst _ => true
  | .tup _, .tup _ => true
  | .non, .non => true
  | _, _ => false
theorem like_of {a b : D} (h : likeB a b = true) : Like (toPy a) (toPy b) := by
  cases a <;> cases b <;> simp only [likeB] at h <;> try (cases h; done)
  · simp only [toPy]; exact .non
  · simp only [toPy]; exact .tup _ _
  · simp only [toPy]; exact .lst _ _
noncomputable def eqOk (a b : D) : Bool := plain a && plain b && likeB a b && decide (min (toPy a).depth (toPy b).depth ≤ 60)
noncomputable def gNeD : M × D → M × D → Option (M × D) := fun a b => if eqOk a.2 b.2 = true then some (.fr, .bl (!PyData.eqv (toPy a.2) (toPy b.2))) else none
theorem eqOk_and {a b : D} (h : eqOk a b = true) : plain a = true ∧ plain b = true ∧ likeB a b = true ∧ min (toPy a).depth (toPy b).depth ≤ 60 := by
  unfold eqOk at h
  simp only [Bool.and_eq_true, decide_eq_true_eq] at h
  exact ⟨h.1.1.1, h.1.1.2, h.1.2, h.2⟩
theorem jr_neD : JR K (rNeD K) gNeD := by
  intro H₀ O H x y a b Q m d _ _ h1 h2 h q
  unfold gNeD at h
  split at h
  · rename_i ok
    cases h
    obtain ⟨p1, p2, l, dp⟩ := eqOk_and ok
    exact ⟨_, _, rp_dn p1 h1.weak, rp_dn p2 h2.weak, like_of l, dp, q _ H (Same.refl H) val_b⟩
  · cases h
theorem op_neJ {X : Cx} (h : X.K = K) (hu : X.A.units + 64 < cLine) : OpR X (compareOp .NotEq) (rNeD K) := by subst h; exact op_neD hu
theorem jg_lst {n : Nat} {gs : TGs} {fs : M → List D → Ev → Option Ev} (hs : JGs K gs fs) : JG K (gLst K n gs) (gL n fs) := by
  intro H₀ I O H σ env x v env' Q R hm hv e q
  obtain ⟨m, d⟩ := x
  cases d <;> simp only [gL] at e <;> try (cases e; done)
  split at e
  · rename_i hl
    obtain ⟨a, xs, rfl, hs', r⟩ := hv.lst
    exact ⟨a, xs, rfl, hs', by rw [r.len]; exact hl, hs H₀ I O H σ env (elm m) _ xs env' Q R (by cases m <;> first | rfl | cases hm) r e q⟩
  · cases e
noncomputable def strsD : List D → Option (List Str)
  | [] => some []
  | .str x :: r => (strsD r).bind fun xs => some (x :: xs)
  | _ => none
theorem rps_strs {N : Addr → Prop} : ∀ {ds : List D} {vs : List V} {ys : List Str}, Rps K N H vs ds → strsD ds = some ys → vs = ys.map V.str
  | _, _, _, .nil, e => by cases e; rfl
  | d :: ds, v :: vs, ys, .cons h r, e => by
    cases d <;> simp only [strsD] at e <;> try (cases e; done)
    obtain ⟨xs, ex, e⟩ := bind2 e
    cases e
    rw [rps_strs r ex, h.str_inv]; rfl
noncomputable def gJoin : M × D → List (M × D) → Option (M × D)
  | (_, .str z), [(_, .lst ds)] => (strsD ds).bind fun ys => if (ys.map (·.length)).sum + ys.length * z.length ≤ 16777216 then some (.fr, .str (Txt.join z ys)) else none
  | _, _ => none
theorem mt_joinK {X : Cx} (h : X.K = K) : MtR X "str.join" (fun x xs H Q => ∃ (z : Str) (p : Addr) (ys : List Str), x = .str z ∧ xs = [.ref p] ∧ SqL K H p (ys.map V.str) ∧ (ys.map (·.length)).sum + ys.length * z.length ≤ 16777216 ∧ Q (.str (Txt.join z ys)) H) := by subst h; exact mt_join
theorem jbm_join : JBM K "str" (fun x xs H Q => ∃ (z : Str) (p : Addr) (ys : List Str), x = .str z ∧ xs = [.ref p] ∧ SqL K H p (ys.map V.str) ∧ (ys.map (·.length)).sum + ys.length * z.length ≤ 16777216 ∧ Q (.str (Txt.join z ys)) H) gJoin := by
  intro H₀ O H x vs a mds Q m d _ _ h1 h2 h q
  unfold gJoin at h
  split at h
  · obtain ⟨ys, ey, h⟩ := bind2 h
    split at h
    · rename_i hl
      cases h
      obtain ⟨v, rfl, hv⟩ := h2.one
      obtain ⟨p, xs, rfl, hs, r⟩ := hv.lst
      rw [rps_strs r ey] at hs
      exact ⟨_, p, ys, h1.str, rfl, hs, hl, q _ H (Same.refl H) val_s⟩
    · cases h
  · cases h
theorem pi_tupK {X : Cx} {tg l : Expr} {tl : TE} (h : X.K = K) (hl : PE X l tl) : PI X tg l (iTup K tl) := by subst h; exact pi_tup hl
theorem call_list_ofK {X : Cx} (h : X.K = K) : CallR X (.type "list") (fun xs H Q => ∃ p ys, xs = [.ref p] ∧ (SqL K H p ys ∨ SqT K H p ys) ∧ ∀ l, H l = none → Q (.ref l) (upd H l (.lst ys))) := by subst h; exact call_list_of
end
end J
namespace J
open PySem L2
theorem compL_all {fc : Ev → Option Bool} {fe : Ev → Option (M × D)} {m : M} {fr : Ev} {P : D → Prop} : ∀ {ds : List D}, (∀ d ∈ ds, fc (some (m, d) :: fr) = some true ∧ ∃ x, fe (some (m, d) :: fr) = some (.fr, x) ∧ P x) → ∃ xs : List D, compL fc fe m fr ds = some (xs.map fun x => (M.fr, x)) ∧ xs.length = ds.length ∧ ∀ x ∈ xs, P x
  | [], _ => ⟨[], rfl, rfl, fun _ h => nomatch h⟩
  | d :: ds, h => by
    obtain ⟨h1, x, h2, h3⟩ := h d List.mem_cons_self
    obtain ⟨xs, q1, q2, q3⟩ := compL_all (ds := ds) fun e he => h e (List.mem_cons_of_mem _ he)
    refine ⟨x :: xs, ?_, by rw [List.length_cons, List.length_cons, q2], fun y hy => ?_⟩
    · rw [compL, h1, Option.bind_some, if_pos rfl, h2, Option.bind_some, q1, Option.bind_some]; rfl
    · rcases List.mem_cons.mp hy with rfl | hy
      · exact h3
      · exact q3 y hy
theorem lstG_fr {xs : List D} (h : xs.length ≤ 1000) : jLstG (xs.map fun x => (M.fr, x)) = some (.un, .lst xs) := by
  unfold jLstG
  rw [if_pos (by rw [List.length_map]; exact Nat.le_trans h (by decide)), if_pos (by rw [List.all_map]; exact List.all_eq_true.mpr fun _ _ => rfl), List.map_map]
  congr 3
  exact List.map_id xs
theorem strsD_map : ∀ ys : List Str, strsD (ys.map D.str) = some ys
  | [] => rfl
  | y :: ys => by rw [List.map_cons, strsD, strsD_map ys]; rfl
theorem sum_ones : ∀ {ys : List Str}, (∀ y ∈ ys, y.length = 1) → (ys.map (·.length)).sum = ys.length
  | [], _ => rfl
  | y :: ys, h => by rw [List.map_cons, List.sum_cons, sum_ones fun z hz => h z (List.mem_cons_of_mem _ hz), h y List.mem_cons_self, List.length_cons]; omega
end J
namespace J
open PySem L2
noncomputable def kD : Key → D
  | .inl i => .int i
  | .inr x => .str x
theorem kD_imm (k : Key) : (kD k).imm = true := by cases k <;> simp only [kD, D.imm]
inductive Row where
  | rk (x s : Str) (a b : Key) | cp (x : Str) (a : Key) | sy (a : Key) | go (t : Int) | pt (a : Key) (t : Int) | en
noncomputable def Row.ds : Row → List D
  | .rk x s a b => [.str "reckon", .str x, .str s, kD a, kD b]
  | .cp x a => [.str "copy", .str x, kD a]
  | .sy a => [.str "say", kD a]
  | .go t => [.str "go", .int t]
  | .pt a t => [.str "part", kD a, .int t]
  | .en => [.str "end"]
noncomputable def Row.d (r : Row) : D := .tup r.ds
theorem Row.imm (r : Row) : r.d.imm = true := by cases r <;> simp only [Row.d, Row.ds, D.imm, D.imms, kD_imm, Bool.and_self]
theorem rows_imm : ∀ rs : List Row, D.imms (rs.map Row.d) = true
  | [] => by simp only [List.map_nil, D.imms]
  | r :: rs => by simp only [List.map_cons, D.imms, Row.imm, rows_imm rs, Bool.and_self]
noncomputable def Row.word : Row → Str
  | .rk _ _ _ _ => "reckon"
  | .cp _ _ => "copy"
  | .sy _ => "say"
  | .go _ => "go"
  | .pt _ _ => "part"
  | .en => "end"
theorem Row.at0 (r : Row) : L2.atI r.ds 0 = some (.str r.word) := by cases r <;> rfl
end J
namespace J
open PySem L2
end J
namespace J
open PySem L2
section
variable {K : PySem.W.Frag} {H H' H₀ : Hp} {O : Addr → Prop} {σ : L2.St} {env : Ev}
noncomputable def occB (j i : Str) : Bool := !(Builtin.Str.occurrences j i 0 j.length 1).isEmpty
noncomputable def gInS (neg : Bool) : M × D → M × D → Option (M × D)
  | (_, .str i), (_, .str j) => some (.fr, .bl (if neg then !occB j i else occB j i))
  | _, _ => none
theorem jr_inS : JR K (fun x y H Q => ∃ i j, x = .str i ∧ y = .str j ∧ Q (.bl (!(Builtin.Str.occurrences j i 0 j.length 1).isEmpty)) H) (gInS false) := by
  intro H₀ O H x y a b Q m d _ _ h1 h2 h q
  obtain ⟨ma, da⟩ := a; obtain ⟨mb, db⟩ := b
  cases da <;> try (cases h; done)
  cases db <;> try (cases h; done)
  cases h
  exact ⟨_, _, h1.str, h2.str, q _ H (Same.refl H) val_b⟩
theorem jr_notinS : JR K (fun x y H Q => ∃ i j, x = .str i ∧ y = .str j ∧ Q (.bl (!(!(Builtin.Str.occurrences j i 0 j.length 1).isEmpty))) H) (gInS true) := by
  intro H₀ O H x y a b Q m d _ _ h1 h2 h q
  obtain ⟨ma, da⟩ := a; obtain ⟨mb, db⟩ := b
  cases da <;> try (cases h; done)
  cases db <;> try (cases h; done)
  cases h
  exact ⟨_, _, h1.str, h2.str, q _ H (Same.refl H) val_b⟩
noncomputable def blsD : List D → Option (List Bool)
  | [] => some []
  | .bl x :: r => (blsD r).bind fun xs => some (x :: xs)
  | _ => none
theorem rps_bls {N : Addr → Prop} : ∀ {ds : List D} {vs : List V} {ys : List Bool}, Rps K N H vs ds → blsD ds = some ys → vs = ys.map V.bl
  | _, _, _, .nil, e => by cases e; rfl
  | d :: ds, v :: vs, ys, .cons h r, e => by
    cases d <;> simp only [blsD] at e <;> try (cases e; done)
    obtain ⟨xs, ex, e⟩ := bind2 e
    cases e
    rw [rps_bls r ex, h.bl_inv]; rfl
noncomputable def gAll : List (M × D) → Option (M × D)
  | [(_, .lst ds)] => (blsD ds).bind fun bs => some (.fr, .bl (bs.all id))
  | _ => none
theorem call_all_J {X : Cx} (h : X.K = K) (hc : X.calm = true) : CallR X (.builtin "all") (fun xs H Q => ∃ (p : Addr) (bs : List Bool), xs = [.ref p] ∧ SqL K H p (bs.map V.bl) ∧ Q (.bl (bs.all id)) H) := by subst h; exact call_all_bls hc
theorem jcb_all : JCB K (fun xs H Q => ∃ (p : Addr) (bs : List Bool), xs = [.ref p] ∧ SqL K H p (bs.map V.bl) ∧ Q (.bl (bs.all id)) H) gAll := by
  intro H₀ O H vs mds Q m d _ _ hv h q
  unfold gAll at h
  split at h
  · obtain ⟨bs, eb, h⟩ := bind2 h
    cases h
    obtain ⟨v, rfl, hw⟩ := hv.one
    obtain ⟨a, xs, rfl, r, s⟩ := hw.lst
    rw [rps_bls s eb] at r
    exact ⟨_, _, rfl, r, q _ H (Same.refl H) val_b⟩
  · cases h
noncomputable def jBM0 (ty : D → Bool) (g : M × D → List (M × D) → Option (M × D)) (f : Ev → Option (M × D)) : Ev → Option (M × D) := fun e => (f e).bind fun x => if ty x.2 = true then g x [] else none
theorem jt_glT {a : Addr} {xs : List V} {ds : List D} (w : ∀ H : Hp, SqT K H a xs) (r : ∀ (N : Addr → Prop) (H : Hp), Rps K N H xs ds) : JT K (tC (.ref a)) (jC (.tup ds)) := by
  intro H₀ O H σ env Q m d' R h q
  cases h
  exact q _ H (Same.refl H) (Rp.tup (w H) (r _ H))
theorem rps_strs_c {N : Addr → Prop} : ∀ (ys : List Str), Rps K N H (ys.map V.str) (ys.map D.str)
  | [] => .nil
  | y :: ys => .cons (.str y) (rps_strs_c ys)
end
end J
namespace J
open PySem L2
theorem abs_str {u : Value} {y : Str} (h : absV u = some (V.str y)) : RelV (.str y) u := by
  cases u <;> simp only [absV] at h <;> cases h
  exact ⟨_, rfl⟩
theorem vals_abs : ∀ {us : List Value} {ys : List Str}, us.map absV = ys.map (fun y => some (V.str y)) → Vals (ys.map V.str) us
  | [], [], _ => .nil
  | [], _ :: _, h => by cases h
  | _ :: _, [], h => by cases h
  | u :: us, y :: ys, h => by
    rw [List.map_cons, List.map_cons] at h
    exact .cons (abs_str (List.cons.inj h).1) (vals_abs (List.cons.inj h).2)
theorem sqT_top {K : PySem.W.Frag} {a : Addr} {od : Option Addr} {its : Array Value} {n : Nat} {sl : Array (Option Value)} {ys : List Str} (l : K.lookup a = some ⟨.type "tuple", od, .seq its n, sl⟩) (v : its.toList.map absV = ys.map (fun y => some (V.str y))) (hz : ys.length ≤ 1000) (H : Hp) : SqT K H a (ys.map V.str) := by
  have r := vals_abs v
  refine .inr ⟨_, its, n, l, rfl, rfl, ?_, r⟩
  have e := r.length
  simp only [List.length_map, Array.length_toList] at e
  exact Nat.le_trans (by omega) (show 1000 ≤ sizeLine by decide)
end J
namespace J
open PySem L2
section
variable {K : PySem.W.Frag} {H H₀ : Hp} {O : Addr → Prop}
noncomputable def sgs (z : Str) : List D := z.cps.toList.map fun c => .str ⟨#[c]⟩
theorem itok_str {z : Str} : ItOk K H₀ O (Its z) H .fr (sgs z) := by
  have l : (sgs z).length = z.cps.size := by simp [sgs]
  refine ⟨fun O2 H2 i s hi => by rw [l] at hi; exact hi, fun O2 H2 i x H3 s hi y => ?_, fun O2 H2 s => by rw [l]; exact Nat.le_refl z.cps.size⟩
  obtain ⟨rfl, c, hc, rfl⟩ := y
  refine ⟨Same.refl _, .str ⟨#[c]⟩, ?_, Rp.str _⟩
  unfold sgs
  rw [List.getElem?_map, Array.getElem?_toList, hc]
  rfl
noncomputable def itS (f : Ev → Option (M × D)) : Ev → Option (M × List D) := fun e => (f e).bind fun x => match x.2 with
  | .str z => some (.fr, sgs z)
  | _ => none
theorem ji_str {t : TE} {f : Ev → Option (M × D)} (h : JT K t f) : JI K (iStr t) (itS f) := by
  intro H₀ O H σ env R m ds Re e q
  obtain ⟨⟨m0, d0⟩, ex, e⟩ := bind2 e
  cases d0 <;> simp only at e <;> try (cases e; done)
  cases e
  refine h H₀ O H σ env _ _ _ Re ex fun v H1 s1 h1 => ?_
  exact ⟨_, h1.str, q _ H1 s1 rfl itok_str⟩
end
end J
namespace L2
open PySem
end L2
namespace J
open PySem L2
theorem compL_map {fe : Ev → Option (M × D)} {m : M} {fr : Ev} {F : D → D} : ∀ {ds : List D}, (∀ d ∈ ds, fe (some (m, d) :: fr) = some (.fr, F d)) → compL bYes fe m fr ds = some ((ds.map F).map fun x => (M.fr, x))
  | [], _ => rfl
  | d :: ds, h => by
    have ih := compL_map (ds := ds) fun e he => h e (List.mem_cons_of_mem _ he)
    rw [compL, show bYes (some (m, d) :: fr) = some true from rfl, Option.bind_some, if_pos rfl, h d List.mem_cons_self, Option.bind_some, ih, Option.bind_some]
    rfl
theorem blsD_map : ∀ l : List Bool, blsD (l.map D.bl) = some l
  | [] => rfl
  | b :: l => by rw [List.map_cons, blsD, blsD_map l]; rfl
theorem occ_one (z : Str) (c : Nat) : occB z ⟨#[c]⟩ = decide (c ∈ z.cps.toList) := StrLaws.found_one z c
theorem frE_nil {e : Ev} : frE e [] = [] := rfl
section
variable {m n : M} {z : Str} {i : Int} {b : Bool} {ds : List D} {ks : List (Key × D)} {kt : List (List Key × D)}
theorem isi_str_str : gIsi [(m, .str z), (n, .ty "str")] = some (.fr, .bl true) := rfl
theorem isi_str_int : gIsi [(m, .str z), (n, .ty "int")] = some (.fr, .bl false) := rfl
theorem isi_str_bool : gIsi [(m, .str z), (n, .ty "bool")] = some (.fr, .bl false) := rfl
theorem isi_str_tuple : gIsi [(m, .str z), (n, .ty "tuple")] = some (.fr, .bl false) := rfl
theorem isi_int_str : gIsi [(m, .int i), (n, .ty "str")] = some (.fr, .bl false) := rfl
theorem isi_int_int : gIsi [(m, .int i), (n, .ty "int")] = some (.fr, .bl true) := rfl
theorem isi_int_bool : gIsi [(m, .int i), (n, .ty "bool")] = some (.fr, .bl false) := rfl
theorem isi_int_tuple : gIsi [(m, .int i), (n, .ty "tuple")] = some (.fr, .bl false) := rfl
theorem isi_bl_str : gIsi [(m, .bl b), (n, .ty "str")] = some (.fr, .bl false) := rfl
theorem isi_bl_int : gIsi [(m, .bl b), (n, .ty "int")] = some (.fr, .bl true) := rfl
theorem isi_bl_bool : gIsi [(m, .bl b), (n, .ty "bool")] = some (.fr, .bl true) := rfl
theorem isi_bl_tuple : gIsi [(m, .bl b), (n, .ty "tuple")] = some (.fr, .bl false) := rfl
theorem isi_non_str : gIsi [(m, .non), (n, .ty "str")] = some (.fr, .bl false) := rfl
theorem isi_non_int : gIsi [(m, .non), (n, .ty "int")] = some (.fr, .bl false) := rfl
theorem isi_non_bool : gIsi [(m, .non), (n, .ty "bool")] = some (.fr, .bl false) := rfl
theorem isi_non_tuple : gIsi [(m, .non), (n, .ty "tuple")] = some (.fr, .bl false) := rfl
theorem isi_tup_str : gIsi [(m, .tup ds), (n, .ty "str")] = some (.fr, .bl false) := rfl
theorem isi_tup_int : gIsi [(m, .tup ds), (n, .ty "int")] = some (.fr, .bl false) := rfl
theorem isi_tup_tuple : gIsi [(m, .tup ds), (n, .ty "tuple")] = some (.fr, .bl true) := rfl
theorem isi_lst_str : gIsi [(m, .lst ds), (n, .ty "str")] = some (.fr, .bl false) := rfl
theorem isi_lst_int : gIsi [(m, .lst ds), (n, .ty "int")] = some (.fr, .bl false) := rfl
theorem isi_lst_tuple : gIsi [(m, .lst ds), (n, .ty "tuple")] = some (.fr, .bl false) := rfl
theorem isi_dk_str : gIsi [(m, .dk ks), (n, .ty "str")] = some (.fr, .bl false) := rfl
theorem isi_dk_int : gIsi [(m, .dk ks), (n, .ty "int")] = some (.fr, .bl false) := rfl
theorem isi_dk_tuple : gIsi [(m, .dk ks), (n, .ty "tuple")] = some (.fr, .bl false) := rfl
theorem isi_dt_str : gIsi [(m, .dt kt), (n, .ty "str")] = some (.fr, .bl false) := rfl
theorem isi_dt_int : gIsi [(m, .dt kt), (n, .ty "int")] = some (.fr, .bl false) := rfl
theorem isi_dt_tuple : gIsi [(m, .dt kt), (n, .ty "tuple")] = some (.fr, .bl false) := rfl
theorem sl_t {lo hi : Option Int} : gSl (m, .tup ds) lo hi = some (elm m, .tup (cut ds lo hi)) := rfl
end
end J
namespace J
open PySem L2
theorem wd_reckon_reckon : decide (("reckon" : Str) = "reckon") = true := rfl
theorem wd_reckon_copy : decide (("reckon" : Str) = "copy") = false := rfl
theorem wd_reckon_say : decide (("reckon" : Str) = "say") = false := rfl
theorem wd_reckon_go : decide (("reckon" : Str) = "go") = false := rfl
theorem wd_reckon_part : decide (("reckon" : Str) = "part") = false := rfl
theorem wd_reckon_end : decide (("reckon" : Str) = "end") = false := rfl
theorem wd_copy_reckon : decide (("copy" : Str) = "reckon") = false := rfl
theorem wd_copy_copy : decide (("copy" : Str) = "copy") = true := rfl
theorem wd_copy_say : decide (("copy" : Str) = "say") = false := rfl
theorem wd_copy_go : decide (("copy" : Str) = "go") = false := rfl
theorem wd_copy_part : decide (("copy" : Str) = "part") = false := rfl
theorem wd_copy_end : decide (("copy" : Str) = "end") = false := rfl
theorem wd_say_reckon : decide (("say" : Str) = "reckon") = false := rfl
theorem wd_say_copy : decide (("say" : Str) = "copy") = false := rfl
theorem wd_say_say : decide (("say" : Str) = "say") = true := rfl
theorem wd_say_go : decide (("say" : Str) = "go") = false := rfl
theorem wd_say_part : decide (("say" : Str) = "part") = false := rfl
theorem wd_say_end : decide (("say" : Str) = "end") = false := rfl
theorem wd_go_reckon : decide (("go" : Str) = "reckon") = false := rfl
theorem wd_go_copy : decide (("go" : Str) = "copy") = false := rfl
theorem wd_go_say : decide (("go" : Str) = "say") = false := rfl
theorem wd_go_go : decide (("go" : Str) = "go") = true := rfl
theorem wd_go_part : decide (("go" : Str) = "part") = false := rfl
theorem wd_go_end : decide (("go" : Str) = "end") = false := rfl
theorem wd_part_reckon : decide (("part" : Str) = "reckon") = false := rfl
theorem wd_part_copy : decide (("part" : Str) = "copy") = false := rfl
theorem wd_part_say : decide (("part" : Str) = "say") = false := rfl
theorem wd_part_go : decide (("part" : Str) = "go") = false := rfl
theorem wd_part_part : decide (("part" : Str) = "part") = true := rfl
theorem wd_part_end : decide (("part" : Str) = "end") = false := rfl
theorem wd_end_reckon : decide (("end" : Str) = "reckon") = false := rfl
theorem wd_end_copy : decide (("end" : Str) = "copy") = false := rfl
theorem wd_end_say : decide (("end" : Str) = "say") = false := rfl
theorem wd_end_go : decide (("end" : Str) = "go") = false := rfl
theorem wd_end_part : decide (("end" : Str) = "part") = false := rfl
theorem wd_end_end : decide (("end" : Str) = "end") = true := rfl
end J
namespace J
open PySem L2
section
variable {K : PySem.W.Frag}
end
end J
namespace J
open PySem L2
structure PSo (X : Cx) (st : Stmt) (t : TS) : Prop where
  go : PS X st t
structure PSso (X : Cx) (ss : List Stmt) (t : TS) : Prop where
  go : PSs X ss t
section
variable {X : Cx} {st : Stmt} {rest a b body : List Stmt} {t u tb : TS} {e c iter tg o i value : Expr} {te td ty tv : TE} {tc : TT} {g : TG} {wi : TI} {pos pos' : Pos} {k : Nat} {x : Str}
theorem qss_nil : PSso X [] tNext := ⟨pss_nil⟩
theorem qss_cons (h1 : PSo X st t) (h2 : PSso X rest u) : PSso X (st :: rest) (tSeq t u) := ⟨pss_cons h1.go h2.go⟩
theorem qss_one (h1 : PSo X st t) : PSso X [st] t := ⟨pss_one h1.go⟩
theorem qs_expr (he : PE X e te) (hs : swapsWith e none pos.line X.env = pure false := by rfl) : PSo X (.Expr e pos) (tDrop te) := ⟨ps_expr he hs⟩
theorem qs_ret (he : PE X e te) : PSo X (.Return (some e) pos) (tRet te) := ⟨ps_ret he⟩
theorem qs_if (hc : PT X c tc) (ha : PSso X a t) (hb : PSso X b u) : PSo X (.If c a b pos) (tIfS tc t u) := ⟨ps_if hc ha.go hb.go⟩
theorem qs_asg (he : PE X e te) (hg : PG X tg g) (hs : swapsWithSole [tg] e pos.line X.env = pure false := by rfl) (hw : swappedStores [tg] e X.env = pure none := by rfl)
    (h1 : (assignEach [tg] X.env).map (·.2) = [assign tg X.env] := by rfl) : PSo X (.Assign [tg] e pos) (tAsg te g) := ⟨ps_asg he hg hs hw h1⟩
theorem qs_set {i : Nat} (hN : X.N.Nodup) (hi : X.N[i]? = some x) (hx : Loc X.env.scope x) (he : PE X e te) (hs : swapsWith e (some (.Name x pos')) pos.line X.env = pure false := by rfl) (hf : X.fn x = true ∨ X.env.scope.names.lookup x = some .local := by first | exact .inl rfl | exact .inr rfl | assumption) :
    PSo X (.Assign [.Name x pos'] e pos) (tAsg te (gName i)) := ⟨ps_set hN hi hx he hs hf⟩
theorem qs_for (hp : PassesOwn (model X.prog X.w) X.A X.env X.xe) (hc : X.calm = true) (hi : PI X tg iter wi) (hg : PG X tg g) (hb : PSso X body tb)
    (hs : ∀ x, foldedSetIterable iter X.env x = pure x := by intro _; rfl) : PSo X (.For tg iter body [] pos) (tFor wi g tb) := ⟨ps_for hp hc hi hg hb.go hs⟩
theorem qs_setComp {N' : List Str} {scC : Scope} {ix : List Nat} {elt : Expr} {ifs : List Expr} {px : Pos} {i : Nat} {y : Str} {py spos : Pos} (hN : X.N.Nodup) (hiN : X.N[i]? = some y) (hy : X.env.scope.names.lookup y = some .local) (ok : CompOk X.N N' X.env.scope scC x ix) (hc : X.calm = true) (hi : PI X (.Name x px) iter wi) (hcs : ∀ C s₂ H₂ fp pn, PTs (X.blk N' scC C s₂ H₂ fp pn) ifs tc)
    (hes : ∀ C s₂ H₂ fp pn, PE (X.blk N' scC C s₂ H₂ fp pn) elt te) (hsw : swapsWith (.ListComp elt [⟨.Name x px, iter, ifs, 0⟩] scC pos) (some (.Name y py)) spos.line X.env = pure true := by rfl)
    (hs : ∀ x, foldedSetIterable iter X.env x = pure x := by intro _; rfl) : PSo X (.Assign [.Name y py] (.ListComp elt [⟨.Name x px, iter, ifs, 0⟩] scC pos) spos) (tAsg (tComp wi ix tc te) (gName i)) := ⟨ps_setComp hN hiN hy ok hc hi hcs hes hsw hs⟩
theorem qs_never : PSo X st (fun _ _ _ => False) := ⟨fun _ _ _ _ _ _ h => h.elim⟩
end
end J
namespace J
open PySem L2
noncomputable def keyOf : D → Option Key
  | .int i => some (.inl i)
  | .str x => some (.inr x)
  | _ => none
noncomputable def valD (ks : List (Key × D)) (k : Key) : Option D := (ks.find? fun kv => decide (kv.1 = k)).map (·.2)
noncomputable def putD (ks : List (Key × D)) (k : Key) (d : D) : List (Key × D) :=
  if (ks.any fun kv => decide (kv.1 = k)) = true then ks.map (fun kv => if kv.1 = k then (kv.1, d) else kv) else ks ++ [(k, d)]
section
variable {K : PySem.W.Frag} {H H' H₀ : Hp} {I : Nat → Option Addr} {O : Addr → Prop} {σ : L2.St} {env : Ev}
theorem keyOf_val {N : Addr → Prop} {d : D} {k : Key} {v : V} (e : keyOf d = some k) (h : Rp K N H v d) : v = kV k := by
  cases d <;> simp only [keyOf] at e <;> cases e
  · exact h.int_inv
  · exact h.str_inv
noncomputable def Ent (K : PySem.W.Frag) (N : Addr → Prop) (H : Hp) (kvs : List (Key × V)) (ks : List (Key × D)) : Prop := kvs.map (·.1) = ks.map (·.1) ∧ Rps K N H (kvs.map (·.2)) (ks.map (·.2))
theorem Ent.cons_inv {N : Addr → Prop} {p : Key × V} {kvs : List (Key × V)} {q : Key × D} {ks : List (Key × D)} (h : Ent K N H (p :: kvs) (q :: ks)) : p.1 = q.1 ∧ Rp K N H p.2 q.2 ∧ Ent K N H kvs ks := by
  obtain ⟨e, r⟩ := h
  rw [List.map_cons, List.map_cons] at e r
  obtain ⟨e1, e2⟩ := List.cons.inj e
  cases r with | cons a b => exact ⟨e1, a, e2, b⟩
theorem Ent.len {N : Addr → Prop} {kvs : List (Key × V)} {ks : List (Key × D)} (h : Ent K N H kvs ks) : kvs.length = ks.length := by
  have := congrArg List.length h.1
  simpa using this
theorem Ent.val {N : Addr → Prop} : ∀ {kvs : List (Key × V)} {ks : List (Key × D)} (k : Key), Ent K N H kvs ks → (valD ks k = none ∧ valV kvs k = none) ∨ ∃ d v, valD ks k = some d ∧ valV kvs k = some v ∧ Rp K N H v d
  | [], [], k, _ => .inl ⟨rfl, rfl⟩
  | [], _ :: _, k, h => absurd h.len (by simp)
  | _ :: _, [], k, h => absurd h.len (by simp)
  | p :: kvs, q :: ks, k, h => by
    obtain ⟨e, r, t⟩ := h.cons_inv
    by_cases z : q.1 = k
    · exact .inr ⟨q.2, p.2, by simp [valD, List.find?_cons, z], valV_pos (e.trans z), r⟩
    · have e1 : valD (q :: ks) k = valD ks k := by simp [valD, List.find?_cons, z]
      rw [e1, valV_neg (fun w => z (e.symm.trans w))]
      exact Ent.val k t
theorem Ent.put {N : Addr → Prop} {kvs : List (Key × V)} {ks : List (Key × D)} {k : Key} {v : V} {d : D} (h : Ent K N H kvs ks) (hv : Rp K N H v d) : Ent K N H (putK kvs k v) (putD ks k d) := by
  have ha : (kvs.any fun kv => decide (kv.1 = k)) = (ks.any fun kv => decide (kv.1 = k)) := by
    have : ∀ {α β : Type} (l : List (α × β)) (f : α → Bool), l.any (fun kv => f kv.1) = (l.map (·.1)).any f := fun l f => by rw [List.any_map]; rfl
    rw [this kvs fun a => decide (a = k), this ks fun a => decide (a = k), h.1]
  unfold putK putD
  rw [ha]
  split
  · have go : ∀ {kvs : List (Key × V)} {ks : List (Key × D)}, Ent K N H kvs ks → Ent K N H (kvs.map fun kv => if kv.1 = k then (kv.1, v) else kv) (ks.map fun kv => if kv.1 = k then (kv.1, d) else kv) := by
      intro kvs
      induction kvs with
      | nil => intro ks h; cases ks with
        | nil => exact ⟨rfl, .nil⟩
        | cons _ _ => exact absurd h.len (by simp)
      | cons p kvs ih =>
        intro ks h
        cases ks with
        | nil => exact absurd h.len (by simp)
        | cons q ks =>
          obtain ⟨e, r, t⟩ := h.cons_inv
          obtain ⟨i1, i2⟩ := ih t
          rw [List.map_cons, List.map_cons]
          by_cases z : q.1 = k
          · rw [if_pos z, if_pos (e.trans z)]
            exact ⟨by rw [List.map_cons, List.map_cons, i1, e], .cons hv i2⟩
          · rw [if_neg z, if_neg (fun w => z (e.symm.trans w))]
            exact ⟨by rw [List.map_cons, List.map_cons, i1, e], .cons r i2⟩
    exact go h
  · exact ⟨by rw [List.map_append, List.map_append, h.1]; rfl, by rw [List.map_append, List.map_append]; exact h.2.app (.cons hv .nil)⟩
theorem Val.dk {m : M} {ks : List (Key × D)} {v : V} {Hb : Hp} (h : Val K H₀ O Hb H m (.dk ks) v) : ∃ a kvs, v = .ref a ∧ Rd H a (.dK kvs) ∧ Ent K (NM H₀ O (elm m)) H kvs ks := by
  cases m <;> simp only [Val, Cell] at h
  · cases h with | dk r n e q => exact ⟨_, _, rfl, r, e, q⟩
  · cases h with | dk r n e q => exact ⟨_, _, rfl, r, e, q⟩
  · obtain ⟨p, rfl, _, _, _, xs, q, e, r⟩ := h; exact ⟨_, _, rfl, .inl q, e, r.wk fun a h _ => h.1⟩
  · obtain ⟨p, rfl, _, _, xs, q, e, r⟩ := h; exact ⟨_, _, rfl, .inl q, e, r⟩
  · obtain ⟨p, rfl, _, xs, q, e, r⟩ := h; exact ⟨_, _, rfl, .inl q, e, r⟩
  · cases h with | dk r n e q => exact ⟨_, _, rfl, r, e, q⟩
  · obtain ⟨p, qs, dss, rfl, e2, _⟩ := h; cases e2
noncomputable def dkOf : D → Option (List (Key × D))
  | .dk ks => some ks
  | _ => none
theorem dkOf_eq {d : D} {ks : List (Key × D)} (h : dkOf d = some ks) : d = .dk ks := by cases d <;> simp only [dkOf] at h <;> cases h; rfl
noncomputable def jDIn (neg : Bool) (fk fd : Ev → Option (M × D)) : Ev → Option (M × D) := fun e => (fk e).bind fun y => (fd e).bind fun x => (dkOf x.2).bind fun ks => (keyOf y.2).bind fun k => some (.fr, .bl (if neg then !(valD ks k).isSome else (valD ks k).isSome))
theorem Ent.isSome {N : Addr → Prop} {kvs : List (Key × V)} {ks : List (Key × D)} {k : Key} (h : Ent K N H kvs ks) : (valV kvs k).isSome = (valD ks k).isSome := by
  rcases h.val k with ⟨a, b⟩ | ⟨d, v, a, b, _⟩ <;> rw [a, b] <;> rfl
theorem jt_din {td ty : TE} {fd fk : Ev → Option (M × D)} (hk : JT K ty fk) (hd : JT K td fd) : JT K (tDIn ty td) (jDIn false fk fd) := by
  intro H₀ O H σ env Q m d R h q
  obtain ⟨y, ey, h⟩ := bind2 h
  obtain ⟨x, ex, h⟩ := bind2 h
  obtain ⟨ks, eks, h⟩ := bind2 h
  obtain ⟨k, ek, h⟩ := bind2 h
  cases h
  refine hk H₀ O H σ env _ y.1 y.2 R ey fun w H1 s1 h1 => ?_
  refine hd H₀ O H1 σ env _ x.1 x.2 (R.keep s1) ex fun v H2 s2 h2 => ?_
  rw [dkOf_eq eks] at h2
  obtain ⟨a, kvs, rfl, rd, en⟩ := h2.dk
  obtain rfl := keyOf_val ek h1.weak
  refine ⟨a, valV kvs k, rfl, .inl ⟨kvs, k, rd, rfl, rfl⟩, ?_⟩
  rw [en.isSome]
  exact q _ H2 (s1.trans s2) val_b
theorem jt_dnotin {td ty : TE} {fd fk : Ev → Option (M × D)} (hk : JT K ty fk) (hd : JT K td fd) : JT K (tDNotIn ty td) (jDIn true fk fd) := by
  intro H₀ O H σ env Q m d R h q
  obtain ⟨y, ey, h⟩ := bind2 h
  obtain ⟨x, ex, h⟩ := bind2 h
  obtain ⟨ks, eks, h⟩ := bind2 h
  obtain ⟨k, ek, h⟩ := bind2 h
  cases h
  refine hk H₀ O H σ env _ y.1 y.2 R ey fun w H1 s1 h1 => ?_
  refine hd H₀ O H1 σ env _ x.1 x.2 (R.keep s1) ex fun v H2 s2 h2 => ?_
  rw [dkOf_eq eks] at h2
  obtain ⟨a, kvs, rfl, rd, en⟩ := h2.dk
  obtain rfl := keyOf_val ek h1.weak
  refine ⟨a, valV kvs k, rfl, .inl ⟨kvs, k, rd, rfl, rfl⟩, ?_⟩
  rw [en.isSome]
  exact q _ H2 (s1.trans s2) val_b
end
end J
namespace J
open PySem L2
section
variable {K : PySem.W.Frag} {H H' H₀ : Hp} {I : Nat → Option Addr} {O : Addr → Prop} {σ : L2.St} {env : Ev}
theorem Rel.set_nb {i : Nat} {C : Addr} {qs : List Addr} {dss : List (List D)} {H1 : Hp} (R : Rel K H₀ I O H σ env) (s : Same H H1) (nn : ∀ (j : Nat) d, j ≠ i → env[j]? ≠ some (some (.nb, d))) (hC : H C = none) (hq : ∀ q ∈ qs, H q = none ∧ q ≠ C) (nd : qs.Nodup)
    (e : H1 C = some (.lst (qs.map V.ref))) (hp : Paired (fun q ds => ∃ xs, H1 q = some (.lst xs) ∧ Rps K (fun a => ¬ (O a ∨ a = C ∨ a ∈ qs) ∧ H₀ a = none) H1 xs ds) qs dss) :
    Rel K H₀ I (fun a => O a ∨ a = C ∨ a ∈ qs) H1 (σ.set i (some (.ref C))) (env.set i (some (.nb, .lst (dss.map D.lst)))) ∧ Stp O H (fun a => O a ∨ a = C ∨ a ∈ qs) H1 := by
  have np : ∀ a, (∃ o, H a = some o) → ¬ (a = C ∨ a ∈ qs) := fun a ⟨o, ea⟩ z => by
    rcases z with rfl | z
    · rw [hC] at ea; cases ea
    · rw [(hq a z).1] at ea; cases ea
  have n0 : ∀ a, (a = C ∨ a ∈ qs) → H₀ a = none := fun a z => by
    cases h0 : H₀ a with
    | none => rfl
    | some o => exact absurd z (np a (R.e.hd a o h0))
  have nO : ∀ a, (a = C ∨ a ∈ qs) → ¬ O a := fun a z ho => np a (R.e.od a ho) z
  have wk : ∀ {N : Addr → Prop} {d : D} {v : V}, Rp K N H v d → Rp K (fun a => N a ∧ ¬ (a = C ∨ a ∈ qs)) H1 v d := fun r => (r.wk fun a n e => ⟨n, np a e⟩).keep (.same s)
  have wks : ∀ {N : Addr → Prop} {d : D} {q : Addr}, Cell K N H q d → Cell K (fun a => N a ∧ ¬ (a = C ∨ a ∈ qs)) H1 q d := fun {N d q} r => by
    obtain ⟨o, e, _⟩ := r.some
    exact (r.wk fun a n e => ⟨n, np a e⟩).keep (.same s) ((s _ _ e).trans e.symm)
  have noN : ∀ {j : Nat} {d : D}, (env.set i (some (M.nb, D.lst (dss.map D.lst))))[j]? = some (some (.nb, d)) → j = i := fun {j d} h => by
    rcases get_set h with ⟨z, _⟩ | ⟨z, q⟩
    · exact z
    · exact absurd q (nn j d z)
  have inn : ∀ a, (a = C ∨ a ∈ qs) → ∃ o, H1 a = some o ∧ ¬ isT o := fun a z => by
    rcases z with rfl | z
    · exact ⟨_, e, fun z => z⟩
    · obtain ⟨ds, xs, hx, _⟩ := npair_at hp z
      exact ⟨_, hx, fun z => z⟩
  refine ⟨⟨⟨paired_of ?_ ?_, ?_, ?_, ?_⟩, ?_, ?_, ?_, ?_, ?_⟩, ?_⟩
  · rw [List.length_set, List.length_set]; exact Paired.length R.e.sl
  · intro j y x hy hx m d ey
    subst ey
    rcases get_set hy with ⟨rfl, z⟩ | ⟨nj, q⟩
    · cases z
      rcases get_set hx with ⟨_, z⟩ | ⟨z, _⟩
      · subst z
        exact ⟨rfl, _, rfl, C, qs, dss, rfl, rfl, .inr (.inl rfl), n0 C (.inl rfl), e, nd, fun q hm => ⟨.inr (.inr hm), n0 q (.inr hm), (hq q hm).2⟩, hp⟩
      · exact absurd rfl z
    · rw [List.getElem?_set_ne (fun z => nj z.symm)] at hx
      obtain ⟨v, hv, n, z⟩ := R.e.at q
      rw [hx] at hv; cases hv
      refine ⟨n, v, rfl, ?_⟩
      cases m
      · exact (wk z).wk fun a h _ => fun z => z.elim h.1 h.2
      · exact (wk z).wk fun a h _ => ⟨fun z => z.elim h.1.1 h.2, h.1.2⟩
      · cases n
      · obtain ⟨q, rfl, h1, h2, c'⟩ := z
        exact ⟨q, rfl, .inl h1, h2, (wks c').wk fun a h _ => ⟨fun z => z.elim h.1.1 h.2, h.1.2⟩⟩
      · obtain ⟨q, rfl, h1, c'⟩ := z
        exact ⟨q, rfl, .inl h1, (wks c').wk fun a h _ => ⟨fun z => z.elim h.1.1 h.2, h.1.2⟩⟩
      · cases n
      · exact absurd q (nn j d nj)
  · intro a ha
    rcases ha with ha | ha
    · obtain ⟨o, e⟩ := R.e.od a ha; exact ⟨o, s _ _ e⟩
    · obtain ⟨o, eo, _⟩ := inn a ha; exact ⟨o, eo⟩
  · exact fun a o h => let ⟨o, e⟩ := R.e.hd a o h; ⟨o, s _ _ e⟩
  · intro a u ha eu
    rcases ha with ha | ha
    · exact (R.e.keep s).on a u ha eu
    · obtain ⟨o, eo, nt⟩ := inn a ha
      rw [eu] at eo; cases eo; exact nt
  · exact fun a o n h => s _ _ (R.fr a o n h)
  · intro a ha
    rcases ha with ha | ha
    · exact R.ow a ha
    · exact .inr (n0 a ha)
  · intro i' d' p' h1 p1
    rcases get_set h1 with ⟨rfl, q⟩ | ⟨n1, q1⟩
    · cases q
    · rw [List.getElem?_set_ne (fun z => n1 z.symm)] at p1
      exact R.ba i' d' p' q1 p1
  · intro i' j x y q h1 h2 o1 o2 p1 p2
    rcases get_set h1 with ⟨rfl, q1⟩ | ⟨n1, q1⟩
    · cases q1; cases o1
    · rcases get_set h2 with ⟨rfl, q2⟩ | ⟨n2, q2⟩
      · cases q2; cases o2
      · rw [List.getElem?_set_ne (fun z => n1 z.symm)] at p1
        rw [List.getElem?_set_ne (fun z => n2 z.symm)] at p2
        exact R.dj i' j x y q q1 q2 o1 o2 p1 p2
  · refine ⟨fun i' j d1 d2 h1 h2 => (noN h1).trans (noN h2).symm, fun i' j d1 x p' q xs h1 p1 h2 o2 p2 ex => ?_⟩
    have hi := noN h1
    subst hi
    have hpC : p' = C := by
      rcases get_set p1 with ⟨_, z⟩ | ⟨z, _⟩
      · cases z; rfl
      · exact absurd rfl z
    subst hpC
    rw [e] at ex; cases ex
    rcases get_set h2 with ⟨rfl, z⟩ | ⟨n2, q2⟩
    · cases z; cases o2
    · rw [List.getElem?_set_ne (fun z => n2 z.symm)] at p2
      have hO := (R.own_at q2 o2 p2).1
      refine ⟨fun z => nO q (.inl z) hO, fun z => ?_⟩
      obtain ⟨a, ha, ea⟩ := List.mem_map.mp z
      exact nO q (.inr (by cases ea; exact ha)) hO
  · intro a o h n
    exact ⟨s a o h, fun z => z.elim n (np a ⟨o, h⟩)⟩
noncomputable def noNb (i : Nat) (e : Ev) : Bool := (List.range e.length).all fun j => decide (j = i) || (match e[j]? with
  | some (some (.nb, _)) => false
  | _ => true)
theorem noNb_at {i : Nat} {e : Ev} (h : noNb i e = true) (j : Nat) (d : D) (hj : j ≠ i) : e[j]? ≠ some (some (.nb, d)) := fun z => by
  have hl : j < e.length := (List.getElem?_eq_some_iff.mp z).1
  have := List.all_eq_true.mp h j (List.mem_range.mpr hl)
  rw [z, decide_eq_false hj] at this
  cases this
noncomputable def jNest (i : Nat) (it : Ev → Option (M × List D)) : Ev → Option Fl := fun e => (it e).bind fun y => if noNb i e = true ∧ y.2.length < sizeLine then some (.nx (e.set i (some (.nb, .lst ((y.2.map fun _ => ([] : List D)).map D.lst))))) else none
theorem js_nest {i : Nat} {wi : TI} {ix : List Nat} {it : Ev → Option (M × List D)} (hi : JI K wi it) : JS K (tAsg (tComp wi ix tYes (tLst tNil)) (gName i)) (jNest i it) := by
  intro H₀ I O H σ env Ds fl R e q
  obtain ⟨⟨mi, ds⟩, ei, e⟩ := bind2 e
  split at e
  · rename_i hc
    obtain ⟨hn, hl⟩ := hc
    cases e
    refine hi H₀ O H σ env _ mi ds R.e ei fun J H1 s1 hm ok C hC => ?_
    refine ⟨fun k n H2 => n = ds.length - k ∧ k ≤ ds.length ∧ Same H1 H2 ∧ ∃ qs : List Addr, H2 C = some (.lst (qs.map V.ref)) ∧ qs.length = k ∧ qs.Nodup ∧ ∀ q ∈ qs, H1 q = none ∧ q ≠ C ∧ H2 q = some (.lst []), ⟨_, rfl, Nat.zero_le _, same_newJ hC, [], upd_same, rfl, List.nodup_nil, fun _ h => nomatch h⟩, ?_⟩
    rintro k n H2 ⟨rfl, hle, s2, qs, hqs, hql, hnd, hqq⟩
    have st2 : Stp O H1 O H2 := Stp.same s2
    by_cases hlt : k < ds.length
    · refine .inr ⟨ok.go O H2 k st2 hlt, fun x H3 y => ?_⟩
      obtain ⟨s3, _⟩ := ok.yld O H2 k x H3 st2 hlt y
      refine My.yesT (σ := some x :: frOf σ ix) (H := H3) (A := fun H3 => tLst tNil (some x :: frOf σ ix) H3 _) (B := fun H3 => _) ?_
      refine ⟨Nat.zero_le _, fun p hp => ?_⟩
      have c3 : H3 C = some (.lst (qs.map V.ref)) := s3 _ _ hqs
      have hpC : C ≠ p := ne_of_none c3 hp
      have hpq : p ∉ qs := fun z => by rw [s3 _ _ (hqq p z).2.2] at hp; cases hp
      refine ⟨qs.map V.ref, by rw [upd_ne hpC]; exact c3, by rw [List.length_map, hql]; exact Nat.lt_trans hlt hl, ds.length - (k + 1), by omega, rfl, hlt, fun a o ha => ?_, qs ++ [p], ?_, by rw [List.length_append, hql]; rfl, ?_, fun a ha => ?_⟩
      · rw [upd_ne (ne_of_none ha hC)]
        have h3 := s3 _ _ (s2 _ _ ha)
        rw [upd_ne (ne_of_none h3 hp)]; exact h3
      · rw [upd_same, List.map_append]; rfl
      · rw [List.nodup_append]
        refine ⟨hnd, by simp, fun a ha b hb => ?_⟩
        have : b = p := by simpa using hb
        subst this
        exact fun z => hpq (z ▸ ha)
      · rcases List.mem_append.mp ha with ha | ha
        · obtain ⟨z1, z2, z3⟩ := hqq a ha
          refine ⟨z1, z2, ?_⟩
          have h3 := s3 _ _ z3
          rw [upd_ne z2, upd_ne (ne_of_none h3 hp)]; exact h3
        · have : a = p := by simpa using ha
          subst this
          have hn1 : H1 a = none := by
            cases h1 : H1 a with
            | none => rfl
            | some o => rw [s3 _ _ (s2 _ _ h1)] at hp; cases hp
          exact ⟨hn1, fun z => hpC z.symm, by rw [upd_ne (fun z => hpC z.symm), upd_same]⟩
    · have hk : k = ds.length := by omega
      subst hk
      refine .inl ⟨ok.stop O H2 st2, ?_⟩
      have pr : ∀ (qs : List Addr) (ds : List D) (N : Addr → Prop), qs.length = ds.length → (∀ q ∈ qs, H2 q = some (.lst [])) → Paired (fun q (es : List D) => ∃ xs, H2 q = some (.lst xs) ∧ Rps K N H2 xs es) qs (ds.map fun _ => ([] : List D)) := by
        intro qs
        induction qs with
        | nil => intro ds N h _; cases ds with
          | nil => exact .nil
          | cons _ _ => cases h
        | cons a qs ih => intro ds N h hh; cases ds with
          | nil => cases h
          | cons d ds => exact .cons ⟨[], hh a List.mem_cons_self, .nil⟩ (ih ds N (by simpa using h) fun q hq => hh q (List.mem_cons_of_mem _ hq))
      obtain ⟨R', st⟩ := (R.keep s1).set_nb (i := i) (C := C) (qs := qs) (dss := ds.map fun _ => []) s2 (fun j d hj => noNb_at hn j d hj) hC (fun a ha => ⟨(hqq a ha).1, (hqq a ha).2.1⟩) hnd hqs (pr qs ds _ hql fun a ha => (hqq a ha).2.2)
      exact q _ H2 _ R' ((Stp.same s1).trans st)
  · cases e
end
end J
namespace J
open PySem L2
section
variable {K : PySem.W.Frag}
noncomputable def jNever : Ev → Option Fl := fun _ => none
theorem js_never : JS K (fun _ _ _ => False) jNever := by
  intro H₀ I O H σ env Ds fl R h q
  cases h
end
end J
namespace J
open PySem L2
section
variable {K : PySem.W.Frag} {H H' H₀ : Hp} {O : Addr → Prop} {σ : L2.St} {env : Ev}
end
end J
namespace J
open PySem PySem.Spec PyProof.Rows L2
section
variable {X : Cx} {pins : List (Addr × Obj)} {σ : L2.St} {H : Hp} {s : Shared} {a d it : Addr}
end
end J
namespace J
open PySem PySem.Spec PyProof.Rows L2
section
variable {K : PySem.W.Frag} {N : Addr → Prop} {H H' H₀ H₁ : Hp} {I : Nat → Option Addr} {O : Addr → Prop} {σ : L2.St} {env : Ev}
theorem Ent.at {kvs : List (Key × V)} {ks : List (Key × D)} {i : Nat} {kv : Key × V} (h : Ent K N H kvs ks) (e : kvs[i]? = some kv) : ∃ d, ks[i]? = some (kv.1, d) ∧ Rp K N H kv.2 d := by
  induction kvs generalizing ks i with
  | nil => simp at e
  | cons p kvs ih =>
    cases ks with
    | nil => exact absurd h.len (by simp)
    | cons q ks =>
      obtain ⟨e1, r, t⟩ := h.cons_inv
      cases i with
      | zero => simp only [List.getElem?_cons_zero, Option.some.injEq] at e; subst e; exact ⟨q.2, by rw [List.getElem?_cons_zero, e1], r⟩
      | succ i => obtain ⟨d, h1, h2⟩ := ih t (by simpa using e); exact ⟨d, by simpa using h1, h2⟩
end
end J
namespace J
open PySem
end J
namespace J
open PySem PySem.Spec PyProof.Rows L2
section
variable {X : Cx} {pins : List (Addr × Obj)} {σ : L2.St} {H : Hp} {s : Shared} {N N' : Addr → Prop} {A : Around} {a b : Addr} {kvs lvs : List (Key × V)} {ks ls : List (Key × D)}
end
section
variable {X : Cx} {K : PySem.W.Frag}
end
end J
namespace J
open PySem PySem.Spec PyProof.Rows L2
theorem ints_of : ∀ {ns : List Int} {us : List Value}, Vals (ns.map V.int) us → IntsAre us ns
  | [], _, .nil => .nil
  | n :: ns, _, .cons ⟨t, e⟩ r => by subst e; exact .cons n t (ints_of r)
section
variable {K : PySem.W.Frag} {H : Hp}
end
structure FunD (K : PySem.W.Frag) (x : Str) (st : Stmt) (f : Addr) (fd : FuncData) : Prop where
  ex : ∃ (oc : Value) (od : Option Addr) (dV kV doc pm : Value) (an : Option Addr) (cdv ct : Value) (osl : Array (Option Value)),
    fd = PySem.W.fnOf x x (defArgs st) (defBody st) (defScope st) dV kV doc pm an cdv ct ∧ K.lookup f = some ⟨oc, od, .func fd, osl⟩ ∧ PySem.W.codeIn K cdv x = true
  kp : PySem.W.keepIn K (.ref f) = true
theorem FunD.ok {P : Program} {w : World} {K : PySem.W.Frag} {mg : Str → Option Value} {base : Heap} {x : Str} {st : Stmt} {f : Addr} {fd : FuncData} {N ps : List Str} {k : Nat} {sp : Sp} (F : FunD K x st f fd) (S : FnScope N ps (defScope st)) (len : ∀ vs H Q E, sp vs H Q E → vs.length = ps.length)
    (hbody : ∀ (cdv : Value) (A : Around) (outer : List Env) (s : Shared) (H : Hp) (vs : List V) (Q : VK) (E : XK), Room k (A.deeper (envOfC x (defScope st) s.heap.objs.size f cdv)) → sp vs H Q E →
      ∃ t, PSs (cxOf CX0 P w K mg base N x (defScope st) f cdv A outer s H E).nox (defBody st) t ∧ t { nx := fun _ H' => Q .non H', rt := Q } (L2.start N vs) H) : FnOk P w K mg base CX0 (k + 1) f fd ps sp := by
  obtain ⟨oc, od, dV, kV, doc, pm, an, cdv, ct, osl, rfl, lk, hcd⟩ := F.ex
  refine fn_of lk hcd S len fun A outer s H vs Q E hr hsp => ?_
  obtain ⟨t, h, q⟩ := hbody cdv A outer s H vs Q E hr hsp
  exact ⟨t, h.nox, q⟩
structure DfD (K : PySem.W.Frag) (mg : Str → Option Value) (x : Str) (st : Stmt) (ps : List Str) (dv : Value) (f : Addr) (fd : FuncData) : Prop where
  mg : mg x = some (.ref f)
  fn : FunD K x st f fd
  bd : Binds K fd ps []
  bd1 : Binds K fd ps [dv]
end J
namespace J
open PySem PySem.Spec PyProof.Rows L2
open Builtin Builtin.Str
theorem vals_strs : ∀ (l : List (Str × Tok)), Vals ((l.map (·.1)).map V.str) (strValues l)
  | [] => .nil
  | p :: l => .cons ⟨p.2, rfl⟩ (vals_strs l)
theorem mt_split {X : Cx} : MtR X "str.split" (fun x xs H Q => ∃ z y : Str, x = .str z ∧ xs = [.str y] ∧ (y.length == 0) = false ∧ z.length ≤ sizeLine ∧ (Txt.split z y).length ≤ sizeLine ∧ ∀ l, H l = none → Q (.ref l) (upd H l (.lst ((Txt.split z y).map V.str)))) := by
  intro pins s σ H x xs v us Q I rx r h
  obtain ⟨z, y, rfl, rfl, hy, hz, hl, q⟩ := h
  obtain ⟨u, rfl, ru⟩ := vals1 r
  obtain ⟨tk, rfl⟩ := (show ∃ t, v = Value.str z t from rx)
  obtain ⟨tk', rfl⟩ := (show ∃ t, u = Value.str y t from ru)
  have fin : ∀ (l : List (Str × Tok)) (k : Nat), l.map (·.1) = Txt.split z y → EP X pins σ Q (.ref s.heap.objs.size) { s with toks := k, heap := s.heap.push { cls := .type "list", data := .seq (strValues l).toArray } } := fun l k e =>
    ⟨.ref _, _, I.lnew (t' := k) (vals_strs l) (by rw [e, List.length_map]; exact hl), rfl, by rw [e]; exact q _ I.fresh⟩
  cases h1 : (decide (z.length < y.length) || decide (strKind z < strKind y))
  · cases hf : (occurrences z y 0 z.length (z.length + 1)).isEmpty
    · have e : Txt.split z y = partsBetween z (occurrences z y 0 z.length (z.length + 1)) y.length := (if_neg (ne_true_of_eq_false h1)).trans (if_neg (ne_true_of_eq_false hf))
      refine call_meets F.slot_str_split (typeIs_str _ _ _) F.entry_str_split (F.args_str_split_2 _ _) (meets_str_split_sep z y tk tk' h1 hy hf hz (by rw [← e]; exact hl)) ?_
      show wants _ _ _ { s with toks := _, heap := s.heap.push { cls := .type "list", data := .seq (strsFrom s.toks (partsBetween z (occurrences z y 0 z.length (z.length + 1)) y.length)).toArray } }
      rw [strsFrom_eq]
      exact fin (numbered s.toks _) _ ((numbered_texts _ _).trans e.symm)
    · exact call_meets F.slot_str_split (typeIs_str _ _ _) F.entry_str_split (F.args_str_split_2 _ _) (meets_str_split_not_found z y tk tk' h1 hy hf)
        (fin [(z, tk)] _ ((if_neg (ne_true_of_eq_false h1)).trans (if_pos hf)).symm)
  · exact call_meets F.slot_str_split (typeIs_str _ _ _) F.entry_str_split (F.args_str_split_2 _ _) (meets_str_split_cannot_occur z y tk tk' h1)
      (fin [(z, tk)] _ (if_pos h1).symm)
theorem mt_partition {X : Cx} : MtR X "str.partition" (fun x xs H Q => ∃ z y : Str, x = .str z ∧ xs = [.str y] ∧ (y.length == 0) = false ∧ z.length ≤ sizeLine ∧ ∀ l, H l = none → Q (.ref l) (upd H l (.tup [.str (Txt.partition z y).1, .str (Txt.partition z y).2.1, .str (Txt.partition z y).2.2]))) := by
  intro pins s σ H x xs v us Q I rx r h
  obtain ⟨z, y, rfl, rfl, hy, hz, q⟩ := h
  obtain ⟨u, rfl, ru⟩ := vals1 r
  obtain ⟨tk, rfl⟩ := (show ∃ t, v = Value.str z t from rx)
  obtain ⟨tk', rfl⟩ := (show ∃ t, u = Value.str y t from ru)
  have fin : ∀ (ta tb tc : Tok) (k : Nat), EP X pins σ Q (.ref s.heap.objs.size) { s with toks := k, heap := s.heap.push { cls := .type "tuple", data := .seq [.str (Txt.partition z y).1 ta, .str (Txt.partition z y).2.1 tb, .str (Txt.partition z y).2.2 tc].toArray } } := fun ta tb tc k =>
    ⟨.ref _, _, I.laid (o := .tup [.str (Txt.partition z y).1, .str (Txt.partition z y).2.1, .str (Txt.partition z y).2.2]) (t' := k) (fun _ _ q => Heap.get?_push_of_some _ q) (Nat.le_refl _) ⟨(by show 3 ≤ sizeLine; decide), _, .cons ⟨_, rfl⟩ (.cons ⟨_, rfl⟩ (.cons ⟨_, rfl⟩ .nil)), _, Heap.get?_push_size _ rfl, rfl, _, rfl⟩, rfl, q _ I.fresh⟩
  refine call_meets F.slot_str_partition (typeIs_str _ _ _) F.entry_str_partition (F.args_str_partition_2 _ _) (meets_str_partition z y tk tk' hy hz) ?_
  have h' := fin
  unfold Txt.partition at h'
  revert h'
  cases occurrences z y 0 z.length 1 with
  | nil => intro h'; exact h' _ _ _ _
  | cons i r => intro h'; exact h' _ _ _ _
theorem call_strJ {X : Cx} : CallR X (.type "str") (fun xs H Q => (∃ i, xs = [.int i] ∧ i.natAbs.log2 < 1920 ∧ Q (.str (toString i)) H) ∨ ∃ z : Str, xs = [.str z] ∧ Q (.str z) H) := by
  intro pins s σ H xs us Q I r h
  rcases h with h | ⟨z, rfl, q⟩
  · exact call_str_int pins s σ H xs us Q I r h
  · obtain ⟨u, rfl, t, rfl⟩ := vals1 r
    exact PySem.P.str_of_str ⟨.str z, H, I, ⟨_, rfl⟩, q⟩
theorem call_any_bls {X : Cx} (hc : X.calm = true) : CallR X (.builtin "any") (fun xs H Q => ∃ (p : Addr) (bs : List Bool), xs = [.ref p] ∧ SqL X.K H p (bs.map V.bl) ∧ Q (.bl (bs.any id)) H) := by
  intro pins s σ H xs us Q I r h
  obtain ⟨p, bs, rfl, hq, q⟩ := h
  obtain ⟨u, rfl, rx⟩ := vals1 r
  cases rx
  obtain ⟨its, rv, pl, hz⟩ := I.list hq
  have hlen : bs.length = its.length := by simpa using rv.length
  have hnp : p ≠ s.heap.objs.size := by
    obtain ⟨o, n, e, _⟩ := pl
    exact Nat.ne_of_lt (Heap.lt_size e)
  refine call_any_walk (wpAny_pyIter_list pl.isList ?_)
  refine ⟨s.heap.objs.size, _, _, _, _, _, fun i => bs.getD i true, rfl, Walks.list (show X.A.in1.handled = none from I.ok.hd hc) s.heap.objs.size p hnp its.toArray, ⟨⟨_, Heap.get?_push_size _ rfl, rfl, rfl⟩, ?_⟩, fun i v s' Q' E' hv hQ' => ?_, fun h' tk kp => ?_⟩
  · obtain ⟨o, n, e, e2, e3, e4⟩ := pl
    exact ⟨o, Heap.get?_push_of_some _ e, e2, n, e4⟩
  · have hv' : its[i]? = some v := by simpa using hv
    have hi : i < its.length := (List.getElem?_eq_some_iff.mp hv').1
    have hb : (bs.map V.bl)[i]? = some (V.bl (bs.getD i true)) := by
      rw [List.getElem?_map, List.getElem?_eq_getElem (by omega), List.getD_eq_getElem?_getD, List.getElem?_eq_getElem (by omega)]; rfl
    obtain ⟨u, hu, ru⟩ := rv.get hb
    rw [hv'] at hu
    cases hu
    cases (show v = Value.bool _ from ru)
    exact wpAny_truthy_bool hQ'
  · have eb : (List.range its.toArray.size).any (fun i => bs.getD i true) = bs.any id := by
      rw [List.size_toArray, ← hlen]
      conv => rhs; rw [← range_getD bs true]
      rw [List.any_map]; rfl
    refine ⟨.bl (bs.any id), H, ?_, ?_, q⟩
    · have I1 : Inv X pins σ H { s with heap := s.heap.push { cls := .type "list_iterator", data := .fields #[.ref p, .int 0 0] }, toks := s.toks } := I.kept fun b o e => Heap.get?_push_of_some _ e
      refine I1.turned (it := s.heap.objs.size) (fun b o hb e => kp b o (by simpa using hb) e) (I.hok.fresh (Nat.le_refl _)) (Nat.ne_of_gt I.lt) (.inr I.sz) (fun x c e => ?_) fun z hz => ?_
      · obtain ⟨v, o, ho, _⟩ := I.cell x c e
        exact Nat.ne_of_lt (Heap.lt_size ho)
      · exact Nat.ne_of_lt (Heap.lt_size (I.pin z hz).1)
    · rw [eb]; rfl
theorem op_repS {X : Cx} : OpR X (binaryOp .Mult) (fun x y H Q => ∃ (z : Str) (n : Int), x = .str z ∧ y = .int n ∧ n ≤ 1000 ∧ -1000 ≤ n ∧ z.length ≤ 1000 ∧ Q (.str (Txt.mul z n)) H) := by
  intro pins s σ H x y v u Q I rx ry h
  obtain ⟨z, n, rfl, rfl, h1, h0, hz, q⟩ := h
  obtain ⟨tk, rfl⟩ := (show ∃ t, v = Value.str z t from rx)
  obtain ⟨tk', rfl⟩ := (show ∃ t, u = Value.int n t from ry)
  refine SB.mul ⟨?_, fun a _ => ?_, fun a _ => ?_⟩ fun t' k => ⟨.str _, H, I.tok k, ⟨_, rfl⟩, q⟩
  · rw [Bool.or_eq_false_iff]
    exact ⟨decide_eq_false (by omega), decide_eq_false (by omega)⟩
  · have : (1000 : Int) ≤ (2 ^ 63 - 1) / n := by
      refine (Int.le_ediv_iff_mul_le (by omega)).mpr ?_
      omega
    omega
  · have : z.length * n.toNat ≤ 1000 * 1000 := Nat.mul_le_mul hz (by omega)
    have hs : 1000 * 1000 ≤ sizeLine := by decide
    unfold tooLong
    exact decide_eq_false (by omega)
section
variable {K : PySem.W.Frag} {H : Hp}
theorem rps_of_strs {N : Addr → Prop} : ∀ (ns : List Str), Rps K N H (ns.map V.str) (ns.map D.str)
  | [] => .nil
  | n :: ns => .cons (.str n) (rps_of_strs ns)
noncomputable def gSplit : M × D → List (M × D) → Option (M × D)
  | (_, .str z), [(_, .str y)] => if (y.length == 0) = false ∧ z.length ≤ sizeLine ∧ (Txt.split z y).length ≤ sizeLine then some (.un, .lst ((Txt.split z y).map D.str)) else none
  | _, _ => none
theorem jbm_split : JBM K "str" (fun x xs H Q => ∃ z y : Str, x = .str z ∧ xs = [.str y] ∧ (y.length == 0) = false ∧ z.length ≤ sizeLine ∧ (Txt.split z y).length ≤ sizeLine ∧ ∀ l, H l = none → Q (.ref l) (upd H l (.lst ((Txt.split z y).map V.str)))) gSplit := by
  intro H₀ O H x vs a mds Q m d od hd h1 h2 h q
  unfold gSplit at h
  split at h
  · split at h
    · rename_i ho
      cases h
      obtain ⟨v, rfl, hv⟩ := h2.one
      exact ⟨_, _, h1.str, by rw [hv.str], ho.1, ho.2.1, ho.2.2, fun l hn => q _ _ (same_newJ hn) ⟨l, rfl, hn, fresh_n0 hd hn, fresh_no od hn, _, upd_same, rps_of_strs _⟩⟩
    · cases h
  · cases h
noncomputable def gPartition : M × D → List (M × D) → Option (M × D)
  | (_, .str z), [(_, .str y)] => if (y.length == 0) = false ∧ z.length ≤ sizeLine then some (.fr, .tup [.str (Txt.partition z y).1, .str (Txt.partition z y).2.1, .str (Txt.partition z y).2.2]) else none
  | _, _ => none
theorem jbm_partition : JBM K "str" (fun x xs H Q => ∃ z y : Str, x = .str z ∧ xs = [.str y] ∧ (y.length == 0) = false ∧ z.length ≤ sizeLine ∧ ∀ l, H l = none → Q (.ref l) (upd H l (.tup [.str (Txt.partition z y).1, .str (Txt.partition z y).2.1, .str (Txt.partition z y).2.2]))) gPartition := by
  intro H₀ O H x vs a mds Q m d od hd h1 h2 h q
  unfold gPartition at h
  split at h
  · split at h
    · rename_i ho
      cases h
      obtain ⟨v, rfl, hv⟩ := h2.one
      exact ⟨_, _, h1.str, by rw [hv.str], ho.1, ho.2, fun l hn => q _ _ (same_newJ hn) (Rp.tup (.inl (.inl upd_same)) (.cons (.str _) (.cons (.str _) (.cons (.str _) .nil))))⟩
    · cases h
  · cases h
noncomputable def gStr : List (M × D) → Option (M × D)
  | [(_, .int i)] => if i.natAbs.log2 < 1920 then some (.fr, .str (toString i)) else none
  | [(_, .str z)] => some (.fr, .str z)
  | _ => none
theorem jcb_str : JCB K (fun xs H Q => (∃ i, xs = [.int i] ∧ i.natAbs.log2 < 1920 ∧ Q (.str (toString i)) H) ∨ ∃ z : Str, xs = [.str z] ∧ Q (.str z) H) gStr := by
  intro H₀ O H vs mds Q m d _ _ hv h q
  unfold gStr at h
  split at h
  · split at h
    · rename_i hl
      cases h
      obtain ⟨v, rfl, hw⟩ := hv.one
      exact .inl ⟨_, by rw [hw.int], hl, q _ H (Same.refl H) val_s⟩
    · cases h
  · cases h
    obtain ⟨v, rfl, hw⟩ := hv.one
    exact .inr ⟨_, by rw [hw.str], q _ H (Same.refl H) val_s⟩
  · cases h
noncomputable def gAny : List (M × D) → Option (M × D)
  | [(_, .lst ds)] => (blsD ds).bind fun bs => some (.fr, .bl (bs.any id))
  | _ => none
theorem call_any_J {X : Cx} (h : X.K = K) (hc : X.calm = true) : CallR X (.builtin "any") (fun xs H Q => ∃ (p : Addr) (bs : List Bool), xs = [.ref p] ∧ SqL K H p (bs.map V.bl) ∧ Q (.bl (bs.any id)) H) := by subst h; exact call_any_bls hc
theorem jcb_any : JCB K (fun xs H Q => ∃ (p : Addr) (bs : List Bool), xs = [.ref p] ∧ SqL K H p (bs.map V.bl) ∧ Q (.bl (bs.any id)) H) gAny := by
  intro H₀ O H vs mds Q m d _ _ hv h q
  unfold gAny at h
  split at h
  · obtain ⟨bs, eb, h⟩ := bind2 h
    cases h
    obtain ⟨v, rfl, hw⟩ := hv.one
    obtain ⟨a, xs, rfl, r, s⟩ := hw.lst
    rw [rps_bls s eb] at r
    exact ⟨_, _, rfl, r, q _ H (Same.refl H) val_b⟩
  · cases h
noncomputable def gRepS : M × D → M × D → Option (M × D)
  | (_, .str z), (_, .int n) => if n ≤ 1000 ∧ -1000 ≤ n ∧ z.length ≤ 1000 then some (.fr, .str (Txt.mul z n)) else none
  | _, _ => none
theorem jr_repS : JR K (fun x y H Q => ∃ (z : Str) (n : Int), x = .str z ∧ y = .int n ∧ n ≤ 1000 ∧ -1000 ≤ n ∧ z.length ≤ 1000 ∧ Q (.str (Txt.mul z n)) H) gRepS := by
  intro H₀ O H x y a b Q m d _ _ h1 h2 h q
  unfold gRepS at h
  split at h
  · split at h
    · rename_i hk
      cases h
      exact ⟨_, _, h1.str, h2.int, hk.1, hk.2.1, hk.2.2, q _ H (Same.refl H) val_s⟩
    · cases h
  · cases h
end
end J
namespace C
open PySem PySem.Spec L2 J
inductive Bo where | add | sub | mul | div | mod | pow | repS
inductive Co where | lt | le | gt | ge | eq | ne | isN | ntN | inF | neD | inS | niS
inductive Uo where | neg
inductive Fb where | int | list | len | abs | isi | all | str | any
inductive Ms where | index | join | split | partition
noncomputable def Bo.op : Bo → Operator
  | .add => .Add
  | .sub => .Sub
  | .mul => .Mult
  | .div => .FloorDiv
  | .mod => .Mod
  | .pow => .Pow
  | .repS => .Mult
noncomputable def Bo.g : Bo → M × D → M × D → Option (M × D)
  | .add => gAdd
  | .sub => jSub
  | .mul => jMul
  | .div => jDivJ
  | .mod => jMod
  | .pow => jPow
  | .repS => gRepS
theorem Bo.ok {K : PySem.W.Frag} : ∀ o : Bo, ∃ r, (∀ Z : Cx, Z.K = K → OpR Z (binaryOp o.op) r) ∧ JR K r o.g
  | .add => ⟨_, fun _ h => op_addJ h, jr_addJ⟩
  | .sub => ⟨_, fun _ _ => op_sub, jr_sub⟩
  | .mul => ⟨_, fun _ _ => op_mul, jr_mul⟩
  | .div => ⟨_, fun _ _ => op_fdivJ, jr_divJ⟩
  | .mod => ⟨_, fun _ _ => op_mod, jr_mod⟩
  | .pow => ⟨_, fun _ _ => op_pow, jr_pow⟩
  | .repS => ⟨_, fun _ _ => op_repS, jr_repS⟩
noncomputable def Co.op : Co → CmpOp
  | .lt => .Lt
  | .le => .LtE
  | .gt => .Gt
  | .ge => .GtE
  | .eq => .Eq
  | .ne => .NotEq
  | .isN => .Is
  | .ntN => .IsNot
  | .inF => .In
  | .neD => .NotEq
  | .inS => .In
  | .niS => .NotIn
noncomputable def Co.g : Co → M × D → M × D → Option (M × D)
  | .lt => jLt
  | .le => jLe
  | .gt => jGt
  | .ge => jGe
  | .eq => gEq
  | .ne => gNe
  | .isN => gIsN
  | .ntN => gNotN
  | .inF => gInF false
  | .neD => gNeD
  | .inS => gInS false
  | .niS => gInS true
theorem Co.ok {K : PySem.W.Frag} : ∀ o : Co, ∃ r, (∀ Z : Cx, Z.K = K → Z.A.units + 64 < cLine → OpR Z (compareOp o.op) r) ∧ JR K r o.g
  | .lt => ⟨_, fun _ _ _ => op_lt, jr_lt⟩
  | .le => ⟨_, fun _ _ _ => op_le, jr_le⟩
  | .gt => ⟨_, fun _ _ _ => op_gt, jr_gt⟩
  | .ge => ⟨_, fun _ _ _ => op_ge, jr_ge⟩
  | .eq => ⟨_, fun _ _ _ => op_eq, jr_eq⟩
  | .ne => ⟨_, fun _ _ _ => op_ne, jr_ne⟩
  | .isN => ⟨_, fun _ _ _ => op_isN, jr_isN⟩
  | .ntN => ⟨_, fun _ _ _ => op_notN, jr_notN⟩
  | .inF => ⟨_, fun _ h _ => op_in_seqK h, jr_in⟩
  | .neD => ⟨_, fun _ h u => op_neJ h u, jr_neD⟩
  | .inS => ⟨_, fun _ _ _ => op_in_str, jr_inS⟩
  | .niS => ⟨_, fun _ _ _ => op_notin_str, jr_notinS⟩
noncomputable def Uo.op : Uo → UnaryOp
  | .neg => .USub
noncomputable def Uo.g : Uo → M × D → Option (M × D)
  | .neg => gNeg
theorem Uo.ok {K : PySem.W.Frag} : ∀ o : Uo, ∃ r, (∀ Z : Cx, UnR Z (unaryOp o.op) r) ∧ JU K r o.g
  | .neg => ⟨_, fun _ => un_neg, ju_neg⟩
noncomputable def Fb.nm : Fb → String
  | .int => "int"
  | .list => "list"
  | .len => "len"
  | .abs => "abs"
  | .isi => "isinstance"
  | .all => "all"
  | .str => "str"
  | .any => "any"
noncomputable def Fb.g : Fb → List (M × D) → Option (M × D)
  | .int => gInt
  | .list => gList
  | .len => gLen
  | .abs => gAbs
  | .isi => gIsi
  | .all => gAll
  | .str => gStr
  | .any => gAny
noncomputable def Ms.nm : Ms → String
  | .index => "index"
  | .join => "join"
  | .split => "split"
  | .partition => "partition"
noncomputable def Ms.g : Ms → M × D → List (M × D) → Option (M × D)
  | .index => gIndex
  | .join => gJoin
  | .split => gSplit
  | .partition => gPartition
inductive Gv where | s (x : Str) | t (l : List Str)
noncomputable def Gv.d : Gv → D
  | .s x => .str x
  | .t l => .tup (l.map .str)
mutual
inductive X where | gc (i : Nat) (g : Gv) | v (i : Nat) | ki (i : Int) | ks (s : Str) | kb (b : Bool) | kn | ty (n : String) | bo (o : Bo) (a b : X) | co (o : Co) (a b : X) | uo (o : Uo) (a : X) | ch (o p : Co) (a b c : X) | an (a b : X) | or (a b : X) | nt (a : X) | ie (t : T) (a b : X) | tu (l : A) | li (l : A) | ix (a b : X) | sl (a : X) (lo hi : P) | ms (m : Ms) (o : X) (l : A) | fb (f : Fb) (l : A) | ca (f : Nat) (l : A) | cp (i : I) (ix : List Nat) (t : T) (e : X)
inductive A where | n | c (a : X) (l : A)
inductive T where | b (x : X) | c (o : Co) (a b : X) | d (n : Bool) (a b : X) | h (o p : Co) (a b c : X) | an (a b : T) | or (a b : T) | nt (a : T) | y
inductive P where | n | s (x : X)
inductive I where | r1 (l : A) | en (l : A) | s (x : X) | t (x : X) | l (x : X)
end
mutual
inductive G where | n (i : Nat) | t (k : Nat) (l : Gs) | l (k : Nat) (l : Gs)
inductive Gs where | n | c (g : G) (l : Gs)
end
inductive L where | rt (x : X) | nv | st (i : Nat) (x : X) | sc (j : Nat) (i : I) (ix : List Nat) (q : T) (e : X) | as (g : G) (x : X) | si (k : Nat) (i x : X) | ap (k : Nat) (x : X) | ne (i : Nat) (it : I) | iD (f : Nat) (sl : List Nat) (l : A)
mutual
inductive S where | l (x : L) | ie (t : T) (a b : B) | fo (i : I) (g : G) (b : B) | fz (k : Nat) (s : S)
inductive B where | n | o (s : S) | c (s : S) (b : B)
end
inductive FT where
  | p (F : List D → Option (M × D)) | io (l : List Nat) (F : List D → Option (M × D × List D))
noncomputable def FT.f : Option FT → List D → Option (M × D)
  | some (.p F) => F
  | _ => fun _ => none
noncomputable def FT.l : Option FT → List Nat
  | some (.io l _) => l
  | _ => []
noncomputable def FT.o : Option FT → List D → Option (M × D × List D)
  | some (.io _ F) => F
  | _ => fun _ => none
mutual
noncomputable def eX (t : List FT) : X → Ev → Option (M × D)
  | .gc _ g => jC g.d
  | .v i => jV i
  | .ki i => jC (.int i)
  | .ks s => jC (.str s)
  | .kb b => jC (.bl b)
  | .kn => jC .non
  | .ty n => jC (.ty n)
  | .bo o a b => jOp o.g (eX t a) (eX t b)
  | .co o a b => jOp o.g (eX t a) (eX t b)
  | .uo o a => jUn o.g (eX t a)
  | .ch o p a b c => jChain o.g p.g (eX t a) (eX t b) (eX t c)
  | .an a b => jAnd (eX t a) (eX t b)
  | .or a b => jOr (eX t a) (eX t b)
  | .nt a => jNot (eX t a)
  | .ie c a b => jIfE (eT t c) (eX t a) (eX t b)
  | .tu l => jTup (eA t l)
  | .li l => jLst (eA t l)
  | .ix a b => jOp gIx (eX t a) (eX t b)
  | .sl a lo hi => jSl gSl (eX t a) (eP t lo) (eP t hi)
  | .ms m o l => jBM isS m.g (eX t o) (eA t l)
  | .fb f l => jCB f.g (eA t l)
  | .ca f l => jCall (FT.f t[f]?) (eA t l)
  | .cp i ix c e => jComp (eI t i) ix (eT t c) (eX t e)
noncomputable def eA (t : List FT) : A → Ev → Option (List (M × D))
  | .n => jNil
  | .c a l => jCons (eX t a) (eA t l)
noncomputable def eT (t : List FT) : T → Ev → Option Bool
  | .b x => jB (eX t x)
  | .c o a b => jB (jOp o.g (eX t a) (eX t b))
  | .d n a b => jB (jDIn n (eX t a) (eX t b))
  | .h o p a b c => jB (jChain o.g p.g (eX t a) (eX t b) (eX t c))
  | .an a b => bAnd (eT t a) (eT t b)
  | .or a b => bOr (eT t a) (eT t b)
  | .nt a => bNot (eT t a)
  | .y => bYes
noncomputable def eP (t : List FT) : P → Ev → Option (Option Int)
  | .n => jNoP
  | .s x => jPart (eX t x)
noncomputable def eI (t : List FT) : I → Ev → Option (M × List D)
  | .r1 l => itR1 (eA t l)
  | .en l => itE (eA t l)
  | .s x => itS (eX t x)
  | .t x => itT (eX t x)
  | .l x => itL (eX t x)
end
mutual
noncomputable def eG : G → M × D → Ev → Option Ev
  | .n i => gN i
  | .t k l => gT k (eGs l)
  | .l k l => gL k (eGs l)
noncomputable def eGs : Gs → M → List D → Ev → Option Ev
  | .n => gNil'
  | .c g l => gCons' (eG g) (eGs l)
end
noncomputable def vpos : A → List (Nat × Nat)
  | .n => []
  | .c (.v i) l => (0, i) :: shf (vpos l)
  | .c _ l => shf (vpos l)
noncomputable def eL (t : List FT) : L → Ev → Option Fl
  | .rt x => jRet (eX t x)
  | .nv => jNever
  | .st i x => jSet i (eX t x)
  | .sc j i ix q e => jSet j (eX t (.cp i ix q e))
  | .as g x => jAsg (eG g) (eX t x)
  | .si k i x => jSetIx k (eX t i) (eX t x)
  | .ap k x => jApp k (eX t x)
  | .ne i it => jNest i (eI t it)
  | .iD f sl l => jDropIO (FT.l t[f]?) sl (vpos l) (FT.o t[f]?) (eA t l)
mutual
noncomputable def eS (t : List FT) : S → Ev → Option Fl
  | .l x => eL t x
  | .ie c a b => jIf (eT t c) (eB t a) (eB t b)
  | .fo i g b => jFor (eI t i) (eG g) (eB t b)
  | .fz k s => jFrz k (eS t s)
noncomputable def eB (t : List FT) : B → Ev → Option Fl
  | .n => jPass
  | .o s => eS t s
  | .c s b => jSeq (eS t s) (eB t b)
end
end C
namespace C
open PySem PySem.Spec L2 J
noncomputable def nstar : Expr → Bool
  | .Starred .. => false
  | _ => true
noncomputable def nsl : Expr → Bool
  | .Slice .. => false
  | _ => true
noncomputable def tru : Expr → Bool
  | .Name .. => true
  | .Call .. => true
  | .Subscript .. => true
  | _ => false
noncomputable def atb : Expr → Bool
  | .Name .. => true
  | .Constant .. => true
  | .Subscript .. => true
  | .Call _ (_ :: _) _ _ => true
  | _ => false
noncomputable def nset : Expr → Bool
  | .Set .. => false
  | _ => true
noncomputable def ncomp : Expr → Bool
  | .ListComp .. => false
  | .SetComp .. => false
  | .DictComp .. => false
  | _ => true
noncomputable def istup : Expr → Bool
  | .Tuple .. => true
  | _ => false
theorem star_of {e : Expr} (h : nstar e = true) {es : List Expr} {env : Env} : starEach (e :: es) env = (false, eval e env) :: starEach es env := by
  cases e <;> first | rfl | cases h
theorem ix_of {i : Expr} (h : nsl i = true) : PlainIx i := by
  intro o v; cases i <;> first | rfl | cases h
theorem sub_of {i o : Expr} {pos : Pos} {env : Env} (h : nsl i = true) (v : Value) : assign (Expr.Subscript o i pos) env v = (do
    let ov ← holding [v] (eval o env)
    let iv ← holding [v, ov] (eval i env)
    standAt pos
    holding [v, ov, iv] (setItem ov iv v)
    PySem.release [v, ov, iv] []) := by
  cases i <;> first | rfl | cases h
theorem tru_of {a : Expr} {env : Env} (h : tru a = true) (whole : Sem Value) : PySem.isTrue a env whole = (do
    let v ← whole
    standAt (Expr.pos a)
    holding [v] (truthy v)) := by
  cases a <;> first | rfl | cases h
theorem atb_of {o : Expr} {m : Str} {env : Env} {w : Sem Value} (h : atb o = true) : attributeBase o m env w = w := by
  cases o <;> first | rfl | (cases h; done) | skip
  rename_i f l kw p
  cases l with
  | nil => cases h
  | cons a l => cases f <;> rfl
theorem mark_of {op : CmpOp} {e : Expr} (h : nset e = true) : behindInMarks op e = false := by
  cases e <;> first | rfl | cases h
theorem fold_of {e : Expr} {env : Env} (h : nset e = true) (x : Value) : foldedSetIterable e env x = pure x := by
  cases e <;> first | rfl | cases h
noncomputable def vis (sc : Scope) (x : Str) : Bool := match sc.names.lookup x with
  | some .local => true
  | some .cell => true
  | some .free => true
  | _ => false
theorem vis_of {sc : Scope} {x : Str} (h : vis sc x = true) : Vis sc x := by
  unfold vis at h; unfold Vis
  split at h <;> first | exact absurd h Bool.false_ne_true | simp_all
noncomputable def gl (sc : Scope) (x : Str) : Bool := match sc.names.lookup x with
  | some .globalImplicit => true
  | _ => false
theorem gl_of {sc : Scope} {x : Str} (h : gl sc x = true) : sc.names.lookup x = some .globalImplicit := by
  unfold gl at h
  split at h <;> first | exact absurd h Bool.false_ne_true | assumption
noncomputable def rl (sc scC : Scope) : Scope :=
  { kind := scC.kind, names := scC.names.map (fun (n, k) => if (k == NameKind.free && sc.kind == ScopeKind.function && sc.names.lookup n == some NameKind.cell) = true then (n, NameKind.cell) else (n, k)),
    isGenerator := scC.isGenerator, isCoroutine := scC.isCoroutine, more := scC.more }
noncomputable def cok (N N' : List Str) (sc scC : Scope) (x : Str) (ix : List Nat) : Bool :=
  decide (scC.kind = .function ∧ (∀ y ∈ scC.names, y.2 ≠ .cell) ∧ (∀ y ∈ scC.names, y.2 = .local → scC.names.lookup y.1 = some .local) ∧ scC.names.lookup x = some .local ∧
    (∀ y ∈ scC.names, y.2 = .free → sc.names.lookup y.1 = some .cell) ∧ N'.Nodup ∧ N'[0]? = some x ∧ N'.length = ix.length + 1 ∧
    (∀ p ∈ ix.zip N'.tail, N[p.1]? = some p.2 ∧ sc.names.lookup p.2 = some .cell ∧ scC.names.lookup p.2 = some .free))
theorem cok_of {N N' : List Str} {sc scC : Scope} {x : Str} {ix : List Nat} (h : cok N N' sc scC x ix = true) : CompOk N N' sc scC x ix := by
  obtain ⟨h1, h2, h3, h4, h5, h6, h7, h8, h9⟩ := of_decide_eq_true h
  exact ⟨h1, h2, h3, h4, h5, h6, h7, h8, h9⟩
structure Fi where
  nm : Str
  ar : Nat
  lv : Nat
  io : Option (List Nat) := none
noncomputable def Gv.is : Gv → Gv → Bool
  | .s x, .s y => decide (x = y)
  | .t x, .t y => decide (x = y)
  | _, _ => false
theorem Gv.is_of : ∀ {a b : Gv}, a.is b = true → a = b
  | .s _, .s _, h => congrArg _ (of_decide_eq_true h)
  | .t _, .t _, h => congrArg _ (of_decide_eq_true h)
  | .s _, .t _, h => absurd h Bool.false_ne_true
  | .t _, .s _, h => absurd h Bool.false_ne_true
structure Cf where
  bs : List String
  gs : List (Str × Gv)
  fs : List Fi
noncomputable def ns (N : List Str) (x : Str) (ix : List Nat) : List Str := x :: ix.map fun i => (N[i]?).getD ""
noncomputable def tys : List String := ["bool", "int", "str", "tuple", "list", "dict"]
noncomputable def nin (n : Bool) : CmpOp := if n then .NotIn else .In
noncomputable def on {α : Type} (o : Option α) (f : α → Bool) : Bool := match o with
  | some a => f a
  | none => false
theorem on_of {α : Type} {o : Option α} {f : α → Bool} (h : on o f = true) : ∃ a, o = some a ∧ f a = true := by
  cases o with
  | none => cases h
  | some a => exact ⟨a, rfl, h⟩
noncomputable def eNm : Expr → Option Str
  | .Name x _ => some x
  | _ => none
noncomputable def eK : Expr → Option Const
  | .Constant c _ _ => some c
  | _ => none
noncomputable def kI' : Const → Option Int
  | .int i => some i
  | _ => none
noncomputable def kS' : Const → Option Str
  | .str i => some i
  | _ => none
noncomputable def kB' : Const → Option Bool
  | .bool i => some i
  | _ => none
noncomputable def kN' : Const → Bool
  | .none => true
  | _ => false
noncomputable def eBo : Expr → Option (Expr × Operator × Expr)
  | .BinOp l op r _ => some (l, op, r)
  | _ => none
noncomputable def eUo : Expr → Option (UnaryOp × Expr)
  | .UnaryOp op e _ => some (op, e)
  | _ => none
noncomputable def eCp : Expr → Option (Expr × List CmpOp × List Expr)
  | .Compare l ops rs _ => some (l, ops, rs)
  | _ => none
noncomputable def l1 {α : Type} : List α → Option α
  | [a] => some a
  | _ => none
noncomputable def l2 {α : Type} : List α → Option (α × α)
  | [a, b] => some (a, b)
  | _ => none
noncomputable def l1' {α : Type} : List α → Option (α × List α)
  | a :: l => some (a, l)
  | _ => none
noncomputable def eC1 (e : Expr) : Option (Expr × CmpOp × Expr) := (eCp e).bind fun q => (l1 q.2.1).bind fun op => (l1 q.2.2).map fun r => (q.1, op, r)
noncomputable def eC2 (e : Expr) : Option (Expr × CmpOp × CmpOp × Expr × Expr) := (eCp e).bind fun q => (l2 q.2.1).bind fun op => (l2 q.2.2).map fun r => (q.1, op.1, op.2, r.1, r.2)
noncomputable def eBl : Expr → Option (BoolOp × List Expr × Pos)
  | .BoolOp op vs pos => some (op, vs, pos)
  | _ => none
noncomputable def eBl2 (o : BoolOp) (e : Expr) : Option (Expr × Expr) := (eBl e).bind fun q => if q.1 = o then (l1' q.2.1).bind fun a => (l1' a.2).map fun b => (a.1, match b.2 with
  | [] => b.1
  | _ => .BoolOp o (b.1 :: b.2) q.2.2) else none
noncomputable def eIe : Expr → Option (Expr × Expr × Expr)
  | .IfExp e l r _ => some (e, l, r)
  | _ => none
noncomputable def eTu : Expr → Option (List Expr)
  | .Tuple es _ _ => some es
  | _ => none
noncomputable def eLi : Expr → Option (List Expr)
  | .List es _ => some es
  | _ => none
noncomputable def eSu : Expr → Option (Expr × Expr)
  | .Subscript l r _ => some (l, r)
  | _ => none
noncomputable def eSl : Expr → Option (Option Expr × Option Expr)
  | .Slice lo hi none _ => some (lo, hi)
  | _ => none
noncomputable def eCa : Expr → Option (Expr × List Expr × List Keyword × Pos)
  | .Call f as kw cp => some (f, as, kw, cp)
  | _ => none
noncomputable def eAt : Expr → Option (Expr × Str × Pos)
  | .Attribute o m ap => some (o, m, ap)
  | _ => none
noncomputable def eM (nm : String) (e : Expr) : Option (Expr × List Expr) := (eCa e).bind fun q => (eAt q.1).bind fun a => if a.2.1 = Str.ofString nm ∧ q.2.2.1.isEmpty = true ∧ atb a.1 = true ∧ (a.2.2.endLine == q.2.2.2.line) = true ∧ q.2.1.all nstar = true then some (a.1, q.2.1) else none
noncomputable def eN (e : Expr) : Option (Str × List Expr) := (eCa e).bind fun q => (eNm q.1).bind fun x => if q.2.2.1.isEmpty = true ∧ q.2.1.all nstar = true then some (x, q.2.1) else none
noncomputable def isLC : Expr → Option (Expr × Str × Pos × Expr × List Expr × Scope × Pos)
  | .ListComp el [⟨.Name z pz, it, ifs, 0⟩] scC ep => some (el, z, pz, it, ifs, scC, ep)
  | _ => none
theorem bind_of {α β : Type} {o : Option α} {f : α → Option β} {b : β} (h : o.bind f = some b) : ∃ a, o = some a ∧ f a = some b := by
  cases o with
  | none => cases h
  | some a => exact ⟨a, rfl, h⟩
theorem map_of {α β : Type} {o : Option α} {f : α → β} {b : β} (h : o.map f = some b) : ∃ a, o = some a ∧ f a = b := by
  cases o with
  | none => cases h
  | some a => exact ⟨a, rfl, by simpa using h⟩
theorem eNm_of {e : Expr} {x : Str} (h : eNm e = some x) : ∃ p, e = .Name x p := by
  cases e <;> cases h; exact ⟨_, rfl⟩
theorem eK_of {e : Expr} {k : Const} (h : eK e = some k) : ∃ j p, e = .Constant k j p := by
  cases e <;> cases h; exact ⟨_, _, rfl⟩
theorem kI_of {k : Const} {i : Int} (h : kI' k = some i) : k = .int i := by
  cases k <;> cases h; rfl
theorem kS_of {k : Const} {i : Str} (h : kS' k = some i) : k = .str i := by
  cases k <;> cases h; rfl
theorem kB_of {k : Const} {i : Bool} (h : kB' k = some i) : k = .bool i := by
  cases k <;> cases h; rfl
theorem kN_of {k : Const} (h : kN' k = true) : k = .none := by
  cases k <;> first | rfl | exact absurd h Bool.false_ne_true
theorem eBo_of {e l r : Expr} {op : Operator} (h : eBo e = some (l, op, r)) : ∃ p, e = .BinOp l op r p := by
  cases e <;> cases h; exact ⟨_, rfl⟩
theorem eUo_of {e a : Expr} {op : UnaryOp} (h : eUo e = some (op, a)) : ∃ p, e = .UnaryOp op a p := by
  cases e <;> cases h; exact ⟨_, rfl⟩
theorem l1_of {α : Type} {l : List α} {a : α} (h : l1 l = some a) : l = [a] := by
  cases l with
  | nil => cases h
  | cons b l => cases l <;> cases h; rfl
theorem l2_of {α : Type} {l : List α} {a : α × α} (h : l2 l = some a) : l = [a.1, a.2] := by
  cases l with
  | nil => cases h
  | cons b l =>
    cases l with
    | nil => cases h
    | cons d l => cases l <;> cases h; rfl
theorem l1'_of {α : Type} {l : List α} {a : α × List α} (h : l1' l = some a) : l = a.1 :: a.2 := by
  cases l <;> cases h; rfl
theorem eCp_of {e : Expr} {q : Expr × List CmpOp × List Expr} (h : eCp e = some q) : ∃ p, e = .Compare q.1 q.2.1 q.2.2 p := by
  cases e <;> cases h; exact ⟨_, rfl⟩
theorem eC1_of {e l r : Expr} {op : CmpOp} (h : eC1 e = some (l, op, r)) : ∃ p, e = .Compare l [op] [r] p := by
  obtain ⟨q, h1, h⟩ := bind_of h
  obtain ⟨a, h2, h⟩ := bind_of h
  obtain ⟨b, h3, h⟩ := map_of h
  cases h
  obtain ⟨p, rfl⟩ := eCp_of h1
  exact ⟨p, by rw [l1_of h2, l1_of h3]⟩
theorem eC2_of {e l m r : Expr} {op op' : CmpOp} (h : eC2 e = some (l, op, op', m, r)) : ∃ p, e = .Compare l [op, op'] [m, r] p := by
  obtain ⟨q, h1, h⟩ := bind_of h
  obtain ⟨a, h2, h⟩ := bind_of h
  obtain ⟨b, h3, h⟩ := map_of h
  cases h
  obtain ⟨p, rfl⟩ := eCp_of h1
  exact ⟨p, by rw [l2_of h2, l2_of h3]⟩
theorem eBl_of {e : Expr} {q : BoolOp × List Expr × Pos} (h : eBl e = some q) : e = .BoolOp q.1 q.2.1 q.2.2 := by
  cases e <;> cases h; rfl
theorem eBl2_of {o : BoolOp} {e a b : Expr} (h : eBl2 o e = some (a, b)) : ∃ m rest pos, e = .BoolOp o (a :: m :: rest) pos ∧ ((rest = [] ∧ b = m) ∨ b = .BoolOp o (m :: rest) pos) := by
  obtain ⟨q, h1, g⟩ := bind_of h
  have e0 := eBl_of h1
  by_cases e : q.1 = o
  · rw [if_pos e] at g
    obtain ⟨x, h2, g⟩ := bind_of g
    obtain ⟨y, h3, g⟩ := map_of g
    have e2 : q.2.1 = x.1 :: y.1 :: y.2 := by rw [l1'_of h2, l1'_of h3]
    have ea : x.1 = a := congrArg Prod.fst g
    have eb := congrArg Prod.snd g
    refine ⟨y.1, y.2, q.2.2, by rw [e0, e2, e, ea], ?_⟩
    cases hy : y.2 with
    | nil => rw [hy] at eb; exact .inl ⟨rfl, eb.symm⟩
    | cons z zs => rw [hy] at eb; exact .inr eb.symm
  · rw [if_neg e] at g; cases g
theorem eIe_of {e a b d : Expr} (h : eIe e = some (a, b, d)) : ∃ p, e = .IfExp a b d p := by
  cases e <;> cases h; exact ⟨_, rfl⟩
theorem eTu_of {e : Expr} {es : List Expr} (h : eTu e = some es) : ∃ k p, e = .Tuple es k p := by
  cases e <;> cases h; exact ⟨_, _, rfl⟩
theorem eLi_of {e : Expr} {es : List Expr} (h : eLi e = some es) : ∃ p, e = .List es p := by
  cases e <;> cases h; exact ⟨_, rfl⟩
theorem eSu_of {e l r : Expr} (h : eSu e = some (l, r)) : ∃ p, e = .Subscript l r p := by
  cases e <;> cases h; exact ⟨_, rfl⟩
theorem eSl_of {e : Expr} {lo hi : Option Expr} (h : eSl e = some (lo, hi)) : ∃ p, e = .Slice lo hi none p := by
  cases e with
  | Slice a b st p => cases st <;> cases h; exact ⟨_, rfl⟩
  | _ => cases h
theorem eCa_of {e : Expr} {q : Expr × List Expr × List Keyword × Pos} (h : eCa e = some q) : e = .Call q.1 q.2.1 q.2.2.1 q.2.2.2 := by
  cases e <;> cases h; rfl
theorem eAt_of {e : Expr} {q : Expr × Str × Pos} (h : eAt e = some q) : e = .Attribute q.1 q.2.1 q.2.2 := by
  cases e <;> cases h; rfl
theorem eM_of {nm : String} {e o : Expr} {as : List Expr} (h : eM nm e = some (o, as)) : ∃ ap cp, e = .Call (.Attribute o (Str.ofString nm) ap) as [] cp ∧ atb o = true ∧ (ap.endLine == cp.line) = true ∧ as.all nstar = true := by
  obtain ⟨q, h1, h⟩ := bind_of h
  obtain ⟨a, h2, h⟩ := bind_of h
  split at h
  · rename_i g
    cases h
    refine ⟨a.2.2, q.2.2.2, ?_, g.2.2.1, g.2.2.2.1, g.2.2.2.2⟩
    rw [eCa_of h1, eAt_of h2, g.1, List.isEmpty_iff.mp g.2.1]
  · cases h
theorem eN_of {e : Expr} {x : Str} {as : List Expr} (h : eN e = some (x, as)) : ∃ p cp, e = .Call (.Name x p) as [] cp ∧ as.all nstar = true := by
  obtain ⟨q, h1, h⟩ := bind_of h
  obtain ⟨y, h2, h⟩ := bind_of h
  split at h
  · rename_i g
    cases h
    obtain ⟨p, e2⟩ := eNm_of h2
    exact ⟨p, q.2.2.2, by rw [eCa_of h1, e2, List.isEmpty_iff.mp g.1], g.2⟩
  · cases h
theorem isLC_of {e el it : Expr} {z : Str} {pz ep : Pos} {ifs : List Expr} {scC : Scope} (h : isLC e = some (el, z, pz, it, ifs, scC, ep)) : e = .ListComp el [⟨.Name z pz, it, ifs, 0⟩] scC ep := by
  unfold isLC at h
  split at h
  · cases h; rfl
  · cases h
noncomputable def isY : T → Bool
  | .y => true
  | _ => false
mutual
noncomputable def kX (c : Cf) (lv : Nat) : X → Scope → List Str → Expr → Bool
  | .gc i g, sc, _, e => on (eNm e) fun x => on c.gs[i]? fun y => decide (x = y.1) && gl sc x && y.2.is g && !(x == "__debug__")
  | .v i, sc, N, e => on (eNm e) fun x => decide (N[i]? = some x) && vis sc x && !(x == "__debug__") && !(x == "__classdict__")
  | .ki i, _, _, e => on (eK e) fun k => on (kI' k) fun j => decide (i = j)
  | .ks i, _, _, e => on (eK e) fun k => on (kS' k) fun j => decide (i = j)
  | .kb i, _, _, e => on (eK e) fun k => on (kB' k) fun j => decide (i = j)
  | .kn, _, _, e => on (eK e) kN'
  | .ty n, sc, _, e => on (eNm e) fun x => decide (x = Str.ofString n) && gl sc x && c.bs.contains n && tys.contains n
  | .bo o a b, sc, N, e => on (eBo e) fun q => decide (q.2.1 = o.op) && kX c lv a sc N q.1 && kX c lv b sc N q.2.2
  | .co o a b, sc, N, e => on (eC1 e) fun q => decide (q.2.1 = o.op) && nset q.2.2 && kX c lv a sc N q.1 && kX c lv b sc N q.2.2
  | .uo o a, sc, N, e => on (eUo e) fun q => decide (q.1 = o.op) && kX c lv a sc N q.2
  | .ch o p a b d, sc, N, e => on (eC2 e) fun q => decide (q.2.1 = o.op) && decide (q.2.2.1 = p.op) && !lastMarks [q.2.1, q.2.2.1] [q.2.2.2.1, q.2.2.2.2] && kX c lv a sc N q.1 && kX c lv b sc N q.2.2.2.1 && kX c lv d sc N q.2.2.2.2
  | .an a b, sc, N, e => on (eBl2 .And e) fun q => kX c lv a sc N q.1 && kX c lv b sc N q.2
  | .or a b, sc, N, e => on (eBl2 .Or e) fun q => kX c lv a sc N q.1 && kX c lv b sc N q.2
  | .nt a, sc, N, e => on (eUo e) fun q => decide (q.1 = .Not) && kX c lv a sc N q.2
  | .ie t a b, sc, N, e => on (eIe e) fun q => kT c lv t sc N q.1 && kX c lv a sc N q.2.1 && kX c lv b sc N q.2.2
  | .tu l, sc, N, e => on (eTu e) fun es => kA c lv l sc N es
  | .li l, sc, N, e => on (eLi e) fun es => kA c lv l sc N es
  | .ix a b, sc, N, e => on (eSu e) fun q => nsl q.2 && kX c lv a sc N q.1 && kX c lv b sc N q.2
  | .sl a lo hi, sc, N, e => on (eSu e) fun q => on (eSl q.2) fun s => kX c lv a sc N q.1 && kP c lv lo sc N s.1 && kP c lv hi sc N s.2
  | .ms m o l, sc, N, e => on (eM m.nm e) fun q => on (l1 q.2) fun a => kX c lv o sc N q.1 && kA c lv l sc N [a]
  | .fb f l, sc, N, e => on (eN e) fun q => decide (q.1 = Str.ofString f.nm) && gl sc q.1 && c.bs.contains f.nm && !q.2.isEmpty && kA c lv l sc N q.2
  | .ca f l, sc, N, e => on (eN e) fun q => on c.fs[f]? fun i => decide (q.1 = i.nm) && gl sc q.1 && !(q.1 == "__debug__") && decide (i.lv ≤ lv) && decide (q.2.length = i.ar) && decide (i.io = none) && !q.2.isEmpty && kA c lv l sc N q.2
  | .cp i ix t e, sc, N, x => on (isLC x) fun q => cok N (ns N q.2.1 ix) sc q.2.2.2.2.2.1 q.2.1 ix && nset q.2.2.2.1 && kI c lv i false sc N q.2.2.2.1 && ((q.2.2.2.2.1.isEmpty && isY t) || on (l1 q.2.2.2.2.1) fun y => kT c lv t (rl sc q.2.2.2.2.2.1) (ns N q.2.1 ix) y) && kX c lv e (rl sc q.2.2.2.2.2.1) (ns N q.2.1 ix) q.1
noncomputable def kA (c : Cf) (lv : Nat) : A → Scope → List Str → List Expr → Bool
  | .n, _, _, es => es.isEmpty
  | .c a l, sc, N, es => on (l1' es) fun q => nstar q.1 && kX c lv a sc N q.1 && kA c lv l sc N q.2
noncomputable def kT (c : Cf) (lv : Nat) : T → Scope → List Str → Expr → Bool
  | .b x, sc, N, e => tru e && kX c lv x sc N e
  | .c o a b, sc, N, e => on (eC1 e) fun q => decide (q.2.1 = o.op) && nset q.2.2 && kX c lv a sc N q.1 && kX c lv b sc N q.2.2
  | .d n a b, sc, N, e => on (eC1 e) fun q => decide (q.2.1 = nin n) && nset q.2.2 && kX c lv a sc N q.1 && kX c lv b sc N q.2.2
  | .h o p a b d, sc, N, e => on (eC2 e) fun q => decide (q.2.1 = o.op) && decide (q.2.2.1 = p.op) && !lastMarks [q.2.1, q.2.2.1] [q.2.2.2.1, q.2.2.2.2] && kX c lv a sc N q.1 && kX c lv b sc N q.2.2.2.1 && kX c lv d sc N q.2.2.2.2
  | .an a b, sc, N, e => on (eBl2 .And e) fun q => kT c lv a sc N q.1 && kT c lv b sc N q.2
  | .or a b, sc, N, e => on (eBl2 .Or e) fun q => kT c lv a sc N q.1 && kT c lv b sc N q.2
  | .nt a, sc, N, e => on (eUo e) fun q => decide (q.1 = .Not) && kT c lv a sc N q.2
  | .y, _, _, _ => false
noncomputable def kP (c : Cf) (lv : Nat) : P → Scope → List Str → Option Expr → Bool
  | .n, _, _, o => o.isNone
  | .s x, sc, N, o => on o fun e => kX c lv x sc N e
noncomputable def kI (c : Cf) (lv : Nat) : I → Bool → Scope → List Str → Expr → Bool
  | .r1 l, _, sc, N, e => on (eN e) fun q => decide (q.1 = "range") && gl sc q.1 && c.bs.contains "range" && decide (q.2.length = 1) && kA c lv l sc N q.2
  | .en l, tg, sc, N, e => on (eN e) fun q => tg && decide (q.1 = "enumerate") && gl sc q.1 && c.bs.contains "enumerate" && decide (q.2.length = 1) && kA c lv l sc N q.2
  | .s x, _, sc, N, e => kX c lv x sc N e
  | .t x, _, sc, N, e => kX c lv x sc N e
  | .l x, _, sc, N, e => kX c lv x sc N e
end
end C
namespace C
open PySem PySem.Spec L2 J
noncomputable def FnK (P : Program) (w : World) (K : PySem.W.Frag) (mg : Str → Option Value) (base : Heap) (i : Fi) (sp : Sp) : Prop :=
  ∃ f fd ps, FnOk P w K mg base CX0 i.lv f fd ps sp ∧ mg i.nm = some (.ref f) ∧ PySem.W.keepIn K (.ref f) = true ∧ Binds K fd ps []
noncomputable def FnT (P : Program) (w : World) (K : PySem.W.Frag) (mg : Str → Option Value) (base : Heap) (i : Fi) : FT → Prop
  | .p F => i.io = none ∧ FnK P w K mg base i (spJ K i.ar F)
  | .io l F => i.io = some l ∧ FnK P w K mg base i (spIO K i.ar l F)
noncomputable def GV (K : PySem.W.Frag) (mg : Str → Option Value) (va : List V) (gs : List (Str × Gv)) : Prop := ∀ (i : Nat) g, gs[i]? = some g → ∃ x u, va[i]? = some x ∧ mg g.1 = some u ∧ RelV x u ∧ JT K (tC x) (jC g.2.d)
structure CE (c : Cf) (lv : Nat) (K : PySem.W.Frag) (t : List FT) (va : List V) (sc : Scope) (N : List Str) (Z : Cx) : Prop where
  k : Z.K = K
  sc : Z.env.scope = sc
  n : Z.N = N
  calm : Z.calm = true
  rm : Room lv Z.A
  bl : ∀ b, b ∈ c.bs → Z.mg (Str.ofString b) = none
  gv : GV K Z.mg va c.gs
  fs : ∀ (i : Nat) fi, c.fs[i]? = some fi → ∃ F, t[i]? = some F ∧ FnT Z.prog Z.w Z.K Z.mg Z.base fi F
section
variable {c : Cf} {lv : Nat} {K : PySem.W.Frag} {t : List FT} {va : List V} {sc : Scope} {N : List Str} {Z : Cx}
theorem CE.blk (E : CE c lv K t va sc N Z) {N' : List Str} {scC : Scope} {C : Addr} {s₂ : Shared} {H₂ : Hp} {fp : List Addr} {pn : List (Addr × Obj)} : CE c lv K t va (rl sc scC) N' (Z.blk N' scC C s₂ H₂ fp pn) :=
  ⟨E.k, by rw [← E.sc]; rfl, rfl, E.calm, E.rm, E.bl, E.gv, E.fs⟩
theorem CE.gl (E : CE c lv K t va sc N Z) {x : Str} (h : gl sc x = true) : Gl Z x := by
  have := gl_of h
  rw [← E.sc] at this
  exact this
theorem CE.mg (E : CE c lv K t va sc N Z) {b : String} (h : c.bs.contains b = true) : Z.mg (Str.ofString b) = none := E.bl b (by simpa using h)
theorem all_star : ∀ {es : List Expr} {env : Env}, es.all nstar = true → ∀ pos : Pos, ((backTo pos (starEach es env)).any fun x => x.1) = false
  | [], _, _, _ => rfl
  | e :: es, env, h, pos => by
    rw [List.all_cons, Bool.and_eq_true] at h
    rw [star_of h.1]
    show (false || (backTo pos (starEach es env)).any fun x => x.1) = false
    rw [all_star h.2, Bool.or_false]
theorem tys_of {n : String} (h : tys.contains n = true) : bootBuiltins (Str.ofString n) = some (.type n) ∧ Str.ofString n ≠ "__name__" ∧ (Str.ofString n == ("__debug__" : Str)) = false := by
  have h : n ∈ tys := by simpa using h
  simp only [tys, List.mem_cons, List.not_mem_nil, or_false] at h
  rcases h with rfl | rfl | rfl | rfl | rfl | rfl
  · exact ⟨PyProof.Rows.Boot.«bool», by decide, by decide⟩
  · exact ⟨PyProof.Rows.Boot.«int», by decide, by decide⟩
  · exact ⟨PyProof.Rows.Boot.«str», by decide, by decide⟩
  · exact ⟨PyProof.Rows.Boot.«tuple», by decide, by decide⟩
  · exact ⟨PyProof.Rows.Boot.«list», by decide, by decide⟩
  · exact ⟨PyProof.Rows.Boot.«dict», by decide, by decide⟩
theorem Fb.ok : ∀ f : Fb, ∃ r, (∀ {sc : Scope} {N : List Str} (Z : Cx), CE c lv K t va sc N Z → ∀ {p pos : Pos} {e : Expr} {es : List Expr} {ta : TA}, C.gl sc (Str.ofString f.nm) = true → c.bs.contains f.nm = true → nstar e = true → es.all nstar = true → PA Z (e :: es) ta → PE Z (.Call (.Name (Str.ofString f.nm) p) (e :: es) [] pos) (tCB r ta)) ∧ JCB K r f.g
  | .int => ⟨_, fun _ E _ _ _ _ _ hg hb h1 h2 ha => @pe_callTy _ _ _ _ _ _ _ _ _ call_int1 (E.gl hg) (E.mg hb) PyProof.Rows.Boot.«int» ha (by decide) (by decide) (star_of h1) (all_star h2 _), jcb_int⟩
  | .list => ⟨_, fun _ E _ _ _ _ _ hg hb h1 h2 ha => @pe_callTy _ _ _ _ _ _ _ _ _ (call_list_ofK E.k) (E.gl hg) (E.mg hb) PyProof.Rows.Boot.«list» ha (by decide) (by decide) (star_of h1) (all_star h2 _), jcb_list⟩
  | .len => ⟨_, fun _ E _ _ _ _ _ hg hb h1 h2 ha => @pe_callB _ _ _ _ _ _ _ _ _ (call_lenK E.k) (E.gl hg) (E.mg hb) PyProof.Rows.Boot.«len» ha (by decide) (by decide) (star_of h1) (all_star h2 _), jcb_len⟩
  | .abs => ⟨_, fun _ E _ _ _ _ _ hg hb h1 h2 ha => @pe_callB _ _ _ _ _ _ _ _ _ call_abs (E.gl hg) (E.mg hb) PyProof.Rows.Boot.«abs» ha (by decide) (by decide) (star_of h1) (all_star h2 _), jcb_abs⟩
  | .isi => ⟨_, fun _ E _ _ _ _ _ hg hb h1 h2 ha => @pe_callB _ _ _ _ _ _ _ _ _ (call_isiJ E.k) (E.gl hg) (E.mg hb) PyProof.Rows.Boot.«isinstance» ha (by decide) (by decide) (star_of h1) (all_star h2 _), jcb_isi⟩
  | .all => ⟨_, fun _ E _ _ _ _ _ hg hb h1 h2 ha => @pe_callB _ _ _ _ _ _ _ _ _ (call_all_J E.k E.calm) (E.gl hg) (E.mg hb) PyProof.Rows.Boot.«all» ha (by decide) (by decide) (star_of h1) (all_star h2 _), jcb_all⟩
  | .str => ⟨_, fun _ E _ _ _ _ _ hg hb h1 h2 ha => @pe_callTy _ _ _ _ _ _ _ _ _ call_strJ (E.gl hg) (E.mg hb) PyProof.Rows.Boot.«str» ha (by decide) (by decide) (star_of h1) (all_star h2 _), jcb_str⟩
  | .any => ⟨_, fun _ E _ _ _ _ _ hg hb h1 h2 ha => @pe_callB _ _ _ _ _ _ _ _ _ (call_any_J E.k E.calm) (E.gl hg) (E.mg hb) PyProof.Rows.Boot.«any» ha (by decide) (by decide) (star_of h1) (all_star h2 _), jcb_any⟩
theorem few_of {a : Expr} {env : Env} {cpos : Pos} (h : nstar a = true) : (((List.all (backTo cpos (starEach [a] env)) fun x => !x.1) && List.all (backToKw cpos (keywordEach [] env)) fun x => Option.isSome x.1) && decide ((List.length [a] + List.length ([] : List Keyword) + if List.isEmpty ([] : List Keyword) = true then 0 else 1) < 30)) = true := by
  rw [star_of h]; rfl
theorem any_of {env : Env} {cp : Pos} : ((backTo cp (starEach [] env)).any fun x => x.1) = false := rfl
theorem Ms.ok : ∀ m : Ms, ∃ r, (∀ Z : Cx, Z.K = K → ∀ {ap cp : Pos} {e a : Expr} {te : TE} {ta : TA}, atb e = true → (ap.endLine == cp.line) = true → nstar a = true → PE Z e te → PA Z [a] ta → PE Z (.Call (.Attribute e (Str.ofString m.nm) ap) [a] [] cp) (tBM K "str" r te ta)) ∧ (∀ Z : Cx, Z.K = K → ∀ {ap cp : Pos} {e : Expr} {te : TE}, atb e = true → (ap.endLine == cp.line) = true → PE Z e te → PE Z (.Call (.Attribute e (Str.ofString m.nm) ap) [] [] cp) (tBM0 K "str" r te)) ∧ JBM K "str" r m.g
  | .index => ⟨_, fun _ k _ _ _ _ _ _ h0 hl h1 he ha => k ▸ @pe_bm _ _ _ _ _ _ _ _ _ _ _ _ PySem.F.plainAttrs_str PySem.F.slot_str_index PySem.F.type_str_index mt_index he ha (atb_of h0) (few_of h1) hl (star_of h1) any_of, fun _ k _ _ _ _ h0 hl he => k ▸ @pe_bm0 _ _ _ _ _ _ _ _ _ PySem.F.plainAttrs_str PySem.F.slot_str_index PySem.F.type_str_index mt_index he (atb_of h0) hl, jbm_index⟩
  | .split => ⟨_, fun _ k _ _ _ _ _ _ h0 hl h1 he ha => k ▸ @pe_bm _ _ _ _ _ _ _ _ _ _ _ _ PySem.F.plainAttrs_str PySem.F.slot_str_split PySem.F.type_str_split mt_split he ha (atb_of h0) (few_of h1) hl (star_of h1) any_of, fun _ k _ _ _ _ h0 hl he => k ▸ @pe_bm0 _ _ _ _ _ _ _ _ _ PySem.F.plainAttrs_str PySem.F.slot_str_split PySem.F.type_str_split mt_split he (atb_of h0) hl, jbm_split⟩
  | .partition => ⟨_, fun _ k _ _ _ _ _ _ h0 hl h1 he ha => k ▸ @pe_bm _ _ _ _ _ _ _ _ _ _ _ _ PySem.F.plainAttrs_str PySem.F.slot_str_partition PySem.F.type_str_partition mt_partition he ha (atb_of h0) (few_of h1) hl (star_of h1) any_of, fun _ k _ _ _ _ h0 hl he => k ▸ @pe_bm0 _ _ _ _ _ _ _ _ _ PySem.F.plainAttrs_str PySem.F.slot_str_partition PySem.F.type_str_partition mt_partition he (atb_of h0) hl, jbm_partition⟩
  | .join => ⟨_, fun _ k _ _ _ _ _ _ h0 hl h1 he ha => k ▸ @pe_bm _ _ _ _ _ _ _ _ _ _ _ _ PySem.F.plainAttrs_str PySem.F.slot_str_join PySem.F.type_str_join (mt_joinK rfl) he ha (atb_of h0) (few_of h1) hl (star_of h1) any_of, fun _ k _ _ _ _ h0 hl he => k ▸ @pe_bm0 _ _ _ _ _ _ _ _ _ PySem.F.plainAttrs_str PySem.F.slot_str_join PySem.F.type_str_join (mt_joinK rfl) he (atb_of h0) hl, jbm_join⟩
theorem lenA : ∀ {l : A} {sc : Scope} {N : List Str} {es : List Expr}, kA c lv l sc N es = true → ∀ (e : Ev) (mds : List (M × D)), eA t l e = some mds → mds.length = es.length
  | .n, _, _, es, h => by cases List.isEmpty_iff.mp h; exact len_nil
  | .c a l, sc, N, es, h => by
    have hh := on_of h; clear h; obtain ⟨⟨e, r⟩, q, h⟩ := hh
    cases l1'_of q
    have h : (nstar e && kX c lv a sc N e && kA c lv l sc N r) = true := h
    rw [Bool.and_eq_true] at h
    exact len_cons (lenA h.2)
end
end C
namespace C
open PySem PySem.Spec L2 J
section
variable {c : Cf} {lv : Nat} {K : PySem.W.Frag} {t : List FT} {va : List V}
theorem an2 {a b : Bool} (h : (a && b) = true) : a = true ∧ b = true := by simpa using h
theorem an3 {a b d : Bool} (h : (a && b && d) = true) : a = true ∧ b = true ∧ d = true := by simpa [and_assoc] using h
theorem an4 {a b d e : Bool} (h : (a && b && d && e) = true) : a = true ∧ b = true ∧ d = true ∧ e = true := by simpa [and_assoc] using h
theorem an5 {a b d e f : Bool} (h : (a && b && d && e && f) = true) : a = true ∧ b = true ∧ d = true ∧ e = true ∧ f = true := by simpa [and_assoc] using h
theorem an6 {a b d e f g : Bool} (h : (a && b && d && e && f && g) = true) : a = true ∧ b = true ∧ d = true ∧ e = true ∧ f = true ∧ g = true := by simpa [and_assoc] using h
theorem an8 {a b d e f g i j : Bool} (h : (a && b && d && e && f && g && i && j) = true) : a = true ∧ b = true ∧ d = true ∧ e = true ∧ f = true ∧ g = true ∧ i = true ∧ j = true := by simpa [and_assoc] using h
theorem nb {a : Bool} (h : (!a) = true) : a = false := by simpa using h
theorem pw_of {Z : Cx} {op : BoolOp} {vs : List Expr} {pos : Pos} {tt : TT} (h : PT Z (.BoolOp op vs pos) tt) : PW Z (.BoolOp op vs pos) tt := fun _ => h
theorem all1 {a : Expr} {l : List Expr} (h : (a :: l).all nstar = true) : nstar a = true ∧ l.all nstar = true := by
  rw [List.all_cons, Bool.and_eq_true] at h; exact h
theorem ne_cons {α : Type} {l : List α} (h : (!l.isEmpty) = true) : ∃ a r, l = a :: r := by
  cases l with
  | nil => cases h
  | cons a r => exact ⟨a, r, rfl⟩
theorem len1 {α : Type} {l : List α} (h : l.length = 1) : ∃ a, l = [a] := List.length_eq_one_iff.mp h
mutual
theorem sX : ∀ (x : X) {sc : Scope} {N : List Str} {e : Expr}, kX c lv x sc N e = true → ∃ te, (∀ Z, CE c lv K t va sc N Z → PE Z e te) ∧ JT K te (eX t x)
  | .gc i g, sc, N, e, h => by
    have hh := on_of h; clear h; obtain ⟨x, q, h⟩ := hh
    obtain ⟨p, rfl⟩ := eNm_of q
    have hh := on_of h; clear h; obtain ⟨⟨y, g'⟩, hf, h⟩ := hh
    obtain ⟨h1, h2, h3, h4⟩ := an4 h
    cases of_decide_eq_true h1
    cases Gv.is_of h3
    by_cases hv : ∃ x, va[i]? = some x ∧ JT K (tC x) (jC g'.d)
    · obtain ⟨v, q1, q2⟩ := hv
      refine ⟨_, fun Z E => ?_, q2⟩
      obtain ⟨v', u, k1, k2, k3, k4⟩ := E.gv i _ hf
      rw [q1] at k1; cases k1
      exact @pe_glob _ _ _ _ _ (E.gl h2) k2 k3 (nb h4)
    · refine ⟨fun _ _ _ => True, fun Z E => ?_, fun _ _ _ _ _ _ _ _ _ _ _ => trivial⟩
      obtain ⟨v', u, k1, k2, k3, k4⟩ := E.gv i _ hf
      exact absurd ⟨v', k1, k4⟩ hv
  | .v i, sc, N, e, h => by
    have hh := on_of h; clear h; obtain ⟨x, q, h⟩ := hh
    obtain ⟨p, rfl⟩ := eNm_of q
    obtain ⟨h1, h2, h3, h4⟩ := an4 h
    have h1 := of_decide_eq_true h1
    have h2 := vis_of h2
    exact ⟨_, fun Z E => @pe_var _ _ _ _ (E.n ▸ h1) (E.sc ▸ h2) (nb h3) (nb h4), jt_var⟩
  | .ki i, sc, N, e, h => by
    have hh := on_of h; clear h; obtain ⟨k, q, h⟩ := hh
    obtain ⟨j, p, rfl⟩ := eK_of q
    have hh := on_of h; clear h; obtain ⟨y, q, h⟩ := hh
    cases kI_of q
    cases of_decide_eq_true h
    exact ⟨_, fun Z E => pe_int, jt_c rfl⟩
  | .ks i, sc, N, e, h => by
    have hh := on_of h; clear h; obtain ⟨k, q, h⟩ := hh
    obtain ⟨j, p, rfl⟩ := eK_of q
    have hh := on_of h; clear h; obtain ⟨y, q, h⟩ := hh
    cases kS_of q
    cases of_decide_eq_true h
    exact ⟨_, fun Z E => pe_str, jt_c rfl⟩
  | .kb i, sc, N, e, h => by
    have hh := on_of h; clear h; obtain ⟨k, q, h⟩ := hh
    obtain ⟨j, p, rfl⟩ := eK_of q
    have hh := on_of h; clear h; obtain ⟨y, q, h⟩ := hh
    cases kB_of q
    cases of_decide_eq_true h
    exact ⟨_, fun Z E => pe_bl, jt_c rfl⟩
  | .kn, sc, N, e, h => by
    have hh := on_of h; clear h; obtain ⟨k, q, h⟩ := hh
    obtain ⟨j, p, rfl⟩ := eK_of q
    cases kN_of h
    exact ⟨_, fun Z E => pe_non, jt_c rfl⟩
  | .ty n, sc, N, e, h => by
    have hh := on_of h; clear h; obtain ⟨x, q, h⟩ := hh
    obtain ⟨p, rfl⟩ := eNm_of q
    obtain ⟨h1, h2, h3, h4⟩ := an4 h
    cases of_decide_eq_true h1
    obtain ⟨q1, q2, q3⟩ := tys_of h4
    exact ⟨_, fun Z E => @pe_bltn _ _ (.ty n) _ _ (E.gl h2) (E.mg h3) q1 rfl q2 q3, jt_c rfl⟩
  | .bo o a b, sc, N, e, h => by
    have hh := on_of h; clear h; obtain ⟨⟨l, op, r⟩, q, h⟩ := hh
    obtain ⟨p, rfl⟩ := eBo_of q
    obtain ⟨h1, h2, h3⟩ := an3 h
    cases of_decide_eq_true h1
    obtain ⟨ta, pa, ja⟩ := sX a h2
    obtain ⟨tb, pb, jb⟩ := sX b h3
    obtain ⟨r, o1, o2⟩ := o.ok (K := K)
    exact ⟨_, fun Z E => pe_op (o1 Z E.k) (pa Z E) (pb Z E), jt_op o2 ja jb⟩
  | .co o a b, sc, N, e, h => by
    have hh := on_of h; clear h; obtain ⟨⟨l, op, r⟩, q, h⟩ := hh
    obtain ⟨p, rfl⟩ := eC1_of q
    obtain ⟨h1, h0, h2, h3⟩ := an4 h
    cases of_decide_eq_true h1
    obtain ⟨ta, pa, ja⟩ := sX a h2
    obtain ⟨tb, pb, jb⟩ := sX b h3
    obtain ⟨r, o1, o2⟩ := o.ok (K := K)
    exact ⟨_, fun Z E => pe_cmpR (o1 Z E.k E.rm.units) (pa Z E) (pb Z E) (mark_of h0), jt_op o2 ja jb⟩
  | .uo o a, sc, N, e, h => by
    have hh := on_of h; clear h; obtain ⟨⟨op, r⟩, q, h⟩ := hh
    obtain ⟨p, rfl⟩ := eUo_of q
    obtain ⟨h1, h2⟩ := an2 h
    cases of_decide_eq_true h1
    obtain ⟨ta, pa, ja⟩ := sX a h2
    obtain ⟨r, o1, o2⟩ := o.ok (K := K)
    exact ⟨_, fun Z E => pe_un (o1 Z) (pa Z E), jt_un o2 ja⟩
  | .ch o p a b d, sc, N, e, h => by
    have hh := on_of h; clear h; obtain ⟨⟨l, op, op', m, r⟩, q, h⟩ := hh
    obtain ⟨p', rfl⟩ := eC2_of q
    obtain ⟨h1, h2, h3, h4, h5, h6⟩ := an6 h
    cases of_decide_eq_true h1
    cases of_decide_eq_true h2
    obtain ⟨ta, pa, ja⟩ := sX a h4
    obtain ⟨tb, pb, jb⟩ := sX b h5
    obtain ⟨td, pd, jd⟩ := sX d h6
    obtain ⟨r, o1, o2⟩ := o.ok (K := K)
    obtain ⟨r', o1', o2'⟩ := p.ok (K := K)
    exact ⟨_, fun Z E => @pe_chain _ _ _ _ _ _ _ _ _ _ _ _ (o1 Z E.k E.rm.units) (o1' Z E.k E.rm.units) (pa Z E) (pb Z E) (pd Z E) (nb h3), jt_chain o2 o2' ja jb jd⟩
  | .an a b, sc, N, e, h => by
    have hh := on_of h; clear h; obtain ⟨⟨x, y⟩, q, h⟩ := hh
    obtain ⟨m, rest, pos, rfl, w⟩ := eBl2_of q
    obtain ⟨h1, h2⟩ := an2 h
    obtain ⟨ta, pa, ja⟩ := sX a h1
    obtain ⟨tb, pb, jb⟩ := sX b h2
    refine ⟨_, fun Z E => @pe_and _ _ _ _ tb _ _ (pa Z E) ?_, jt_and ja jb⟩
    rcases w with ⟨rfl, rfl⟩ | rfl
    · exact @pe_one _ _ _ _ _ (pb Z E)
    · exact pb Z E
  | .or a b, sc, N, e, h => by
    have hh := on_of h; clear h; obtain ⟨⟨x, y⟩, q, h⟩ := hh
    obtain ⟨m, rest, pos, rfl, w⟩ := eBl2_of q
    obtain ⟨h1, h2⟩ := an2 h
    obtain ⟨ta, pa, ja⟩ := sX a h1
    obtain ⟨tb, pb, jb⟩ := sX b h2
    refine ⟨_, fun Z E => @pe_or _ _ _ _ tb _ _ (pa Z E) ?_, jt_or ja jb⟩
    rcases w with ⟨rfl, rfl⟩ | rfl
    · exact @pe_one _ _ _ _ _ (pb Z E)
    · exact pb Z E
  | .nt a, sc, N, e, h => by
    have hh := on_of h; clear h; obtain ⟨⟨op, r⟩, q, h⟩ := hh
    obtain ⟨p, rfl⟩ := eUo_of q
    obtain ⟨h1, h2⟩ := an2 h
    cases of_decide_eq_true h1
    obtain ⟨ta, pa, ja⟩ := sX a h2
    exact ⟨_, fun Z E => pe_not (pa Z E), jt_not ja⟩
  | .ie t' a b, sc, N, e, h => by
    have hh := on_of h; clear h; obtain ⟨⟨x, l, r⟩, q, h⟩ := hh
    obtain ⟨p, rfl⟩ := eIe_of q
    obtain ⟨h1, h2, h3⟩ := an3 h
    obtain ⟨tq, pq, jq⟩ := sT t' h1
    obtain ⟨ta, pa, ja⟩ := sX a h2
    obtain ⟨tb, pb, jb⟩ := sX b h3
    exact ⟨_, fun Z E => pe_ifExp (pq Z E) (pa Z E) (pb Z E), jt_ifE jq ja jb⟩
  | .tu l, sc, N, e, h => by
    have hh := on_of h; clear h; obtain ⟨es, q, h⟩ := hh
    obtain ⟨k, p, rfl⟩ := eTu_of q
    obtain ⟨ta, pa, ja⟩ := sA l h
    exact ⟨_, fun Z E => pe_tup (pa Z E), jt_tup ja⟩
  | .li l, sc, N, e, h => by
    have hh := on_of h; clear h; obtain ⟨es, q, h⟩ := hh
    obtain ⟨p, rfl⟩ := eLi_of q
    obtain ⟨ta, pa, ja⟩ := sA l h
    exact ⟨_, fun Z E => pe_lst (pa Z E), jt_lst ja⟩
  | .ix a b, sc, N, e, h => by
    have hh := on_of h; clear h; obtain ⟨⟨l, r⟩, q, h⟩ := hh
    obtain ⟨p, rfl⟩ := eSu_of q
    obtain ⟨h1, h2, h3⟩ := an3 h
    obtain ⟨ta, pa, ja⟩ := sX a h2
    obtain ⟨tb, pb, jb⟩ := sX b h3
    exact ⟨_, fun Z E => pe_ix (ix_seqK E.k) (pa Z E) (pb Z E) (ix_of h1), jt_op jr_ix ja jb⟩
  | .sl a lo hi, sc, N, e, h => by
    have hh := on_of h; clear h; obtain ⟨⟨l, r⟩, q, h⟩ := hh
    obtain ⟨p, rfl⟩ := eSu_of q
    have hh := on_of h; clear h; obtain ⟨⟨lo', hi'⟩, q, h⟩ := hh
    obtain ⟨p', rfl⟩ := eSl_of q
    obtain ⟨h1, h2, h3⟩ := an3 h
    obtain ⟨ta, pa, ja⟩ := sX a h1
    obtain ⟨tl, pl, jl⟩ := sP lo h2
    obtain ⟨tu, pu, ju⟩ := sP hi h3
    exact ⟨_, fun Z E => pe_slice (sl_J E.k) (pa Z E) (pl Z E) (pu Z E), jt_sl jsl_J ja jl ju⟩
  | .ms m o l, sc, N, e, h => by
    have hh := on_of h; clear h; obtain ⟨⟨o', as⟩, q, h⟩ := hh
    obtain ⟨ap, cp, rfl, h2, h3, h4⟩ := eM_of q
    have hh := on_of h; clear h; obtain ⟨a, q1, h⟩ := hh
    cases l1_of q1
    obtain ⟨h5, h6⟩ := an2 h
    obtain ⟨td, pd, jd⟩ := sX o h5
    obtain ⟨tk, pk, jk⟩ := sA l h6
    obtain ⟨r, q1, _, q2⟩ := Ms.ok (K := K) m
    exact ⟨_, fun Z E => q1 Z E.k h2 h3 (all1 h4).1 (pd Z E) (pk Z E), jt_bmS q2 jd jk⟩
  | .fb f l, sc, N, e, h => by
    have hh := on_of h; clear h; obtain ⟨⟨x, as⟩, q, h⟩ := hh
    obtain ⟨p, cp, rfl, h4⟩ := eN_of q
    obtain ⟨h1, h2, h3, h0, h6⟩ := an5 h
    cases of_decide_eq_true h1
    obtain ⟨a, r, rfl⟩ := ne_cons h0
    obtain ⟨h4, h5⟩ := all1 h4
    obtain ⟨ta, pa, ja⟩ := sA l h6
    obtain ⟨r, q1, q2⟩ := Fb.ok (c := c) (lv := lv) (t := t) (va := va) (K := K) f
    exact ⟨_, fun Z E => q1 Z E h2 h3 h4 h5 (pa Z E), jt_cb q2 ja⟩
  | .ca f l, sc, N, e, h => by
    have hh := on_of h; clear h; obtain ⟨⟨x, as⟩, q, h⟩ := hh
    obtain ⟨p, cp, rfl, h67⟩ := eN_of q
    have hh := on_of h; clear h; obtain ⟨i, hf, h⟩ := hh
    obtain ⟨h1, h2, h3, h4, h5, h5', h0, h8⟩ := an8 h
    obtain ⟨a, r, rfl⟩ := ne_cons h0
    obtain ⟨h6, h7⟩ := all1 h67
    have h1 := of_decide_eq_true h1
    obtain ⟨ta, pa, ja⟩ := sA l h8
    have hl := lenA (t := t) h8
    rw [show (a :: r).length = i.ar from of_decide_eq_true h5] at hl
    refine ⟨tCall (spJ K i.ar (FT.f t[f]?)) [] E0 ta, fun Z E => ?_, jt_call ja hl⟩
    obtain ⟨F, hF, q⟩ := E.fs f i hf
    cases F with
    | io l F => rw [FnT, of_decide_eq_true h5'] at q; cases q.1
    | p F =>
      obtain ⟨_, a, fd, ps, k1, k2, k3, k4⟩ := q
      rw [← h1] at k2
      rw [hF, ← E.k]
      exact @pe_call _ _ _ _ _ _ _ _ _ _ _ _ _ _ _ _ k1 (E.rm.mono (of_decide_eq_true h4)) (E.gl h2) k2 k3 k4 .nil pass0 (pa Z E) (nb h3) (star_of h6) (all_star h7 _)
  | .cp i ix t' d, sc, N, e, h => by
    have hh := on_of h; clear h; obtain ⟨⟨el, x, px, it, ifs, scC, ep⟩, q, h⟩ := hh
    cases isLC_of q
    obtain ⟨h1, h2, h3, h4, h5⟩ := an5 h
    have h1 := cok_of h1
    obtain ⟨ti, pi, ji⟩ := sI i h3
    obtain ⟨te, pe, je⟩ := sX d h5
    have h4 : (ifs.isEmpty = true ∧ isY t' = true) ∨ (on (l1 ifs) fun y => kT c lv t' (rl sc scC) (ns N x ix) y) = true := by simpa using h4
    rcases h4 with ⟨w1, w2⟩ | h4
    · cases List.isEmpty_iff.mp w1
      cases t' <;> first | exact absurd w2 Bool.false_ne_true | skip
      exact ⟨_, fun Z E => @pe_comp _ (ns N x ix) _ _ ix _ _ _ _ _ _ _ _ (by rw [E.n, E.sc]; exact h1) E.calm (pi Z (.Name x px) E (fun z => absurd z Bool.false_ne_true)) (fun C s₂ H₂ fp pn => pts_nil) (fun C s₂ H₂ fp pn => pe _ E.blk) (fold_of h2), jt_comp ji jtt_yes je⟩
    · have hh := on_of h4; clear h4; obtain ⟨y, q, h4⟩ := hh
      cases l1_of q
      obtain ⟨tq, pq, jq⟩ := sT t' h4
      exact ⟨_, fun Z E => @pe_comp _ (ns N x ix) _ _ ix _ _ _ _ _ _ _ _ (by rw [E.n, E.sc]; exact h1) E.calm (pi Z (.Name x px) E (fun z => absurd z Bool.false_ne_true)) (fun C s₂ H₂ fp pn => pts_one (pq _ E.blk)) (fun C s₂ H₂ fp pn => pe _ E.blk) (fold_of h2), jt_comp ji jq je⟩
theorem sA : ∀ (l : A) {sc : Scope} {N : List Str} {es : List Expr}, kA c lv l sc N es = true → ∃ ta, (∀ Z, CE c lv K t va sc N Z → PA Z es ta) ∧ JTA K ta (eA t l)
  | .n, _, _, es, h => by
    cases List.isEmpty_iff.mp h
    exact ⟨_, fun _ _ => pa_nil, jta_nil⟩
  | .c a l, sc, N, es, h => by
    have hh := on_of h; clear h; obtain ⟨⟨e, r⟩, q, h⟩ := hh
    cases l1'_of q
    obtain ⟨h0, h1, h2⟩ := an3 h
    obtain ⟨ta, pa, ja⟩ := sX a h1
    obtain ⟨tl, pl, jl⟩ := sA l h2
    exact ⟨_, fun Z E => @pa_cons _ _ _ _ _ (pa Z E) (pl Z E) (star_of h0), jta_cons ja jl⟩
theorem sT : ∀ (q : T) {sc : Scope} {N : List Str} {e : Expr}, kT c lv q sc N e = true → ∃ tt, (∀ Z, CE c lv K t va sc N Z → PT Z e tt) ∧ JTT K tt (eT t q)
  | .b x, sc, N, e, h => by
    obtain ⟨h1, h2⟩ := an2 h
    obtain ⟨ta, pa, ja⟩ := sX x h2
    exact ⟨_, fun Z E => @pt_truthK _ K _ _ E.k (pa Z E) (tru_of h1), jtt_truth ja⟩
  | .c o a b, sc, N, e, h => by
    have hh := on_of h; clear h; obtain ⟨⟨l, op, r⟩, q, h⟩ := hh
    obtain ⟨p, rfl⟩ := eC1_of q
    obtain ⟨h1, h0, h2, h3⟩ := an4 h
    cases of_decide_eq_true h1
    obtain ⟨ta, pa, ja⟩ := sX a h2
    obtain ⟨tb, pb, jb⟩ := sX b h3
    obtain ⟨r, o1, o2⟩ := o.ok (K := K)
    exact ⟨_, fun Z E => pt_cmpR (o1 Z E.k E.rm.units) (pa Z E) (pb Z E) (mark_of h0), jtt_test (jt_op o2 ja jb)⟩
  | .d n a b, sc, N, e, h => by
    have hh := on_of h; clear h; obtain ⟨⟨l, op, r⟩, q, h⟩ := hh
    obtain ⟨p, rfl⟩ := eC1_of q
    obtain ⟨h1, h0, h2, h3⟩ := an4 h
    cases of_decide_eq_true h1
    obtain ⟨ta, pa, ja⟩ := sX a h2
    obtain ⟨tb, pb, jb⟩ := sX b h3
    cases n with
    | false => exact ⟨_, fun Z E => @pt_cmp _ _ _ _ _ _ (pc_din (hu_of E.rm) (pa Z E) (pb Z E)) (mark_of h0), jtt_b (jt_din ja jb)⟩
    | true => exact ⟨_, fun Z E => @pt_cmp _ _ _ _ _ _ (pc_dnotin (hu_of E.rm) (pa Z E) (pb Z E)) (mark_of h0), jtt_b (jt_dnotin ja jb)⟩
  | .h o p a b d, sc, N, e, h => by
    have hh := on_of h; clear h; obtain ⟨⟨l, op, op', m, r⟩, q, h⟩ := hh
    obtain ⟨p', rfl⟩ := eC2_of q
    obtain ⟨h1, h2, h3, h4, h5, h6⟩ := an6 h
    cases of_decide_eq_true h1
    cases of_decide_eq_true h2
    obtain ⟨ta, pa, ja⟩ := sX a h4
    obtain ⟨tb, pb, jb⟩ := sX b h5
    obtain ⟨td, pd, jd⟩ := sX d h6
    obtain ⟨r, o1, o2⟩ := o.ok (K := K)
    obtain ⟨r', o1', o2'⟩ := p.ok (K := K)
    exact ⟨_, fun Z E => @pt_chain _ _ _ _ _ _ _ _ _ _ _ _ (o1 Z E.k E.rm.units) (o1' Z E.k E.rm.units) (pa Z E) (pb Z E) (pd Z E) (nb h3), jtt_test (jt_chain o2 o2' ja jb jd)⟩
  | .an a b, sc, N, e, h => by
    have hh := on_of h; clear h; obtain ⟨⟨x, y⟩, q, h⟩ := hh
    obtain ⟨m, rest, pos, rfl, w⟩ := eBl2_of q
    obtain ⟨h1, h2⟩ := an2 h
    obtain ⟨ta, pa, ja⟩ := sT a h1
    obtain ⟨tb, pb, jb⟩ := sT b h2
    refine ⟨_, fun Z E => @PW.pt _ _ _ (@pw_and _ _ _ _ _ tb _ (pa Z E) ?_), jtt_and ja jb⟩
    rcases w with ⟨rfl, rfl⟩ | rfl
    · exact @pw_and1 _ _ _ _ (pb Z E)
    · exact pw_of (pb Z E)
  | .or a b, sc, N, e, h => by
    have hh := on_of h; clear h; obtain ⟨⟨x, y⟩, q, h⟩ := hh
    obtain ⟨m, rest, pos, rfl, w⟩ := eBl2_of q
    obtain ⟨h1, h2⟩ := an2 h
    obtain ⟨ta, pa, ja⟩ := sT a h1
    obtain ⟨tb, pb, jb⟩ := sT b h2
    refine ⟨_, fun Z E => @PW.pt _ _ _ (@pw_or _ _ _ _ _ tb _ (pa Z E) ?_), jtt_or ja jb⟩
    rcases w with ⟨rfl, rfl⟩ | rfl
    · exact @pw_or1 _ _ _ _ (pb Z E)
    · exact pw_of (pb Z E)
  | .nt a, sc, N, e, h => by
    have hh := on_of h; clear h; obtain ⟨⟨op, r⟩, q, h⟩ := hh
    obtain ⟨p, rfl⟩ := eUo_of q
    obtain ⟨h1, h2⟩ := an2 h
    cases of_decide_eq_true h1
    obtain ⟨ta, pa, ja⟩ := sT a h2
    exact ⟨_, fun Z E => pt_not (pa Z E), jtt_not ja⟩
  | .y, sc, N, e, h => absurd h Bool.false_ne_true
theorem sP : ∀ (l : P) {sc : Scope} {N : List Str} {e : Option Expr}, kP c lv l sc N e = true → ∃ ta, (∀ Z, CE c lv K t va sc N Z → PO Z e ta) ∧ JTO K ta (eP t l)
  | .n, _, _, o, h => by
    cases o with
    | some _ => cases h
    | none => exact ⟨_, fun _ _ => po_none, jto_none⟩
  | .s x, sc, N, o, h => by
    have hh := on_of h; clear h; obtain ⟨e, rfl, h⟩ := hh
    obtain ⟨ta, pa, ja⟩ := sX x h
    exact ⟨_, fun Z E => po_some (pa Z E), jto_some ja⟩
theorem sI : ∀ (i : I) {tg : Bool} {sc : Scope} {N : List Str} {e : Expr}, kI c lv i tg sc N e = true → ∃ ti, (∀ Z g, CE c lv K t va sc N Z → (tg = true → istup g = true) → PI Z g e ti) ∧ JI K ti (eI t i)
  | .r1 l, tg, sc, N, e, h => by
    have hh := on_of h; clear h; obtain ⟨⟨x, as⟩, q, h⟩ := hh
    obtain ⟨p, cp, rfl, h4⟩ := eN_of q
    obtain ⟨h1, h2, h3, h0, h5⟩ := an5 h
    cases of_decide_eq_true h1
    obtain ⟨a, rfl⟩ := len1 (of_decide_eq_true h0)
    obtain ⟨ta, pa, ja⟩ := sA l h5
    exact ⟨_, fun Z g E _ => @pi_range1 _ _ _ _ _ _ (E.gl h2) (E.mg h3) (pa Z E) (star_of (all1 h4).1), ji_rng1 ja⟩
  | .en l, tg, sc, N, e, h => by
    have hh := on_of h; clear h; obtain ⟨⟨x, as⟩, q, h⟩ := hh
    obtain ⟨p, cp, rfl, h4⟩ := eN_of q
    obtain ⟨h0, h1, h2, h3, h6, h5⟩ := an6 h
    cases of_decide_eq_true h1
    obtain ⟨a, rfl⟩ := len1 (of_decide_eq_true h6)
    obtain ⟨ta, pa, ja⟩ := sA l h5
    refine ⟨_, fun Z g E hg => ?_, ji_enum ja⟩
    have hg := hg h0
    cases g <;> first | exact absurd hg Bool.false_ne_true | skip
    exact @pi_enumK _ K _ _ _ _ _ _ _ E.k (E.gl h2) (E.mg h3) (pa Z E) (star_of (all1 h4).1)
  | .s x, tg, sc, N, e, h => by
    obtain ⟨ta, pa, ja⟩ := sX x (e := e) h
    exact ⟨_, fun Z g E _ => pi_str (pa Z E), ji_str ja⟩
  | .t x, tg, sc, N, e, h => by
    obtain ⟨ta, pa, ja⟩ := sX x (e := e) h
    exact ⟨_, fun Z g E _ => pi_tupK E.k (pa Z E), ji_tup ja⟩
  | .l x, tg, sc, N, e, h => by
    obtain ⟨ta, pa, ja⟩ := sX x (e := e) h
    exact ⟨_, fun Z g E _ => pi_listK E.k (pa Z E), ji_list ja⟩
end
end
end C
namespace C
open PySem PySem.Spec L2 J
noncomputable def loc (sc : Scope) (x : Str) : Bool := match sc.names.lookup x with
  | some .local => true
  | some .cell => true
  | _ => false
theorem loc_of {sc : Scope} {x : Str} (h : loc sc x = true) : L2.Loc sc x := by
  unfold loc at h; unfold L2.Loc
  split at h <;> first | exact absurd h Bool.false_ne_true | simp_all
mutual
noncomputable def kG : G → Scope → List Str → Expr → Bool
  | .n i, sc, N, e => on (eNm e) fun x => decide (N[i]? = some x) && loc sc x
  | .t k l, sc, N, e => on (eTu e) fun es => decide (es.length = k) && es.all nstar && kGs l sc N es
  | .l k l, sc, N, e => on (eTu e) fun es => decide (es.length = k) && es.all nstar && kGs l sc N es
noncomputable def kGs : Gs → Scope → List Str → List Expr → Bool
  | .n, _, _, es => es.isEmpty
  | .c g l, sc, N, es => on (l1' es) fun q => nstar q.1 && kG g sc N q.1 && kGs l sc N q.2
end
noncomputable def noel : Expr → Bool
  | .List [] _ => true
  | _ => false
theorem noel_of {e : Expr} (h : noel e = true) : ∃ p, e = .List [] p := by
  unfold noel at h
  split at h
  · exact ⟨_, rfl⟩
  · cases h
noncomputable def sAT : Stmt → Option (Expr × Expr × Pos)
  | .Assign [tg] e pos => some (tg, e, pos)
  | _ => none
noncomputable def sAN (st : Stmt) : Option (Str × Expr) := (sAT st).bind fun q => (eNm q.1).map fun x => (x, q.2.1)
noncomputable def sEx : Stmt → Option Expr
  | .Expr e _ => some e
  | _ => none
noncomputable def sRt : Stmt → Option (Option Expr)
  | .Return e _ => some e
  | _ => none
noncomputable def sIf : Stmt → Option (Expr × List Stmt × List Stmt)
  | .If e a b _ => some (e, a, b)
  | _ => none
noncomputable def sFo : Stmt → Option (Expr × Expr × List Stmt)
  | .For tg it b [] _ => some (tg, it, b)
  | _ => none
noncomputable def sPl : Stmt → Nat
  | .Raise .. => 1
  | .Pass _ => 2
  | .Break _ => 3
  | .Continue _ => 4
  | _ => 0
theorem sAT_of {st : Stmt} {q : Expr × Expr × Pos} (h : sAT st = some q) : st = .Assign [q.1] q.2.1 q.2.2 := by
  unfold sAT at h
  split at h
  · cases h; rfl
  · cases h
theorem sAN_of {st : Stmt} {y : Str} {e : Expr} (h : sAN st = some (y, e)) : ∃ p pos, st = .Assign [.Name y p] e pos := by
  obtain ⟨q, h1, h⟩ := bind_of h
  obtain ⟨x, h2, h⟩ := map_of h
  cases h
  obtain ⟨p, e⟩ := eNm_of h2
  exact ⟨p, q.2.2, by rw [sAT_of h1, e]⟩
theorem sEx_of {st : Stmt} {e : Expr} (h : sEx st = some e) : ∃ p, st = .Expr e p := by
  cases st <;> cases h; exact ⟨_, rfl⟩
theorem sRt_of {st : Stmt} {e : Option Expr} (h : sRt st = some e) : ∃ p, st = .Return e p := by
  cases st <;> cases h; exact ⟨_, rfl⟩
theorem sIf_of {st : Stmt} {e : Expr} {a b : List Stmt} (h : sIf st = some (e, a, b)) : ∃ p, st = .If e a b p := by
  cases st <;> cases h; exact ⟨_, rfl⟩
theorem sFo_of {st : Stmt} {a b : Expr} {l : List Stmt} (h : sFo st = some (a, b, l)) : ∃ p, st = .For a b l [] p := by
  unfold sFo at h
  split at h
  · cases h; exact ⟨_, rfl⟩
  · cases h
noncomputable def kIO (c : Cf) (lv : Nat) (f : Nat) (l : A) (sc : Scope) (N : List Str) (e : Expr) : Bool :=
  on (eN e) fun q => on c.fs[f]? fun i => decide (q.1 = i.nm) && gl sc q.1 && !(q.1 == "__debug__") && decide (i.lv ≤ lv) && decide (q.2.length = i.ar) && i.io.isSome && !q.2.isEmpty && kA c lv l sc N q.2
noncomputable def kL (c : Cf) (lv : Nat) : L → Scope → List Str → Stmt → Bool
  | .rt x, sc, N, st => on (sRt st) fun o => on o fun e => kX c lv x sc N e
  | .nv, _, _, st => decide (sPl st = 1)
  | .st i x, sc, N, st => on (sAN st) fun s => decide (N[i]? = some s.1) && loc sc s.1 && ncomp s.2 && kX c lv x sc N s.2
  | .sc j i ix q e, sc, N, st => on (sAN st) fun s => decide (N[j]? = some s.1) && loc sc s.1 && kX c lv (.cp i ix q e) sc N s.2
  | .as g x, sc, N, st => on (sAT st) fun s => istup s.1 && tru s.2.1 && kG g sc N s.1 && kX c lv x sc N s.2.1
  | .si k i x, sc, N, st => on (sAT st) fun s => on (eSu s.1) fun u => nsl u.2 && ncomp s.2.1 && kX c lv (.v k) sc N u.1 && kX c lv i sc N u.2 && kX c lv x sc N s.2.1
  | .ap k x, sc, N, st => on (sEx st) fun e => on (eM "append" e) fun q => on (l1 q.2) fun a => kX c lv (.v k) sc N q.1 && kX c lv x sc N a
  | .ne i it, sc, N, st => on (sAN st) fun s => on (isLC s.2) fun q => decide (N[i]? = some s.1) && loc sc s.1 && q.2.2.2.2.1.isEmpty && noel q.1 && cok N (ns N q.2.1 []) sc q.2.2.2.2.2.1 q.2.1 [] && (nset q.2.2.2.1 && kI c lv it false sc N q.2.2.2.1)
  | .iD f _ l, sc, N, st => on (sEx st) fun e => kIO c lv f l sc N e
mutual
noncomputable def kS (c : Cf) (lv : Nat) : S → Scope → List Str → Stmt → Bool
  | .l x, sc, N, st => kL c lv x sc N st
  | .ie t a b, sc, N, st => on (sIf st) fun q => kT c lv t sc N q.1 && kB c lv a sc N q.2.1 && kB c lv b sc N q.2.2
  | .fo i g b, sc, N, st => on (sFo st) fun q => kI c lv i (istup q.1) sc N q.2.1 && nset q.2.1 && kG g sc N q.1 && kB c lv b sc N q.2.2
  | .fz _ s, sc, N, st => kS c lv s sc N st
noncomputable def kB (c : Cf) (lv : Nat) : B → Scope → List Str → List Stmt → Bool
  | .n, _, _, ss => ss.isEmpty
  | .o s, sc, N, ss => on (l1 ss) fun st => kS c lv s sc N st
  | .c s b, sc, N, ss => on (l1' ss) fun q => kS c lv s sc N q.1 && kB c lv b sc N q.2
end
structure CS (c : Cf) (lv : Nat) (K : PySem.W.Frag) (t : List FT) (va : List V) (sc : Scope) (N : List Str) (Z : Cx) : Prop where
  e : CE c lv K t va sc N Z
  nd : N.Nodup
  fn : ∀ x, Z.fn x = true
  po : PassesOwn (model Z.prog Z.w) Z.A Z.env Z.xe
  kd : sc.kind = .function
section
variable {c : Cf} {lv : Nat} {K : PySem.W.Frag} {t : List FT} {va : List V}
theorem sV {k : Nat} {sc : Scope} {N : List Str} {e : Expr} (h : kX c lv (.v k) sc N e = true) (Z : Cx) (E : CE c lv K t va sc N Z) : PE Z e (tVar k) := by
  have hh := on_of h; clear h; obtain ⟨x, q, h⟩ := hh
  obtain ⟨p, rfl⟩ := eNm_of q
  obtain ⟨h1, h2, h3, h4⟩ := an4 h
  have h1 := of_decide_eq_true h1
  have h2 := vis_of h2
  exact @pe_var _ _ _ _ (E.n ▸ h1) (E.sc ▸ h2) (nb h3) (nb h4)
theorem assign_of {e : Expr} (h : nstar e = true) {es : List Expr} {env : Env} : assignEach (e :: es) env = (false, assign e env) :: assignEach es env := by
  cases e <;> first | rfl | cases h
theorem assigns_of {env : Env} : ∀ {es : List Expr}, es.all nstar = true → (assignEach es env).length = es.length ∧ (assignEach es env).findIdx? (fun x => x.1) = none
  | [], _ => ⟨rfl, rfl⟩
  | e :: es, h => by
    rw [List.all_cons, Bool.and_eq_true] at h
    obtain ⟨h1, h2⟩ := assigns_of (env := env) h.2
    rw [assign_of h.1]
    refine ⟨by simp [h1], ?_⟩
    rw [List.findIdx?_cons, h2]
    rfl
mutual
theorem sG : ∀ (g : G) {sc : Scope} {N : List Str} {e : Expr}, kG g sc N e = true → ∃ tg, (∀ Z, CS c lv K t va sc N Z → PG Z e tg) ∧ JG K tg (eG g)
  | .n i, sc, N, e, h => by
    have hh := on_of h; clear h; obtain ⟨x, q, h⟩ := hh
    obtain ⟨p, rfl⟩ := eNm_of q
    obtain ⟨h1, h2⟩ := an2 h
    have h1 := of_decide_eq_true h1
    exact ⟨_, fun Z E => @pg_name _ _ i _ (E.e.n ▸ E.nd) (E.e.n ▸ h1) (E.e.sc ▸ loc_of h2) (.inl (E.fn _)), jg_name⟩
  | .t k l, sc, N, e, h => by
    have hh := on_of h; clear h; obtain ⟨es, q, h⟩ := hh
    obtain ⟨k', p, rfl⟩ := eTu_of q
    obtain ⟨h1, h2, h3⟩ := an3 h
    cases of_decide_eq_true h1
    obtain ⟨tg, pg, jg⟩ := sGs l h3
    exact ⟨_, fun Z E => E.e.k ▸ @pg_tup _ _ _ _ _ _ E.e.calm (pg Z E) (assigns_of h2).1 (assigns_of h2).2, jg_tup jg⟩
  | .l k l, sc, N, e, h => by
    have hh := on_of h; clear h; obtain ⟨es, q, h⟩ := hh
    obtain ⟨k', p, rfl⟩ := eTu_of q
    obtain ⟨h1, h2, h3⟩ := an3 h
    cases of_decide_eq_true h1
    obtain ⟨tg, pg, jg⟩ := sGs l h3
    exact ⟨_, fun Z E => E.e.k ▸ @pg_lst _ _ _ _ _ _ E.e.calm (pg Z E) (assigns_of h2).1 (assigns_of h2).2, jg_lst jg⟩
theorem sGs : ∀ (l : Gs) {sc : Scope} {N : List Str} {es : List Expr}, kGs l sc N es = true → ∃ tg, (∀ Z, CS c lv K t va sc N Z → PGs Z es tg) ∧ JGs K tg (eGs l)
  | .n, _, _, es, h => by
    cases List.isEmpty_iff.mp h
    exact ⟨_, fun _ _ => pgs_nil, jgs_nil⟩
  | .c g l, sc, N, es, h => by
    have hh := on_of h; clear h; obtain ⟨⟨e, r⟩, q, h⟩ := hh
    cases l1'_of q
    obtain ⟨h0, h1, h2⟩ := an3 h
    obtain ⟨ta, pa, ja⟩ := sG g h1
    obtain ⟨tl, pl, jl⟩ := sGs l h2
    exact ⟨_, fun Z E => @pgs_cons _ _ _ _ _ (pa Z E) (pl Z E) (by rw [assign_of h0]; rfl), jgs_cons ja jl⟩
end
theorem sTV : ∀ (l : A) {sc : Scope} {N : List Str} {es : List Expr}, kA c lv l sc N es = true → ∃ ta, (∀ Z, CE c lv K t va sc N Z → PA Z es ta) ∧ JTV K ta (eA t l) (vpos l)
  | .n, _, _, es, h => by
    cases List.isEmpty_iff.mp h
    exact ⟨_, fun _ _ => pa_nil, jtv_nil⟩
  | .c a l, sc, N, es, h => by
    have hh := on_of h; clear h; obtain ⟨⟨e, r⟩, q, h⟩ := hh
    cases l1'_of q
    obtain ⟨h0, h1, h2⟩ := an3 h
    obtain ⟨tl, pl, jl⟩ := sTV l h2
    cases a with
    | v i => exact ⟨_, fun Z E => @pa_cons _ _ _ _ _ (sV h1 Z E) (pl Z E) (star_of h0), jtv_var jl⟩
    | _ =>
      obtain ⟨ta, pa, ja⟩ := sX _ h1
      exact ⟨_, fun Z E => @pa_cons _ _ _ _ _ (pa Z E) (pl Z E) (star_of h0), jtv_cons ja jl⟩
theorem sw_of {e : Expr} {o : Option Expr} {n : Nat} {env : Env} (h : ncomp e = true) : swapsWith e o n env = pure false := by
  cases e <;> first | rfl | cases h
end
end C
set_option maxHeartbeats 4000000
namespace C
open PySem PySem.Spec L2 J
section
variable {c : Cf} {lv : Nat} {K : PySem.W.Frag} {t : List FT} {va : List V}
theorem sw_comp {el : Expr} {gs : List Comprehension} {scC : Scope} {ep py : Pos} {y : Str} {n : Nat} {env : Env} :
    swapsWith (.ListComp el gs scC ep) (some (.Name y py)) n env = pure true ∧ env.scope.names.lookup y = some .local ∨ swapsWith (.ListComp el gs scC ep) (some (.Name y py)) n env = pure false := by
  have e : swapsWith (.ListComp el gs scC ep) (some (.Name y py)) n env = pure (env.blockKind == .function && env.kindOf y == some .local && py.line == ep.line && !(scC.names.any fun x => match x with | (n, k) => n == y && (k == NameKind.local || k == NameKind.cell))) := rfl
  rw [e]
  generalize hb : (env.blockKind == .function && env.kindOf y == some .local && py.line == ep.line && !(scC.names.any fun x => match x with | (n, k) => n == y && (k == NameKind.local || k == NameKind.cell))) = b
  cases b with
  | false => exact .inr rfl
  | true =>
    obtain ⟨_, h, _, _⟩ := an4 hb
    exact .inl ⟨rfl, by simpa [Env.kindOf] using h⟩
theorem sCp {i : I} {ix : List Nat} {t' : T} {d : X} {sc : Scope} {N : List Str} {e : Expr} (h : kX c lv (.cp i ix t' d) sc N e = true) :
    ∃ el x px it ifs scC ep wi tc te, e = .ListComp el [⟨.Name x px, it, ifs, 0⟩] scC ep ∧ (∀ Z, CE c lv K t va sc N Z → CompOk Z.N (ns N x ix) Z.env.scope scC x ix ∧ PI Z (.Name x px) it wi ∧ (∀ C s₂ H₂ fp pn, PTs (Z.blk (ns N x ix) scC C s₂ H₂ fp pn) ifs tc) ∧ (∀ C s₂ H₂ fp pn, PE (Z.blk (ns N x ix) scC C s₂ H₂ fp pn) el te)) ∧ nset it = true ∧ JT K (tComp wi ix tc te) (eX t (.cp i ix t' d)) := by
  have hh := on_of h; clear h; obtain ⟨⟨el, x, px, it, ifs, scC, ep⟩, q, h⟩ := hh
  cases isLC_of q
  obtain ⟨h1, h2, h3, h4, h5⟩ := an5 h
  have h1 := cok_of h1
  obtain ⟨ti, pi, ji⟩ := sI i h3
  obtain ⟨te, pe, je⟩ := sX d h5
  have h4 : (ifs.isEmpty = true ∧ isY t' = true) ∨ (on (l1 ifs) fun y => kT c lv t' (rl sc scC) (ns N x ix) y) = true := by simpa using h4
  rcases h4 with ⟨w1, w2⟩ | h4
  · cases List.isEmpty_iff.mp w1
    cases t' <;> first | exact absurd w2 Bool.false_ne_true | skip
    exact ⟨el, x, px, it, [], scC, ep, _, _, _, rfl, fun Z E => ⟨by rw [E.n, E.sc]; exact h1, pi Z (.Name x px) E (fun z => absurd z Bool.false_ne_true), (fun C s₂ H₂ fp pn => pts_nil), (fun C s₂ H₂ fp pn => pe _ E.blk)⟩, h2, jt_comp ji jtt_yes je⟩
  · have hh := on_of h4; clear h4; obtain ⟨y, q, h4⟩ := hh
    cases l1_of q
    obtain ⟨tq, pq, jq⟩ := sT t' h4
    exact ⟨el, x, px, it, [y], scC, ep, _, _, _, rfl, fun Z E => ⟨by rw [E.n, E.sc]; exact h1, pi Z (.Name x px) E (fun z => absurd z Bool.false_ne_true), (fun C s₂ H₂ fp pn => pts_one (pq _ E.blk)), (fun C s₂ H₂ fp pn => pe _ E.blk)⟩, h2, jt_comp ji jq je⟩
theorem sIO {f : Nat} {l : A} {sc : Scope} {N : List Str} {e : Expr} (h : kIO c lv f l sc N e = true) : ∃ n ta, (∀ Z, CE c lv K t va sc N Z → PE Z e (tCall (spIO K n (FT.l t[f]?) (FT.o t[f]?)) [] E0 ta)) ∧ JTV K ta (eA t l) (vpos l) ∧ ncomp e = true ∧ ∀ (e : Ev) (mds : List (M × D)), eA t l e = some mds → mds.length = n := by
  have hh := on_of h; clear h; obtain ⟨⟨x, as⟩, q, h⟩ := hh
  obtain ⟨p, cp, rfl, h67⟩ := eN_of q
  have hh := on_of h; clear h; obtain ⟨i, hf, h⟩ := hh
  obtain ⟨h1, h2, h3, h4, h5, h5', h0, h8⟩ := an8 h
  obtain ⟨a, r, rfl⟩ := ne_cons h0
  obtain ⟨h6, h7⟩ := all1 h67
  have h1 := of_decide_eq_true h1
  obtain ⟨ta, pa, ja⟩ := sTV l h8
  have hl := lenA (t := t) h8
  rw [show (a :: r).length = i.ar from of_decide_eq_true h5] at hl
  refine ⟨i.ar, ta, fun Z E => ?_, ja, rfl, hl⟩
  obtain ⟨F, hF, q⟩ := E.fs f i hf
  cases F with
  | p F => rw [q.1] at h5'; cases h5'
  | io l F =>
    obtain ⟨_, a, fd, ps, k1, k2, k3, k4⟩ := q
    rw [← h1] at k2
    rw [hF, ← E.k]
    exact @pe_call _ _ _ _ _ _ _ _ _ _ _ _ _ _ _ _ k1 (E.rm.mono (of_decide_eq_true h4)) (E.gl h2) k2 k3 k4 .nil pass0 (pa Z E) (nb h3) (star_of h6) (all_star h7 _)
theorem tru_nc {e : Expr} (h : tru e = true) : ncomp e = true := by
  cases e <;> first | rfl | cases h
theorem sst_of {e : Expr} {es : List Expr} {k : Nat} {p : Pos} {env : Env} (h : tru e = true) : swappedStores [.Tuple es k p] e env = pure none := by
  cases e <;> first | rfl | cases h
theorem sl1 {o a : Expr} {ap cp : Pos} {to ta : TE} {Z : Cx} (k : Z.K = K) (ho : PE Z o to) (ha : PE Z a ta) (h4 : atb o = true) (h5 : (ap.endLine == cp.line) = true) (h6 : nstar a = true) : PE Z (.Call (.Attribute o "append" ap) [a] [] cp) (tBM K "list" rAppend to (tCons ta tNil)) :=
  k ▸ @pe_bm _ _ _ _ _ _ _ _ _ _ _ _ PySem.F.plainAttrs_list PySem.F.slot_list_append PySem.F.type_list_append mt_append ho (@pa_cons _ _ _ _ _ ha pa_nil (star_of h6)) (atb_of h4) (few_of h6) h5 (star_of h6) any_of
theorem qset {Z : Cx} {sc : Scope} {N : List Str} {e : Expr} {te : TE} {pos py : Pos} {y : Str} {i : Nat} (E : CS c lv K t va sc N Z) (h1 : N[i]? = some y) (h2 : loc sc y = true) (h : PE Z e te) (hs : swapsWith e (some (Expr.Name y py)) pos.line Z.env = pure false) : PSo Z (.Assign [.Name y py] e pos) (tAsg te (gName i)) :=
  @qs_set _ _ _ _ _ _ i (E.e.n ▸ E.nd) (E.e.n ▸ h1) (E.e.sc ▸ loc_of h2) h hs (.inl (E.fn _))
theorem sL : ∀ (s : L) {sc : Scope} {N : List Str} {st : Stmt}, kL c lv s sc N st = true → ∃ ts, (∀ Z, CS c lv K t va sc N Z → PSo Z st ts) ∧ JS K ts (eL t s)
  | .rt x, sc, N, st, h => by
    have hh := on_of h; clear h; obtain ⟨o, q, h⟩ := hh
    obtain ⟨p, rfl⟩ := sRt_of q
    have hh := on_of h; clear h; obtain ⟨e, rfl, h⟩ := hh
    obtain ⟨te, pe, je⟩ := sX x h
    exact ⟨_, fun Z E => qs_ret (pe Z E.e), js_ret je⟩
  | .nv, sc, N, st, h => ⟨_, fun Z E => qs_never, js_never⟩
  | .st i x, sc, N, st, h => by
    have hh := on_of h; clear h; obtain ⟨⟨y, e⟩, q, h⟩ := hh
    obtain ⟨py, pos, rfl⟩ := sAN_of q
    obtain ⟨h1, h2, h3, h4⟩ := an4 h
    obtain ⟨te, pe, je⟩ := sX x h4
    exact ⟨_, fun Z E => qset E (of_decide_eq_true h1) h2 (pe Z E.e) (sw_of h3), js_set je⟩
  | .sc j i ix t' d, sc, N, st, h => by
    have hh := on_of h; clear h; obtain ⟨⟨y, e⟩, q, h⟩ := hh
    obtain ⟨py, pos, rfl⟩ := sAN_of q
    obtain ⟨h1, h2, h3⟩ := an3 h
    have h1 := of_decide_eq_true h1
    obtain ⟨el, z, pz, it, ifs, scC, ep, wi, tc, te, e, pe, ns, je⟩ := sCp h3
    have e : _ = Expr.ListComp el [⟨.Name z pz, it, ifs, 0⟩] scC ep := e
    subst e
    refine ⟨_, fun Z E => ?_, js_set je⟩
    obtain ⟨p1, p2, p3, p4⟩ := pe Z E.e
    rcases sw_comp (el := el) (gs := [⟨.Name z pz, it, ifs, 0⟩]) (scC := scC) (ep := ep) (py := py) (y := y) (n := pos.line) (env := Z.env) with ⟨w, l⟩ | w
    · exact @qs_setComp _ _ _ _ _ _ _ _ _ _ _ _ _ j _ _ _ (E.e.n ▸ E.nd) (E.e.n ▸ h1) l p1 E.e.calm p2 p3 p4 w (fold_of ns)
    · exact qset E h1 h2 (@pe_comp _ _ _ _ _ _ _ _ _ _ _ _ _ p1 E.e.calm p2 p3 p4 (fold_of ns)) w
  | .as g x, sc, N, st, h => by
    have hh := on_of h; clear h; obtain ⟨⟨tg, e, pos⟩, q, h⟩ := hh
    cases sAT_of q
    obtain ⟨h1, h2, h3, h4⟩ := an4 h
    obtain ⟨te, pe, je⟩ := sX x h4
    obtain ⟨tg', pg, jg⟩ := sG g h3
    refine ⟨_, fun Z E => @qs_asg _ _ _ _ _ _ (pe Z E.e) (pg Z E) ?_ ?_ ?_, js_asg je jg⟩
    · exact (show swapsWith e (some tg) pos.line Z.env = pure false from sw_of (tru_nc h2))
    · cases tg <;> first | exact absurd h1 Bool.false_ne_true | skip
      exact sst_of h2
    · cases tg <;> first | rfl | exact absurd h1 Bool.false_ne_true
  | .si k i x, sc, N, st, h => by
    have hh := on_of h; clear h; obtain ⟨⟨tg, e, pos⟩, q, h⟩ := hh
    cases sAT_of q
    have hh := on_of h; clear h; obtain ⟨⟨o, ie⟩, q, h⟩ := hh
    obtain ⟨p, r⟩ := eSu_of q
    have r : tg = _ := r
    subst r
    obtain ⟨h1, h2, h3, h4, h5⟩ := an5 h
    obtain ⟨ti, pi, ji⟩ := sX i h4
    obtain ⟨te, pe, je⟩ := sX x h5
    refine ⟨_, fun Z E => @qs_asg _ _ _ _ _ _ (pe Z E.e) (@pg_sub _ _ _ _ _ _ _ (sV h3 Z E.e) (pi Z E.e) set_list (sub_of h1)) ?_ ?_ rfl, js_setIx je ji⟩
    · exact (show swapsWith e (some (Expr.Subscript o ie p)) pos.line Z.env = pure false from sw_of h2)
    · cases e <;> rfl
  | .ap k x, sc, N, st, h => by
    have hh := on_of h; clear h; obtain ⟨e, q, h⟩ := hh
    obtain ⟨pos, rfl⟩ := sEx_of q
    have hh := on_of h; clear h; obtain ⟨⟨o, as⟩, q, h⟩ := hh
    obtain ⟨ap, cp, rfl, h2, h3, h4⟩ := eM_of q
    have hh := on_of h; clear h; obtain ⟨a, q1, h⟩ := hh
    cases l1_of q1
    obtain ⟨h5, h6⟩ := an2 h
    obtain ⟨te, pe, je⟩ := sX x h6
    exact ⟨_, fun Z E => @qs_expr _ _ _ _ (sl1 E.e.k (sV h5 Z E.e) (pe Z E.e) h2 h3 (all1 h4).1) rfl, js_app je⟩
  | .ne i it, sc, N, st, h => by
    have hh := on_of h; clear h; obtain ⟨⟨y, e⟩, q, h⟩ := hh
    obtain ⟨py, pos, rfl⟩ := sAN_of q
    have hh := on_of h; clear h; obtain ⟨⟨el, z, pz, ie, ifs, scC, ep⟩, q, h⟩ := hh
    have r : e = _ := isLC_of q
    subst r
    obtain ⟨h1, h2, q1, q2, h6, h7⟩ := an6 h
    obtain ⟨h4, h5⟩ := an2 h7
    have h1 := of_decide_eq_true h1
    obtain ⟨lp, r⟩ := noel_of q2
    have r : el = _ := r
    subst r
    cases List.isEmpty_iff.mp q1
    have h6 := cok_of h6
    obtain ⟨ti, pi, ji⟩ := sI it h5
    refine ⟨_, fun Z E => ?_, js_nest (ix := []) ji⟩
    have p1 : CompOk Z.N (ns N z []) Z.env.scope scC z [] := by rw [E.e.n, E.e.sc]; exact h6
    have p2 := pi Z (.Name z pz) E.e (fun z => absurd z Bool.false_ne_true)
    rcases sw_comp (el := .List [] lp) (gs := [⟨.Name z pz, ie, [], 0⟩]) (scC := scC) (ep := ep) (py := py) (y := y) (n := pos.line) (env := Z.env) with ⟨w, l⟩ | w
    · exact @qs_setComp _ _ _ _ _ _ _ _ _ _ _ _ _ i _ _ _ (E.e.n ▸ E.nd) (E.e.n ▸ h1) l p1 E.e.calm p2 (fun C s₂ H₂ fp pn => pts_nil) (fun C s₂ H₂ fp pn => pe_lst pa_nil) w (fold_of h4)
    · exact qset E h1 h2 (@pe_comp _ _ _ _ _ _ _ _ _ _ _ _ _ p1 E.e.calm p2 (fun C s₂ H₂ fp pn => pts_nil) (fun C s₂ H₂ fp pn => pe_lst pa_nil) (fold_of h4)) w
  | .iD f sl l, sc, N, st, h => by
    have hh := on_of h; clear h; obtain ⟨e, q, h⟩ := hh
    obtain ⟨pos, rfl⟩ := sEx_of q
    obtain ⟨n, ta, p1, p2, nc, p3⟩ := sIO h
    exact ⟨_, fun Z E => @qs_expr _ _ _ _ (p1 Z E.e) (sw_of nc), js_dropIO p2 p3⟩
mutual
theorem sS : ∀ (s : S) {sc : Scope} {N : List Str} {st : Stmt}, kS c lv s sc N st = true → ∃ ts, (∀ Z, CS c lv K t va sc N Z → PSo Z st ts) ∧ JS K ts (eS t s)
  | .l x, sc, N, st, h => sL x (st := st) h
  | .ie t' a b, sc, N, st, h => by
    have hh := on_of h; clear h; obtain ⟨⟨e, as, bs⟩, q, h⟩ := hh
    obtain ⟨p, rfl⟩ := sIf_of q
    obtain ⟨h1, h2, h3⟩ := an3 h
    obtain ⟨tq, pq, jq⟩ := sT t' h1
    obtain ⟨ta, pa, ja⟩ := sB a h2
    obtain ⟨tb, pb, jb⟩ := sB b h3
    exact ⟨_, fun Z E => qs_if (pq Z E.e) (pa Z E) (pb Z E), js_if jq ja jb⟩
  | .fo i g b, sc, N, st, h => by
    have hh := on_of h; clear h; obtain ⟨⟨tg, it, body⟩, q, h⟩ := hh
    obtain ⟨p, rfl⟩ := sFo_of q
    obtain ⟨h1, h2, h3, h4⟩ := an4 h
    obtain ⟨ti, pi, ji⟩ := sI i h1
    obtain ⟨tg', pg, jg⟩ := sG g h3
    obtain ⟨tb, pb, jb⟩ := sB b h4
    exact ⟨_, fun Z E => @qs_for _ _ _ _ _ _ _ _ E.po E.e.calm (pi Z tg E.e id) (pg Z E) (pb Z E) (fold_of h2), js_for ji jg jb⟩
  | .fz k s, sc, N, st, h => by
    obtain ⟨ts, ps, js⟩ := sS s (st := st) h
    exact ⟨_, ps, js_frz js⟩
theorem sB : ∀ (b : B) {sc : Scope} {N : List Str} {ss : List Stmt}, kB c lv b sc N ss = true → ∃ ts, (∀ Z, CS c lv K t va sc N Z → PSso Z ss ts) ∧ JS K ts (eB t b)
  | .n, _, _, ss, h => by
    cases List.isEmpty_iff.mp h
    exact ⟨_, fun _ _ => qss_nil, js_next⟩
  | .o s, _, _, ss, h => by
    have hh := on_of h; clear h; obtain ⟨st, q, h⟩ := hh
    cases l1_of q
    obtain ⟨ts, ps, js⟩ := sS s h
    exact ⟨_, fun Z E => qss_one (ps Z E), js⟩
  | .c s b, _, _, ss, h => by
    have hh := on_of h; clear h; obtain ⟨⟨st, r⟩, q, h⟩ := hh
    cases l1'_of q
    obtain ⟨h1, h2⟩ := an2 h
    obtain ⟨ts, ps, js⟩ := sS s h1
    obtain ⟨tb, pb, jb⟩ := sB b h2
    exact ⟨_, fun Z E => qss_cons (ps Z E) (pb Z E), js_seq js jb⟩
end
end
end C
namespace C
open PySem PySem.Spec L2 J My
noncomputable def AllOk (P : Program) (w : World) (K : PySem.W.Frag) (mg : Str → Option Value) (base : Heap) (fs : List Fi) (t : List FT) : Prop :=
  ∀ (i : Nat) fi, fs[i]? = some fi → ∃ F, t[i]? = some F ∧ FnT P w K mg base fi F
noncomputable def kF (c : Cf) (lv : Nat) (N ps : List Str) (st : Stmt) (b : B) : Bool :=
  decide ((defScope st).kind = .function ∧ (defScope st).isCoroutine = false ∧ (defScope st).isGenerator = false ∧ N.Nodup ∧ N.take ps.length = ps ∧
    (∀ x ∈ ps, (defScope st).names.lookup x = some .local ∨ (defScope st).names.lookup x = some .cell) ∧ (∀ y ∈ (defScope st).names, y.2 ≠ .free)) && kB c lv b (defScope st) N (defBody st)
section
variable {P : Program} {w : World} {K : PySem.W.Frag} {mg : Str → Option Value} {base : Heap} {t : List FT} {va : List V}
theorem AllOk.nil : AllOk P w K mg base [] t := fun i fi h => by simp at h
theorem AllOk.cons {fs : List Fi} {f : Fi} {F : FT} (h : AllOk P w K mg base fs t) (q : FnT P w K mg base f F) : AllOk P w K mg base (f :: fs) (F :: t)
  | 0, fi, e => by cases e; exact ⟨F, rfl, q⟩
  | i + 1, fi, e => h i fi e
theorem ctx {bs : List String} {gs : List (Str × Gv)} {fs : List Fi} {lv : Nat} {N ps : List Str} {st : Stmt} {b : B} {qual : Str} {f : Addr} {cd : Value} {A : Around} {outer : List Env} {s : Shared} {H : Hp} {E : XK} (h : AllOk P w K mg base fs t) (hb : ∀ x ∈ bs, mg (Str.ofString x) = none) (hg : GV K mg va gs) (k : kF ⟨bs, gs, fs⟩ lv N ps st b = true)
    (hr : Room lv (A.deeper (PyProof.Rows.envOfC qual (defScope st) s.heap.objs.size f cd))) : CS ⟨bs, gs, fs⟩ lv K t va (defScope st) N ((cxOf CX0 P w K mg base N qual (defScope st) f cd A outer s H E).nox) := by
  obtain ⟨k1, k2⟩ := an2 k
  obtain ⟨h1, h2, h3, h4, h5, h6, h7⟩ := of_decide_eq_true k1
  exact ⟨⟨rfl, rfl, rfl, rfl, hr, hb, hg, h⟩, h4, fun _ => rfl, PassesOwn.never, h1⟩
theorem scOf {c : Cf} {lv : Nat} {N ps : List Str} {st : Stmt} {b : B} (k : kF c lv N ps st b = true) : FnScope N ps (defScope st) := by
  obtain ⟨h1, h2, h3, h4, h5, h6, h7⟩ := of_decide_eq_true (an2 k).1
  exact ⟨h1, h2, h3, h4, h5, h6, h7⟩
theorem defOk {bs : List String} {gs : List (Str × Gv)} {fs : List Fi} {lv : Nat} {N ps : List Str} {x : Str} {st : Stmt} {b : B} {f : Addr} {fd : FuncData} (h : AllOk P w K mg base fs t) (hb : ∀ x ∈ bs, mg (Str.ofString x) = none) (hg : GV K mg va gs) (Df : Df K mg x st ps f fd) (k : kF ⟨bs, gs, fs⟩ lv N ps st b = true) :
    FnT P w K mg base ⟨x, ps.length, lv + 1, none⟩ (.p (fn N.length (eB t b))) := by
  refine ⟨rfl, f, fd, ps, ?_, Df.mg, Df.fn.kp, Df.bd⟩
  refine Df.fn.ok (scOf k) (fun vs H Q E h => h.1) (fun cdv A outer s H vs Q E hr q => ?_)
  obtain ⟨ts, p1, p2⟩ := sB (t := t) (va := va) (K := K) b (an2 k).2
  exact ⟨ts, (p1 _ (ctx h hb hg k hr)).go, body_ok p2 q⟩
theorem defIO {bs : List String} {gs : List (Str × Gv)} {fs : List Fi} {lv : Nat} {N ps : List Str} {x : Str} {st : Stmt} {b : B} {f : Addr} {fd : FuncData} (io : List Nat) (h : AllOk P w K mg base fs t) (hb : ∀ x ∈ bs, mg (Str.ofString x) = none) (hg : GV K mg va gs) (Df : Df K mg x st ps f fd) (k : kF ⟨bs, gs, fs⟩ lv N ps st b = true) :
    FnT P w K mg base ⟨x, ps.length, lv + 1, some io⟩ (.io io (fnIO N.length io (eB t b))) := by
  refine ⟨rfl, f, fd, ps, ?_, Df.mg, Df.fn.kp, Df.bd⟩
  refine Df.fn.ok (scOf k) (fun vs H Q E h => h.1) (fun cdv A outer s H vs Q E hr q => ?_)
  obtain ⟨ts, p1, p2⟩ := sB (t := t) (va := va) (K := K) b (an2 k).2
  exact ⟨ts, (p1 _ (ctx h hb hg k hr)).go, body_okIO p2 q⟩
end
end C
namespace C
open PySem PySem.Spec L2 J My
structure Dd where
  nm : Str
  st : Stmt
  ps : List Str
  N : List Str
  lv : Nat
  io : Option (List Nat)
  b : B
noncomputable def ftOf (t : List FT) (d : Dd) : FT := match d.io with
  | none => .p (fn d.N.length (eB t d.b))
  | some io => .io io (fnIO d.N.length io (eB t d.b))
noncomputable def fiOf (d : Dd) : Fi := ⟨d.nm, d.ps.length, d.lv + 1, d.io⟩
noncomputable def tab : List Dd → List FT
  | [] => []
  | d :: ds => ftOf (tab ds) d :: tab ds
noncomputable def okAll (bs : List String) (gs : List (Str × Gv)) : List Dd → Bool
  | [] => true
  | d :: ds => kF ⟨bs, gs, ds.map fiOf⟩ d.lv d.N d.ps d.st d.b && okAll bs gs ds
noncomputable def BA (d : Str) (s : Stmt) (ps : List Str) : Prop := ∀ (kV doc pm : Value) (an : Option Addr) (cdv ct : Value) (us : List Value), us.length = ps.length → bindArgs (PySem.W.fnOf d d (defArgs s) (defBody s) (defScope s) .none kV doc pm an cdv ct) ⟨us, []⟩ = pure (ps.zip us)
noncomputable def BAs : List Dd → Prop
  | [] => True
  | d :: ds => BA d.nm d.st d.ps ∧ BAs ds
noncomputable def DE (K : PySem.W.Frag) (d : Str) (s : Stmt) : Prop := ∃ (f : Addr) (oc : Value) (od : Option Addr) (kV dc pm : Value) (an : Option Addr) (cd ct : Value) (sl : Array (Option Value)),
  PySem.W.nsIn K mainGlobals d = some (some (.ref f)) ∧ K.lookup f = some ⟨oc, od, .func (PySem.W.fnOf d d (defArgs s) (defBody s) (defScope s) .none kV dc pm an cd ct), sl⟩ ∧ PySem.W.codeIn K cd d = true ∧ PySem.W.keepIn K (.ref f) = true
theorem deMk {K : PySem.W.Frag} {d : Str} {s : Stmt} {f : Addr} {oc : Value} {od : Option Addr} {kV dc pm : Value} {an : Option Addr} {cd ct : Value} {sl : Array (Option Value)} (a : PySem.W.nsIn K mainGlobals d = some (some (.ref f))) (l : K.lookup f = some ⟨oc, od, .func (PySem.W.fnOf d d (defArgs s) (defBody s) (defScope s) .none kV dc pm an cd ct), sl⟩) (c : PySem.W.codeIn K cd d = true) (k : PySem.W.keepIn K (.ref f) = true) : DE K d s :=
  ⟨f, oc, od, kV, dc, pm, an, cd, ct, sl, a, l, c, k⟩
noncomputable def DEs (K : PySem.W.Frag) : List Dd → Prop
  | [] => True
  | d :: ds => DE K d.nm d.st ∧ DEs K ds
noncomputable def NBs (K : PySem.W.Frag) : List String → Prop
  | [] => True
  | b :: bs => PySem.W.nsIn K mainGlobals (Str.ofString b) = some none ∧ NBs K bs
noncomputable def GE (K : PySem.W.Frag) (x : Str) : Gv → Prop
  | .s y => ∃ tk, PySem.W.nsIn K mainGlobals x = some (some (.str y tk))
  | .t l => ∃ (a : Addr) (od : Option Addr) (it : Array Value) (n : Nat) (sl : Array (Option Value)), PySem.W.nsIn K mainGlobals x = some (some (.ref a)) ∧ K.lookup a = some ⟨.type "tuple", od, .seq it n, sl⟩ ∧ it.toList.map absV = l.map (fun y => some (V.str y)) ∧ l.length ≤ 1000
theorem geS {K : PySem.W.Frag} {x y : Str} {tk : Tok} (a : PySem.W.nsIn K mainGlobals x = some (some (.str y tk))) : GE K x (.s y) := ⟨tk, a⟩
theorem geT {K : PySem.W.Frag} {x : Str} {l : List Str} {a : Addr} {od : Option Addr} {it : Array Value} {n : Nat} {sl : Array (Option Value)} (h : PySem.W.nsIn K mainGlobals x = some (some (.ref a))) (q : K.lookup a = some ⟨.type "tuple", od, .seq it n, sl⟩) (v : it.toList.map absV = l.map (fun y => some (V.str y))) (z : l.length ≤ 1000) : GE K x (.t l) := ⟨a, od, it, n, sl, h, q, v, z⟩
noncomputable def GEs (K : PySem.W.Frag) : List (Str × Gv) → Prop
  | [] => True
  | g :: gs => GE K g.1 g.2 ∧ GEs K gs
section
variable {P : Program} {w : World} {K : PySem.W.Frag} {mg : Str → Option Value} {base : Heap}
theorem nbs_of {h : Heap} (X : K.In h) (G : h.Ns mainGlobals mg) : ∀ {bs : List String}, NBs K bs → ∀ x ∈ bs, mg (Str.ofString x) = none
  | [], _, _, m => nomatch m
  | b :: bs, q, x, m => by
    rcases List.mem_cons.mp m with rfl | m
    · exact PySem.W.mg_none_of X G q.1
    · exact nbs_of X G q.2 x m
theorem gv_of {h : Heap} (X : K.In h) (G : h.Ns mainGlobals mg) : ∀ {gs : List (Str × Gv)}, GEs K gs → ∃ va, GV K mg va gs
  | [], _ => ⟨[], fun i g e => by simp at e⟩
  | (x, g) :: gs, q => by
    obtain ⟨va, r⟩ := gv_of X G q.2
    have one : ∃ v u, mg x = some u ∧ RelV v u ∧ JT K (tC v) (jC g.d) := by
      cases g with
      | s y =>
        obtain ⟨tk, e⟩ := q.1
        exact ⟨.str y, _, PySem.W.mg_of X G e, ⟨_, rfl⟩, jt_c rfl⟩
      | t l =>
        obtain ⟨a, od, it, n, sl, e, lk, m, hl⟩ := q.1
        exact ⟨.ref a, _, PySem.W.mg_of X G e, rfl, jt_glT (sqT_top lk m hl) fun _ _ => rps_strs_c l⟩
    obtain ⟨v, u, h1, h2, h3⟩ := one
    refine ⟨v :: va, fun i g' e => ?_⟩
    cases i with
    | zero => cases e; exact ⟨v, u, rfl, h1, h2, h3⟩
    | succ i => exact r i g' e
theorem df_of {h : Heap} {d : Str} {s : Stmt} {ps : List Str} (X : K.In h) (G : h.Ns mainGlobals mg) (e : DE K d s) (b : BA d s ps) : ∃ f fd, Df K mg d s ps f fd := by
  obtain ⟨f, oc, od, kV, dc, pm, an, cd, ct, sl, q1, q2, q3, q4⟩ := e
  exact ⟨f, _, PySem.W.mg_of X G q1, fun_mk q2 q3 q4, (fun_mk q2 q3 q4).binds b⟩
theorem allOk {h : Heap} {bs : List String} {gs : List (Str × Gv)} {va : List V} (X : K.In h) (G : h.Ns mainGlobals mg) (hb : ∀ x ∈ bs, mg (Str.ofString x) = none) (hg : GV K mg va gs) : ∀ {ds : List Dd}, DEs K ds → BAs ds → okAll bs gs ds = true → AllOk P w K mg base (ds.map fiOf) (tab ds)
  | [], _, _, _ => AllOk.nil
  | d :: ds, q, b, k => by
    obtain ⟨k1, k2⟩ := an2 k
    have r := allOk X G hb hg q.2 b.2 k2
    obtain ⟨f, fd, D⟩ := df_of X G q.1 b.1
    refine AllOk.cons r ?_
    obtain ⟨nm, st, ps, N, lv, io, bd⟩ := d
    cases io with
    | none => exact defOk r hb hg D k1
    | some io => exact defIO io r hb hg D k1
theorem tab_p {d : Dd} {ds : List Dd} {t : List FT} {g : Ev → Option Fl} {F : List D → Option (M × D)} (e : tab ds = t) (h : d.io = none) (q : eB t d.b = g) (r : fn d.N.length g = F) : tab (d :: ds) = .p F :: t := by
  subst e q r
  show ftOf (tab ds) d :: tab ds = _
  unfold ftOf
  rw [h]
theorem tab_io {d : Dd} {ds : List Dd} {t : List FT} {g : Ev → Option Fl} {io : List Nat} {F : List D → Option (M × D × List D)} (e : tab ds = t) (h : d.io = some io) (q : eB t d.b = g) (r : fnIO d.N.length io g = F) : tab (d :: ds) = .io io F :: t := by
  subst e q r
  show ftOf (tab ds) d :: tab ds = _
  unfold ftOf
  rw [h]
theorem lawOk {h : Heap} {bs : List String} {gs : List (Str × Gv)} {ds : List Dd} {st : Stmt} {N : List Str} {lv : Nat} {b : B} {t : List FT} {F : List D → Option (M × D)} {x : Str} {fa : Addr} (X : K.In h) (G : h.Ns mainGlobals mg) (hfa : mg "law" = some (.ref fa)) (hb : NBs K bs) (hg : GEs K gs) (q : DEs K (⟨"law", st, [x], N, lv, none, b⟩ :: ds)) (ba : BAs (⟨"law", st, [x], N, lv, none, b⟩ :: ds)) (k : okAll bs gs (⟨"law", st, [x], N, lv, none, b⟩ :: ds) = true)
    (e : tab (⟨"law", st, [x], N, lv, none, b⟩ :: ds) = .p F :: t) (hs : ∀ (kV doc pm : Value) (an : Option Addr) (cdv ct : Value) (s : Shared) (v : Value), BindsTo s (PySem.W.fnOf "law" "law" (defArgs st) (defBody st) (defScope st) .none kV doc pm an cdv ct) ⟨[v], []⟩ [(x, v)]) :
    ∃ fd : FuncData, (∀ (s : Shared) (v : Value), BindsTo s fd ⟨[v], []⟩ [(x, v)]) ∧ ∀ base : Heap, K.In base → base.Ns mainGlobals mg → FnOk P w K mg base CX0 (lv + 1) fa fd [x] (spJ K 1 F) := by
  obtain ⟨k1, k2⟩ := an2 k
  have hb := nbs_of X G hb
  obtain ⟨va, hg⟩ := gv_of X G hg
  obtain ⟨⟨f, oc, od, kV, dc, pm, an, cd, ct, sl, q1, q2, q3, q4⟩, qs⟩ := q
  have ef := hfa.symm.trans (PySem.W.mg_of X G q1)
  cases ef
  refine ⟨_, fun s v => hs kV dc pm an cd ct s v, fun base _ _ => ?_⟩
  have r : AllOk P w K mg base (ds.map fiOf) (tab ds) := allOk X G hb hg qs ba.2 k2
  have ht : fn N.length (eB (tab ds) b) = F := by
    have e : FT.p (fn N.length (eB (tab ds) b)) :: tab ds = .p F :: t := e
    cases e; rfl
  have fk := fun_mk (x := "law") (qual := "law") (st := st) q2 q3 q4
  refine fk.ok (scOf k1) (fun vs H Q E h => h.1) (fun cdv A outer s H vs Q E hr q => ?_)
  obtain ⟨ts, p1, p2⟩ := sB (t := tab ds) (va := va) (K := K) b (an2 k1).2
  rw [← ht] at q
  exact ⟨ts, (p1 _ (ctx r hb hg k1 hr)).go, body_ok p2 q⟩
end
end C
namespace K14
open PySem PySem.Spec L2 My J
noncomputable def top (i : Nat) : PySem.Stmt := PySem.Challenge.pw_lazyhoist_k14_texts_there_and_back.main.body.getD i (.Pass ⟨0, 0, 0, 0⟩)
noncomputable def bs : List String := ["abs", "all", "any", "bool", "enumerate", "int", "isinstance", "len", "list", "range", "str", "tuple"]
noncomputable def gs : List (Str × C.Gv) := [("SIGNS", (.t ["+", "-", "*", "&", "|", "^", "<", "="])), ("ROW_WORDS", (.t ["say", "go", "part", "end"])), ("LETTERS", (.s "abcdefghijklmnopqrstuvwxyz")), ("FIGURES", (.s "0123456789"))]
noncomputable def t0 : List C.FT := []
noncomputable def ds0 : List C.Dd := []
theorem e0 : C.tab ds0 = t0 := rfl
noncomputable def g_is_name : Ev → Option Fl :=
    (jSeq (jIf (bOr (bNot (jB (jCB gIsi (jCons (jV 0) (jCons (jC (.ty "str")) jNil))))) (bOr (jB (jOp jLt (jCB gLen (jCons (jV 0) jNil)) (jC (.int 1)))) (jB (jOp jGt (jCB gLen (jCons (jV 0) jNil)) (jC (.int 8))))))
      (jRet (jC (.bl false)))
      jPass)
    (jSeq (jIf (bOr (jB (jOp (gInF false) (jV 0) (jC (.tup [.str "say", .str "go", .str "part", .str "end"])))) (jB (jOp (gInS true) (jOp gIx (jV 0) (jC (.int 0))) (jC (.str "abcdefghijklmnopqrstuvwxyz")))))
      (jRet (jC (.bl false)))
      jPass)
    (jRet (jCB gAll (jCons (jComp (itS (jV 0)) [] bYes (jOr (jOp (gInS false) (jV 0) (jC (.str "abcdefghijklmnopqrstuvwxyz"))) (jOp (gInS false) (jV 0) (jC (.str "0123456789"))))) jNil)))))
noncomputable def F_is_name : List D → Option (M × D) := fn 1 g_is_name
noncomputable def d1 : C.Dd := ⟨"is_name", top 8, ["thing"], ["thing"], 0, none, (.c (.ie (.or (.nt (.b (.fb .isi (.c (.v 0) (.c (.ty "str") .n))))) (.or (.c .lt (.fb .len (.c (.v 0) .n)) (.ki 1)) (.c .gt (.fb .len (.c (.v 0) .n)) (.ki 8)))) (.o (.l (.rt (.kb false)))) .n) (.c (.ie (.or (.c .inF (.v 0) (.gc 1 (.t ["say", "go", "part", "end"]))) (.c .niS (.ix (.v 0) (.ki 0)) (.gc 2 (.s "abcdefghijklmnopqrstuvwxyz")))) (.o (.l (.rt (.kb false)))) .n) (.o (.l (.rt (.fb .all (.c (.cp (.s (.v 0)) [] .y (.or (.co .inS (.v 0) (.gc 2 (.s "abcdefghijklmnopqrstuvwxyz"))) (.co .inS (.v 0) (.gc 3 (.s "0123456789"))))) .n)))))))⟩
noncomputable def ds1 : List C.Dd := d1 :: ds0
noncomputable def t1 : List C.FT := .p F_is_name :: t0
theorem e1 : C.tab ds1 = t1 := C.tab_p e0 rfl rfl rfl
noncomputable def g_is_number : Ev → Option Fl :=
    (jRet (jAnd (jCB gIsi (jCons (jV 0) (jCons (jC (.ty "int")) jNil))) (jNot (jCB gIsi (jCons (jV 0) (jCons (jC (.ty "bool")) jNil))))))
noncomputable def F_is_number : List D → Option (M × D) := fn 1 g_is_number
noncomputable def d2 : C.Dd := ⟨"is_number", top 9, ["thing"], ["thing"], 0, none, (.o (.l (.rt (.an (.fb .isi (.c (.v 0) (.c (.ty "int") .n))) (.nt (.fb .isi (.c (.v 0) (.c (.ty "bool") .n))))))))⟩
noncomputable def ds2 : List C.Dd := d2 :: ds1
noncomputable def t2 : List C.FT := .p F_is_number :: t1
theorem e2 : C.tab ds2 = t2 := C.tab_p e1 rfl rfl rfl
noncomputable def g_is_worth : Ev → Option Fl :=
    (jRet (jAnd (jCall F_is_number (jCons (jV 0) jNil)) (jChain jLe jLt (jC (.int 0)) (jV 0) (jOp jPow (jC (.int 2)) (jC (.int 64))))))
noncomputable def F_is_worth : List D → Option (M × D) := fn 1 g_is_worth
noncomputable def d3 : C.Dd := ⟨"is_worth", top 10, ["thing"], ["thing"], 1, none, (.o (.l (.rt (.an (.ca 0 (.c (.v 0) .n)) (.ch .le .lt (.ki 0) (.v 0) (.bo .pow (.ki 2) (.ki 64)))))))⟩
noncomputable def ds3 : List C.Dd := d3 :: ds2
noncomputable def t3 : List C.FT := .p F_is_worth :: t2
theorem e3 : C.tab ds3 = t3 := C.tab_p e2 rfl rfl rfl
noncomputable def g_is_operand : Ev → Option Fl :=
    (jRet (jOr (jCall F_is_name (jCons (jV 0) jNil)) (jCall F_is_worth (jCons (jV 0) jNil))))
noncomputable def F_is_operand : List D → Option (M × D) := fn 1 g_is_operand
noncomputable def d4 : C.Dd := ⟨"is_operand", top 11, ["thing"], ["thing"], 2, none, (.o (.l (.rt (.or (.ca 2 (.c (.v 0) .n)) (.ca 0 (.c (.v 0) .n))))))⟩
noncomputable def ds4 : List C.Dd := d4 :: ds3
noncomputable def t4 : List C.FT := .p F_is_operand :: t3
theorem e4 : C.tab ds4 = t4 := C.tab_p e3 rfl rfl rfl
noncomputable def g_is_sign : Ev → Option Fl :=
    (jRet (jAnd (jCB gIsi (jCons (jV 0) (jCons (jC (.ty "str")) jNil))) (jOp (gInF false) (jV 0) (jC (.tup [.str "+", .str "-", .str "*", .str "&", .str "|", .str "^", .str "<", .str "="])))))
noncomputable def F_is_sign : List D → Option (M × D) := fn 1 g_is_sign
noncomputable def d5 : C.Dd := ⟨"is_sign", top 12, ["thing"], ["thing"], 0, none, (.o (.l (.rt (.an (.fb .isi (.c (.v 0) (.c (.ty "str") .n))) (.co .inF (.v 0) (.gc 0 (.t ["+", "-", "*", "&", "|", "^", "<", "="])))))))⟩
noncomputable def ds5 : List C.Dd := d5 :: ds4
noncomputable def t5 : List C.FT := .p F_is_sign :: t4
theorem e5 : C.tab ds5 = t5 := C.tab_p e4 rfl rfl rfl
noncomputable def g_is_target : Ev → Option Fl :=
    (jRet (jAnd (jCall F_is_number (jCons (jV 0) jNil)) (jOp jGe (jV 0) (jC (.int 0)))))
noncomputable def F_is_target : List D → Option (M × D) := fn 1 g_is_target
noncomputable def d6 : C.Dd := ⟨"is_target", top 13, ["thing"], ["thing"], 1, none, (.o (.l (.rt (.an (.ca 3 (.c (.v 0) .n)) (.co .ge (.v 0) (.ki 0))))))⟩
noncomputable def ds6 : List C.Dd := d6 :: ds5
noncomputable def t6 : List C.FT := .p F_is_target :: t5
theorem e6 : C.tab ds6 = t6 := C.tab_p e5 rfl rfl rfl
noncomputable def g_is_reckoning : Ev → Option Fl :=
    (jRet (jAnd (jCall F_is_sign (jCons (jOp gIx (jV 0) (jC (.int 0))) jNil)) (jAnd (jCall F_is_operand (jCons (jOp gIx (jV 0) (jC (.int 1))) jNil)) (jCall F_is_operand (jCons (jOp gIx (jV 0) (jC (.int 2))) jNil)))))
noncomputable def F_is_reckoning : List D → Option (M × D) := fn 1 g_is_reckoning
noncomputable def d7 : C.Dd := ⟨"is_reckoning", top 15, ["three"], ["three"], 3, none, (.o (.l (.rt (.an (.ca 1 (.c (.ix (.v 0) (.ki 0)) .n)) (.an (.ca 2 (.c (.ix (.v 0) (.ki 1)) .n)) (.ca 2 (.c (.ix (.v 0) (.ki 2)) .n)))))))⟩
noncomputable def ds7 : List C.Dd := d7 :: ds6
noncomputable def t7 : List C.FT := .p F_is_reckoning :: t6
theorem e7 : C.tab ds7 = t7 := C.tab_p e6 rfl rfl rfl
noncomputable def g_is_row : Ev → Option Fl :=
    (jSeq (jIf (bOr (bNot (jB (jCB gIsi (jCons (jV 0) (jCons (jC (.ty "tuple")) jNil))))) (bOr (jB (jOp gEq (jCB gLen (jCons (jV 0) jNil)) (jC (.int 0)))) (bNot (jB (jCB gIsi (jCons (jOp gIx (jV 0) (jC (.int 0))) (jCons (jC (.ty "str")) jNil)))))))
      (jRet (jC (.bl false)))
      jPass)
    (jSeq (jSet 1 (jOp gIx (jV 0) (jC (.int 0))))
    (jSeq (jIf (jB (jOp gEq (jV 1) (jC (.str "reckon"))))
      (jRet (jAnd (jOp gEq (jCB gLen (jCons (jV 0) jNil)) (jC (.int 5))) (jAnd (jCall F_is_name (jCons (jOp gIx (jV 0) (jC (.int 1))) jNil)) (jCall F_is_reckoning (jCons (jSl gSl (jV 0) (jPart (jC (.int 2))) jNoP) jNil)))))
      jPass)
    (jSeq (jIf (jB (jOp gEq (jV 1) (jC (.str "copy"))))
      (jRet (jAnd (jOp gEq (jCB gLen (jCons (jV 0) jNil)) (jC (.int 3))) (jAnd (jCall F_is_name (jCons (jOp gIx (jV 0) (jC (.int 1))) jNil)) (jCall F_is_operand (jCons (jOp gIx (jV 0) (jC (.int 2))) jNil)))))
      jPass)
    (jSeq (jIf (jB (jOp gEq (jV 1) (jC (.str "say"))))
      (jRet (jAnd (jOp gEq (jCB gLen (jCons (jV 0) jNil)) (jC (.int 2))) (jCall F_is_operand (jCons (jOp gIx (jV 0) (jC (.int 1))) jNil))))
      jPass)
    (jSeq (jIf (jB (jOp gEq (jV 1) (jC (.str "go"))))
      (jRet (jAnd (jOp gEq (jCB gLen (jCons (jV 0) jNil)) (jC (.int 2))) (jCall F_is_target (jCons (jOp gIx (jV 0) (jC (.int 1))) jNil))))
      jPass)
    (jSeq (jIf (jB (jOp gEq (jV 1) (jC (.str "part"))))
      (jRet (jAnd (jOp gEq (jCB gLen (jCons (jV 0) jNil)) (jC (.int 3))) (jAnd (jCall F_is_operand (jCons (jOp gIx (jV 0) (jC (.int 1))) jNil)) (jCall F_is_target (jCons (jOp gIx (jV 0) (jC (.int 2))) jNil)))))
      jPass)
    (jRet (jAnd (jOp gEq (jV 1) (jC (.str "end"))) (jOp gEq (jCB gLen (jCons (jV 0) jNil)) (jC (.int 1))))))))))))
noncomputable def F_is_row : List D → Option (M × D) := fn 2 g_is_row
noncomputable def d8 : C.Dd := ⟨"is_row", top 14, ["thing"], ["thing", "word"], 4, none, (.c (.ie (.or (.nt (.b (.fb .isi (.c (.v 0) (.c (.ty "tuple") .n))))) (.or (.c .eq (.fb .len (.c (.v 0) .n)) (.ki 0)) (.nt (.b (.fb .isi (.c (.ix (.v 0) (.ki 0)) (.c (.ty "str") .n))))))) (.o (.l (.rt (.kb false)))) .n) (.c (.l (.st 1 (.ix (.v 0) (.ki 0)))) (.c (.ie (.c .eq (.v 1) (.ks "reckon")) (.o (.l (.rt (.an (.co .eq (.fb .len (.c (.v 0) .n)) (.ki 5)) (.an (.ca 6 (.c (.ix (.v 0) (.ki 1)) .n)) (.ca 0 (.c (.sl (.v 0) (.s (.ki 2)) .n) .n))))))) .n) (.c (.ie (.c .eq (.v 1) (.ks "copy")) (.o (.l (.rt (.an (.co .eq (.fb .len (.c (.v 0) .n)) (.ki 3)) (.an (.ca 6 (.c (.ix (.v 0) (.ki 1)) .n)) (.ca 3 (.c (.ix (.v 0) (.ki 2)) .n))))))) .n) (.c (.ie (.c .eq (.v 1) (.ks "say")) (.o (.l (.rt (.an (.co .eq (.fb .len (.c (.v 0) .n)) (.ki 2)) (.ca 3 (.c (.ix (.v 0) (.ki 1)) .n)))))) .n) (.c (.ie (.c .eq (.v 1) (.ks "go")) (.o (.l (.rt (.an (.co .eq (.fb .len (.c (.v 0) .n)) (.ki 2)) (.ca 1 (.c (.ix (.v 0) (.ki 1)) .n)))))) .n) (.c (.ie (.c .eq (.v 1) (.ks "part")) (.o (.l (.rt (.an (.co .eq (.fb .len (.c (.v 0) .n)) (.ki 3)) (.an (.ca 3 (.c (.ix (.v 0) (.ki 1)) .n)) (.ca 1 (.c (.ix (.v 0) (.ki 2)) .n))))))) .n) (.o (.l (.rt (.an (.co .eq (.v 1) (.ks "end")) (.co .eq (.fb .len (.c (.v 0) .n)) (.ki 1)))))))))))))⟩
noncomputable def ds8 : List C.Dd := d8 :: ds7
noncomputable def t8 : List C.FT := .p F_is_row :: t7
theorem e8 : C.tab ds8 = t8 := C.tab_p e7 rfl rfl rfl
noncomputable def B_number_of_1 : Ev → Option Fl :=
    (jSet 1 (jOp gAdd (jOp jMul (jV 1) (jC (.int 10))) (jBM isS gIndex (jC (.str "0123456789")) (jCons (jV 2) jNil))))
noncomputable def g_number_of : Ev → Option Fl :=
    (jSeq (jSet 1 (jC (.int 0)))
    (jSeq (jFrz 0 (jFor (itS (jV 0)) (gN 2)
      B_number_of_1))
    (jRet (jV 1))))
noncomputable def F_number_of : List D → Option (M × D) := fn 3 g_number_of
noncomputable def d9 : C.Dd := ⟨"number_of", top 22, ["word"], ["word", "number", "sign"], 0, none, (.c (.l (.st 1 (.ki 0))) (.c (.fz 0 (.fo (.s (.v 0)) (.n 2) (.o (.l (.st 1 (.bo .add (.bo .mul (.v 1) (.ki 10)) (.ms .index (.gc 3 (.s "0123456789")) (.c (.v 2) .n)))))))) (.o (.l (.rt (.v 1))))))⟩
noncomputable def ds9 : List C.Dd := d9 :: ds8
noncomputable def t9 : List C.FT := .p F_number_of :: t8
theorem e9 : C.tab ds9 = t9 := C.tab_p e8 rfl rfl rfl
noncomputable def g_writes_number : Ev → Option Fl :=
    (jSeq (jIf (jB (jOp gEq (jOp gIx (jV 0) (jC (.int 0))) (jC (.str "0"))))
      (jRet (jOp gEq (jV 0) (jC (.str "0"))))
      jPass)
    (jRet (jCB gAll (jCons (jComp (itS (jV 0)) [] bYes (jOp (gInS false) (jV 0) (jC (.str "0123456789")))) jNil))))
noncomputable def F_writes_number : List D → Option (M × D) := fn 1 g_writes_number
noncomputable def d10 : C.Dd := ⟨"writes_number", top 21, ["word"], ["word"], 0, none, (.c (.ie (.c .eq (.ix (.v 0) (.ki 0)) (.ks "0")) (.o (.l (.rt (.co .eq (.v 0) (.ks "0"))))) .n) (.o (.l (.rt (.fb .all (.c (.cp (.s (.v 0)) [] .y (.co .inS (.v 0) (.gc 3 (.s "0123456789")))) .n))))))⟩
noncomputable def ds10 : List C.Dd := d10 :: ds9
noncomputable def t10 : List C.FT := .p F_writes_number :: t9
theorem e10 : C.tab ds10 = t10 := C.tab_p e9 rfl rfl rfl
noncomputable def g_value_of : Ev → Option Fl :=
    (jSeq (jIf (jB (jCall F_writes_number (jCons (jV 0) jNil)))
      (jRet (jCall F_number_of (jCons (jV 0) jNil)))
      jPass)
    (jRet (jV 0)))
noncomputable def F_value_of : List D → Option (M × D) := fn 1 g_value_of
noncomputable def d11 : C.Dd := ⟨"value_of", top 20, ["word"], ["word"], 1, none, (.c (.ie (.b (.ca 0 (.c (.v 0) .n))) (.o (.l (.rt (.ca 1 (.c (.v 0) .n))))) .n) (.o (.l (.rt (.v 0)))))⟩
noncomputable def ds11 : List C.Dd := d11 :: ds10
noncomputable def t11 : List C.FT := .p F_value_of :: t10
theorem e11 : C.tab ds11 = t11 := C.tab_p e10 rfl rfl rfl
noncomputable def g_row_of : Ev → Option Fl :=
    (jSeq (jSet 1 (jCB gLen (jCons (jV 0) jNil)))
    (jSeq (jIf (bAnd (jB (jOp gEq (jV 1) (jC (.int 5)))) (jB (jOp gEq (jOp gIx (jV 0) (jC (.int 1))) (jC (.str "=")))))
      (jRet (jTup (jCons (jC (.str "reckon")) (jCons (jOp gIx (jV 0) (jC (.int 0))) (jCons (jOp gIx (jV 0) (jC (.int 3))) (jCons (jCall F_value_of (jCons (jOp gIx (jV 0) (jC (.int 2))) jNil)) (jCons (jCall F_value_of (jCons (jOp gIx (jV 0) (jC (.int 4))) jNil)) jNil)))))))
      jPass)
    (jSeq (jIf (bAnd (jB (jOp gEq (jV 1) (jC (.int 3)))) (jB (jOp gEq (jOp gIx (jV 0) (jC (.int 1))) (jC (.str "=")))))
      (jRet (jTup (jCons (jC (.str "copy")) (jCons (jOp gIx (jV 0) (jC (.int 0))) (jCons (jCall F_value_of (jCons (jOp gIx (jV 0) (jC (.int 2))) jNil)) jNil)))))
      jPass)
    (jSeq (jIf (bAnd (jB (jOp gEq (jV 1) (jC (.int 3)))) (jB (jOp gEq (jOp gIx (jV 0) (jC (.int 0))) (jC (.str "part")))))
      (jRet (jTup (jCons (jC (.str "part")) (jCons (jCall F_value_of (jCons (jOp gIx (jV 0) (jC (.int 1))) jNil)) (jCons (jCall F_value_of (jCons (jOp gIx (jV 0) (jC (.int 2))) jNil)) jNil)))))
      jPass)
    (jSeq (jIf (bAnd (jB (jOp gEq (jV 1) (jC (.int 2)))) (bOr (jB (jOp gEq (jOp gIx (jV 0) (jC (.int 0))) (jC (.str "say")))) (jB (jOp gEq (jOp gIx (jV 0) (jC (.int 0))) (jC (.str "go"))))))
      (jRet (jTup (jCons (jOp gIx (jV 0) (jC (.int 0))) (jCons (jCall F_value_of (jCons (jOp gIx (jV 0) (jC (.int 1))) jNil)) jNil))))
      jPass)
    (jSeq (jIf (bAnd (jB (jOp gEq (jV 1) (jC (.int 1)))) (jB (jOp gEq (jOp gIx (jV 0) (jC (.int 0))) (jC (.str "end")))))
      (jRet (jTup (jCons (jC (.str "end")) jNil)))
      jPass)
    (jRet (jC .non))))))))
noncomputable def F_row_of : List D → Option (M × D) := fn 2 g_row_of
noncomputable def d12 : C.Dd := ⟨"row_of", top 19, ["words"], ["words", "size"], 2, none, (.c (.l (.st 1 (.fb .len (.c (.v 0) .n)))) (.c (.ie (.an (.c .eq (.v 1) (.ki 5)) (.c .eq (.ix (.v 0) (.ki 1)) (.ks "="))) (.o (.l (.rt (.tu (.c (.ks "reckon") (.c (.ix (.v 0) (.ki 0)) (.c (.ix (.v 0) (.ki 3)) (.c (.ca 0 (.c (.ix (.v 0) (.ki 2)) .n)) (.c (.ca 0 (.c (.ix (.v 0) (.ki 4)) .n)) .n))))))))) .n) (.c (.ie (.an (.c .eq (.v 1) (.ki 3)) (.c .eq (.ix (.v 0) (.ki 1)) (.ks "="))) (.o (.l (.rt (.tu (.c (.ks "copy") (.c (.ix (.v 0) (.ki 0)) (.c (.ca 0 (.c (.ix (.v 0) (.ki 2)) .n)) .n))))))) .n) (.c (.ie (.an (.c .eq (.v 1) (.ki 3)) (.c .eq (.ix (.v 0) (.ki 0)) (.ks "part"))) (.o (.l (.rt (.tu (.c (.ks "part") (.c (.ca 0 (.c (.ix (.v 0) (.ki 1)) .n)) (.c (.ca 0 (.c (.ix (.v 0) (.ki 2)) .n)) .n))))))) .n) (.c (.ie (.an (.c .eq (.v 1) (.ki 2)) (.or (.c .eq (.ix (.v 0) (.ki 0)) (.ks "say")) (.c .eq (.ix (.v 0) (.ki 0)) (.ks "go")))) (.o (.l (.rt (.tu (.c (.ix (.v 0) (.ki 0)) (.c (.ca 0 (.c (.ix (.v 0) (.ki 1)) .n)) .n)))))) .n) (.c (.ie (.an (.c .eq (.v 1) (.ki 1)) (.c .eq (.ix (.v 0) (.ki 0)) (.ks "end"))) (.o (.l (.rt (.tu (.c (.ks "end") .n))))) .n) (.o (.l (.rt .kn)))))))))⟩
noncomputable def ds12 : List C.Dd := d12 :: ds11
noncomputable def t12 : List C.FT := .p F_row_of :: t11
theorem e12 : C.tab ds12 = t12 := C.tab_p e11 rfl rfl rfl
noncomputable def g_words_of : Ev → Option Fl :=
    (jRet (jComp (itL (jBM isS gSplit (jOp gIx (jBM isS gPartition (jV 0) (jCons (jC (.str "#")) jNil)) (jC (.int 0))) (jCons (jC (.str " ")) jNil))) [] (jB (jOp gNe (jV 0) (jC (.str "")))) (jV 0)))
noncomputable def F_words_of : List D → Option (M × D) := fn 1 g_words_of
noncomputable def d13 : C.Dd := ⟨"words_of", top 18, ["line"], ["line"], 0, none, (.o (.l (.rt (.cp (.l (.ms .split (.ix (.ms .partition (.v 0) (.c (.ks "#") .n)) (.ki 0)) (.c (.ks " ") .n))) [] (.c .ne (.v 0) (.ks "")) (.v 0)))))⟩
noncomputable def ds13 : List C.Dd := d13 :: ds12
noncomputable def t13 : List C.FT := .p F_words_of :: t12
theorem e13 : C.tab ds13 = t13 := C.tab_p e12 rfl rfl rfl
noncomputable def B_read_1 : Ev → Option Fl :=
    (jSeq (jSet 4 (jCall F_words_of (jCons (jV 3) jNil)))
    (jIf (jB (jOp jGt (jCB gLen (jCons (jV 4) jNil)) (jC (.int 0))))
      (jSeq (jSet 5 (jCall F_row_of (jCons (jV 4) jNil)))
    (jSeq (jIf (bNot (jB (jCall F_is_row (jCons (jV 5) jNil))))
      jNever
      jPass)
    (jApp 1 (jV 5))))
      jPass))
noncomputable def g_read : Ev → Option Fl :=
    (jSeq (jSet 1 (jLst jNil))
    (jSeq (jFor (itE (jCons (jBM isS gSplit (jV 0) (jCons (jC (.str "\n")) jNil)) jNil)) (gT 2 (gCons' (gN 2) (gCons' (gN 3) gNil')))
      B_read_1)
    (jSeq (jIf (jB (jOp gEq (jCB gLen (jCons (jV 1) jNil)) (jC (.int 0))))
      jNever
      jPass)
    (jRet (jV 1)))))
noncomputable def F_read : List D → Option (M × D) := fn 6 g_read
noncomputable def d14 : C.Dd := ⟨"read", top 17, ["text"], ["text", "rows", "line", "written", "words", "row"], 5, none, (.c (.l (.st 1 (.li .n))) (.c (.fo (.en (.c (.ms .split (.v 0) (.c (.ks "\n") .n)) .n)) (.t 2 (.c (.n 2) (.c (.n 3) .n))) (.c (.l (.st 4 (.ca 0 (.c (.v 3) .n)))) (.o (.ie (.c .gt (.fb .len (.c (.v 4) .n)) (.ki 0)) (.c (.l (.st 5 (.ca 1 (.c (.v 4) .n)))) (.c (.ie (.nt (.b (.ca 5 (.c (.v 5) .n)))) (.o (.l .nv)) .n) (.o (.l (.ap 1 (.v 5)))))) .n)))) (.c (.ie (.c .eq (.fb .len (.c (.v 1) .n)) (.ki 0)) (.o (.l .nv)) .n) (.o (.l (.rt (.v 1)))))))⟩
noncomputable def ds14 : List C.Dd := d14 :: ds13
noncomputable def t14 : List C.FT := .p F_read :: t13
theorem e14 : C.tab ds14 = t14 := C.tab_p e13 rfl rfl rfl
noncomputable def g_line_of : Ev → Option Fl :=
    (jSeq (jIf (jB (jOp gEq (jOp gIx (jV 0) (jC (.int 0))) (jC (.str "reckon"))))
      (jRet (jBM isS gJoin (jC (.str " ")) (jCons (jLst (jCons (jOp gIx (jV 0) (jC (.int 1))) (jCons (jC (.str "=")) (jCons (jCB gStr (jCons (jOp gIx (jV 0) (jC (.int 3))) jNil)) (jCons (jOp gIx (jV 0) (jC (.int 2))) (jCons (jCB gStr (jCons (jOp gIx (jV 0) (jC (.int 4))) jNil)) jNil)))))) jNil)))
      jPass)
    (jSeq (jIf (jB (jOp gEq (jOp gIx (jV 0) (jC (.int 0))) (jC (.str "copy"))))
      (jRet (jBM isS gJoin (jC (.str " ")) (jCons (jLst (jCons (jOp gIx (jV 0) (jC (.int 1))) (jCons (jC (.str "=")) (jCons (jCB gStr (jCons (jOp gIx (jV 0) (jC (.int 2))) jNil)) jNil)))) jNil)))
      jPass)
    (jRet (jBM isS gJoin (jC (.str " ")) (jCons (jComp (itT (jV 0)) [] bYes (jCB gStr (jCons (jV 0) jNil))) jNil)))))
noncomputable def F_line_of : List D → Option (M × D) := fn 1 g_line_of
noncomputable def d15 : C.Dd := ⟨"line_of", top 24, ["row"], ["row"], 0, none, (.c (.ie (.c .eq (.ix (.v 0) (.ki 0)) (.ks "reckon")) (.o (.l (.rt (.ms .join (.ks " ") (.c (.li (.c (.ix (.v 0) (.ki 1)) (.c (.ks "=") (.c (.fb .str (.c (.ix (.v 0) (.ki 3)) .n)) (.c (.ix (.v 0) (.ki 2)) (.c (.fb .str (.c (.ix (.v 0) (.ki 4)) .n)) .n)))))) .n))))) .n) (.c (.ie (.c .eq (.ix (.v 0) (.ki 0)) (.ks "copy")) (.o (.l (.rt (.ms .join (.ks " ") (.c (.li (.c (.ix (.v 0) (.ki 1)) (.c (.ks "=") (.c (.fb .str (.c (.ix (.v 0) (.ki 2)) .n)) .n)))) .n))))) .n) (.o (.l (.rt (.ms .join (.ks " ") (.c (.cp (.t (.v 0)) [] .y (.fb .str (.c (.v 0) .n))) .n)))))))⟩
noncomputable def ds15 : List C.Dd := d15 :: ds14
noncomputable def t15 : List C.FT := .p F_line_of :: t14
theorem e15 : C.tab ds15 = t15 := C.tab_p e14 rfl rfl rfl
noncomputable def g_show : Ev → Option Fl :=
    (jRet (jBM isS gJoin (jC (.str "\n")) (jCons (jComp (itL (jV 0)) [] bYes (jCall F_line_of (jCons (jV 0) jNil))) jNil)))
noncomputable def F_show : List D → Option (M × D) := fn 1 g_show
noncomputable def d16 : C.Dd := ⟨"show", top 23, ["program"], ["program"], 1, none, (.o (.l (.rt (.ms .join (.ks "\n") (.c (.cp (.l (.v 0)) [] .y (.ca 0 (.c (.v 0) .n))) .n)))))⟩
noncomputable def ds16 : List C.Dd := d16 :: ds15
noncomputable def t16 : List C.FT := .p F_show :: t15
theorem e16 : C.tab ds16 = t16 := C.tab_p e15 rfl rfl rfl
noncomputable def g_law_cell : Ev → Option Fl :=
    (jSeq (jIf (jB (jOp jLt (jV 1) (jCB gLen (jCons (jV 0) jNil))))
      (jRet (jOp gIx (jV 0) (jV 1)))
      jPass)
    (jSeq (jSet 2 (jCB gLen (jCons (jV 0) jNil)))
    (jSeq (jIf (jB (jOp gEq (jV 2) (jC (.int 0))))
      (jRet (jOp jMul (jV 1) (jC (.int 7919))))
      jPass)
    (jRet (jOp gAdd (jOp jMul (jOp jMod (jCB gAbs (jCons (jOp gIx (jV 0) (jOp jMod (jV 1) (jV 2))) jNil)) (jC (.int 1000003))) (jOp gAdd (jV 1) (jC (.int 2)))) (jOp jMul (jV 1) (jC (.int 7919))))))))
noncomputable def F_law_cell : List D → Option (M × D) := fn 3 g_law_cell
noncomputable def d17 : C.Dd := ⟨"_law_cell", top 26, ["_law_script", "_law_k"], ["_law_script", "_law_k", "_law_many"], 0, none, (.c (.ie (.c .lt (.v 1) (.fb .len (.c (.v 0) .n))) (.o (.l (.rt (.ix (.v 0) (.v 1))))) .n) (.c (.l (.st 2 (.fb .len (.c (.v 0) .n)))) (.c (.ie (.c .eq (.v 2) (.ki 0)) (.o (.l (.rt (.bo .mul (.v 1) (.ki 7919))))) .n) (.o (.l (.rt (.bo .add (.bo .mul (.bo .mod (.fb .abs (.c (.ix (.v 0) (.bo .mod (.v 1) (.v 2))) .n)) (.ki 1000003)) (.bo .add (.v 1) (.ki 2))) (.bo .mul (.v 1) (.ki 7919)))))))))⟩
noncomputable def ds17 : List C.Dd := d17 :: ds16
noncomputable def t17 : List C.FT := .p F_law_cell :: t16
theorem e17 : C.tab ds17 = t17 := C.tab_p e16 rfl rfl rfl
noncomputable def B_law_names_1 : Ev → Option Fl :=
    (jSeq (jSetIx 5 (jV 4) (jOp gIx (jV 2) (jOp jMod (jOp gAdd (jOp jDivJ (jV 0) (jC (.int 64))) (jV 7)) (jC (.int 26)))))
    (jSeq (jSet 8 (jBM isS gJoin (jC (.str "")) (jCons (jV 5) jNil)))
    (jSeq (jIf (jB (jOp (gInF false) (jV 8) (jTup (jCons (jC (.str "say")) (jCons (jC (.str "go")) (jCons (jC (.str "part")) (jCons (jC (.str "end")) jNil)))))))
      (jSet 8 (jOp gAdd (jV 8) (jC (.str "0"))))
      jPass)
    (jApp 6 (jV 8)))))
noncomputable def g_law_names : Ev → Option Fl :=
    (jSeq (jSet 2 (jC (.str "abcdefghijklmnopqrstuvwxyz0123456789")))
    (jSeq (jSet 3 (jOp gAdd (jC (.int 1)) (jOp jMod (jV 0) (jC (.int 8)))))
    (jSeq (jSet 4 (jOp jMod (jOp jDivJ (jV 0) (jC (.int 8))) (jV 3)))
    (jSeq (jSet 5 (jComp (itR1 (jCons (jV 3) jNil)) [2, 0] bYes (jOp gIx (jV 1) (jOp jMod (jOp jDivJ (jV 2) (jOp gAdd (jC (.int 64)) (jOp jMul (jC (.int 5)) (jV 0)))) (jOp gIx (jLst (jCons (jC (.int 26)) (jCons (jC (.int 36)) jNil))) (jCB gInt (jCons (jOp jGt (jV 0) (jC (.int 0))) jNil)))))))
    (jSeq (jSet 6 (jLst jNil))
    (jSeq (jFor (itR1 (jCons (jV 1) jNil)) (gN 7)
      B_law_names_1)
    (jRet (jV 6))))))))
noncomputable def F_law_names : List D → Option (M × D) := fn 9 g_law_names
noncomputable def d18 : C.Dd := ⟨"_law_names", top 27, ["_law_cell_here", "_law_many"], ["_law_cell_here", "_law_many", "_law_signs", "_law_size", "_law_spot", "_law_some", "_law_found", "_law_k", "_law_name"], 0, none, (.c (.l (.st 2 (.ks "abcdefghijklmnopqrstuvwxyz0123456789"))) (.c (.l (.st 3 (.bo .add (.ki 1) (.bo .mod (.v 0) (.ki 8))))) (.c (.l (.st 4 (.bo .mod (.bo .div (.v 0) (.ki 8)) (.v 3)))) (.c (.l (.sc 5 (.r1 (.c (.v 3) .n)) [2, 0] .y (.ix (.v 1) (.bo .mod (.bo .div (.v 2) (.bo .add (.ki 64) (.bo .mul (.ki 5) (.v 0)))) (.ix (.li (.c (.ki 26) (.c (.ki 36) .n))) (.fb .int (.c (.co .gt (.v 0) (.ki 0)) .n))))))) (.c (.l (.st 6 (.li .n))) (.c (.fo (.r1 (.c (.v 1) .n)) (.n 7) (.c (.l (.si 5 (.v 4) (.ix (.v 2) (.bo .mod (.bo .add (.bo .div (.v 0) (.ki 64)) (.v 7)) (.ki 26))))) (.c (.l (.st 8 (.ms .join (.ks "") (.c (.v 5) .n)))) (.c (.ie (.c .inF (.v 8) (.tu (.c (.ks "say") (.c (.ks "go") (.c (.ks "part") (.c (.ks "end") .n)))))) (.o (.l (.st 8 (.bo .add (.v 8) (.ks "0"))))) .n) (.o (.l (.ap 6 (.v 8)))))))) (.o (.l (.rt (.v 6))))))))))⟩
noncomputable def ds18 : List C.Dd := d18 :: ds17
noncomputable def t18 : List C.FT := .p F_law_names :: t17
theorem e18 : C.tab ds18 = t18 := C.tab_p e17 rfl rfl rfl
noncomputable def B_law_digits_1 : Ev → Option Fl :=
    (jSeq (jApp 3 (jOp jMod (jV 2) (jV 4)))
    (jSet 2 (jOp jDivJ (jV 2) (jV 4))))
noncomputable def g_law_digits : Ev → Option Fl :=
    (jSeq (jSet 2 (jOp jMod (jOp jMul (jV 0) (jC (.int 48271))) (jC (.int 2147483647))))
    (jSeq (jSet 3 (jLst jNil))
    (jSeq (jFrz 1 (jFor (itL (jV 1)) (gN 4)
      B_law_digits_1))
    (jRet (jV 3)))))
noncomputable def F_law_digits : List D → Option (M × D) := fn 5 g_law_digits
noncomputable def d19 : C.Dd := ⟨"_law_digits", top 28, ["_law_cell_here", "_law_sizes"], ["_law_cell_here", "_law_sizes", "_law_number", "_law_found", "_law_size"], 0, none, (.c (.l (.st 2 (.bo .mod (.bo .mul (.v 0) (.ki 48271)) (.ki 2147483647)))) (.c (.l (.st 3 (.li .n))) (.c (.fz 1 (.fo (.l (.v 1)) (.n 4) (.c (.l (.ap 3 (.bo .mod (.v 2) (.v 4)))) (.o (.l (.st 2 (.bo .div (.v 2) (.v 4)))))))) (.o (.l (.rt (.v 3)))))))⟩
noncomputable def ds19 : List C.Dd := d19 :: ds18
noncomputable def t19 : List C.FT := .p F_law_digits :: t18
theorem e19 : C.tab ds19 = t19 := C.tab_p e18 rfl rfl rfl
noncomputable def g_law_operand : Ev → Option Fl :=
    (jSeq (jIf (jB (jOp jLt (jV 0) (jCB gLen (jCons (jV 2) jNil))))
      (jRet (jOp gIx (jV 2) (jV 0)))
      jPass)
    (jSeq (jIf (jB (jOp gEq (jV 0) (jCB gLen (jCons (jV 2) jNil))))
      (jRet (jOp jMod (jV 1) (jC (.int 3))))
      jPass)
    (jSeq (jIf (jB (jOp gEq (jOp jMod (jV 1) (jC (.int 3))) (jC (.int 0))))
      (jRet (jOp jSub (jC (.int 18446744073709551615)) (jOp jMod (jOp jDivJ (jV 1) (jC (.int 3))) (jC (.int 9)))))
      jPass)
    (jRet (jOp jMod (jOp jMul (jV 1) (jC (.int 48271))) (jC (.int 18446744073709551616)))))))
noncomputable def F_law_operand : List D → Option (M × D) := fn 3 g_law_operand
noncomputable def d20 : C.Dd := ⟨"_law_operand", top 29, ["_law_digit", "_law_cell_here", "_law_names_here"], ["_law_digit", "_law_cell_here", "_law_names_here"], 0, none, (.c (.ie (.c .lt (.v 0) (.fb .len (.c (.v 2) .n))) (.o (.l (.rt (.ix (.v 2) (.v 0))))) .n) (.c (.ie (.c .eq (.v 0) (.fb .len (.c (.v 2) .n))) (.o (.l (.rt (.bo .mod (.v 1) (.ki 3))))) .n) (.c (.ie (.c .eq (.bo .mod (.v 1) (.ki 3)) (.ki 0)) (.o (.l (.rt (.bo .sub (.ki 18446744073709551615) (.bo .mod (.bo .div (.v 1) (.ki 3)) (.ki 9)))))) .n) (.o (.l (.rt (.bo .mod (.bo .mul (.v 1) (.ki 48271)) (.ki 18446744073709551616))))))))⟩
noncomputable def ds20 : List C.Dd := d20 :: ds19
noncomputable def t20 : List C.FT := .p F_law_operand :: t19
theorem e20 : C.tab ds20 = t20 := C.tab_p e19 rfl rfl rfl
noncomputable def g_law_row : Ev → Option Fl :=
    (jSeq (jSet 2 (jOp gAdd (jCB gLen (jCons (jV 1) jNil)) (jC (.int 2))))
    (jSeq (jAsg (gL 5 (gCons' (gN 3) (gCons' (gN 4) (gCons' (gN 5) (gCons' (gN 6) (gCons' (gN 7) gNil')))))) (jCall F_law_digits (jCons (jV 0) (jCons (jLst (jCons (jC (.int 12)) (jCons (jCB gLen (jCons (jV 1) jNil)) (jCons (jC (.int 8)) (jCons (jV 2) (jCons (jV 2) jNil)))))) jNil))))
    (jSeq (jSet 6 (jCall F_law_operand (jCons (jV 6) (jCons (jV 0) (jCons (jV 1) jNil)))))
    (jSeq (jIf (jB (jOp jLt (jV 3) (jC (.int 7))))
      (jRet (jTup (jCons (jC (.str "reckon")) (jCons (jOp gIx (jV 1) (jV 4)) (jCons (jOp gIx (jC (.str "+-*&|^<=")) (jV 5)) (jCons (jV 6) (jCons (jCall F_law_operand (jCons (jV 7) (jCons (jOp jDivJ (jV 0) (jC (.int 7))) (jCons (jV 1) jNil)))) jNil)))))))
      jPass)
    (jSeq (jIf (jB (jOp jLt (jV 3) (jC (.int 9))))
      (jRet (jTup (jCons (jC (.str "copy")) (jCons (jOp gIx (jV 1) (jV 4)) (jCons (jV 6) jNil)))))
      jPass)
    (jSeq (jIf (jB (jOp gEq (jV 3) (jC (.int 9))))
      (jRet (jTup (jCons (jC (.str "say")) (jCons (jV 6) jNil))))
      jPass)
    (jRet (jTup (jCons (jC (.str "part")) (jCons (jV 6) (jCons (jOp jMod (jOp jDivJ (jV 0) (jC (.int 5))) (jC (.int 1000))) jNil)))))))))))
noncomputable def F_law_row : List D → Option (M × D) := fn 8 g_law_row
noncomputable def d21 : C.Dd := ⟨"_law_row", top 30, ["_law_cell_here", "_law_names_here"], ["_law_cell_here", "_law_names_here", "_law_wide", "_law_kind", "_law_x", "_law_s", "_law_one", "_law_other"], 1, none, (.c (.l (.st 2 (.bo .add (.fb .len (.c (.v 1) .n)) (.ki 2)))) (.c (.l (.as (.l 5 (.c (.n 3) (.c (.n 4) (.c (.n 5) (.c (.n 6) (.c (.n 7) .n)))))) (.ca 1 (.c (.v 0) (.c (.li (.c (.ki 12) (.c (.fb .len (.c (.v 1) .n)) (.c (.ki 8) (.c (.v 2) (.c (.v 2) .n)))))) .n))))) (.c (.l (.st 6 (.ca 0 (.c (.v 6) (.c (.v 0) (.c (.v 1) .n)))))) (.c (.ie (.c .lt (.v 3) (.ki 7)) (.o (.l (.rt (.tu (.c (.ks "reckon") (.c (.ix (.v 1) (.v 4)) (.c (.ix (.ks "+-*&|^<=") (.v 5)) (.c (.v 6) (.c (.ca 0 (.c (.v 7) (.c (.bo .div (.v 0) (.ki 7)) (.c (.v 1) .n)))) .n))))))))) .n) (.c (.ie (.c .lt (.v 3) (.ki 9)) (.o (.l (.rt (.tu (.c (.ks "copy") (.c (.ix (.v 1) (.v 4)) (.c (.v 6) .n))))))) .n) (.c (.ie (.c .eq (.v 3) (.ki 9)) (.o (.l (.rt (.tu (.c (.ks "say") (.c (.v 6) .n)))))) .n) (.o (.l (.rt (.tu (.c (.ks "part") (.c (.v 6) (.c (.bo .mod (.bo .div (.v 0) (.ki 5)) (.ki 1000)) .n)))))))))))))⟩
noncomputable def ds21 : List C.Dd := d21 :: ds20
noncomputable def t21 : List C.FT := .p F_law_row :: t20
theorem e21 : C.tab ds21 = t21 := C.tab_p e20 rfl rfl rfl
noncomputable def g_law_shut : Ev → Option Fl :=
    (jSeq (jIf (jB (jOp gEq (jOp jMod (jOp jDivJ (jV 2) (jC (.int 3))) (jC (.int 3))) (jC (.int 0))))
      (jApp 0 (jTup (jCons (jC (.str "end")) jNil)))
      (jIf (jB (jOp gEq (jOp jMod (jOp jDivJ (jV 2) (jC (.int 3))) (jC (.int 3))) (jC (.int 1))))
      (jApp 0 (jTup (jCons (jC (.str "go")) (jCons (jOp gIx (jV 3) (jOp jMod (jOp jDivJ (jV 2) (jC (.int 9))) (jCB gLen (jCons (jV 3) jNil)))) jNil))))
      (jApp 0 (jTup (jCons (jC (.str "go")) (jCons (jOp jSub (jUn gNeg (jC (.int 1))) (jOp jMod (jOp jDivJ (jV 2) (jC (.int 9))) (jC (.int 1000)))) jNil))))))
    (jSetIx 0 (jV 1) (jTup (jCons (jC (.str "part")) (jCons (jOp gIx (jOp gIx (jV 0) (jV 1)) (jC (.int 1))) (jCons (jCB gLen (jCons (jV 0) jNil)) jNil))))))
noncomputable def F_law_shut : List D → Option (M × D × List D) := fnIO 4 [0, 3] g_law_shut
noncomputable def d22 : C.Dd := ⟨"_law_shut", top 31, ["_law_rows", "_law_begin", "_law_cell_here", "_law_outer"], ["_law_rows", "_law_begin", "_law_cell_here", "_law_outer"], 0, some [0, 3], (.c (.ie (.c .eq (.bo .mod (.bo .div (.v 2) (.ki 3)) (.ki 3)) (.ki 0)) (.o (.l (.ap 0 (.tu (.c (.ks "end") .n))))) (.o (.ie (.c .eq (.bo .mod (.bo .div (.v 2) (.ki 3)) (.ki 3)) (.ki 1)) (.o (.l (.ap 0 (.tu (.c (.ks "go") (.c (.ix (.v 3) (.bo .mod (.bo .div (.v 2) (.ki 9)) (.fb .len (.c (.v 3) .n)))) .n)))))) (.o (.l (.ap 0 (.tu (.c (.ks "go") (.c (.bo .sub (.uo .neg (.ki 1)) (.bo .mod (.bo .div (.v 2) (.ki 9)) (.ki 1000))) .n))))))))) (.o (.l (.si 0 (.v 1) (.tu (.c (.ks "part") (.c (.ix (.ix (.v 0) (.v 1)) (.ki 1)) (.c (.fb .len (.c (.v 0) .n)) .n))))))))⟩
noncomputable def ds22 : List C.Dd := d22 :: ds21
noncomputable def t22 : List C.FT := .io [0, 3] F_law_shut :: t21
theorem e22 : C.tab ds22 = t22 := C.tab_io e21 rfl rfl rfl
noncomputable def B_law_turned_to_1 : Ev → Option Fl :=
    (jSeq (jIf (bAnd (jB (jOp gEq (jOp gIx (jV 4) (jC (.int 0))) (jC (.str "go")))) (jB (jOp jLt (jOp gIx (jV 4) (jC (.int 1))) (jC (.int 0)))))
      (jSet 4 (jTup (jCons (jC (.str "go")) (jCons (jOp gAdd (jOp gAdd (jV 3) (jC (.int 1))) (jOp jMod (jOp jSub (jUn gNeg (jC (.int 1))) (jOp gIx (jV 4) (jC (.int 1)))) (jOp jSub (jOp jSub (jV 1) (jV 3)) (jC (.int 1))))) jNil))))
      (jIf (jB (jOp gEq (jOp gIx (jV 4) (jC (.int 0))) (jC (.str "part"))))
      (jSeq (jSet 5 (jOp jMod (jOp gIx (jV 4) (jC (.int 2))) (jV 1)))
    (jSet 4 (jTup (jCons (jC (.str "part")) (jCons (jOp gIx (jV 4) (jC (.int 1))) (jCons (jOp gIx (jLst (jCons (jV 5) (jCons (jV 3) jNil))) (jCB gInt (jCons (jOp gEq (jV 5) (jOp gAdd (jV 3) (jC (.int 1)))) jNil))) jNil))))))
      jPass))
    (jApp 2 (jV 4)))
noncomputable def g_law_turned_to : Ev → Option Fl :=
    (jSeq (jSet 1 (jCB gLen (jCons (jV 0) jNil)))
    (jSeq (jSet 2 (jLst jNil))
    (jSeq (jFrz 0 (jFor (itE (jCons (jV 0) jNil)) (gT 2 (gCons' (gN 3) (gCons' (gN 4) gNil')))
      B_law_turned_to_1))
    (jRet (jV 2)))))
noncomputable def F_law_turned_to : List D → Option (M × D) := fn 6 g_law_turned_to
noncomputable def d23 : C.Dd := ⟨"_law_turned_to", top 32, ["_law_rows"], ["_law_rows", "_law_many", "_law_found", "_law_n", "_law_row_here", "_law_to"], 0, none, (.c (.l (.st 1 (.fb .len (.c (.v 0) .n)))) (.c (.l (.st 2 (.li .n))) (.c (.fz 0 (.fo (.en (.c (.v 0) .n)) (.t 2 (.c (.n 3) (.c (.n 4) .n))) (.c (.ie (.an (.c .eq (.ix (.v 4) (.ki 0)) (.ks "go")) (.c .lt (.ix (.v 4) (.ki 1)) (.ki 0))) (.o (.l (.st 4 (.tu (.c (.ks "go") (.c (.bo .add (.bo .add (.v 3) (.ki 1)) (.bo .mod (.bo .sub (.uo .neg (.ki 1)) (.ix (.v 4) (.ki 1))) (.bo .sub (.bo .sub (.v 1) (.v 3)) (.ki 1)))) .n)))))) (.o (.ie (.c .eq (.ix (.v 4) (.ki 0)) (.ks "part")) (.c (.l (.st 5 (.bo .mod (.ix (.v 4) (.ki 2)) (.v 1)))) (.o (.l (.st 4 (.tu (.c (.ks "part") (.c (.ix (.v 4) (.ki 1)) (.c (.ix (.li (.c (.v 5) (.c (.v 3) .n))) (.fb .int (.c (.co .eq (.v 5) (.bo .add (.v 3) (.ki 1))) .n))) .n)))))))) .n))) (.o (.l (.ap 2 (.v 4))))))) (.o (.l (.rt (.v 2)))))))⟩
noncomputable def ds23 : List C.Dd := d23 :: ds22
noncomputable def t23 : List C.FT := .p F_law_turned_to :: t22
theorem e23 : C.tab ds23 = t23 := C.tab_p e22 rfl rfl rfl
noncomputable def B_law_tested_1 : Ev → Option Fl :=
    (jSeq (jIf (jB (jOp (gInF false) (jOp gIx (jV 4) (jC (.int 0))) (jTup (jCons (jC (.str "go")) (jCons (jC (.str "part")) jNil)))))
      (jSet 4 (jOp gAdd (jSl gSl (jV 4) jNoP (jPart (jUn gNeg (jC (.int 1))))) (jTup (jCons (jOp gAdd (jOp gIx (jV 4) (jUn gNeg (jC (.int 1)))) (jC (.int 1))) jNil))))
      jPass)
    (jApp 3 (jV 4)))
noncomputable def g_law_tested : Ev → Option Fl :=
    (jSeq (jSet 2 (jCB gLen (jCons (jV 0) jNil)))
    (jSeq (jSet 3 (jLst (jCons (jTup (jCons (jC (.str "go")) (jCons (jV 2) jNil))) jNil)))
    (jSeq (jFor (itL (jSl gSl (jV 0) jNoP (jPart (jUn gNeg (jC (.int 1)))))) (gN 4)
      B_law_tested_1)
    (jRet (jOp gAdd (jV 3) (jLst (jCons (jTup (jCons (jC (.str "part")) (jCons (jV 1) (jCons (jC (.int 1)) jNil)))) (jCons (jTup (jCons (jC (.str "end")) jNil)) jNil))))))))
noncomputable def F_law_tested : List D → Option (M × D) := fn 5 g_law_tested
noncomputable def d24 : C.Dd := ⟨"_law_tested", top 33, ["_law_rows", "_law_name"], ["_law_rows", "_law_name", "_law_many", "_law_found", "_law_row_here"], 0, none, (.c (.l (.st 2 (.fb .len (.c (.v 0) .n)))) (.c (.l (.st 3 (.li (.c (.tu (.c (.ks "go") (.c (.v 2) .n))) .n)))) (.c (.fo (.l (.sl (.v 0) .n (.s (.uo .neg (.ki 1))))) (.n 4) (.c (.ie (.c .inF (.ix (.v 4) (.ki 0)) (.tu (.c (.ks "go") (.c (.ks "part") .n)))) (.o (.l (.st 4 (.bo .add (.sl (.v 4) .n (.s (.uo .neg (.ki 1)))) (.tu (.c (.bo .add (.ix (.v 4) (.uo .neg (.ki 1))) (.ki 1)) .n)))))) .n) (.o (.l (.ap 3 (.v 4)))))) (.o (.l (.rt (.bo .add (.v 3) (.li (.c (.tu (.c (.ks "part") (.c (.v 1) (.c (.ki 1) .n)))) (.c (.tu (.c (.ks "end") .n)) .n))))))))))⟩
noncomputable def ds24 : List C.Dd := d24 :: ds23
noncomputable def t24 : List C.FT := .p F_law_tested :: t23
theorem e24 : C.tab ds24 = t24 := C.tab_p e23 rfl rfl rfl
noncomputable def B_law_program_1 : Ev → Option Fl :=
    (jIf (bAnd (jB (jOp gEq (jOp jMod (jV 6) (jC (.int 11))) (jC (.int 3)))) (jB (jOp gIsN (jV 5) (jC .non))))
      (jSeq (jSet 5 (jCB gLen (jCons (jV 3) jNil)))
    (jSeq (jApp 4 (jV 5))
    (jApp 3 (jTup (jCons (jC (.str "part")) (jCons (jCall F_law_operand (jCons (jOp jMod (jOp jDivJ (jV 6) (jC (.int 11))) (jOp gAdd (jCB gLen (jCons (jV 1) jNil)) (jC (.int 1)))) (jCons (jV 6) (jCons (jV 1) jNil)))) (jCons (jC (.int 0)) jNil)))))))
      (jIf (bAnd (jB (jOp jLt (jOp jMod (jV 6) (jC (.int 11))) (jC (.int 3)))) (jB (jOp gNotN (jV 5) (jC .non))))
      (jSeq (jDropIO [0, 3] [3, 4] [(0, 3), (1, 5), (3, 4)] F_law_shut (jCons (jV 3) (jCons (jV 5) (jCons (jOp jDivJ (jV 6) (jC (.int 11))) (jCons (jV 4) jNil)))))
    (jSet 5 (jC .non)))
      (jSeq (jIf (jB (jOp gIsN (jV 5) (jC .non)))
      (jApp 4 (jCB gLen (jCons (jV 3) jNil)))
      jPass)
    (jApp 3 (jCall F_law_row (jCons (jOp jDivJ (jV 6) (jC (.int 11))) (jCons (jV 1) jNil)))))))
noncomputable def g_law_program : Ev → Option Fl :=
    (jSeq (jSet 3 (jLst jNil))
    (jSeq (jSet 4 (jLst jNil))
    (jSeq (jSet 5 (jC .non))
    (jSeq (jFor (itL (jOp gAdd (jV 0) (jComp (itR1 (jCons (jOp jMul (jV 2) (jCB gInt (jCons (jOp gNeD (jV 0) (jLst jNil)) jNil))) jNil)) [0] bYes (jOp gAdd (jOp gIx (jV 1) (jOp jMod (jV 0) (jCB gLen (jCons (jV 1) jNil)))) (jOp jMul (jC (.int 101)) (jV 0)))))) (gN 6)
      B_law_program_1)
    (jSeq (jIf (jB (jOp gNotN (jV 5) (jC .non)))
      (jDropIO [0, 3] [3, 4] [(0, 3), (1, 5), (3, 4)] F_law_shut (jCons (jV 3) (jCons (jV 5) (jCons (jC (.int 0)) (jCons (jV 4) jNil)))))
      jPass)
    (jSeq (jSet 3 (jCall F_law_turned_to (jCons (jOp gAdd (jV 3) (jLst (jCons (jTup (jCons (jC (.str "end")) jNil)) jNil))) jNil)))
    (jSeq (jIf (bAnd (jB (jOp gNeD (jV 0) (jLst jNil))) (bAnd (jB (jOp gEq (jOp jMod (jOp jDivJ (jOp gIx (jV 0) (jC (.int 0))) (jC (.int 7))) (jC (.int 6))) (jC (.int 1)))) (jB (jOp jLt (jCB gLen (jCons (jV 3) jNil)) (jC (.int 59))))))
      (jSet 3 (jCall F_law_tested (jCons (jV 3) (jCons (jOp gIx (jV 1) (jC (.int 0))) jNil))))
      jPass)
    (jRet (jV 3)))))))))
noncomputable def F_law_program : List D → Option (M × D) := fn 7 g_law_program
noncomputable def d25 : C.Dd := ⟨"_law_program", top 34, ["_law_cells", "_law_names_here", "_law_more"], ["_law_cells", "_law_names_here", "_law_more", "_law_rows", "_law_outer", "_law_begin", "_law_cell_here"], 2, none, (.c (.l (.st 3 (.li .n))) (.c (.l (.st 4 (.li .n))) (.c (.l (.st 5 .kn)) (.c (.fo (.l (.bo .add (.v 0) (.cp (.r1 (.c (.bo .mul (.v 2) (.fb .int (.c (.co .neD (.v 0) (.li .n)) .n))) .n)) [0] .y (.bo .add (.ix (.v 1) (.bo .mod (.v 0) (.fb .len (.c (.v 1) .n)))) (.bo .mul (.ki 101) (.v 0)))))) (.n 6) (.o (.ie (.an (.c .eq (.bo .mod (.v 6) (.ki 11)) (.ki 3)) (.c .isN (.v 5) .kn)) (.c (.l (.st 5 (.fb .len (.c (.v 3) .n)))) (.c (.l (.ap 4 (.v 5))) (.o (.l (.ap 3 (.tu (.c (.ks "part") (.c (.ca 4 (.c (.bo .mod (.bo .div (.v 6) (.ki 11)) (.bo .add (.fb .len (.c (.v 1) .n)) (.ki 1))) (.c (.v 6) (.c (.v 1) .n)))) (.c (.ki 0) .n))))))))) (.o (.ie (.an (.c .lt (.bo .mod (.v 6) (.ki 11)) (.ki 3)) (.c .ntN (.v 5) .kn)) (.c (.l (.iD 2 [3, 4] (.c (.v 3) (.c (.v 5) (.c (.bo .div (.v 6) (.ki 11)) (.c (.v 4) .n)))))) (.o (.l (.st 5 .kn)))) (.c (.ie (.c .isN (.v 5) .kn) (.o (.l (.ap 4 (.fb .len (.c (.v 3) .n))))) .n) (.o (.l (.ap 3 (.ca 3 (.c (.bo .div (.v 6) (.ki 11)) (.c (.v 1) .n)))))))))))) (.c (.ie (.c .ntN (.v 5) .kn) (.o (.l (.iD 2 [3, 4] (.c (.v 3) (.c (.v 5) (.c (.ki 0) (.c (.v 4) .n))))))) .n) (.c (.l (.st 3 (.ca 1 (.c (.bo .add (.v 3) (.li (.c (.tu (.c (.ks "end") .n)) .n))) .n)))) (.c (.ie (.an (.c .neD (.v 0) (.li .n)) (.an (.c .eq (.bo .mod (.bo .div (.ix (.v 0) (.ki 0)) (.ki 7)) (.ki 6)) (.ki 1)) (.c .lt (.fb .len (.c (.v 3) .n)) (.ki 59)))) (.o (.l (.st 3 (.ca 0 (.c (.v 3) (.c (.ix (.v 1) (.ki 0)) .n)))))) .n) (.o (.l (.rt (.v 3)))))))))))⟩
noncomputable def ds25 : List C.Dd := d25 :: ds24
noncomputable def t25 : List C.FT := .p F_law_program :: t24
theorem e25 : C.tab ds25 = t25 := C.tab_p e24 rfl rfl rfl
noncomputable def g_law_words : Ev → Option Fl :=
    (jSeq (jIf (jB (jOp gEq (jOp gIx (jV 0) (jC (.int 0))) (jC (.str "reckon"))))
      (jRet (jLst (jCons (jOp gIx (jV 0) (jC (.int 1))) (jCons (jC (.str "=")) (jCons (jCB gStr (jCons (jOp gIx (jV 0) (jC (.int 3))) jNil)) (jCons (jOp gIx (jV 0) (jC (.int 2))) (jCons (jCB gStr (jCons (jOp gIx (jV 0) (jC (.int 4))) jNil)) jNil)))))))
      jPass)
    (jSeq (jIf (jB (jOp gEq (jOp gIx (jV 0) (jC (.int 0))) (jC (.str "copy"))))
      (jRet (jLst (jCons (jOp gIx (jV 0) (jC (.int 1))) (jCons (jC (.str "=")) (jCons (jCB gStr (jCons (jOp gIx (jV 0) (jC (.int 2))) jNil)) jNil)))))
      jPass)
    (jRet (jComp (itT (jV 0)) [] bYes (jCB gStr (jCons (jV 0) jNil))))))
noncomputable def F_law_words : List D → Option (M × D) := fn 1 g_law_words
noncomputable def d26 : C.Dd := ⟨"_law_words", top 35, ["_law_row_here"], ["_law_row_here"], 0, none, (.c (.ie (.c .eq (.ix (.v 0) (.ki 0)) (.ks "reckon")) (.o (.l (.rt (.li (.c (.ix (.v 0) (.ki 1)) (.c (.ks "=") (.c (.fb .str (.c (.ix (.v 0) (.ki 3)) .n)) (.c (.ix (.v 0) (.ki 2)) (.c (.fb .str (.c (.ix (.v 0) (.ki 4)) .n)) .n))))))))) .n) (.c (.ie (.c .eq (.ix (.v 0) (.ki 0)) (.ks "copy")) (.o (.l (.rt (.li (.c (.ix (.v 0) (.ki 1)) (.c (.ks "=") (.c (.fb .str (.c (.ix (.v 0) (.ki 2)) .n)) .n))))))) .n) (.o (.l (.rt (.cp (.t (.v 0)) [] .y (.fb .str (.c (.v 0) .n))))))))⟩
noncomputable def ds26 : List C.Dd := d26 :: ds25
noncomputable def t26 : List C.FT := .p F_law_words :: t25
theorem e26 : C.tab ds26 = t26 := C.tab_p e25 rfl rfl rfl
noncomputable def B_law_loosened_1 : Ev → Option Fl :=
    (jSeq (jSet 5 (jOp jMod (jOp jDivJ (jV 1) (jOp gAdd (jC (.int 3)) (jOp jMul (jC (.int 2)) (jV 3)))) (jC (.int 3))))
    (jSeq (jIf (jB (jOp jLt (jOp gAdd (jV 3) (jC (.int 1))) (jCB gLen (jCons (jV 0) jNil))))
      (jSet 5 (jOp gAdd (jV 5) (jC (.int 1))))
      jPass)
    (jSet 2 (jOp gAdd (jOp gAdd (jV 2) (jV 4)) (jOp gRepS (jC (.str " ")) (jV 5))))))
noncomputable def g_law_loosened : Ev → Option Fl :=
    (jSeq (jSet 2 (jOp gRepS (jC (.str " ")) (jOp jMod (jV 1) (jC (.int 3)))))
    (jSeq (jFrz 0 (jFor (itE (jCons (jV 0) jNil)) (gT 2 (gCons' (gN 3) (gCons' (gN 4) gNil')))
      B_law_loosened_1))
    (jSeq (jIf (jB (jOp gEq (jOp jMod (jOp jDivJ (jV 1) (jC (.int 7))) (jC (.int 3))) (jC (.int 0))))
      (jSet 2 (jOp gAdd (jV 2) (jOp gIx (jLst (jCons (jC (.str "#")) (jCons (jC (.str " # go 0")) (jCons (jC (.str "# x = y + 1 #")) (jCons (jC (.str "#end")) jNil))))) (jOp jMod (jOp jDivJ (jV 1) (jC (.int 21))) (jC (.int 4))))))
      jPass)
    (jSeq (jIf (jB (jOp gEq (jOp jMod (jOp jDivJ (jV 1) (jC (.int 5))) (jC (.int 4))) (jC (.int 0))))
      (jSeq (jSet 6 (jOp gIx (jLst (jCons (jC (.str "")) (jCons (jC (.str "   ")) (jCons (jC (.str "# part")) (jCons (jC (.str "  #")) (jCons (jC (.str "\n")) jNil)))))) (jOp jMod (jOp jDivJ (jV 1) (jC (.int 20))) (jC (.int 5)))))
    (jSet 2 (jOp gAdd (jOp gAdd (jV 6) (jC (.str "\n"))) (jV 2))))
      jPass)
    (jRet (jV 2))))))
noncomputable def F_law_loosened : List D → Option (M × D) := fn 7 g_law_loosened
noncomputable def d27 : C.Dd := ⟨"_law_loosened", top 36, ["_law_words_here", "_law_cell_here"], ["_law_words_here", "_law_cell_here", "_law_line", "_law_j", "_law_word", "_law_many", "_law_ahead"], 0, none, (.c (.l (.st 2 (.bo .repS (.ks " ") (.bo .mod (.v 1) (.ki 3))))) (.c (.fz 0 (.fo (.en (.c (.v 0) .n)) (.t 2 (.c (.n 3) (.c (.n 4) .n))) (.c (.l (.st 5 (.bo .mod (.bo .div (.v 1) (.bo .add (.ki 3) (.bo .mul (.ki 2) (.v 3)))) (.ki 3)))) (.c (.ie (.c .lt (.bo .add (.v 3) (.ki 1)) (.fb .len (.c (.v 0) .n))) (.o (.l (.st 5 (.bo .add (.v 5) (.ki 1))))) .n) (.o (.l (.st 2 (.bo .add (.bo .add (.v 2) (.v 4)) (.bo .repS (.ks " ") (.v 5)))))))))) (.c (.ie (.c .eq (.bo .mod (.bo .div (.v 1) (.ki 7)) (.ki 3)) (.ki 0)) (.o (.l (.st 2 (.bo .add (.v 2) (.ix (.li (.c (.ks "#") (.c (.ks " # go 0") (.c (.ks "# x = y + 1 #") (.c (.ks "#end") .n))))) (.bo .mod (.bo .div (.v 1) (.ki 21)) (.ki 4))))))) .n) (.c (.ie (.c .eq (.bo .mod (.bo .div (.v 1) (.ki 5)) (.ki 4)) (.ki 0)) (.c (.l (.st 6 (.ix (.li (.c (.ks "") (.c (.ks "   ") (.c (.ks "# part") (.c (.ks "  #") (.c (.ks "\n") .n)))))) (.bo .mod (.bo .div (.v 1) (.ki 20)) (.ki 5))))) (.o (.l (.st 2 (.bo .add (.bo .add (.v 6) (.ks "\n")) (.v 2)))))) .n) (.o (.l (.rt (.v 2))))))))⟩
noncomputable def ds27 : List C.Dd := d27 :: ds26
noncomputable def t27 : List C.FT := .p F_law_loosened :: t26
theorem e27 : C.tab ds27 = t27 := C.tab_p e26 rfl rfl rfl
noncomputable def B_law_same_1 : Ev → Option Fl :=
    (jFrz 2 (jIf (bOr (bNot (jB (jCB gIsi (jCons (jV 2) (jCons (jC (.ty "tuple")) jNil))))) (jB (jCB gAny (jCons (jComp (itT (jV 2)) [] bYes (jCB gIsi (jCons (jV 0) (jCons (jC (.ty "bool")) jNil)))) jNil))))
      (jRet (jC (.bl false)))
      jPass))
noncomputable def g_law_same : Ev → Option Fl :=
    (jSeq (jIf (bOr (bNot (jB (jCB gIsi (jCons (jV 0) (jCons (jC (.ty "list")) jNil))))) (jB (jOp gNeD (jV 0) (jV 1))))
      (jRet (jC (.bl false)))
      jPass)
    (jSeq (jFrz 0 (jFor (itL (jV 0)) (gN 2)
      B_law_same_1))
    (jRet (jC (.bl true)))))
noncomputable def F_law_same : List D → Option (M × D) := fn 3 g_law_same
noncomputable def d28 : C.Dd := ⟨"_law_same", top 37, ["_law_found", "_law_due"], ["_law_found", "_law_due", "_law_row_here"], 0, none, (.c (.ie (.or (.nt (.b (.fb .isi (.c (.v 0) (.c (.ty "list") .n))))) (.c .neD (.v 0) (.v 1))) (.o (.l (.rt (.kb false)))) .n) (.c (.fz 0 (.fo (.l (.v 0)) (.n 2) (.o (.fz 2 (.ie (.or (.nt (.b (.fb .isi (.c (.v 2) (.c (.ty "tuple") .n))))) (.b (.fb .any (.c (.cp (.t (.v 2)) [] .y (.fb .isi (.c (.v 0) (.c (.ty "bool") .n)))) .n)))) (.o (.l (.rt (.kb false)))) .n))))) (.o (.l (.rt (.kb true))))))⟩
noncomputable def ds28 : List C.Dd := d28 :: ds27
noncomputable def t28 : List C.FT := .p F_law_same :: t27
theorem e28 : C.tab ds28 = t28 := C.tab_p e27 rfl rfl rfl
noncomputable def B_law_1 : Ev → Option Fl :=
    (jApp 8 (jCall F_law_loosened (jCons (jCall F_law_words (jCons (jV 10) jNil)) (jCons (jCall F_law_cell (jCons (jV 0) (jCons (jOp gAdd (jC (.int 3)) (jV 9)) jNil))) jNil))))
noncomputable def g_law : Ev → Option Fl :=
    (jSeq (jSet 1 (jCall F_law_names (jCons (jCall F_law_cell (jCons (jV 0) (jCons (jC (.int 0)) jNil))) (jCons (jC (.int 4)) jNil))))
    (jSeq (jSet 2 (jCall F_law_program (jCons (jSl gSl (jV 0) (jPart (jC (.int 2))) (jPart (jC (.int 42)))) (jCons (jV 1) (jCons (jOp jMod (jCall F_law_cell (jCons (jV 0) (jCons (jC (.int 1)) jNil))) (jC (.int 19))) jNil)))))
    (jSeq (jFrz 2 (jSet 3 (jComp (itL (jV 2)) [] bYes (jBM isS gJoin (jC (.str " ")) (jCons (jCall F_law_words (jCons (jV 0) jNil)) jNil)))))
    (jSeq (jSet 4 (jBM isS gJoin (jC (.str "\n")) (jCons (jV 3) jNil)))
    (jSeq (jIf (bOr (jB (jOp gNe (jCall F_show (jCons (jV 2) jNil)) (jV 4))) (bNot (jB (jCall F_law_same (jCons (jCall F_read (jCons (jV 4) jNil)) (jCons (jV 2) jNil))))))
      (jRet (jC (.bl false)))
      jPass)
    (jSeq (jSet 5 (jCB gList (jCons (jV 2) jNil)))
    (jSeq (jIf (jB (jOp gEq (jOp jMod (jOp jDivJ (jCall F_law_cell (jCons (jV 0) (jCons (jC (.int 1)) jNil))) (jC (.int 19))) (jC (.int 4))) (jC (.int 0))))
      (jSeq (jSet 6 (jOp jMod (jOp jDivJ (jCall F_law_cell (jCons (jV 0) (jCons (jC (.int 1)) jNil))) (jC (.int 76))) (jCB gLen (jCons (jV 2) jNil))))
    (jSeq (jSet 7 (jLst (jCons (jTup (jCons (jC (.str "go")) (jCons (jOp gAdd (jOp jMul (jV 6) (jOp jPow (jC (.int 10)) (jC (.int 18)))) (jC (.int 7))) jNil))) (jCons (jTup (jCons (jC (.str "part")) (jCons (jOp gIx (jV 1) (jC (.int 0))) (jCons (jOp jSub (jOp jSub (jOp jPow (jC (.int 10)) (jC (.int 20))) (jC (.int 1))) (jV 6)) jNil)))) jNil))))
    (jSetIx 5 (jV 6) (jOp gIx (jV 7) (jOp jMod (jCall F_law_cell (jCons (jV 0) (jCons (jC (.int 2)) jNil))) (jC (.int 2)))))))
      jPass)
    (jSeq (jSet 8 (jLst jNil))
    (jSeq (jFrz 5 (jFor (itE (jCons (jV 5) jNil)) (gT 2 (gCons' (gN 9) (gCons' (gN 10) gNil')))
      B_law_1))
    (jSeq (jSet 11 (jBM isS gJoin (jC (.str "\n")) (jCons (jV 8) jNil)))
    (jSeq (jIf (bOr (bNot (jB (jCall F_law_same (jCons (jCall F_read (jCons (jV 11) jNil)) (jCons (jV 5) jNil))))) (bNot (jB (jCall F_law_same (jCons (jCall F_read (jCons (jOp gAdd (jV 11) (jC (.str "\n"))) jNil)) (jCons (jV 5) jNil))))))
      (jRet (jC (.bl false)))
      jPass)
    (jRet (jAnd (jOp gEq (jCall F_show (jCons (jV 2) jNil)) (jV 4)) (jCall F_law_same (jCons (jCall F_read (jCons (jV 4) jNil)) (jCons (jV 2) jNil))))))))))))))))
noncomputable def F_law : List D → Option (M × D) := fn 12 g_law
noncomputable def d29 : C.Dd := ⟨"law", top 38, ["_law_script"], ["_law_script", "_law_names_here", "_law_program_here", "_law_written", "_law_text", "_law_other", "_law_n", "_law_far", "_law_some", "_law_k", "_law_row_here", "_law_loose"], 6, none, (.c (.l (.st 1 (.ca 10 (.c (.ca 11 (.c (.v 0) (.c (.ki 0) .n))) (.c (.ki 4) .n))))) (.c (.l (.st 2 (.ca 3 (.c (.sl (.v 0) (.s (.ki 2)) (.s (.ki 42))) (.c (.v 1) (.c (.bo .mod (.ca 11 (.c (.v 0) (.c (.ki 1) .n))) (.ki 19)) .n)))))) (.c (.fz 2 (.l (.sc 3 (.l (.v 2)) [] .y (.ms .join (.ks " ") (.c (.ca 2 (.c (.v 0) .n)) .n))))) (.c (.l (.st 4 (.ms .join (.ks "\n") (.c (.v 3) .n)))) (.c (.ie (.or (.c .ne (.ca 12 (.c (.v 2) .n)) (.v 4)) (.nt (.b (.ca 0 (.c (.ca 14 (.c (.v 4) .n)) (.c (.v 2) .n)))))) (.o (.l (.rt (.kb false)))) .n) (.c (.l (.st 5 (.fb .list (.c (.v 2) .n)))) (.c (.ie (.c .eq (.bo .mod (.bo .div (.ca 11 (.c (.v 0) (.c (.ki 1) .n))) (.ki 19)) (.ki 4)) (.ki 0)) (.c (.l (.st 6 (.bo .mod (.bo .div (.ca 11 (.c (.v 0) (.c (.ki 1) .n))) (.ki 76)) (.fb .len (.c (.v 2) .n))))) (.c (.l (.st 7 (.li (.c (.tu (.c (.ks "go") (.c (.bo .add (.bo .mul (.v 6) (.bo .pow (.ki 10) (.ki 18))) (.ki 7)) .n))) (.c (.tu (.c (.ks "part") (.c (.ix (.v 1) (.ki 0)) (.c (.bo .sub (.bo .sub (.bo .pow (.ki 10) (.ki 20)) (.ki 1)) (.v 6)) .n)))) .n))))) (.o (.l (.si 5 (.v 6) (.ix (.v 7) (.bo .mod (.ca 11 (.c (.v 0) (.c (.ki 2) .n))) (.ki 2)))))))) .n) (.c (.l (.st 8 (.li .n))) (.c (.fz 5 (.fo (.en (.c (.v 5) .n)) (.t 2 (.c (.n 9) (.c (.n 10) .n))) (.o (.l (.ap 8 (.ca 1 (.c (.ca 2 (.c (.v 10) .n)) (.c (.ca 11 (.c (.v 0) (.c (.bo .add (.ki 3) (.v 9)) .n))) .n)))))))) (.c (.l (.st 11 (.ms .join (.ks "\n") (.c (.v 8) .n)))) (.c (.ie (.or (.nt (.b (.ca 0 (.c (.ca 14 (.c (.v 11) .n)) (.c (.v 5) .n))))) (.nt (.b (.ca 0 (.c (.ca 14 (.c (.bo .add (.v 11) (.ks "\n")) .n)) (.c (.v 5) .n)))))) (.o (.l (.rt (.kb false)))) .n) (.o (.l (.rt (.an (.co .eq (.ca 12 (.c (.v 2) .n)) (.v 4)) (.ca 0 (.c (.ca 14 (.c (.v 4) .n)) (.c (.v 2) .n))))))))))))))))))⟩
noncomputable def ds29 : List C.Dd := d29 :: ds28
noncomputable def t29 : List C.FT := .p F_law :: t28
theorem e29 : C.tab ds29 = t29 := C.tab_p e28 rfl rfl rfl
theorem ok : C.okAll bs gs ds29 = true := by decide +kernel
theorem ba_1 : C.BA d1.nm d1.st d1.ps := fun _ _ _ _ _ _ us hl => match us, hl with | [_], _ => rfl
theorem ba_2 : C.BA d2.nm d2.st d2.ps := fun _ _ _ _ _ _ us hl => match us, hl with | [_], _ => rfl
theorem ba_3 : C.BA d3.nm d3.st d3.ps := fun _ _ _ _ _ _ us hl => match us, hl with | [_], _ => rfl
theorem ba_4 : C.BA d4.nm d4.st d4.ps := fun _ _ _ _ _ _ us hl => match us, hl with | [_], _ => rfl
theorem ba_5 : C.BA d5.nm d5.st d5.ps := fun _ _ _ _ _ _ us hl => match us, hl with | [_], _ => rfl
theorem ba_6 : C.BA d6.nm d6.st d6.ps := fun _ _ _ _ _ _ us hl => match us, hl with | [_], _ => rfl
theorem ba_7 : C.BA d7.nm d7.st d7.ps := fun _ _ _ _ _ _ us hl => match us, hl with | [_], _ => rfl
theorem ba_8 : C.BA d8.nm d8.st d8.ps := fun _ _ _ _ _ _ us hl => match us, hl with | [_], _ => rfl
theorem ba_9 : C.BA d9.nm d9.st d9.ps := fun _ _ _ _ _ _ us hl => match us, hl with | [_], _ => rfl
theorem ba_10 : C.BA d10.nm d10.st d10.ps := fun _ _ _ _ _ _ us hl => match us, hl with | [_], _ => rfl
theorem ba_11 : C.BA d11.nm d11.st d11.ps := fun _ _ _ _ _ _ us hl => match us, hl with | [_], _ => rfl
theorem ba_12 : C.BA d12.nm d12.st d12.ps := fun _ _ _ _ _ _ us hl => match us, hl with | [_], _ => rfl
theorem ba_13 : C.BA d13.nm d13.st d13.ps := fun _ _ _ _ _ _ us hl => match us, hl with | [_], _ => rfl
theorem ba_14 : C.BA d14.nm d14.st d14.ps := fun _ _ _ _ _ _ us hl => match us, hl with | [_], _ => rfl
theorem ba_15 : C.BA d15.nm d15.st d15.ps := fun _ _ _ _ _ _ us hl => match us, hl with | [_], _ => rfl
theorem ba_16 : C.BA d16.nm d16.st d16.ps := fun _ _ _ _ _ _ us hl => match us, hl with | [_], _ => rfl
theorem ba_17 : C.BA d17.nm d17.st d17.ps := fun _ _ _ _ _ _ us hl => match us, hl with | [_, _], _ => rfl
theorem ba_18 : C.BA d18.nm d18.st d18.ps := fun _ _ _ _ _ _ us hl => match us, hl with | [_, _], _ => rfl
theorem ba_19 : C.BA d19.nm d19.st d19.ps := fun _ _ _ _ _ _ us hl => match us, hl with | [_, _], _ => rfl
theorem ba_20 : C.BA d20.nm d20.st d20.ps := fun _ _ _ _ _ _ us hl => match us, hl with | [_, _, _], _ => rfl
theorem ba_21 : C.BA d21.nm d21.st d21.ps := fun _ _ _ _ _ _ us hl => match us, hl with | [_, _], _ => rfl
theorem ba_22 : C.BA d22.nm d22.st d22.ps := fun _ _ _ _ _ _ us hl => match us, hl with | [_, _, _, _], _ => rfl
theorem ba_23 : C.BA d23.nm d23.st d23.ps := fun _ _ _ _ _ _ us hl => match us, hl with | [_], _ => rfl
theorem ba_24 : C.BA d24.nm d24.st d24.ps := fun _ _ _ _ _ _ us hl => match us, hl with | [_, _], _ => rfl
theorem ba_25 : C.BA d25.nm d25.st d25.ps := fun _ _ _ _ _ _ us hl => match us, hl with | [_, _, _], _ => rfl
theorem ba_26 : C.BA d26.nm d26.st d26.ps := fun _ _ _ _ _ _ us hl => match us, hl with | [_], _ => rfl
theorem ba_27 : C.BA d27.nm d27.st d27.ps := fun _ _ _ _ _ _ us hl => match us, hl with | [_, _], _ => rfl
theorem ba_28 : C.BA d28.nm d28.st d28.ps := fun _ _ _ _ _ _ us hl => match us, hl with | [_, _], _ => rfl
theorem ba_29 : C.BA d29.nm d29.st d29.ps := fun _ _ _ _ _ _ us hl => match us, hl with | [_], _ => rfl
theorem ba : C.BAs ds29 := ⟨ba_29, ba_28, ba_27, ba_26, ba_25, ba_24, ba_23, ba_22, ba_21, ba_20, ba_19, ba_18, ba_17, ba_16, ba_15, ba_14, ba_13, ba_12, ba_11, ba_10, ba_9, ba_8, ba_7, ba_6, ba_5, ba_4, ba_3, ba_2, ba_1, trivial⟩
end K14
namespace K14
open PySem L2 J
local macro_rules | `(tactic| walk_at "ev") => `(tactic| simp -implicitDefEqProofs only [jSeq, jIf, jB, jOp, jUn, jV, jCB, jCons, jNil, jRet, jRetN, jSet, jPass, jC, jCall, jAnd, jOr, jNot, bAnd, bOr, bNot, jIfE, jTup, jLst, jTupG, jLstG, jApp, jSetIx, jAsg, gL, gCons', gNil', jBM, isS, jFrz, frz, jFor, itL, itR1, itm, ownL, own, gN, unfr, slm2, bYes, List.map_cons, List.map_nil, List.length_cons, List.length_nil, List.cons_append, List.nil_append, List.replicate, List.getElem?_cons_zero, List.getElem?_cons_succ, List.set_cons_zero, List.set_cons_succ, List.all_cons, List.all_nil, Option.bind_some, Option.bind_none, Option.map_some, Option.map_none, id_eq, eq_ii, eq_ss, eq_bb, ne_ii, ne_ss, add_ii, sub_ii, lt_ii, le_ii, gt_ii, ge_ii, neg_i, ix_li, ix_ti, len_l, len_t, abs_i, int_i, int_b, dBl_b, dInt_i, slot_fr, slot_al, slot_un, out_fr, out_un, out_bo, out_nx, sto_fr, sto_un, sto_al, im_i, im_s, im_b, im_n, elm_al, elm_fr, elm_un, elm_bo, if_true, if_false, Bool.and_self, Bool.and_true, Bool.true_and, Bool.false_eq_true, decide_true, decide_false, reduceIte, reduceCtorEq, List.length_map, Nat.reduceAdd, Nat.reduceSub, Bool.not_true, Bool.not_false, szT, szT', Nat.reduceLeDiff, mul_r, mod_ii, div_ii, pow64, Int.reducePow, Int.reduceNeg, Int.reduceLT, Int.reduceLE, Int.reduceToNat, and_self, and_true, true_and, Nat.reduceLT, ne_eq, not_false_eq_true, jSl, jPart, jNoP, jChain, itS, jBM0, frE_nil, len_s, sl_t, pow64, isi_str_str, isi_str_int, isi_str_bool, isi_str_tuple, isi_int_str, isi_int_int, isi_int_bool, isi_int_tuple, isi_bl_str, isi_bl_int, isi_bl_bool, isi_bl_tuple, isi_non_str, isi_non_int, isi_non_bool, isi_non_tuple, isi_tup_str, isi_tup_int, isi_tup_tuple, isi_lst_str, isi_lst_int, isi_lst_tuple, isi_dk_str, isi_dk_int, isi_dk_tuple, isi_dt_str, isi_dt_int, isi_dt_tuple, wd_reckon_reckon, wd_reckon_copy, wd_reckon_say, wd_reckon_go, wd_reckon_part, wd_reckon_end, wd_copy_reckon, wd_copy_copy, wd_copy_say, wd_copy_go, wd_copy_part, wd_copy_end, wd_say_reckon, wd_say_copy, wd_say_say, wd_say_go, wd_say_part, wd_say_end, wd_go_reckon, wd_go_copy, wd_go_say, wd_go_go, wd_go_part, wd_go_end, wd_part_reckon, wd_part_copy, wd_part_say, wd_part_go, wd_part_part, wd_part_end, wd_end_reckon, wd_end_copy, wd_end_say, wd_end_go, wd_end_part, wd_end_end])
noncomputable abbrev LET : Str := "abcdefghijklmnopqrstuvwxyz"
noncomputable abbrev FIG : Str := "0123456789"
noncomputable abbrev WDS : List V := [.str "say", .str "go", .str "part", .str "end"]
noncomputable abbrev SGS : List V := [.str "+", .str "-", .str "*", .str "&", .str "|", .str "^", .str "<", .str "="]
noncomputable def isL (c : Nat) : Bool := occB LET ⟨#[c]⟩
noncomputable def isF (c : Nat) : Bool := occB FIG ⟨#[c]⟩
noncomputable def hdL : List Nat → Bool
  | c :: _ => isL c
  | [] => false
noncomputable def nameS (z : Str) : Bool := decide (1 ≤ z.length) && (decide (z.length ≤ 8) && (!inV (.str z) WDS && (hdL z.cps.toList && z.cps.toList.all fun c => isL c || isF c)))
noncomputable def nameB : D → Bool
  | .str z => nameS z
  | _ => false
noncomputable def Ok (d : D) : Prop := tyN d ≠ "type" ∧ ∀ z, d = .str z → z.length ≤ 1000
theorem ok_str {z : Str} (h : Ok (.str z)) : z.length ≤ 1000 := h.2 z rfl
theorem name_all (z : Str) : compL bYes (jOr (jOp (gInS false) (jV 0) (jC (D.str LET))) (jOp (gInS false) (jV 0) (jC (D.str FIG)))) M.fr [] (sgs z) = some (((z.cps.toList.map fun c => isL c || isF c).map D.bl).map fun x => (M.fr, x)) := by
  have := compL_map (fe := jOr (jOp (gInS false) (jV 0) (jC (D.str LET))) (jOp (gInS false) (jV 0) (jC (D.str FIG)))) (m := .fr) (fr := []) (F := fun d => match d with | .str z => .bl (occB LET z || occB FIG z) | _ => .non) (ds := sgs z) (fun d hd => by
    obtain ⟨c, hc, rfl⟩ := List.mem_map.mp hd
    simp -implicitDefEqProofs only [jOr, jOp, jV, jC, gInS, List.getElem?_cons_zero, Option.bind_some, id_eq, dBl_b, if_false, Bool.false_eq_true]
    cases occB LET ⟨#[c]⟩ <;> simp)
  rw [this]
  congr 1
  unfold sgs
  rw [List.map_map, List.map_map, List.map_map, List.map_map]
  rfl
theorem is_name_ok {d : D} (h : Ok d) : F_is_name [d] = some (.fr, .bl (nameB d)) := by
  unfold F_is_name fn g_is_name
  cases d with
  | ty n => exact absurd rfl h.1
  | str z =>
    have hz := ok_str h
    have hzs : z.length ≤ sizeLine := Nat.le_trans hz (by decide)
    walk_at "ev"
    simp -implicitDefEqProofs only [len_s hzs, Option.bind_some, lt_ii, gt_ii, dBl_b]
    by_cases h1 : 1 ≤ z.length
    · have e1 : decide ((z.length : Int) < 1) = false := decide_eq_false (by omega)
      simp -implicitDefEqProofs only [e1]
      walk_at "ev"
      by_cases h8 : z.length ≤ 8
      · have e8 : decide ((8 : Int) < (z.length : Int)) = false := decide_eq_false (by omega)
        simp -implicitDefEqProofs only [e8]
        walk_at "ev"
        simp -implicitDefEqProofs only [gInF, dSc, seqD, dScs, Option.bind_some, dBl_b, if_false, Bool.false_eq_true]
        cases hw : inV (.str z) WDS with
        | true =>
          walk_at "ev"
          simp -implicitDefEqProofs only [nameB, nameS, hw, Bool.not_true, Bool.false_and, Bool.and_false]
        | false =>
          obtain ⟨c, cs, ec⟩ : ∃ c cs, z.cps.toList = c :: cs := by
            cases e : z.cps.toList with
            | nil =>
              have : z.length = 0 := by have := congrArg List.length e; simpa [Str.length] using this
              omega
            | cons c cs => exact ⟨c, cs, rfl⟩
          have ea : L2.atI z.cps.toList 0 = some c := by rw [ec]; exact atI_nat (k := 0) (l := c :: cs) (Nat.succ_pos _)
          walk_at "ev"
          rw [ix_si hzs, ea]
          walk_at "ev"
          simp -implicitDefEqProofs only [gInS, Option.bind_some, dBl_b, if_true]
          cases hl : isL c with
          | false =>
            have hl' : occB LET ⟨#[c]⟩ = false := hl
            rw [show occB (Str.ofString "abcdefghijklmnopqrstuvwxyz") ⟨#[c]⟩ = false from hl']
            walk_at "ev"
            simp -implicitDefEqProofs only [nameB, nameS, hdL, ec, hl, Bool.false_and, Bool.and_false]
          | true =>
            have hl' : occB LET ⟨#[c]⟩ = true := hl
            rw [show occB (Str.ofString "abcdefghijklmnopqrstuvwxyz") ⟨#[c]⟩ = true from hl']
            walk_at "ev"
            simp -implicitDefEqProofs only [jComp]
            walk_at "ev"
            have hn := name_all z
            rw [show (Str.ofString "abcdefghijklmnopqrstuvwxyz") = LET from rfl, show (Str.ofString "0123456789") = FIG from rfl, hn, Option.bind_some, lstG_fr (by rw [List.length_map, List.length_map]; exact hz), Option.bind_some]
            simp -implicitDefEqProofs only [gAll, blsD_map, Option.bind_some]
            walk_at "ev"
            have : nameB (.str z) = z.cps.toList.all fun c => isL c || isF c := by
              simp only [nameB, nameS, decide_eq_true h1, decide_eq_true h8, hw, hdL, ec, hl, Bool.true_and, Bool.not_false]
            rw [this, List.all_map]
            rfl
      · have e8 : decide ((8 : Int) < (z.length : Int)) = true := decide_eq_true (by omega)
        simp -implicitDefEqProofs only [e8]
        walk_at "ev"
        simp -implicitDefEqProofs only [nameB, nameS, decide_eq_false h8, Bool.false_and, Bool.and_false]
    · have e1 : decide ((z.length : Int) < 1) = true := decide_eq_true (by omega)
      simp -implicitDefEqProofs only [e1]
      walk_at "ev"
      simp -implicitDefEqProofs only [nameB, nameS, decide_eq_false h1, Bool.false_and]
  | _ => walk_at "ev"; simp -implicitDefEqProofs only [nameB]
noncomputable def numB : D → Bool
  | .int _ => true
  | _ => false
noncomputable def worthB : D → Bool
  | .int i => decide (0 ≤ i) && decide (i < 18446744073709551616)
  | _ => false
noncomputable def opB (d : D) : Bool := nameB d || worthB d
noncomputable def signB : D → Bool
  | .str z => inV (.str z) SGS
  | _ => false
noncomputable def targB : D → Bool
  | .int i => decide (0 ≤ i)
  | _ => false
theorem is_number_ok {d : D} (h : tyN d ≠ "type") : F_is_number [d] = some (.fr, .bl (numB d)) := by
  unfold F_is_number fn g_is_number
  cases d with
  | ty n => exact absurd rfl h
  | _ => walk_at "ev"; simp -implicitDefEqProofs only [numB]
theorem is_worth_ok {d : D} (h : tyN d ≠ "type") : F_is_worth [d] = some (.fr, .bl (worthB d)) := by
  unfold F_is_worth fn g_is_worth
  walk_at "ev"
  rw [is_number_ok h]
  cases d with
  | ty n => exact absurd rfl h
  | int i =>
    simp -implicitDefEqProofs only [numB, worthB]
    walk_at "ev"
    by_cases h0 : 0 ≤ i
    · simp -implicitDefEqProofs only [decide_eq_true h0]
      walk_at "ev"
    · simp -implicitDefEqProofs only [decide_eq_false h0, Bool.false_and]
      walk_at "ev"
  | _ => simp -implicitDefEqProofs only [numB, worthB]; walk_at "ev"
theorem is_operand_ok {d : D} (h : Ok d) : F_is_operand [d] = some (.fr, .bl (opB d)) := by
  unfold F_is_operand fn g_is_operand
  walk_at "ev"
  rw [is_name_ok h]
  unfold opB
  cases nameB d with
  | true => walk_at "ev"; rfl
  | false =>
    walk_at "ev"
    rw [is_worth_ok h.1]
    walk_at "ev"
    rfl
theorem is_sign_ok {d : D} (h : Ok d) : F_is_sign [d] = some (.fr, .bl (signB d)) := by
  unfold F_is_sign fn g_is_sign
  cases d with
  | ty n => exact absurd rfl h.1
  | str z =>
    walk_at "ev"
    simp -implicitDefEqProofs only [gInF, dSc, seqD, dScs, Option.bind_some, dBl_b, if_false, Bool.false_eq_true, signB]
    rfl
  | _ => walk_at "ev"; simp -implicitDefEqProofs only [signB]
theorem is_target_ok {d : D} (h : tyN d ≠ "type") : F_is_target [d] = some (.fr, .bl (targB d)) := by
  unfold F_is_target fn g_is_target
  walk_at "ev"
  rw [is_number_ok h]
  cases d with
  | ty n => exact absurd rfl h
  | int i =>
    simp -implicitDefEqProofs only [numB, targB]
    walk_at "ev"
  | _ => simp -implicitDefEqProofs only [numB, targB]; walk_at "ev"
theorem is_reckoning_ok {s a b : D} (hs : Ok s) (ha : Ok a) (hb : Ok b) : F_is_reckoning [.tup [s, a, b]] = some (.fr, .bl (signB s && (opB a && opB b))) := by
  have e0 : L2.atI [s, a, b] 0 = some s := rfl
  have e1 : L2.atI [s, a, b] 1 = some a := rfl
  have e2 : L2.atI [s, a, b] 2 = some b := rfl
  unfold F_is_reckoning fn g_is_reckoning
  walk_at "ev"
  rw [e0]
  walk_at "ev"
  rw [is_sign_ok hs]
  cases signB s with
  | false => walk_at "ev"; rfl
  | true =>
    walk_at "ev"
    rw [e1]
    walk_at "ev"
    rw [is_operand_ok ha]
    cases opB a with
    | false => walk_at "ev"; rfl
    | true =>
      walk_at "ev"
      rw [e2]
      walk_at "ev"
      rw [is_operand_ok hb]
      walk_at "ev"
noncomputable def rowB : D → Bool
  | .tup (.str w :: r) =>
    if w = "reckon" then (match r with | [x, s, a, b] => nameB x && (signB s && (opB a && opB b)) | _ => false)
    else if w = "copy" then (match r with | [x, a] => nameB x && opB a | _ => false)
    else if w = "say" then (match r with | [a] => opB a | _ => false)
    else if w = "go" then (match r with | [t] => targB t | _ => false)
    else if w = "part" then (match r with | [a, t] => opB a && targB t | _ => false)
    else decide (w = "end") && r.isEmpty
  | _ => false
theorem is_row_ok {d : D} (h : Ok d) (ht : ∀ ds, d = .tup ds → ∀ e ∈ ds, Ok e) : F_is_row [d] = some (.fr, .bl (rowB d)) := by
  unfold F_is_row fn g_is_row
  cases d with
  | ty n => exact absurd rfl h.1
  | tup ds =>
    have ht := ht ds rfl
    cases ds with
    | nil =>
      walk_at "ev"
      simp -implicitDefEqProofs only [show decide (((0 : Nat) : Int) = 0) = true from rfl]
      walk_at "ev"
      simp -implicitDefEqProofs only [rowB]
    | cons e r =>
      have ea : L2.atI (e :: r) 0 = some e := atI_nat (k := 0) (l := e :: r) (Nat.succ_pos _)
      have e0 : decide (((r.length + 1 : Nat) : Int) = 0) = false := decide_eq_false (by omega)
      have he := ht e List.mem_cons_self
      walk_at "ev"
      simp -implicitDefEqProofs only [e0]
      walk_at "ev"
      rw [ea]
      cases e with
      | ty n => exact absurd rfl he.1
      | str w =>
        walk_at "ev"
        rw [ea]
        walk_at "ev"
        by_cases h1 : w = "reckon"
        · subst h1
          walk_at "ev"
          rcases r with _ | ⟨x, _ | ⟨s, _ | ⟨a, _ | ⟨b, _ | ⟨t, r⟩⟩⟩⟩⟩
          · (try walk_at "ev"); rfl
          · (try walk_at "ev"); rfl
          · (try walk_at "ev"); rfl
          · (try walk_at "ev"); rfl
          · have e1 : L2.atI [D.str "reckon", x, s, a, b] 1 = some x := rfl
            have e2 : cut [D.str "reckon", x, s, a, b] (some 2) none = [s, a, b] := rfl
            have hx : Ok x := ht x (by simp)
            have hs : Ok s := ht s (by simp)
            have ha : Ok a := ht a (by simp)
            have hb : Ok b := ht b (by simp)
            have hr : rowB (.tup [.str "reckon", x, s, a, b]) = (nameB x && (signB s && (opB a && opB b))) := rfl
            rw [hr]
            walk_at "ev"
            simp -implicitDefEqProofs only [show decide (((4 + 1 : Nat) : Int) = 5) = true from rfl, show decide (((5 : Nat) : Int) = 5) = true from rfl]
            walk_at "ev"
            rw [e1]
            walk_at "ev"
            rw [is_name_ok hx]
            cases nameB x with
            | false => (try walk_at "ev"); rfl
            | true =>
              walk_at "ev"
              rw [e2]
              (try walk_at "ev")
              rw [is_reckoning_ok hs ha hb]
              walk_at "ev"
          · have e6 : decide (((r.length + 1 + 1 + 1 + 1 + 1 + 1 : Nat) : Int) = 5) = false := decide_eq_false (by omega)
            walk_at "ev"
            simp -implicitDefEqProofs only [e6]
            walk_at "ev"
            rfl
        by_cases h2 : w = "copy"
        · subst h2
          walk_at "ev"
          rcases r with _ | ⟨x, _ | ⟨a, _ | ⟨t, r⟩⟩⟩
          · (try walk_at "ev"); rfl
          · (try walk_at "ev"); rfl
          · have e1 : L2.atI [D.str "copy", x, a] 1 = some x := rfl
            have e2 : L2.atI [D.str "copy", x, a] 2 = some a := rfl
            have hx : Ok x := ht x (by simp)
            have ha : Ok a := ht a (by simp)
            have hr : rowB (.tup [.str "copy", x, a]) = (nameB x && opB a) := rfl
            rw [hr]
            walk_at "ev"
            simp -implicitDefEqProofs only [show decide (((3 : Nat) : Int) = 3) = true from rfl]
            walk_at "ev"
            rw [e1]
            walk_at "ev"
            rw [is_name_ok hx]
            cases nameB x with
            | false => (try walk_at "ev"); rfl
            | true =>
              walk_at "ev"
              rw [e2]
              (try walk_at "ev")
              rw [is_operand_ok ha]
              walk_at "ev"
          · have e6 : decide (((r.length + 1 + 1 + 1 + 1 : Nat) : Int) = 3) = false := decide_eq_false (by omega)
            walk_at "ev"
            simp -implicitDefEqProofs only [e6]
            walk_at "ev"
            rfl
        by_cases h3 : w = "say"
        · subst h3
          walk_at "ev"
          rcases r with _ | ⟨a, _ | ⟨t, r⟩⟩
          · (try walk_at "ev"); rfl
          · have e1 : L2.atI [D.str "say", a] 1 = some a := rfl
            have ha : Ok a := ht a (by simp)
            have hr : rowB (.tup [.str "say", a]) = opB a := rfl
            rw [hr]
            walk_at "ev"
            simp -implicitDefEqProofs only [show decide (((2 : Nat) : Int) = 2) = true from rfl]
            walk_at "ev"
            rw [e1]
            walk_at "ev"
            rw [is_operand_ok ha]
            walk_at "ev"
          · have e6 : decide (((r.length + 1 + 1 + 1 : Nat) : Int) = 2) = false := decide_eq_false (by omega)
            walk_at "ev"
            simp -implicitDefEqProofs only [e6]
            walk_at "ev"
            rfl
        by_cases h4 : w = "go"
        · subst h4
          walk_at "ev"
          rcases r with _ | ⟨a, _ | ⟨t, r⟩⟩
          · (try walk_at "ev"); rfl
          · have e1 : L2.atI [D.str "go", a] 1 = some a := rfl
            have ha : Ok a := ht a (by simp)
            have hr : rowB (.tup [.str "go", a]) = targB a := rfl
            rw [hr]
            walk_at "ev"
            simp -implicitDefEqProofs only [show decide (((2 : Nat) : Int) = 2) = true from rfl]
            walk_at "ev"
            rw [e1]
            walk_at "ev"
            rw [is_target_ok ha.1]
            walk_at "ev"
          · have e6 : decide (((r.length + 1 + 1 + 1 : Nat) : Int) = 2) = false := decide_eq_false (by omega)
            walk_at "ev"
            simp -implicitDefEqProofs only [e6]
            walk_at "ev"
            rfl
        by_cases h5 : w = "part"
        · subst h5
          walk_at "ev"
          rcases r with _ | ⟨x, _ | ⟨a, _ | ⟨t, r⟩⟩⟩
          · (try walk_at "ev"); rfl
          · (try walk_at "ev"); rfl
          · have e1 : L2.atI [D.str "part", x, a] 1 = some x := rfl
            have e2 : L2.atI [D.str "part", x, a] 2 = some a := rfl
            have hx : Ok x := ht x (by simp)
            have ha : Ok a := ht a (by simp)
            have hr : rowB (.tup [.str "part", x, a]) = (opB x && targB a) := rfl
            rw [hr]
            walk_at "ev"
            simp -implicitDefEqProofs only [show decide (((3 : Nat) : Int) = 3) = true from rfl]
            walk_at "ev"
            rw [e1]
            walk_at "ev"
            rw [is_operand_ok hx]
            cases opB x with
            | false => (try walk_at "ev"); rfl
            | true =>
              walk_at "ev"
              rw [e2]
              (try walk_at "ev")
              rw [is_target_ok ha.1]
              walk_at "ev"
          · have e6 : decide (((r.length + 1 + 1 + 1 + 1 : Nat) : Int) = 3) = false := decide_eq_false (by omega)
            walk_at "ev"
            simp -implicitDefEqProofs only [e6]
            walk_at "ev"
            rfl
        repeat (simp -implicitDefEqProofs only [decide_eq_false h1, decide_eq_false h2, decide_eq_false h3, decide_eq_false h4, decide_eq_false h5]; walk_at "ev")
        have hr : rowB (.tup (.str w :: r)) = (decide (w = "end") && r.isEmpty) := by simp only [rowB, if_neg h1, if_neg h2, if_neg h3, if_neg h4, if_neg h5]
        rw [hr]
        by_cases h6 : w = "end"
        · simp -implicitDefEqProofs only [decide_eq_true h6]
          walk_at "ev"
          cases r with
          | nil => rfl
          | cons t r =>
            have e6 : decide (((r.length + 1 + 1 : Nat) : Int) = 1) = false := decide_eq_false (by omega)
            simp -implicitDefEqProofs only [List.length_cons, e6]
            rfl
        · simp -implicitDefEqProofs only [decide_eq_false h6, Bool.false_and]
          walk_at "ev"
      | _ => (try walk_at "ev"); rfl
  | _ => walk_at "ev"; simp -implicitDefEqProofs only [rowB]
noncomputable abbrev SG : Str := "abcdefghijklmnopqrstuvwxyz0123456789"
theorem cell_ok (ns : List Int) (k : Int) (h0 : 0 ≤ k) (h1 : k ≤ 1000) : ∃ c, F_law_cell [.lst (ns.map .int), .int k] = some (.fr, .int c) := by
  unfold F_law_cell fn g_law_cell
  walk_at "ev"
  by_cases h : k < ns.length
  · obtain ⟨c, hc⟩ := atI_ints h0 h
    refine ⟨c, ?_⟩
    simp only [h, hc]
    walk_at "ev"
    simp only [out_al, im_i]
  · simp only [h]
    walk_at "ev"
    by_cases hz : (ns.length : Int) = 0
    · simp only [hz]
      walk_at "ev"
      simp [mul_r, out_fr]
    · have hp : (0 : Int) < ns.length := by omega
      simp only [hz]
      walk_at "ev"
      rw [mod_ii hp]
      walk_at "ev"
      obtain ⟨c, hc⟩ := atI_ints (ns := ns) (k := k % ns.length) (Int.emod_nonneg _ (by omega)) (Int.emod_lt_of_pos _ hp)
      simp only [hc]
      walk_at "ev"
      rw [mul_r (by omega)]
      walk_at "ev"
      exact ⟨_, rfl⟩
noncomputable def one (c : Nat) : Str := ⟨#[c]⟩
theorem fold_one : ∀ (cs : List Nat) (acc : Array Nat), (cs.map one).foldl (fun acc p => acc ++ ("" : Str).cps ++ p.cps) acc = acc ++ cs.toArray
  | [], acc => by simp
  | c :: cs, acc => by
    rw [List.map_cons, List.foldl_cons, fold_one cs]
    have e : ("" : Str).cps = #[] := by decide +kernel
    rw [e]
    simp [one]
theorem join_one (cs : List Nat) : Txt.join "" (cs.map one) = ⟨cs.toArray⟩ := by
  cases cs with
  | nil => rfl
  | cons c cs =>
    show (⟨((c :: cs).map one).tail.foldl (fun acc p => acc ++ ("" : Str).cps ++ p.cps) #[c]⟩ : Str) = _
    rw [List.map_cons, List.tail_cons, fold_one]
    simp
theorem len_of (cs : List Nat) : (⟨cs.toArray⟩ : Str).length = cs.length := by
  show cs.toArray.size = _
  simp
theorem join_cs {m n : M} {cs : List Nat} (hl : cs.length ≤ 1000) : gJoin (m, .str "") [(n, .lst ((cs.map one).map D.str))] = some (.fr, .str ⟨cs.toArray⟩) := by
  simp only [gJoin, strsD_map, Option.bind_some]
  rw [if_pos, join_one]
  have h1 : ∀ y ∈ cs.map one, y.length = 1 := fun y hy => by obtain ⟨c, _, rfl⟩ := List.mem_map.mp hy; rfl
  rw [sum_ones h1, List.length_map]
  have : ("" : Str).length = 0 := by decide
  rw [this, Nat.mul_zero, Nat.add_zero]
  exact Nat.le_trans hl (by decide)
theorem SG_len : SG.cps.toList.length = 36 := by decide +kernel
theorem SG_sz : SG.length ≤ sizeLine := by decide
theorem SG_l : ∀ i : Nat, i < 26 → isL (SG.cps.toList.getD i 0) = true := by
  have h : ∀ i ∈ List.range 26, decide (SG.cps.toList.getD i 0 ∈ LET.cps.toList) = true := by decide +kernel
  intro i hi
  unfold isL
  rw [occ_one]
  exact h i (List.mem_range.mpr hi)
theorem SG_f : ∀ i : Nat, i < 36 → (isL (SG.cps.toList.getD i 0) || isF (SG.cps.toList.getD i 0)) = true := by
  have h : ∀ i ∈ List.range 36, (decide (SG.cps.toList.getD i 0 ∈ LET.cps.toList) || decide (SG.cps.toList.getD i 0 ∈ FIG.cps.toList)) = true := by decide +kernel
  intro i hi
  unfold isL isF
  rw [occ_one, occ_one]
  exact h i (List.mem_range.mpr hi)
theorem sg_at {m n : M} {i : Int} (h0 : 0 ≤ i) (h1 : i < 36) : ∃ c, gIx (m, .str SG) (n, .int i) = some (.fr, .str ⟨#[c]⟩) ∧ (isL c || isF c) = true ∧ (i < 26 → isL c = true) := by
  have hl : i.toNat < SG.cps.toList.length := by rw [SG_len]; omega
  refine ⟨SG.cps.toList.getD i.toNat 0, ?_, SG_f _ (by omega), fun h => SG_l _ (by omega)⟩
  rw [ix_si SG_sz, atI_get h0 (by rw [SG_len]; omega), List.getD_eq_getElem?_getD, List.getElem?_eq_getElem hl]
  rfl
noncomputable def Nm (cs : List Nat) : Prop := (∀ c ∈ cs, (isL c || isF c) = true) ∧ hdL cs = true
theorem name_of {cs : List Nat} (h8 : cs.length ≤ 8) (h : Nm cs) (hw : inV (.str ⟨cs.toArray⟩) WDS = false) : nameS ⟨cs.toArray⟩ = true := by
  have h1 : 1 ≤ cs.length := by
    cases cs with
    | nil => exact absurd h.2 (by decide)
    | cons c cs => simp
  have e : (⟨cs.toArray⟩ : Str).cps.toList = cs := by simp
  simp only [nameS, len_of, decide_eq_true h1, decide_eq_true h8, hw, e, h.2, List.all_eq_true.mpr h.1, Bool.not_false, Bool.and_self]
theorem Nm.set {cs : List Nat} {c k : Nat} (h : Nm cs) (hc : isL c = true) : Nm (cs.set k c) := by
  refine ⟨fun x hx => ?_, ?_⟩
  · rcases List.mem_or_eq_of_mem_set hx with h' | rfl
    · exact h.1 x h'
    · rw [hc]; rfl
  · cases cs with
    | nil => exact h.2
    | cons a cs =>
      cases k with
      | zero => exact hc
      | succ k => exact h.2
theorem word0 {z : Str} (h : inV (.str z) [.str "say", .str "go", .str "part", .str "end"] = true) : nameS (z ++ "0") = true ∧ z.length ≤ 10 := by
  unfold inV at h
  simp only [List.any_cons, List.any_nil, Bool.or_false, Bool.or_eq_true, eqV, beq_iff_eq] at h
  rcases h with rfl | rfl | rfl | rfl <;> decide +kernel
theorem names_elt (c j : Int) (h0 : 0 ≤ j) (h1 : j < 8) : ∃ x, (jOp gIx (jV 1) (jOp jMod (jOp jDivJ (jV 2) (jOp gAdd (jC (.int 64)) (jOp jMul (jC (.int 5)) (jV 0)))) (jOp gIx (jLst (jCons (jC (.int 26)) (jCons (jC (.int 36)) jNil))) (jCB gInt (jCons (jOp jGt (jV 0) (jC (.int 0))) jNil))))) [some (.fr, .int j), some (.fr, .str SG), some (.al, .int c)] = some (.fr, .str (one x)) ∧ (isL x || isF x) = true ∧ (j = 0 → isL x = true) := by
  have hm : ∃ k, (k = 26 ∨ (k = 36 ∧ j ≠ 0)) ∧ L2.atI [D.int 26, D.int 36] (if decide (0 < j) = true then 1 else 0) = some (.int k) := by
    by_cases h : 0 < j
    · exact ⟨36, .inr ⟨rfl, by omega⟩, by simp [h]; rfl⟩
    · exact ⟨26, .inl rfl, by simp [h]; rfl⟩
  obtain ⟨k, hk, ek⟩ := hm
  have kp : 0 < k := by omega
  have q0 := Int.emod_nonneg (c / (64 + 5 * j)) (show k ≠ 0 by omega)
  have q1 := Int.emod_lt_of_pos (c / (64 + 5 * j)) kp
  obtain ⟨d, e1, e2, e3⟩ := sg_at (m := .fr) (n := .fr) q0 (by omega)
  refine ⟨d, ?_, e2, fun hj => e3 (by omega)⟩
  walk_at "ev"
  rw [mul_r (by omega), ek]
  walk_at "ev"
  rw [div_ii (by omega)]
  walk_at "ev"
  rw [mod_ii kp]
  walk_at "ev"
  exact e1
theorem compL_ix {fe : Ev → Option (M × D)} {m : M} {fr : Ev} : ∀ {ds : List D} {P : Nat → Nat → Prop}, (∀ (k : Nat) d, ds[k]? = some d → ∃ x, fe (some (m, d) :: fr) = some (.fr, .str (one x)) ∧ P k x) → ∃ cs : List Nat, compL bYes fe m fr ds = some (((cs.map one).map D.str).map fun x => (M.fr, x)) ∧ cs.length = ds.length ∧ ∀ (k : Nat) x, cs[k]? = some x → P k x
  | [], P, _ => ⟨[], rfl, rfl, fun k x h => by simp at h⟩
  | d :: ds, P, h => by
    obtain ⟨x, h2, h3⟩ := h 0 d rfl
    obtain ⟨cs, q1, q2, q3⟩ := compL_ix (ds := ds) (P := fun k x => P (k + 1) x) fun k e he => h (k + 1) e (by simpa using he)
    refine ⟨x :: cs, ?_, by rw [List.length_cons, List.length_cons, q2], fun k y hy => ?_⟩
    · rw [compL, show bYes (some (m, d) :: fr) = some true from rfl, Option.bind_some, if_pos rfl, h2, Option.bind_some, q1, Option.bind_some]; rfl
    · cases k with
      | zero => simp at hy; subst hy; exact h3
      | succ k => exact q3 k y (by simpa using hy)
theorem names_turn (c : Int) (sz spot : Int) (cs : List Nat) (hy : Nm cs) (hl : cs.length ≤ 8) (hs : 0 ≤ spot ∧ spot < cs.length) (fs : List Str) (hf : fs.length ≤ 60) (j : Int) (many : M × D) (o : Option (M × D)) :
    ∃ (cs' : List Nat) (z : Str), Nm cs' ∧ cs'.length = cs.length ∧ nameS z = true ∧ B_law_names_1 [some (.al, .int c), some many, some (.fr, .str SG), some (.fr, .int sz), some (.fr, .int spot), some (.bo, .lst ((cs.map one).map .str)), some (.bo, .lst (fs.map .str)), some (.fr, .int j), o] =
      some (.nx [some (.al, .int c), some many, some (.fr, .str SG), some (.fr, .int sz), some (.fr, .int spot), some (.bo, .lst ((cs'.map one).map .str)), some (.bo, .lst ((fs ++ [z]).map .str)), some (.fr, .int j), some (.fr, .str z)]) := by
  have q0 := Int.emod_nonneg (c / 64 + j) (show (26 : Int) ≠ 0 by decide)
  have q1 := Int.emod_lt_of_pos (c / 64 + j) (show (0 : Int) < 26 by decide)
  obtain ⟨cp, e1, _, e2⟩ := sg_at (m := .fr) (n := .fr) q0 (by omega)
  have e2 := e2 q1
  have hx : ixN ((cs.map one).map D.str).length spot = some spot.toNat := by
    unfold ixN; rw [List.length_map, List.length_map, if_pos hs.1, if_pos hs.2]
  let cs' := cs.set spot.toNat cp
  have hy' : Nm cs' := hy.set e2
  have hl' : cs'.length = cs.length := List.length_set
  have ez := join_cs (m := .fr) (n := .bo) (cs := cs') (by omega)
  have es : ((cs.map one).map D.str).set spot.toNat (.str ⟨#[cp]⟩) = (cs'.map one).map D.str := by rw [List.map_set, List.map_set]; rfl
  have ef : ∀ w : Str, fs.map D.str ++ [D.str w] = (fs ++ [w]).map D.str := fun w => by rw [List.map_append]; rfl
  unfold B_law_names_1
  by_cases hz : inV (.str ⟨cs'.toArray⟩) [.str "say", .str "go", .str "part", .str "end"] = true
  · obtain ⟨hn, hw⟩ := word0 hz
    refine ⟨cs', ⟨cs'.toArray⟩ ++ "0", hy', hl', hn, ?_⟩
    have hadd : ∀ {m n : M}, gAdd (m, .str ⟨cs'.toArray⟩) (n, .str "0") = some (.fr, .str (⟨cs'.toArray⟩ ++ "0")) := fun {m n} => add_ss (by
      have : ("0" : Str).length = 1 := by decide
      rw [this]
      exact Nat.le_trans (show _ + 1 ≤ 1000 by omega) (by decide))
    walk_at "ev"
    rw [e1]
    walk_at "ev"
    simp -implicitDefEqProofs only [List.length_map] at hx
    rw [hx]
    walk_at "ev"
    rw [es, ez]
    walk_at "ev"
    simp -implicitDefEqProofs only [gInF, dSc, seqD, dScs, hz, Option.bind_some]
    walk_at "ev"
    rw [hadd]
    walk_at "ev"
    rw [if_pos (Nat.lt_of_le_of_lt hf (by decide)), ef]
  · have hz' : inV (.str ⟨cs'.toArray⟩) [.str "say", .str "go", .str "part", .str "end"] = false := by simpa using hz
    refine ⟨cs', ⟨cs'.toArray⟩, hy', hl', name_of (by omega) hy' hz', ?_⟩
    walk_at "ev"
    rw [e1]
    walk_at "ev"
    simp -implicitDefEqProofs only [List.length_map] at hx
    rw [hx]
    walk_at "ev"
    rw [es, ez]
    walk_at "ev"
    simp -implicitDefEqProofs only [gInF, dSc, seqD, dScs, hz', Option.bind_some]
    walk_at "ev"
    rw [if_pos (Nat.lt_of_le_of_lt hf (by decide)), ef]
theorem names_ok (c : Int) (k : Nat) (hk : k ≤ 50) : ∃ fs : List Str, fs.length = k ∧ (∀ z ∈ fs, nameS z = true) ∧ F_law_names [.int c, .int k] = some (.un, .lst (fs.map .str)) := by
  have a0 := Int.emod_nonneg c (show (8 : Int) ≠ 0 by decide)
  have a1 := Int.emod_lt_of_pos c (show (0 : Int) < 8 by decide)
  generalize hsz : (1 : Int) + c % 8 = sz
  have s0 : 0 < sz := by omega
  have s1 : sz ≤ 8 := by omega
  have p0 := Int.emod_nonneg (c / 8) (show sz ≠ 0 by omega)
  have p1 := Int.emod_lt_of_pos (c / 8) s0
  obtain ⟨cs, ex, xl, xo⟩ := compL_ix (fe := jOp gIx (jV 1) (jOp jMod (jOp jDivJ (jV 2) (jOp gAdd (jC (.int 64)) (jOp jMul (jC (.int 5)) (jV 0)))) (jOp gIx (jLst (jCons (jC (.int 26)) (jCons (jC (.int 36)) jNil))) (jCB gInt (jCons (jOp jGt (jV 0) (jC (.int 0))) jNil))))) (m := .fr) (fr := [some (.fr, .str SG), some (.al, .int c)]) (P := fun k x => (isL x || isF x) = true ∧ (k = 0 → isL x = true)) (ds := rng 0 sz.toNat) (fun i d hi => by
    obtain ⟨h1, rfl⟩ := rng_at hi
    obtain ⟨x, e1, e2, e3⟩ := names_elt c (0 + (i : Int)) (by omega) (by omega)
    exact ⟨x, e1, e2, fun h => e3 (by omega)⟩)
  rw [rng_len] at xl
  have hyl : cs.length ≤ 8 := by omega
  have hnm : Nm cs := by
    refine ⟨fun x hx => ?_, ?_⟩
    · obtain ⟨i, hi⟩ := List.mem_iff_getElem?.mp hx
      exact (xo i x hi).1
    · cases cs with
      | nil => simp at xl; omega
      | cons a cs => exact (xo 0 a rfl).2 rfl
  have eL : jLstG (((cs.map one).map D.str).map fun x => (M.fr, x)) = some (.un, .lst ((cs.map one).map D.str)) := lstG_fr (by rw [List.length_map, List.length_map]; omega)
  obtain ⟨e', l1, cs', fs, o, o2, g1, g2, g3, g4, rfl⟩ := forL_inv (g := gN 7) (b := B_law_names_1) (m := .fr) (ds := rng 0 k) (e := [some (.al, .int c), some (.al, .int (k : Int)), some (.fr, .str SG), some (.fr, .int sz), some (.fr, .int (c / 8 % sz)), some (.bo, .lst ((cs.map one).map .str)), some (.bo, .lst []), none, none])
    (fun i e => ∃ (cs' : List Nat) (fs : List Str) (o o2 : Option (M × D)), Nm cs' ∧ cs'.length = cs.length ∧ fs.length = i ∧ (∀ z ∈ fs, nameS z = true) ∧ e = [some (.al, .int c), some (.al, .int (k : Int)), some (.fr, .str SG), some (.fr, .int sz), some (.fr, .int (c / 8 % sz)), some (.bo, .lst ((cs'.map one).map .str)), some (.bo, .lst (fs.map .str)), o, o2])
    ⟨cs, [], none, none, hnm, rfl, rfl, (fun _ h => nomatch h), rfl⟩
    (fun i d e hd ⟨cs', fs, o, o2, g1, g2, g3, g4, he⟩ => by
      obtain ⟨hi, rfl⟩ := rng_at hd
      subst he
      obtain ⟨cs2, z, q1, q2, qn, q3⟩ := names_turn c sz (c / 8 % sz) cs' g1 (by omega) ⟨p0, by omega⟩ fs (by omega) (0 + (i : Int)) (.al, .int (k : Int)) o2
      refine ⟨_, _, rfl, q3, cs2, fs ++ [z], _, _, q1, by omega, by rw [List.length_append, g3]; rfl, fun y hy => ?_, rfl⟩
      rcases List.mem_append.mp hy with h | h
      · exact g4 y h
      · rw [List.mem_singleton] at h; subst h; exact qn)
  rw [rng_len] at g3
  refine ⟨fs, g3, g4, ?_⟩
  have hr : -4611686018427387904 ≤ (k : Int) ∧ (k : Int) < 4611686018427387904 := by omega
  have ht : (k : Int).toNat = k := by omega
  have hr2 : -4611686018427387904 ≤ sz ∧ sz < 4611686018427387904 := by omega
  generalize (k : Int) = kk at l1 hr ht ⊢
  unfold F_law_names fn g_law_names
  walk_at "ev"
  rw [hsz, mod_ii s0, show (Str.ofString "abcdefghijklmnopqrstuvwxyz0123456789") = SG from rfl]
  walk_at "ev"
  simp -implicitDefEqProofs only [jComp]
  walk_at "ev"
  rw [if_pos hr2]
  walk_at "ev"
  have ef : frE [some (M.al, D.int c), some (M.al, D.int kk), some (M.fr, D.str SG), some (M.fr, D.int sz), some (M.fr, D.int (c / 8 % sz)), none, none, none, none] [2, 0] = [some (.fr, .str SG), some (.al, .int c)] := rfl
  show (((((compL _ _ M.fr (frE [some (M.al, D.int c), some (M.al, D.int kk), some (M.fr, D.str SG), some (M.fr, D.int sz), some (M.fr, D.int (c / 8 % sz)), none, none, none, none] [2, 0]) _).bind _).bind _).bind _).bind _) = _
  rw [ef, ex]
  simp -implicitDefEqProofs only [Option.bind_some, eL]
  walk_at "ev"
  rw [if_pos hr, ht]
  walk_at "ev"
  rw [l1]
  walk_at "ev"
theorem nameS_len {z : Str} (h : nameS z = true) : z.length ≤ 8 := by
  simp only [nameS, Bool.and_eq_true, decide_eq_true_eq] at h
  exact h.2.1
theorem Ok.str {z : Str} (h : z.length ≤ 1000) : Ok (.str z) := ⟨by simp [tyN], fun y e => by cases e; exact h⟩
theorem Ok.int {i : Int} : Ok (.int i) := ⟨by simp [tyN], fun y e => by cases e⟩
theorem Ok.non : Ok .non := ⟨by decide, fun y e => by cases e⟩
theorem Ok.bl {b : Bool} : Ok (.bl b) := ⟨by simp [tyN], fun y e => by cases e⟩
theorem Ok.tup {ds : List D} : Ok (.tup ds) := ⟨by simp [tyN], fun y e => by cases e⟩
theorem Ok.lst {ds : List D} : Ok (.lst ds) := ⟨by simp [tyN], fun y e => by cases e⟩
theorem Ok.dk {ds : List (Key × D)} : Ok (.dk ds) := ⟨by simp [tyN], fun y e => by cases e⟩
noncomputable def Opd (d : D) : Prop := opB d = true ∧ Ok d ∧ d.imm = true
theorem opd_name {z : Str} (h : nameS z = true) : Opd (.str z) := ⟨by simp only [opB, nameB, h, Bool.true_or], .str (by have := nameS_len h; omega), im_s⟩
theorem opd_int {i : Int} (h0 : 0 ≤ i) (h1 : i < 18446744073709551616) : Opd (.int i) := ⟨by simp only [opB, nameB, worthB, decide_eq_true h0, decide_eq_true h1]; rfl, .int, im_i⟩
noncomputable abbrev SGN : Str := "+-*&|^<="
theorem SGN_at {m n : M} {i : Int} (h0 : 0 ≤ i) (h1 : i < 8) : ∃ s : Str, gIx (m, .str SGN) (n, .int i) = some (.fr, .str s) ∧ signB (.str s) = true ∧ s.length ≤ 1000 := by
  have hl : SGN.cps.toList.length = 8 := by decide +kernel
  have hs : ∀ i ∈ List.range 8, signB (.str ⟨#[SGN.cps.toList.getD i 0]⟩) = true := by decide +kernel
  refine ⟨⟨#[SGN.cps.toList.getD i.toNat 0]⟩, ?_, hs _ (List.mem_range.mpr (by omega)), by show 1 ≤ 1000; decide⟩
  have hlt : i.toNat < SGN.cps.toList.length := by omega
  rw [ix_si (by decide), atI_get h0 (by rw [hl]; omega), List.getD_eq_getElem?_getD, List.getElem?_eq_getElem hlt]
  rfl
noncomputable def KOk (k : Key) : Prop := Opd (kD k)
noncomputable def RV : Row → Prop
  | .rk x s a b => nameS x = true ∧ (signB (.str s) = true ∧ s.length ≤ 1000) ∧ KOk a ∧ KOk b
  | .cp x a => nameS x = true ∧ KOk a
  | .sy a => KOk a
  | .go _ => True
  | .pt a _ => KOk a
  | .en => True
theorem atI_strsM {ns : List Str} {k : Int} (h0 : 0 ≤ k) (h1 : k < ns.length) : ∃ c, L2.atI (ns.map D.str) k = some (.str c) ∧ c ∈ ns := by
  rw [atI_get h0 (by simpa using h1)]
  exact ⟨ns[k.toNat]'(by omega), by simp, List.getElem_mem _⟩
end K14
namespace K14
open PySem L2 J
local macro_rules | `(tactic| walk_at "ev") => `(tactic| simp -implicitDefEqProofs only [jSeq, jIf, jB, jOp, jUn, jV, jCB, jCons, jNil, jRet, jRetN, jSet, jPass, jC, jCall, jAnd, jOr, jNot, bAnd, bOr, bNot, jIfE, jTup, jLst, jTupG, jLstG, jApp, jSetIx, jAsg, gL, gCons', gNil', jBM, isS, jFrz, frz, jFor, itL, itR1, itm, ownL, own, gN, unfr, slm2, bYes, List.map_cons, List.map_nil, List.length_cons, List.length_nil, List.cons_append, List.nil_append, List.replicate, List.getElem?_cons_zero, List.getElem?_cons_succ, List.set_cons_zero, List.set_cons_succ, List.all_cons, List.all_nil, Option.bind_some, Option.bind_none, Option.map_some, Option.map_none, id_eq, eq_ii, eq_ss, eq_bb, ne_ii, ne_ss, add_ii, sub_ii, lt_ii, le_ii, gt_ii, ge_ii, neg_i, ix_li, ix_ti, len_l, len_t, abs_i, int_i, int_b, dBl_b, dInt_i, slot_fr, slot_al, slot_un, out_fr, out_un, out_bo, out_nx, sto_fr, sto_un, sto_al, im_i, im_s, im_b, im_n, elm_al, elm_fr, elm_un, elm_bo, if_true, if_false, Bool.and_self, Bool.and_true, Bool.true_and, Bool.false_eq_true, decide_true, decide_false, reduceIte, reduceCtorEq, List.length_map, Nat.reduceAdd, Nat.reduceSub, Bool.not_true, Bool.not_false, szT, szT', Nat.reduceLeDiff, mul_r, mod_ii, div_ii, pow64, Int.reducePow, Int.reduceNeg, Int.reduceLT, Int.reduceLE, Int.reduceToNat, and_self, and_true, true_and, Nat.reduceLT, ne_eq, not_false_eq_true])
theorem digits_turn (c n s : Int) (ms : D) (hs : 0 < s ∧ s < 1000000) (fs : List Int) (hf : fs.length ≤ 60) :
    B_law_digits_1 [some (.al, .int c), some (.al, ms), some (.fr, .int n), some (.bo, .lst (fs.map .int)), some (.al, .int s)] = some (.nx [some (.al, .int c), some (.al, ms), some (.fr, .int (n / s)), some (.bo, .lst ((fs ++ [n % s]).map .int)), some (.al, .int s)]) := by
  have ef : fs.map D.int ++ [D.int (n % s)] = (fs ++ [n % s]).map D.int := by rw [List.map_append]; rfl
  unfold B_law_digits_1
  walk_at "ev"
  rw [mod_ii hs.1]
  walk_at "ev"
  rw [if_pos (Nat.lt_of_le_of_lt hf (by decide)), ef]
  walk_at "ev"
  rw [div_ii (by omega)]
  walk_at "ev"
theorem digits_ok (c : Int) (ms : List Int) (hm : ∀ m ∈ ms, 0 < m ∧ m < 1000000) (hl : ms.length ≤ 50) : ∃ ds : List Int, F_law_digits [.int c, .lst (ms.map .int)] = some (.un, .lst (ds.map .int)) ∧ Paired (fun m d => 0 ≤ d ∧ d < m) ms ds := by
  obtain ⟨e', l1, n, fs, o, g1, rfl⟩ := forL_inv (g := gN 4) (b := B_law_digits_1) (m := .al) (ds := ms.map D.int) (e := [some (.al, .int c), some (.al, .lst (ms.map .int)), some (.fr, .int (c * 48271 % 2147483647)), some (.bo, .lst []), none])
    (fun i e => ∃ (n : Int) (fs : List Int) (o : Option (M × D)), Paired (fun m d => 0 ≤ d ∧ d < m) (ms.take i) fs ∧ e = [some (.al, .int c), some (.al, .lst (ms.map .int)), some (.fr, .int n), some (.bo, .lst (fs.map .int)), o])
    ⟨_, [], none, by rw [List.take_zero]; exact .nil, rfl⟩
    (fun i d e hd ⟨n, fs, o, g1, he⟩ => by
      subst he
      rw [List.getElem?_map] at hd
      cases hm' : ms[i]? with
      | none => rw [hm'] at hd; cases hd
      | some s =>
        rw [hm'] at hd
        cases hd
        have hs := hm s (List.mem_of_getElem? hm')
        have hfl : fs.length ≤ 60 := by
          rw [← Paired.length g1, List.length_take]; omega
        refine ⟨_, _, rfl, digits_turn c n s _ hs fs hfl, _, _, _, ?_, rfl⟩
        rw [My.take_snoc hm']
        exact Paired.snoc g1 ⟨Int.emod_nonneg _ (by omega), Int.emod_lt_of_pos _ hs.1⟩)
  rw [List.length_map, List.take_of_length_le (Nat.le_refl _)] at g1
  refine ⟨fs, ?_, g1⟩
  unfold F_law_digits fn g_law_digits
  walk_at "ev"
  rw [l1]
  walk_at "ev"
theorem operand_ok (d c : Int) (ns : List Str) (hv : ∀ z ∈ ns, nameS z = true) (h0 : 0 ≤ d) : ∃ k : Key, F_law_operand [.int d, .int c, .lst (ns.map .str)] = some (.fr, kD k) ∧ KOk k := by
  unfold F_law_operand fn g_law_operand
  walk_at "ev"
  by_cases h : d < ns.length
  · obtain ⟨z, hz, hm⟩ := atI_strsM h0 h
    refine ⟨.inr z, ?_, opd_name (hv z hm)⟩
    simp only [h, hz]
    walk_at "ev"
    simp only [out_al, im_s]; rfl
  · simp only [h]
    walk_at "ev"
    by_cases h2 : d = ns.length
    · simp only [h2]
      walk_at "ev"
      have q0 := Int.emod_nonneg c (show (3 : Int) ≠ 0 by decide)
      have q1 := Int.emod_lt_of_pos c (show (0 : Int) < 3 by decide)
      exact ⟨.inl _, rfl, opd_int q0 (by omega)⟩
    · simp only [h2]
      walk_at "ev"
      by_cases h3 : c % 3 = 0
      · simp only [h3]
        walk_at "ev"
        have q0 := Int.emod_nonneg (c / 3) (show (9 : Int) ≠ 0 by decide)
        have q1 := Int.emod_lt_of_pos (c / 3) (show (0 : Int) < 9 by decide)
        exact ⟨.inl _, rfl, opd_int (by omega) (by omega)⟩
      · simp only [h3]
        walk_at "ev"
        exact ⟨.inl _, rfl, opd_int (Int.emod_nonneg _ (by decide)) (Int.emod_lt_of_pos _ (by decide))⟩
noncomputable def Fresh : Row → Prop
  | .go _ => False
  | .en => False
  | .pt a t => (0 ≤ t ∧ t < 1000) ∧ KOk a
  | .rk x s a b => RV (.rk x s a b)
  | .cp x a => RV (.cp x a)
  | .sy a => RV (.sy a)
theorem fresh_rv {x : Row} (h : Fresh x) : RV x := by
  cases x with
  | go _ => exact trivial
  | en => exact trivial
  | pt a t => exact h.2
  | rk x s a b => exact h
  | cp x a => exact h
  | sy a => exact h
theorem row_ok (c : Int) (ns : List Str) (hv : ∀ z ∈ ns, nameS z = true) (h1 : 0 < ns.length) (h2 : ns.length ≤ 50) : ∃ r : Row, F_law_row [.int c, .lst (ns.map .str)] = some (.fr, r.d) ∧ Fresh r := by
  obtain ⟨ds, ed, hp⟩ := digits_ok c [12, (ns.length : Int), 8, (ns.length : Int) + 2, (ns.length : Int) + 2] (by
    intro m hm
    simp only [List.mem_cons, List.not_mem_nil, or_false] at hm
    omega) (by show 5 ≤ 50; decide)
  cases hp with | @cons _ dk _ ds hk hp =>
  cases hp with | @cons _ dx _ ds hx hp =>
  cases hp with | @cons _ dsg _ ds hsg hp =>
  cases hp with | @cons _ da _ ds ha hp =>
  cases hp with | @cons _ db _ ds hb hp =>
  cases hp
  obtain ⟨ka, ea, va⟩ := operand_ok da c ns hv ha.1
  obtain ⟨kb, eb, vb⟩ := operand_ok db (c / 7) ns hv hb.1
  obtain ⟨x, ex, xm⟩ := atI_strsM hx.1 hx.2
  obtain ⟨sg, esg, vs, vl⟩ := SGN_at (m := .fr) (n := .fr) hsg.1 hsg.2
  simp only [List.map_cons, List.map_nil] at ed
  have hka := kD_imm ka
  have hkb := kD_imm kb
  unfold F_law_row fn g_law_row
  walk_at "ev"
  rw [ed]
  walk_at "ev"
  rw [ea]
  walk_at "ev"
  by_cases g1 : dk < 7
  · refine ⟨.rk x sg ka kb, ?_, hv x xm, ⟨vs, vl⟩, va, vb⟩
    simp only [g1, ex]
    walk_at "ev"
    rw [esg]
    walk_at "ev"
    rw [eb]
    walk_at "ev"
    rfl
  · simp only [g1]
    walk_at "ev"
    by_cases g2 : dk < 9
    · refine ⟨.cp x ka, ?_, hv x xm, va⟩
      simp only [g2, ex]
      walk_at "ev"
      rfl
    · simp only [g2]
      walk_at "ev"
      by_cases g3 : dk = 9
      · refine ⟨.sy ka, ?_, va⟩
        simp only [g3]
        walk_at "ev"
        rfl
      · refine ⟨.pt ka (c / 5 % 1000), ?_, ⟨Int.emod_nonneg _ (by decide), Int.emod_lt_of_pos _ (by decide)⟩, va⟩
        simp only [g3]
        walk_at "ev"
        rfl
noncomputable def Shuts (os : List Int) (x : Row) : Prop := x = .en ∨ (∃ o ∈ os, x = .go o) ∨ ∃ k : Int, 0 ≤ k ∧ k < 1000 ∧ x = .go (-1 - k)
theorem app_rows (rs : List Row) (x : Row) : rs.map Row.d ++ [x.d] = (rs ++ [x]).map Row.d := by rw [List.map_append]; rfl
theorem tup_go (t : Int) : D.tup [.str "go", .int t] = Row.d (.go t) := rfl
theorem tup_pt (a : Key) (t : Int) : D.tup [.str "part", kD a, .int t] = Row.d (.pt a t) := rfl
theorem shut_end (rs : List Row) (b : Nat) (a : Key) (t : Int) (hb : rs[b]? = some (.pt a t)) (x : Row) (c : Int) (os : List Int) (hl : rs.length ≤ 900) :
    jSetIx 0 (jV 1) (jTup (jCons (jC (.str "part")) (jCons (jOp gIx (jOp gIx (jV 0) (jV 1)) (jC (.int 1))) (jCons (jCB gLen (jCons (jV 0) jNil)) jNil)))) [some (.bi, .lst ((rs ++ [x]).map Row.d)), some (.al, .int b), some (.al, .int c), some (.bi, .lst (os.map .int))] =
      some (.nx [some (.bi, .lst (((rs ++ [x]).set b (.pt a ((rs.length : Int) + 1))).map Row.d)), some (.al, .int b), some (.al, .int c), some (.bi, .lst (os.map .int))]) := by
  have hlt : b < rs.length := (List.getElem?_eq_some_iff.mp hb).1
  have hlt' : b < (rs ++ [x]).length := by rw [List.length_append]; omega
  have hat : L2.atI ((rs ++ [x]).map Row.d) (b : Int) = some (Row.d (.pt a t)) := by
    rw [atI_nat (by rw [List.length_map]; exact hlt'), List.getElem_map, List.getElem_append_left hlt]
    rw [List.getElem?_eq_getElem hlt] at hb
    rw [Option.some.inj hb]
  have hix : ixN ((rs ++ [x]).map Row.d).length (b : Int) = some b := by
    unfold ixN
    rw [List.length_map, if_pos (by omega), if_pos (by omega)]
    simp
  have h1 : ∀ {m n : M}, gIx (m, Row.d (.pt a t)) (n, .int 1) = some (elm m, kD a) := fun {m n} => rfl
  have ka := kD_imm a
  have hlen : (((rs ++ [x]).map Row.d).length : Int) = (rs.length : Int) + 1 := by rw [List.length_map, List.length_append]; rfl
  have es : ∀ w : Row, ((rs ++ [x]).map Row.d).set b w.d = ((rs ++ [x]).set b w).map Row.d := fun w => by rw [List.map_set]
  generalize hR : (rs ++ [x]).map Row.d = R at hat hix hlen es ⊢
  generalize (b : Int) = bb at hat hix ⊢
  walk_at "ev"
  rw [hat]
  walk_at "ev"
  rw [h1]
  walk_at "ev"
  simp only [own, elm]
  rw [hlen, hix]
  walk_at "ev"
  rw [tup_pt, es]
theorem startIO4 (a b c d : D) : startIO [0, 3] [a, b, c, d] = [some (.bi, a), some (.al, b), some (.al, c), some (.bi, d)] := rfl
theorem shut_ok (rs : List Row) (b : Nat) (a : Key) (t : Int) (hb : rs[b]? = some (.pt a t)) (c : Int) (os : List Int) (ho : os ≠ []) (hl : rs.length ≤ 900) :
    ∃ x, Shuts os x ∧ F_law_shut [.lst (rs.map Row.d), .int b, .int c, .lst (os.map .int)] = some (.fr, .non, [.lst (((rs ++ [x]).set b (.pt a ((rs.length : Int) + 1))).map Row.d), .lst (os.map .int)]) := by
  have hop : (0 : Int) < os.length := by
    cases os with
    | nil => exact absurd rfl ho
    | cons o os => simp only [List.length_cons]; omega
  have fin : ∀ x : Row, outIO [0, 3] (.nx [some (.bi, .lst (((rs ++ [x]).set b (.pt a ((rs.length : Int) + 1))).map Row.d)), some (.al, .int b), some (.al, .int c), some (.bi, .lst (os.map .int))]) = some (.fr, .non, [.lst (((rs ++ [x]).set b (.pt a ((rs.length : Int) + 1))).map Row.d), .lst (os.map .int)]) := fun x => by
    simp only [outIO, out, envOf, J.collect, List.getElem?_cons_zero, List.getElem?_cons_succ, cim, rows_imm, imms_ints, if_true, Option.bind_some]
  have hsl : (rs.map Row.d).length < sizeLine := by rw [List.length_map]; exact Nat.lt_of_le_of_lt hl (by decide)
  have se := fun x => shut_end rs b a t hb x c os hl
  have app : ∀ {f : Ev → Option (M × D)} {x : Row}, f [some (.bi, .lst (rs.map Row.d)), some (.al, .int b), some (.al, .int c), some (.bi, .lst (os.map .int))] = some (.fr, x.d) →
      jApp 0 f [some (.bi, .lst (rs.map Row.d)), some (.al, .int b), some (.al, .int c), some (.bi, .lst (os.map .int))] = some (.nx [some (.bi, .lst ((rs ++ [x]).map Row.d)), some (.al, .int b), some (.al, .int c), some (.bi, .lst (os.map .int))]) := fun {f x} hf => by
    simp -implicitDefEqProofs only [jApp, hf, Option.bind_some, sto_fr, if_true, ownL, own, List.getElem?_cons_zero, hsl, List.set_cons_zero, app_rows]
  have go : ∀ {x : Row}, Shuts os x → (jIf (jB (jOp gEq (jOp jMod (jOp jDivJ (jV 2) (jC (.int 3))) (jC (.int 3))) (jC (.int 0)))) (jApp 0 (jTup (jCons (jC (.str "end")) jNil)))
      (jIf (jB (jOp gEq (jOp jMod (jOp jDivJ (jV 2) (jC (.int 3))) (jC (.int 3))) (jC (.int 1)))) (jApp 0 (jTup (jCons (jC (.str "go")) (jCons (jOp gIx (jV 3) (jOp jMod (jOp jDivJ (jV 2) (jC (.int 9))) (jCB gLen (jCons (jV 3) jNil)))) jNil))))
      (jApp 0 (jTup (jCons (jC (.str "go")) (jCons (jOp jSub (jUn gNeg (jC (.int 1))) (jOp jMod (jOp jDivJ (jV 2) (jC (.int 9))) (jC (.int 1000)))) jNil)))))) [some (.bi, .lst (rs.map Row.d)), some (.al, .int b), some (.al, .int c), some (.bi, .lst (os.map .int))] = some (.nx [some (.bi, .lst ((rs ++ [x]).map Row.d)), some (.al, .int b), some (.al, .int c), some (.bi, .lst (os.map .int))]) →
      ∃ x, Shuts os x ∧ F_law_shut [.lst (rs.map Row.d), .int b, .int c, .lst (os.map .int)] = some (.fr, .non, [.lst (((rs ++ [x]).set b (.pt a ((rs.length : Int) + 1))).map Row.d), .lst (os.map .int)]) := fun {x} hx h => by
    refine ⟨x, hx, ?_⟩
    unfold F_law_shut fnIO g_law_shut
    rw [startIO4, List.length_cons, List.length_cons, List.length_cons, List.length_cons, List.length_nil, Nat.sub_self, List.replicate_zero, List.append_nil, seq_nx h, se x, Option.bind_some, fin x]
  have ctest : ∀ k : Int, (jB (jOp gEq (jOp jMod (jOp jDivJ (jV 2) (jC (.int 3))) (jC (.int 3))) (jC (.int k)))) [some (.bi, .lst (rs.map Row.d)), some (.al, .int b), some (.al, .int c), some (.bi, .lst (os.map .int))] = some (decide (c / 3 % 3 = k)) := fun k => by
    walk_at "ev"
  by_cases h0 : c / 3 % 3 = 0
  · refine go (x := .en) (.inl rfl) ?_
    rw [if_t (by rw [ctest, h0]; rfl)]
    exact app (by walk_at "ev"; rfl)
  · by_cases h1 : c / 3 % 3 = 1
    · have q0 := Int.emod_nonneg (c / 9) (show (os.length : Int) ≠ 0 by omega)
      have q1 := Int.emod_lt_of_pos (c / 9) hop
      have hat : L2.atI (os.map D.int) (c / 9 % os.length) = some (.int (os[(c / 9 % os.length).toNat]'(by omega))) := by
        rw [atI_get q0 (by rw [List.length_map]; exact q1)]; simp
      refine go (x := .go (os[(c / 9 % os.length).toNat]'(by omega))) (.inr (.inl ⟨_, List.getElem_mem _, rfl⟩)) ?_
      rw [if_f (by rw [ctest]; simp only [h0, decide_false]), if_t (by rw [ctest, h1]; rfl)]
      refine app ?_
      walk_at "ev"
      rw [mod_ii hop]
      walk_at "ev"
      rw [hat]
      walk_at "ev"
      simp only [elm, sto, D.imm]
      walk_at "ev"
      rfl
    · refine go (x := .go (-1 - c / 9 % 1000)) (.inr (.inr ⟨_, Int.emod_nonneg _ (by decide), Int.emod_lt_of_pos _ (by decide), rfl⟩)) ?_
      rw [if_f (by rw [ctest]; simp only [h0, decide_false]), if_f (by rw [ctest]; simp only [h1, decide_false])]
      exact app (by walk_at "ev"; rfl)
noncomputable def Row.isGo : Row → Bool
  | .go _ => true
  | _ => false
noncomputable def Row.isPt : Row → Bool
  | .pt _ _ => true
  | _ => false
theorem w_go (r : Row) : decide (r.word = ("go" : Str)) = Row.isGo r := by
  cases r with
  | rk x s a b => exact (by decide +kernel : decide (("reckon" : Str) = "go") = false)
  | cp x a => exact (by decide +kernel : decide (("copy" : Str) = "go") = false)
  | sy a => exact (by decide +kernel : decide (("say" : Str) = "go") = false)
  | go t => exact (by decide +kernel : decide (("go" : Str) = "go") = true)
  | pt a t => exact (by decide +kernel : decide (("part" : Str) = "go") = false)
  | en => exact (by decide +kernel : decide (("end" : Str) = "go") = false)
theorem w_pt (r : Row) : decide (r.word = ("part" : Str)) = Row.isPt r := by
  cases r with
  | rk x s a b => exact (by decide +kernel : decide (("reckon" : Str) = "part") = false)
  | cp x a => exact (by decide +kernel : decide (("copy" : Str) = "part") = false)
  | sy a => exact (by decide +kernel : decide (("say" : Str) = "part") = false)
  | go t => exact (by decide +kernel : decide (("go" : Str) = "part") = false)
  | pt a t => exact (by decide +kernel : decide (("part" : Str) = "part") = true)
  | en => exact (by decide +kernel : decide (("end" : Str) = "part") = false)
theorem ix0 (m n : M) (r : Row) : gIx (m, r.d) (n, .int 0) = some (elm m, .str r.word) := by
  show (L2.atI r.ds 0).map (fun d => (elm m, d)) = _
  rw [Row.at0]; rfl
noncomputable def turnRow (many n : Int) : Row → Row
  | .go t => if t < 0 then .go (n + 1 + (-1 - t) % (many - n - 1)) else .go t
  | .pt a t => .pt a (if t % many = n + 1 then n else t % many)
  | r => r
theorem turn_turn (many n : Int) (hm : 0 < many) (r : Row) (hr : ∀ t, r = .go t → n + 1 < many) (rows : M × D) (fs : List Row) (hf : fs.length ≤ 900) (o : Option (M × D)) :
    ∃ m o', B_law_turned_to_1 [some rows, some (.fr, .int many), some (.bo, .lst (fs.map Row.d)), some (.al, .int n), some (.al, r.d), o] = some (.nx [some rows, some (.fr, .int many), some (.bo, .lst ((fs ++ [turnRow many n r]).map Row.d)), some (.al, .int n), some (m, (turnRow many n r).d), o']) := by
  have hsl : (fs.map Row.d).length < sizeLine := by rw [List.length_map]; exact Nat.lt_of_le_of_lt hf (by decide)
  rw [List.length_map] at hsl
  have ap : ∀ x : Row, fs.map Row.d ++ [x.d] = (fs ++ [x]).map Row.d := app_rows fs
  unfold B_law_turned_to_1
  simp -implicitDefEqProofs only [jSeq, jIf, bAnd, jB, jOp, jV, jC, List.getElem?_cons_zero, List.getElem?_cons_succ, Option.bind_some, id_eq, ix0, eq_ss, dBl_b, w_go, w_pt]
  cases r with
  | go t =>
    simp only [Row.isGo, Row.isPt]
    have h1 : ∀ {m n : M}, gIx (m, Row.d (.go t)) (n, .int 1) = some (elm m, .int t) := fun {m n} => rfl
    by_cases ht : t < 0
    · have hp : 0 < many - n - 1 := by have := hr t rfl; omega
      refine ⟨.fr, o, ?_⟩
      simp only [turnRow, if_pos ht]
      walk_at "ev"
      rw [h1]
      walk_at "ev"
      simp only [ht]
      walk_at "ev"
      rw [mod_ii hp]
      walk_at "ev"
      simp -implicitDefEqProofs only [hsl, tup_go, ap, if_true]
    · refine ⟨.al, o, ?_⟩
      simp only [turnRow, if_neg ht]
      walk_at "ev"
      rw [h1]
      walk_at "ev"
      simp only [ht]
      walk_at "ev"
      simp -implicitDefEqProofs only [Row.imm, hsl, ap, if_true]
  | pt a t =>
    simp only [Row.isGo, Row.isPt]
    have h1 : ∀ {m n : M}, gIx (m, Row.d (.pt a t)) (n, .int 1) = some (elm m, kD a) := fun {m n} => rfl
    have h2 : ∀ {m n : M}, gIx (m, Row.d (.pt a t)) (n, .int 2) = some (elm m, .int t) := fun {m n} => rfl
    have ka := kD_imm a
    have hat : L2.atI [D.int (t % many), D.int n] (if decide (t % many = n + 1) = true then 1 else 0) = some (.int (if t % many = n + 1 then n else t % many)) := by
      by_cases h : t % many = n + 1
      · simp [h]; rfl
      · simp [h]; rfl
    refine ⟨.fr, some (.fr, .int (t % many)), ?_⟩
    simp only [turnRow]
    walk_at "ev"
    rw [h2]
    walk_at "ev"
    rw [mod_ii hm]
    walk_at "ev"
    rw [h1]
    walk_at "ev"
    rw [hat]
    walk_at "ev"
    simp only [ka]
    walk_at "ev"
    simp -implicitDefEqProofs only [tup_pt, hsl, ap, if_true]
  | rk x s a b =>
    refine ⟨.al, o, ?_⟩
    simp only [Row.isGo, Row.isPt, turnRow]
    walk_at "ev"
    simp -implicitDefEqProofs only [Row.imm, hsl, ap, if_true]
  | cp x a =>
    refine ⟨.al, o, ?_⟩
    simp only [Row.isGo, Row.isPt, turnRow]
    walk_at "ev"
    simp -implicitDefEqProofs only [Row.imm, hsl, ap, if_true]
  | sy a =>
    refine ⟨.al, o, ?_⟩
    simp only [Row.isGo, Row.isPt, turnRow]
    walk_at "ev"
    simp -implicitDefEqProofs only [Row.imm, hsl, ap, if_true]
  | en =>
    refine ⟨.al, o, ?_⟩
    simp only [Row.isGo, Row.isPt, turnRow]
    walk_at "ev"
    simp -implicitDefEqProofs only [Row.imm, hsl, ap, if_true]
theorem enum_at {rs : List Row} {i : Nat} {d : D} (h : (enumD (rs.map Row.d))[i]? = some d) : ∃ r, rs[i]? = some r ∧ d = .tup [.int i, r.d] := by
  unfold enumD at h
  rw [List.getElem?_mapIdx, List.getElem?_map] at h
  cases e : rs[i]? with
  | none => rw [e] at h; cases h
  | some r => rw [e] at h; cases h; exact ⟨r, rfl, rfl⟩
noncomputable def turnAll (rs : List Row) : List Row := rs.mapIdx fun (i : Nat) r => turnRow rs.length i r
theorem turned_ok (rs : List Row) (h0 : 0 < rs.length) (hl : rs.length ≤ 900) (hr : ∀ (i : Nat) t, rs[i]? = some (.go t) → i + 1 < rs.length) : F_law_turned_to [.lst (rs.map Row.d)] = some (.un, .lst ((turnAll rs).map Row.d)) := by
  have l1 := forL_inv (g := gT 2 (gCons' (gN 3) (gCons' (gN 4) gNil'))) (b := B_law_turned_to_1) (m := .al) (ds := enumD (rs.map Row.d)) (e := [some (.al, .lst (rs.map Row.d)), some (.fr, .int (rs.length : Int)), some (.bo, .lst []), none, none, none])
    (fun i e => ∃ (o1 o2 o3 : Option (M × D)), e = [some (.al, .lst (rs.map Row.d)), some (.fr, .int (rs.length : Int)), some (.bo, .lst (((turnAll rs).take i).map Row.d)), o1, o2, o3])
    ⟨none, none, none, by rw [List.take_zero]; rfl⟩
    (fun i d e hd ⟨o1, o2, o3, he⟩ => by
      subst he
      obtain ⟨r, hri, rfl⟩ := enum_at hd
      have hi : i < rs.length := (List.getElem?_eq_some_iff.mp hri).1
      have hta : (turnAll rs)[i]? = some (turnRow rs.length i r) := by
        unfold turnAll; rw [List.getElem?_mapIdx, hri]; rfl
      obtain ⟨m, o', q⟩ := turn_turn rs.length i (by omega) r (fun t e => by have := hr i t (by rw [hri, e]); omega) (.al, .lst (rs.map Row.d)) ((turnAll rs).take i) (by rw [List.length_take]; omega) o3
      exact ⟨_, _, rfl, q, some (.al, .int i), some (m, (turnRow rs.length i r).d), o', by rw [My.take_snoc hta]⟩)
  obtain ⟨e', l1, o1, o2, o3, rfl⟩ := l1
  have hL : (enumD (rs.map Row.d)).length = (turnAll rs).length := by simp [enumD, turnAll]
  rw [hL, List.take_of_length_le (Nat.le_refl _)] at l1
  unfold F_law_turned_to fn g_law_turned_to
  walk_at "ev"
  simp -implicitDefEqProofs only [itE, jCons, jV, jNil, List.getElem?_cons_zero, Option.bind_some, id_eq, itm, Option.map_some]
  rw [l1]
  walk_at "ev"
noncomputable def bump : Row → Row
  | .go t => .go (t + 1)
  | .pt a t => .pt a (t + 1)
  | r => r
theorem w_in (r : Row) : inV (.str r.word) [.str "go", .str "part"] = (Row.isGo r || Row.isPt r) := by
  cases r with
  | rk x s a b => exact (by decide +kernel : inV (.str "reckon") [.str "go", .str "part"] = false)
  | cp x a => exact (by decide +kernel : inV (.str "copy") [.str "go", .str "part"] = false)
  | sy a => exact (by decide +kernel : inV (.str "say") [.str "go", .str "part"] = false)
  | go t => exact (by decide +kernel : inV (.str "go") [.str "go", .str "part"] = true)
  | pt a t => exact (by decide +kernel : inV (.str "part") [.str "go", .str "part"] = true)
  | en => exact (by decide +kernel : inV (.str "end") [.str "go", .str "part"] = false)
theorem sl_go (m : M) (t : Int) : gSl (m, Row.d (.go t)) none (some (-1)) = some (elm m, .tup [.str "go"]) := rfl
theorem sl_pt (m : M) (a : Key) (t : Int) : gSl (m, Row.d (.pt a t)) none (some (-1)) = some (elm m, .tup [.str "part", kD a]) := rfl
theorem ixl_go (m n : M) (t : Int) : gIx (m, Row.d (.go t)) (n, .int (-1)) = some (elm m, .int t) := rfl
theorem ixl_pt (m n : M) (a : Key) (t : Int) : gIx (m, Row.d (.pt a t)) (n, .int (-1)) = some (elm m, .int t) := rfl
theorem tested_turn (r : Row) (rows nm many : Option (M × D)) (fs : List Row) (hf : fs.length ≤ 900) : ∃ m, B_law_tested_1 [rows, nm, many, some (.bo, .lst (fs.map Row.d)), some (.fr, r.d)] = some (.nx [rows, nm, many, some (.bo, .lst ((fs ++ [bump r]).map Row.d)), some (m, (bump r).d)]) := by
  have hsl : fs.length < sizeLine := Nat.lt_of_le_of_lt hf (by decide)
  have ap : ∀ x : Row, fs.map Row.d ++ [x.d] = (fs ++ [x]).map Row.d := app_rows fs
  unfold B_law_tested_1
  simp -implicitDefEqProofs only [jSeq, jIf, jB, jOp, jV, jC, jTup, jCons, jNil, jTupG, List.getElem?_cons_zero, List.getElem?_cons_succ, Option.bind_some, id_eq, ix0, dBl_b, List.length_cons, List.length_nil, Nat.reduceAdd, szT, Nat.reduceLeDiff, List.all_cons, List.all_nil, sto_fr, Bool.and_self, if_true, List.map_cons, List.map_nil, gInF, dSc, seqD, dScs, w_in, Bool.false_eq_true, if_false]
  cases r with
  | go t =>
    refine ⟨.fr, ?_⟩
    simp only [Row.isGo, Row.isPt, bump, Bool.or_false]
    walk_at "ev"
    simp -implicitDefEqProofs only [jSl, jNoP, jPart, jUn, jV, jC, List.getElem?_cons_zero, List.getElem?_cons_succ, id_eq, neg_i, Int.reduceNeg, dInt_i, Option.map_some, Option.bind_some, sl_go, ixl_go, elm_fr]
    walk_at "ev"
    rw [cat_tt (by simp [elm]) (by simp [elm]) (by simp only [List.length_cons, List.length_nil]; exact Nat.le_trans (show 0 + 1 + (0 + 1) ≤ 1000 by decide) (by decide))]
    walk_at "ev"
    simp only [mJ, elm]
    walk_at "ev"
    simp -implicitDefEqProofs only [tup_go, hsl, ap, if_true]
  | pt a t =>
    refine ⟨.fr, ?_⟩
    simp only [Row.isGo, Row.isPt, bump, Bool.false_or]
    walk_at "ev"
    simp -implicitDefEqProofs only [jSl, jNoP, jPart, jUn, jV, jC, List.getElem?_cons_zero, List.getElem?_cons_succ, id_eq, neg_i, Int.reduceNeg, dInt_i, Option.map_some, Option.bind_some, sl_pt, ixl_pt, elm_fr]
    walk_at "ev"
    rw [cat_tt (by simp [elm]) (by simp [elm]) (by simp only [List.length_cons, List.length_nil]; exact Nat.le_trans (show 0 + 1 + 1 + (0 + 1) ≤ 1000 by decide) (by decide))]
    walk_at "ev"
    simp only [mJ, elm]
    walk_at "ev"
    simp -implicitDefEqProofs only [tup_pt, hsl, ap, if_true]
  | rk x s a b =>
    refine ⟨.fr, ?_⟩
    simp only [Row.isGo, Row.isPt, bump, Bool.or_false]
    walk_at "ev"
    simp -implicitDefEqProofs only [hsl, ap, if_true]
  | cp x a =>
    refine ⟨.fr, ?_⟩
    simp only [Row.isGo, Row.isPt, bump, Bool.or_false]
    walk_at "ev"
    simp -implicitDefEqProofs only [hsl, ap, if_true]
  | sy a =>
    refine ⟨.fr, ?_⟩
    simp only [Row.isGo, Row.isPt, bump, Bool.or_false]
    walk_at "ev"
    simp -implicitDefEqProofs only [hsl, ap, if_true]
  | en =>
    refine ⟨.fr, ?_⟩
    simp only [Row.isGo, Row.isPt, bump, Bool.or_false]
    walk_at "ev"
    simp -implicitDefEqProofs only [hsl, ap, if_true]
noncomputable def Row.plain : Row → Prop
  | .go _ => False
  | .en => False
  | _ => True
theorem fresh_plain {x : Row} (h : Fresh x) : Row.plain x := by cases x <;> first | exact h.elim | exact trivial
structure PX (rs : List Row) (os : List Int) (bg : Option Nat) : Prop where
  ol : ∀ x ∈ os, ∃ n : Nat, x = (n : Int) ∧ n < rs.length
  oc : ∀ n : Nat, (n : Int) ∈ os → bg ≠ some n → ∃ k : Nat, n < k ∧ ((k : Int) ∈ os ∨ (k = rs.length ∧ bg = none)) ∧ ((k = n + 1 ∧ ∃ r, rs[n]? = some r ∧ Row.plain r) ∨ (n + 1 < k ∧ ∃ a, rs[n]? = some (.pt a (k : Int))))
  bo : ∀ n, bg = some n → (n : Int) ∈ os ∧ n < rs.length
  s : ∀ (i : Nat) r, rs[i]? = some r → ¬ Row.plain r → ∃ b a, b < i ∧ rs[b]? = some (.pt a ((i + 1 : Nat) : Int)) ∧ bg ≠ some b
  gt : ∀ (i : Nat) t, rs[i]? = some (.go t) → 0 ≤ t → t ∈ os
  v : ∀ r ∈ rs, RV r
theorem PX.nil : PX [] [] none := by
  refine ⟨fun x h => (nomatch h), fun n h => (nomatch h), fun n h => (nomatch h), fun i r h => ?_, fun i t h => ?_, fun r h => (nomatch h)⟩
  · rw [List.getElem?_nil] at h; cases h
  · rw [List.getElem?_nil] at h; cases h
theorem get_left {rs : List Row} {x r : Row} {i : Nat} (h : rs[i]? = some r) : (rs ++ [x])[i]? = some r := by
  rw [List.getElem?_append_left (List.getElem?_eq_some_iff.mp h).1]; exact h
theorem getx_snoc {rs : List Row} {x r : Row} {i : Nat} (h : (rs ++ [x])[i]? = some r) : rs[i]? = some r ∨ (i = rs.length ∧ r = x) := by
  rw [List.getElem?_append] at h
  split at h
  · exact .inl h
  · rename_i hi
    have : i - rs.length = 0 := by
      rcases Nat.eq_zero_or_pos (i - rs.length) with z | z
      · exact z
      · rw [List.getElem?_eq_none (by simp; omega)] at h; cases h
    rw [this] at h
    simp at h
    exact .inr ⟨by omega, h.symm⟩
theorem oc_left {rs : List Row} {x : Row} {n k : Nat} (h : (k = n + 1 ∧ ∃ r, rs[n]? = some r ∧ Row.plain r) ∨ (n + 1 < k ∧ ∃ a, rs[n]? = some (.pt a (k : Int)))) : (k = n + 1 ∧ ∃ r, (rs ++ [x])[n]? = some r ∧ Row.plain r) ∨ (n + 1 < k ∧ ∃ a, (rs ++ [x])[n]? = some (.pt a (k : Int))) := by
  rcases h with ⟨e, r, h1, h2⟩ | ⟨e, a, h1⟩
  · exact .inl ⟨e, r, get_left h1, h2⟩
  · exact .inr ⟨e, a, get_left h1⟩
theorem rv_snoc {rs : List Row} {x : Row} (h : ∀ r ∈ rs, RV r) (hx : RV x) : ∀ r ∈ rs ++ [x], RV r := fun r hr => by
  rcases List.mem_append.mp hr with z | z
  · exact h r z
  · rw [List.mem_singleton] at z; subst z; exact hx
theorem PX.row {rs : List Row} {os : List Int} {bg : Option Nat} {x : Row} (h : PX rs os bg) (hx : Fresh x) : PX (rs ++ [x]) (if bg = none then os ++ [(rs.length : Int)] else os) bg := by
  have hl : (rs ++ [x]).length = rs.length + 1 := by simp
  have ss : ∀ (i : Nat) r, (rs ++ [x])[i]? = some r → ¬ Row.plain r → ∃ b a, b < i ∧ (rs ++ [x])[b]? = some (.pt a ((i + 1 : Nat) : Int)) ∧ bg ≠ some b := fun i r hi hp => by
    rcases getx_snoc hi with z | ⟨_, z⟩
    · obtain ⟨b, a, h1, h2, h3⟩ := h.s i r z hp
      exact ⟨b, a, h1, get_left h2, h3⟩
    · subst z; exact absurd (fresh_plain hx) hp
  cases bg with
  | none =>
    simp only [if_true]
    refine ⟨fun y hy => ?_, fun n hn _ => ?_, fun n hn => (nomatch hn), ss, fun i t hi h0 => ?_, rv_snoc h.v (fresh_rv hx)⟩
    · rcases List.mem_append.mp hy with z | z
      · obtain ⟨n, e, hn⟩ := h.ol y z; exact ⟨n, e, by omega⟩
      · have : y = rs.length := by simpa using z
        exact ⟨rs.length, this, by omega⟩
    · rcases List.mem_append.mp hn with z | z
      · obtain ⟨k, k1, k2, k3⟩ := h.oc n z (fun z => nomatch z)
        refine ⟨k, k1, .inl ?_, oc_left k3⟩
        rcases k2 with k2 | ⟨k2, _⟩
        · exact List.mem_append_left _ k2
        · rw [k2]; simp
      · have : n = rs.length := Int.ofNat_inj.mp (by simpa using z)
        subst this
        exact ⟨rs.length + 1, by omega, .inr ⟨hl.symm, rfl⟩, .inl ⟨rfl, x, by simp, fresh_plain hx⟩⟩
    · rcases getx_snoc hi with z | ⟨_, z⟩
      · exact List.mem_append_left _ (h.gt i t z h0)
      · subst z; exact hx.elim
  | some b =>
    simp only [reduceCtorEq, if_false]
    refine ⟨fun y hy => ?_, fun n hn hb => ?_, fun n hn => ?_, ss, fun i t hi h0 => ?_, rv_snoc h.v (fresh_rv hx)⟩
    · obtain ⟨n, e, hn⟩ := h.ol y hy; exact ⟨n, e, by omega⟩
    · obtain ⟨k, k1, k2, k3⟩ := h.oc n hn hb
      refine ⟨k, k1, .inl ?_, oc_left k3⟩
      rcases k2 with k2 | ⟨_, k2⟩
      · exact k2
      · cases k2
    · obtain ⟨a1, a2⟩ := h.bo n hn; exact ⟨a1, by omega⟩
    · rcases getx_snoc hi with z | ⟨_, z⟩
      · exact h.gt i t z h0
      · subst z; exact hx.elim
theorem PX.open {rs : List Row} {os : List Int} {a : Key} (h : PX rs os none) (ha : KOk a) : PX (rs ++ [.pt a 0]) (os ++ [(rs.length : Int)]) (some rs.length) := by
  have hl : (rs ++ [Row.pt a 0]).length = rs.length + 1 := by simp
  have q := h.row (x := .pt a 0) ⟨⟨by decide, by decide⟩, ha⟩
  simp only [if_true] at q
  refine ⟨q.ol, fun n hn hb => ?_, fun n hn => ?_, fun i r hi hp => ?_, q.gt, q.v⟩
  · rcases List.mem_append.mp hn with z | z
    · obtain ⟨k, k1, k2, k3⟩ := h.oc n z (fun z => nomatch z)
      refine ⟨k, k1, .inl ?_, oc_left k3⟩
      rcases k2 with k2 | ⟨k2, _⟩
      · exact List.mem_append_left _ k2
      · rw [k2]; simp
    · have : n = rs.length := Int.ofNat_inj.mp (by simpa using z)
      subst this; exact absurd rfl hb
  · cases hn; exact ⟨by simp, by omega⟩
  · rcases getx_snoc hi with z | ⟨_, z⟩
    · obtain ⟨b, a', h1, h2, _⟩ := h.s i r z hp
      have := (List.getElem?_eq_some_iff.mp z).1
      exact ⟨b, a', h1, get_left h2, fun e => by cases e; omega⟩
    · subst z; exact absurd trivial hp
theorem PX.shut {rs : List Row} {os : List Int} {b : Nat} {a : Key} {t : Int} {x : Row} (h : PX rs os (some b)) (hb : rs[b]? = some (.pt a t)) (hx : Shuts os x) : PX ((rs ++ [x]).set b (.pt a ((rs.length : Int) + 1))) os none := by
  have hlt : b < rs.length := (List.getElem?_eq_some_iff.mp hb).1
  have hl : ((rs ++ [x]).set b (.pt a ((rs.length : Int) + 1))).length = rs.length + 1 := by simp
  have atb : ((rs ++ [x]).set b (.pt a ((rs.length : Int) + 1)))[b]? = some (.pt a ((rs.length + 1 : Nat) : Int)) := by
    rw [List.getElem?_set_self (by simp; omega)]; rfl
  have atn : ∀ {n : Nat} {r : Row}, n ≠ b → rs[n]? = some r → ((rs ++ [x]).set b (.pt a ((rs.length : Int) + 1)))[n]? = some r := fun {n r} hn hr => by
    rw [List.getElem?_set_ne (fun z => hn z.symm)]; exact get_left hr
  refine ⟨fun y hy => ?_, fun n hn _ => ?_, fun n hn => (nomatch hn), fun i r hi hp => ?_, fun i t' hi h0 => ?_, fun r hr => ?_⟩
  · obtain ⟨n, e, hn⟩ := h.ol y hy; exact ⟨n, e, by omega⟩
  · by_cases e : n = b
    · subst e
      exact ⟨rs.length + 1, by omega, .inr ⟨hl.symm, rfl⟩, .inr ⟨by omega, a, atb⟩⟩
    · obtain ⟨k, k1, k2, k3⟩ := h.oc n hn (fun z => e (Option.some.inj z).symm)
      refine ⟨k, k1, ?_, ?_⟩
      · rcases k2 with k2 | ⟨_, k2⟩
        · exact .inl k2
        · cases k2
      · rcases k3 with ⟨e1, r, h1, h2⟩ | ⟨e1, a', h1⟩
        · exact .inl ⟨e1, r, atn e h1, h2⟩
        · exact .inr ⟨e1, a', atn e h1⟩
  · rcases get_set hi with ⟨_, z⟩ | ⟨ne, z⟩
    · subst z; exact absurd trivial hp
    · rcases getx_snoc z with z | ⟨e, z⟩
      · obtain ⟨b', a', h1, h2, h3⟩ := h.s i r z hp
        exact ⟨b', a', h1, atn (fun e => h3 (by rw [e])) h2, fun e => nomatch e⟩
      · subst e
        exact ⟨b, a, hlt, atb, fun e => nomatch e⟩
  · rcases get_set hi with ⟨_, z⟩ | ⟨ne, z⟩
    · cases z
    · rcases getx_snoc z with z | ⟨_, z⟩
      · exact h.gt i t' z h0
      · subst z
        rcases hx with z | ⟨o, ho, z⟩ | ⟨k, k0, k1, z⟩
        · cases z
        · cases z; exact ho
        · cases z; omega
  · rcases List.mem_or_eq_of_mem_set hr with z | z
    · refine rv_snoc h.v ?_ r z
      rcases hx with z | ⟨o, ho, z⟩ | ⟨k, k0, k1, z⟩ <;> (subst z; exact trivial)
    · subst z; exact (show RV (.pt a t) from h.v _ (List.mem_of_getElem? hb))
theorem cut_last {α : Type} (l : List α) : cut l none (some (-1)) = l.dropLast := by
  unfold cut HT.sIx
  simp only [List.drop_zero, Nat.sub_zero]
  rw [List.dropLast_eq_take]
  congr 1
  have : (-1 : Int) < 0 := by decide
  rw [if_pos this]
  omega
noncomputable def testAll (rs : List Row) (nm : Str) : List Row := .go rs.length :: (rs.dropLast.map bump ++ [.pt (.inr nm) 1, .en])
theorem tested_ok (rs : List Row) (nm : Str) (hl : rs.length ≤ 800) : F_law_tested [.lst (rs.map Row.d), .str nm] = some (.un, .lst ((testAll rs nm).map Row.d)) := by
  have l1 := forL_inv (g := gN 4) (b := B_law_tested_1) (m := .fr) (ds := rs.dropLast.map Row.d) (e := [some (.al, .lst (rs.map Row.d)), some (.al, .str nm), some (.fr, .int (rs.length : Int)), some (.bo, .lst [Row.d (.go rs.length)]), none])
    (fun i e => ∃ (o1 : Option (M × D)), e = [some (.al, .lst (rs.map Row.d)), some (.al, .str nm), some (.fr, .int (rs.length : Int)), some (.bo, .lst ((.go rs.length :: (rs.dropLast.map bump).take i).map Row.d)), o1])
    ⟨none, by rw [List.take_zero]; rfl⟩
    (fun i d e hd ⟨o1, he⟩ => by
      subst he
      rw [List.getElem?_map] at hd
      cases hm : rs.dropLast[i]? with
      | none => rw [hm] at hd; cases hd
      | some r =>
        rw [hm] at hd
        cases hd
        have hi : i < rs.dropLast.length := (List.getElem?_eq_some_iff.mp hm).1
        rw [List.length_dropLast] at hi
        have hb : (rs.dropLast.map bump)[i]? = some (bump r) := by rw [List.getElem?_map, hm]; rfl
        obtain ⟨m, q⟩ := tested_turn r (some (.al, .lst (rs.map Row.d))) (some (.al, .str nm)) (some (.fr, .int (rs.length : Int))) (.go rs.length :: (rs.dropLast.map bump).take i) (by rw [List.length_cons, List.length_take]; omega)
        exact ⟨_, _, rfl, q, some (m, (bump r).d), by rw [My.take_snoc hb]; rfl⟩)
  obtain ⟨e', l1, o1, rfl⟩ := l1
  have hL : (rs.dropLast.map Row.d).length = (rs.dropLast.map bump).length := by simp
  rw [hL, List.take_of_length_le (Nat.le_refl _)] at l1
  have hs : gSl (.al, .lst (rs.map Row.d)) none (some (-1)) = some (.un, .lst (rs.dropLast.map Row.d)) := by
    show (match gSlL (.al, .lst (rs.map Row.d)) none (some (-1)) with | some z => some z | none => _) = _
    rw [show gSlL (.al, .lst (rs.map Row.d)) none (some (-1)) = some (.un, .lst (rs.dropLast.map Row.d)) by
      simp only [gSlL, cut_last, ← List.map_dropLast]; exact mkL_al (rows_imm _)]
  have hc : gAdd (.bo, .lst ((.go rs.length :: rs.dropLast.map bump).map Row.d)) (.un, .lst [.tup [.str "part", .str nm, .int 1], .tup [.str "end"]]) = some (.un, .lst ((testAll rs nm).map Row.d)) := by
    rw [cat_ll (by simp [elm]) (by simp [elm]) (by
      simp only [List.length_map, List.length_cons, List.length_nil, List.length_dropLast]
      exact Nat.le_trans (show rs.length - 1 + 1 + (0 + 1 + 1) ≤ 1000 by omega) (by decide)), mJ_bu, mkL_fr]
    simp only [testAll, List.map_cons, List.map_append, List.map_nil, List.cons_append]
    rfl
  unfold F_law_tested fn g_law_tested
  walk_at "ev"
  simp -implicitDefEqProofs only [jSl, jNoP, jPart, jUn, jV, jC, List.getElem?_cons_zero, List.getElem?_cons_succ, id_eq, neg_i, Int.reduceNeg, dInt_i, Option.map_some, Option.bind_some, hs, tup_go]
  rw [l1]
  rw [List.map_cons] at hc
  walk_at "ev"
  rw [hc]
  walk_at "ev"
structure PS (rs : List Row) (os : List Int) (bg : Option Nat) : Prop where
  o : ∀ x ∈ os, 0 ≤ x ∧ x ≤ rs.length
  b : ∀ n, bg = some n → (∃ a t, rs[n]? = some (.pt a t)) ∧ os ≠ []
  g : ∀ (i : Nat) t, rs[i]? = some (.go t) → t < rs.length + 1
  r : ∀ (i : Nat) a t, rs[i]? = some (.pt a t) → 0 ≤ t
  x : PX rs os bg
noncomputable def bgD : Option Nat → D
  | none => .non
  | some n => .int n
theorem PS.nil : PS [] [] none := by
  refine ⟨fun x h => ?_, fun n h => ?_, fun i t h => ?_, fun i a t h => ?_, PX.nil⟩
  · cases h
  · cases h
  · rw [List.getElem?_nil] at h; cases h
  · rw [List.getElem?_nil] at h; cases h
theorem get_snoc {rs : List Row} {x r : Row} {i : Nat} (h : (rs ++ [x])[i]? = some r) : rs[i]? = some r ∨ (i = rs.length ∧ r = x) := by
  rw [List.getElem?_append] at h
  split at h
  · exact .inl h
  · rename_i hi
    have : i - rs.length = 0 := by
      rcases Nat.eq_zero_or_pos (i - rs.length) with z | z
      · exact z
      · rw [List.getElem?_eq_none (by simp; omega)] at h; cases h
    rw [this] at h
    simp at h
    exact .inr ⟨by omega, h.symm⟩
theorem PS.row {rs : List Row} {os : List Int} {bg : Option Nat} {x : Row} (h : PS rs os bg) (hx : Fresh x) : PS (rs ++ [x]) (if bg = none then os ++ [(rs.length : Int)] else os) bg := by
  refine ⟨fun y hy => ?_, fun n hn => ?_, fun i t hi => ?_, fun i a t hi => ?_, h.x.row hx⟩
  · rw [List.length_append]
    split at hy
    · rcases List.mem_append.mp hy with z | z
      · have := h.o y z; simp only [List.length_cons, List.length_nil]; omega
      · have : y = rs.length := by simpa using z
        simp only [List.length_cons, List.length_nil]; omega
    · have := h.o y hy; simp only [List.length_cons, List.length_nil]; omega
  · obtain ⟨⟨a, t, q⟩, ne⟩ := h.b n hn
    refine ⟨⟨a, t, ?_⟩, ?_⟩
    · rw [List.getElem?_append_left (List.getElem?_eq_some_iff.mp q).1]; exact q
    · rw [hn]; simpa using ne
  · rw [List.length_append]
    rcases get_snoc hi with z | ⟨_, z⟩
    · have := h.g i t z; simp only [List.length_cons, List.length_nil]; omega
    · subst z; exact hx.elim
  · rcases get_snoc hi with z | ⟨_, z⟩
    · exact h.r i a t z
    · subst z; exact hx.1.1
theorem PS.open {rs : List Row} {os : List Int} {a : Key} (h : PS rs os none) (ha : KOk a) : PS (rs ++ [.pt a 0]) (os ++ [(rs.length : Int)]) (some rs.length) := by
  have q := h.row (x := .pt a 0) ⟨⟨by decide, by decide⟩, ha⟩
  simp only [if_true] at q
  refine ⟨q.o, fun n hn => ?_, q.g, q.r, h.x.open ha⟩
  cases hn
  exact ⟨⟨a, 0, by simp⟩, by simp⟩
theorem PS.shut {rs : List Row} {os : List Int} {b : Nat} {a : Key} {t : Int} {x : Row} (h : PS rs os (some b)) (hb : rs[b]? = some (.pt a t)) (hx : Shuts os x) : PS ((rs ++ [x]).set b (.pt a ((rs.length : Int) + 1))) os none := by
  refine ⟨fun y hy => ?_, fun n hn => (nomatch hn), fun i t' hi => ?_, fun i a' t' hi => ?_, h.x.shut hb hx⟩
  · have := h.o y hy
    rw [List.length_set, List.length_append]; simp only [List.length_cons, List.length_nil]; omega
  · rw [List.length_set, List.length_append]
    simp only [List.length_cons, List.length_nil]
    rcases get_set hi with ⟨_, z⟩ | ⟨_, z⟩
    · cases z
    · rcases get_snoc z with z | ⟨_, z⟩
      · have := h.g i t' z; omega
      · subst z
        rcases hx with z | ⟨o, ho, z⟩ | ⟨k, k0, k1, z⟩
        · cases z
        · cases z; have := h.o _ ho; omega
        · cases z; omega
  · rcases get_set hi with ⟨_, z⟩ | ⟨_, z⟩
    · cases z; omega
    · rcases get_snoc z with z | ⟨_, z⟩
      · exact h.r i a' t' z
      · subst z
        rcases hx with z | ⟨o, ho, z⟩ | ⟨k, k0, k1, z⟩ <;> cases z
theorem isN_n {m n : M} : gIsN (m, .non) (n, .non) = some (.fr, .bl true) := rfl
theorem isN_i {m n : M} {i : Int} : gIsN (m, .int i) (n, .non) = some (.fr, .bl false) := rfl
theorem notN_n {m n : M} : gNotN (m, .non) (n, .non) = some (.fr, .bl false) := rfl
theorem notN_i {m n : M} {i : Int} : gNotN (m, .int i) (n, .non) = some (.fr, .bl true) := rfl
theorem ioB_shut {R : List D} {O' : List D} {b c : Int} (h1 : D.imms R = true) (h2 : D.imms O' = true) : ioB [0, 3] [3, 4] [(0, 3), (1, 5), (3, 4)] [(.bo, .lst R), (.fr, .int b), (.fr, .int c), (.bo, .lst O')] = true := by
  simp [ioB, List.range_succ, own, cim, sta, h1, h2]
theorem shut_call (cells names more : Option (M × D)) (rs : List Row) (os : List Int) (b : Nat) (a : Key) (t : Int) (hb : rs[b]? = some (.pt a t)) (ho : os ≠ []) (hl : rs.length ≤ 900) (cc : Int) (o6 : Option (M × D)) (f : Ev → Option (M × D))
    (hf : f [cells, names, more, some (.bo, .lst (rs.map Row.d)), some (.bo, .lst (os.map .int)), some (.fr, .int b), o6] = some (.fr, .int cc)) :
    ∃ x, Shuts os x ∧ jDropIO [0, 3] [3, 4] [(0, 3), (1, 5), (3, 4)] F_law_shut (jCons (jV 3) (jCons (jV 5) (jCons f (jCons (jV 4) jNil)))) [cells, names, more, some (.bo, .lst (rs.map Row.d)), some (.bo, .lst (os.map .int)), some (.fr, .int b), o6] =
      some (.nx [cells, names, more, some (.bo, .lst (((rs ++ [x]).set b (.pt a ((rs.length : Int) + 1))).map Row.d)), some (.bo, .lst (os.map .int)), some (.fr, .int b), o6]) := by
  obtain ⟨x, hx, e⟩ := shut_ok rs b a t hb cc os ho hl
  refine ⟨x, hx, ?_⟩
  have hB := ioB_shut (b := b) (c := cc) (rows_imm rs) (imms_ints os)
  simp -implicitDefEqProofs only [jDropIO, jCallIO, jCons, jNil, jV, hf, List.getElem?_cons_zero, List.getElem?_cons_succ, Option.bind_some, id_eq, hB, if_true, List.map_cons, List.map_nil, e, setIO, List.set_cons_zero, List.set_cons_succ]
theorem prog_turn (cells : Option (M × D)) (ns : List Str) (hv : ∀ z ∈ ns, nameS z = true) (h1 : 0 < ns.length) (h2 : ns.length ≤ 50) (more : Option (M × D)) (rs : List Row) (os : List Int) (bg : Option Nat) (h : PS rs os bg) (hl : rs.length ≤ 800) (hl2 : os.length ≤ 800) (c : Int) (mc : M) (hmc : mc = .al ∨ mc = .fr) :
    ∃ rs' os' bg', PS rs' os' bg' ∧ rs'.length ≤ rs.length + 1 ∧ os'.length ≤ os.length + 1 ∧ B_law_program_1 [cells, some (.al, .lst (ns.map .str)), more, some (.bo, .lst (rs.map Row.d)), some (.bo, .lst (os.map .int)), some (.fr, bgD bg), some (mc, .int c)] =
      some (.nx [cells, some (.al, .lst (ns.map .str)), more, some (.bo, .lst (rs'.map Row.d)), some (.bo, .lst (os'.map .int)), some (.fr, bgD bg'), some (mc, .int c)]) := by
  have s1 : rs.length < sizeLine := Nat.lt_of_le_of_lt hl (by decide)
  have s2 : os.length < sizeLine := Nat.lt_of_le_of_lt hl2 (by decide)
  have ai : ∀ x : Int, os.map D.int ++ [D.int x] = (os ++ [x]).map D.int := fun x => by rw [List.map_append]; rfl
  have ar := app_rows rs
  obtain ⟨r, er, fr⟩ := row_ok (c / 11) ns hv h1 h2
  have hr : ∀ {e : Ev}, jV 6 e = some (mc, .int c) → jV 1 e = some (.al, .lst (ns.map .str)) → jCall F_law_row (jCons (jOp jDivJ (jV 6) (jC (.int 11))) (jCons (jV 1) jNil)) e = some (.fr, r.d) := fun {e} q1 q2 => by
    simp -implicitDefEqProofs only [jCall, jCons, jNil, jOp, jC, q1, q2, Option.bind_some, div_ii (show (0 : Int) < 11 ∧ (11 : Int) < 1606938044258990275541962092341162602522202993782792835301376 by decide), List.map_cons, List.map_nil, er]
  have hnp : (0 : Int) < (ns.length : Int) + 1 := by omega
  have q0 := Int.emod_nonneg (c / 11) (show (ns.length : Int) + 1 ≠ 0 by omega)
  obtain ⟨ka, ea, va⟩ := operand_ok (c / 11 % ((ns.length : Int) + 1)) c ns hv q0
  have kai := kD_imm ka
  cases bg with
  | none =>
    by_cases g : c % 11 = 3
    · refine ⟨rs ++ [.pt ka 0], os ++ [(rs.length : Int)], some rs.length, h.open va, by simp, by simp, ?_⟩
      unfold B_law_program_1
      simp only [bgD]
      walk_at "ev"
      simp -implicitDefEqProofs only [isN_n, g]
      walk_at "ev"
      simp -implicitDefEqProofs only [s2, ai, if_true]
      walk_at "ev"
      rw [mod_ii hnp]
      walk_at "ev"
      rw [ea]
      walk_at "ev"
      simp -implicitDefEqProofs only [s1, tup_pt, ar, if_true]
    · refine ⟨rs ++ [r], os ++ [(rs.length : Int)], none, ?_, by simp, by simp, ?_⟩
      · have := h.row fr; simpa using this
      unfold B_law_program_1
      simp only [bgD]
      have c1 : (bAnd (jB (jOp gEq (jOp jMod (jV 6) (jC (.int 11))) (jC (.int 3)))) (jB (jOp gIsN (jV 5) (jC .non)))) [cells, some (.al, .lst (ns.map .str)), more, some (.bo, .lst (rs.map Row.d)), some (.bo, .lst (os.map .int)), some (.fr, .non), some (mc, .int c)] = some false := by
        walk_at "ev"
        simp only [g]
        walk_at "ev"
      have c2 : (bAnd (jB (jOp jLt (jOp jMod (jV 6) (jC (.int 11))) (jC (.int 3)))) (jB (jOp gNotN (jV 5) (jC .non)))) [cells, some (.al, .lst (ns.map .str)), more, some (.bo, .lst (rs.map Row.d)), some (.bo, .lst (os.map .int)), some (.fr, .non), some (mc, .int c)] = some false := by
        walk_at "ev"
        by_cases g2 : c % 11 < 3
        · simp only [g2]
          walk_at "ev"
          simp only [notN_n]
          walk_at "ev"
        · simp only [g2]
          walk_at "ev"
      rw [if_f c1, if_f c2]
      have a1 : jIf (jB (jOp gIsN (jV 5) (jC .non))) (jApp 4 (jCB gLen (jCons (jV 3) jNil))) jPass [cells, some (.al, .lst (ns.map .str)), more, some (.bo, .lst (rs.map Row.d)), some (.bo, .lst (os.map .int)), some (.fr, .non), some (mc, .int c)] = some (.nx [cells, some (.al, .lst (ns.map .str)), more, some (.bo, .lst (rs.map Row.d)), some (.bo, .lst ((os ++ [(rs.length : Int)]).map .int)), some (.fr, .non), some (mc, .int c)]) := by
        walk_at "ev"
        simp -implicitDefEqProofs only [isN_n]
        walk_at "ev"
        simp -implicitDefEqProofs only [s2, ai, if_true]
      rw [seq_nx a1]
      simp -implicitDefEqProofs only [jApp]
      rw [hr rfl rfl]
      walk_at "ev"
      simp -implicitDefEqProofs only [s1, ar, if_true]
  | some b =>
    obtain ⟨⟨a, t, hb⟩, ho⟩ := h.b b rfl
    have c1 : (bAnd (jB (jOp gEq (jOp jMod (jV 6) (jC (.int 11))) (jC (.int 3)))) (jB (jOp gIsN (jV 5) (jC .non)))) [cells, some (.al, .lst (ns.map .str)), more, some (.bo, .lst (rs.map Row.d)), some (.bo, .lst (os.map .int)), some (.fr, .int b), some (mc, .int c)] = some false := by
      walk_at "ev"
      by_cases g2 : c % 11 = 3
      · simp only [g2]
        walk_at "ev"
        simp only [isN_i]
        walk_at "ev"
      · simp only [g2]
        walk_at "ev"
    have c2 : (bAnd (jB (jOp jLt (jOp jMod (jV 6) (jC (.int 11))) (jC (.int 3)))) (jB (jOp gNotN (jV 5) (jC .non)))) [cells, some (.al, .lst (ns.map .str)), more, some (.bo, .lst (rs.map Row.d)), some (.bo, .lst (os.map .int)), some (.fr, .int b), some (mc, .int c)] = some (decide (c % 11 < 3)) := by
      walk_at "ev"
      by_cases g2 : c % 11 < 3
      · simp only [g2]
        walk_at "ev"
        simp only [notN_i]
        walk_at "ev"
      · simp only [g2]
        walk_at "ev"
    unfold B_law_program_1
    simp only [bgD]
    rw [if_f c1]
    by_cases g : c % 11 < 3
    · obtain ⟨x, hx, ex⟩ := shut_call cells (some (.al, .lst (ns.map .str))) more rs os b a t hb ho (by omega) (c / 11) (some (mc, .int c)) (jOp jDivJ (jV 6) (jC (.int 11))) (by walk_at "ev")
      refine ⟨(rs ++ [x]).set b (.pt a ((rs.length : Int) + 1)), os, none, h.shut hb hx, by simp, by omega, ?_⟩
      rw [if_t (by rw [c2]; simp only [g, decide_true]), seq_nx ex]
      walk_at "ev"
    · refine ⟨rs ++ [r], os, some b, ?_, by simp, by omega, ?_⟩
      · have := h.row fr; simpa using this
      rw [if_f (by rw [c2]; simp only [g, decide_false])]
      have a1 : jIf (jB (jOp gIsN (jV 5) (jC .non))) (jApp 4 (jCB gLen (jCons (jV 3) jNil))) jPass [cells, some (.al, .lst (ns.map .str)), more, some (.bo, .lst (rs.map Row.d)), some (.bo, .lst (os.map .int)), some (.fr, .int b), some (mc, .int c)] = some (.nx [cells, some (.al, .lst (ns.map .str)), more, some (.bo, .lst (rs.map Row.d)), some (.bo, .lst (os.map .int)), some (.fr, .int b), some (mc, .int c)]) := by
        walk_at "ev"
        simp -implicitDefEqProofs only [isN_i]
        walk_at "ev"
      rw [seq_nx a1]
      simp -implicitDefEqProofs only [jApp]
      rw [hr rfl rfl]
      walk_at "ev"
      simp -implicitDefEqProofs only [s1, ar, if_true]
structure Good (rs : List Row) : Prop where
  pos : 0 < rs.length
  last : rs[rs.length - 1]? = some .en
  go : ∀ (i : Nat) t, rs[i]? = some (.go t) → 0 ≤ t ∧ t < rs.length
  pt : ∀ (i : Nat) a t, rs[i]? = some (.pt a t) → 0 ≤ t ∧ t < rs.length ∧ t ≠ i + 1
theorem turn_at {rs : List Row} {i : Nat} {r : Row} (h : (turnAll rs)[i]? = some r) : ∃ q, rs[i]? = some q ∧ r = turnRow rs.length i q := by
  unfold turnAll at h
  rw [List.getElem?_mapIdx] at h
  cases e : rs[i]? with
  | none => rw [e] at h; cases h
  | some q => rw [e] at h; cases h; exact ⟨q, rfl, rfl⟩
theorem turn_len (rs : List Row) : (turnAll rs).length = rs.length := by simp [turnAll]
theorem good_turn {rs : List Row} {os : List Int} (h : PS rs os none) : Good (turnAll (rs ++ [.en])) := by
  have hl : (rs ++ [Row.en]).length = rs.length + 1 := by simp
  refine ⟨by rw [turn_len, hl]; omega, ?_, fun i t hi => ?_, fun i a t hi => ?_⟩
  · rw [turn_len, hl]
    unfold turnAll
    rw [List.getElem?_mapIdx]
    simp only [Nat.add_sub_cancel]
    rw [List.getElem?_append_right (Nat.le_refl _), Nat.sub_self]
    rfl
  · rw [turn_len]
    obtain ⟨q, hq, e⟩ := turn_at hi
    rw [hl] at e ⊢
    cases q with
    | go t0 =>
      rcases get_snoc hq with z | ⟨_, z⟩
      · have hlt : i < rs.length := (List.getElem?_eq_some_iff.mp z).1
        have g := h.g i t0 z
        simp only [turnRow] at e
        split at e
        · cases e
          have hp : (0 : Int) < ((rs.length + 1 : Nat) : Int) - i - 1 := by omega
          have e0 := Int.emod_nonneg (-1 - t0) (show ((rs.length + 1 : Nat) : Int) - i - 1 ≠ 0 by omega)
          have e1 := Int.emod_lt_of_pos (-1 - t0) hp
          omega
        · cases e; omega
      · cases z
    | pt a t0 => simp only [turnRow] at e; cases e
    | rk x s a b => cases e
    | cp x a => cases e
    | sy a => cases e
    | en => cases e
  · rw [turn_len]
    obtain ⟨q, hq, e⟩ := turn_at hi
    rw [hl] at e ⊢
    cases q with
    | pt a0 t0 =>
      simp only [turnRow] at e
      cases e
      have hlt : i < rs.length := by
        rcases get_snoc hq with z | ⟨_, z⟩
        · exact (List.getElem?_eq_some_iff.mp z).1
        · cases z
      have e0 := Int.emod_nonneg t0 (show ((rs.length + 1 : Nat) : Int) ≠ 0 by omega)
      have e1 := Int.emod_lt_of_pos t0 (show (0 : Int) < ((rs.length + 1 : Nat) : Int) by omega)
      split
      · omega
      · omega
    | go t0 => simp only [turnRow] at e; split at e <;> cases e
    | rk x s a b => cases e
    | cp x a => cases e
    | sy a => cases e
    | en => cases e
theorem good_test {rs : List Row} {nm : Str} (h : Good rs) : Good (testAll rs nm) := by
  have hl : (testAll rs nm).length = rs.length + 2 := by
    simp only [testAll, List.length_cons, List.length_append, List.length_map, List.length_dropLast, List.length_nil]
    have := h.pos; omega
  have at_ : ∀ {i : Nat} {r : Row}, (testAll rs nm)[i]? = some r → (i = 0 ∧ r = .go rs.length) ∨ (∃ j q, i = j + 1 ∧ rs[j]? = some q ∧ r = bump q) ∨ (i = rs.length ∧ r = .pt (.inr nm) 1) ∨ (i = rs.length + 1 ∧ r = .en) := by
    intro i r hi
    cases i with
    | zero => simp only [testAll, List.getElem?_cons_zero, Option.some.injEq] at hi; exact .inl ⟨rfl, hi.symm⟩
    | succ j =>
      simp only [testAll, List.getElem?_cons_succ] at hi
      rw [List.getElem?_append] at hi
      simp only [List.length_map, List.length_dropLast] at hi
      split at hi
      · rename_i hj
        rw [List.getElem?_map] at hi
        cases e : rs.dropLast[j]? with
        | none => rw [e] at hi; cases hi
        | some q =>
          rw [e] at hi; cases hi
          have e2 : rs[j]? = some q := by
            rw [List.dropLast_eq_take, List.getElem?_take_of_lt hj] at e
            exact e
          exact .inr (.inl ⟨j, q, rfl, e2, rfl⟩)
      · rename_i hj
        have hp := h.pos
        have : j - (rs.length - 1) = 0 ∨ j - (rs.length - 1) = 1 := by
          rcases Nat.lt_or_ge (j - (rs.length - 1)) 2 with z | z
          · omega
          · rw [List.getElem?_eq_none (by simpa using z)] at hi; cases hi
        rcases this with z | z
        · rw [z] at hi; cases hi; exact .inr (.inr (.inl ⟨by omega, rfl⟩))
        · rw [z] at hi; cases hi; exact .inr (.inr (.inr ⟨by omega, rfl⟩))
  refine ⟨by rw [hl]; omega, ?_, fun i t hi => ?_, fun i a t hi => ?_⟩
  · rw [hl]
    have hp := h.pos
    show (testAll rs nm)[rs.length + 1]? = _
    simp only [testAll, List.getElem?_cons_succ]
    rw [List.getElem?_append_right (by simp)]
    simp only [List.length_map, List.length_dropLast]
    have : rs.length - (rs.length - 1) = 1 := by omega
    rw [this]; rfl
  · rw [hl]
    rcases at_ hi with ⟨_, z⟩ | ⟨j, q, _, hq, z⟩ | ⟨_, z⟩ | ⟨_, z⟩
    · cases z; omega
    · cases q <;> simp only [bump] at z <;> cases z
      have := h.go j _ hq; omega
    · cases z
    · cases z
  · rw [hl]
    have hp := h.pos
    rcases at_ hi with ⟨_, z⟩ | ⟨j, q, e, hq, z⟩ | ⟨e, z⟩ | ⟨_, z⟩
    · cases z
    · cases q <;> simp only [bump] at z <;> cases z
      have := h.pt j _ _ hq; omega
    · cases z; omega
    · cases z
noncomputable def fol (n : Int) : Row → List Int
  | .en => []
  | .go t => [t]
  | .pt _ t => [n + 1, t]
  | _ => [n + 1]
noncomputable def Stp (rs : List Row) (i j : Nat) : Prop := ∃ r, rs[i]? = some r ∧ (j : Int) ∈ fol i r ∧ j < rs.length
inductive Rch (rs : List Row) : Nat → Nat → Prop
  | refl (i : Nat) : Rch rs i i
  | step {i j k : Nat} : Stp rs i j → Rch rs j k → Rch rs i k
theorem Rch.trans {rs : List Row} {i j k : Nat} (h : Rch rs i j) (h' : Rch rs j k) : Rch rs i k := by
  induction h with
  | refl => exact h'
  | step s _ ih => exact .step s (ih h')
theorem Rch.snoc {rs : List Row} {i j k : Nat} (h : Rch rs i j) (s : Stp rs j k) : Rch rs i k := h.trans (.step s (.refl k))
structure Live (rs : List Row) : Prop where
  to : ∀ i, i < rs.length → Rch rs 0 i
  on : ∀ i, i < rs.length → ∃ e, Rch rs i e ∧ rs[e]? = some .en
theorem plain_next {rs : List Row} {i : Nat} {r : Row} (h : rs[i]? = some r) (hp : Row.plain r) (hl : i + 1 < rs.length) : Stp rs i (i + 1) := by
  refine ⟨r, h, ?_, hl⟩
  cases r <;> first | exact hp.elim | simp [fol]
theorem turn_get {rs : List Row} {i : Nat} {q : Row} (h : rs[i]? = some q) : (turnAll rs)[i]? = some (turnRow rs.length i q) := by
  unfold turnAll
  rw [List.getElem?_mapIdx, h]
  rfl
theorem turn_plain {m n : Int} {r : Row} (h : Row.plain r) : Row.plain (turnRow m n r) := by cases r <;> first | exact h.elim | exact trivial
theorem live_turn {rs : List Row} {os : List Int} (h : PS rs os none) : Live (turnAll (rs ++ [.en])) := by
  have hl : (rs ++ [Row.en]).length = rs.length + 1 := by simp
  have tl : (turnAll (rs ++ [.en])).length = rs.length + 1 := by rw [turn_len, hl]
  have hx := h.x
  have at_ : ∀ {i : Nat} {q : Row}, rs[i]? = some q → (turnAll (rs ++ [.en]))[i]? = some (turnRow ((rs.length + 1 : Nat) : Int) i q) := fun {i q} hq => by
    rw [turn_get (get_left hq), hl]
  have endN : (turnAll (rs ++ [.en]))[rs.length]? = some .en := by
    rw [turn_get (q := .en) (by simp)]; rfl
  have ptb : ∀ {b k : Nat} {a : Key}, rs[b]? = some (.pt a (k : Int)) → b + 1 < k → k ≤ rs.length → Stp (turnAll (rs ++ [.en])) b k := fun {b k a} hb h1 h2 => by
    refine ⟨_, at_ hb, ?_, by omega⟩
    have em : (k : Int) % ((rs.length + 1 : Nat) : Int) = k := Int.emod_eq_of_lt (by omega) (by omega)
    simp only [turnRow, em, if_neg (show ¬ ((k : Int) = (b : Int) + 1) by omega), fol, List.mem_cons, List.not_mem_nil, or_false, or_true]
  have nxt : ∀ {i : Nat} {r : Row}, rs[i]? = some r → Row.plain r → Stp (turnAll (rs ++ [.en])) i (i + 1) := fun {i r} hr hp => by
    have := (List.getElem?_eq_some_iff.mp hr).1
    exact plain_next (at_ hr) (turn_plain hp) (by omega)
  have outer : ∀ (d n : Nat), rs.length - n ≤ d → (n : Int) ∈ os → ∃ e, Rch (turnAll (rs ++ [.en])) n e ∧ (turnAll (rs ++ [.en]))[e]? = some .en := by
    intro d
    induction d with
    | zero =>
      intro n hd hn
      obtain ⟨n', e, hn'⟩ := hx.ol _ hn
      omega
    | succ d ih =>
      intro n hd hn
      obtain ⟨n', e', hn'⟩ := hx.ol _ hn
      have : n < rs.length := by omega
      obtain ⟨k, k1, k2, k3⟩ := hx.oc n hn (fun z => nomatch z)
      have hk : k ≤ rs.length := by
        rcases k2 with k2 | ⟨k2, _⟩
        · obtain ⟨m, em, hm⟩ := hx.ol _ k2; omega
        · omega
      have st : Stp (turnAll (rs ++ [.en])) n k := by
        rcases k3 with ⟨e, r, h1, h2⟩ | ⟨e, a, h1⟩
        · subst e; exact nxt h1 h2
        · exact ptb h1 e hk
      rcases k2 with k2 | ⟨k2, _⟩
      · obtain ⟨e, h1, h2⟩ := ih k (by omega) k2
        exact ⟨e, .step st h1, h2⟩
      · subst k2; exact ⟨rs.length, .step st (.refl _), endN⟩
  have all : ∀ (d i : Nat), rs.length - i ≤ d → i ≤ rs.length → ∃ e, Rch (turnAll (rs ++ [.en])) i e ∧ (turnAll (rs ++ [.en]))[e]? = some .en := by
    intro d
    induction d with
    | zero =>
      intro i hd hi
      have : i = rs.length := by omega
      subst this
      exact ⟨_, .refl _, endN⟩
    | succ d ih =>
      intro i hd hi
      by_cases e : i = rs.length
      · subst e; exact ⟨_, .refl _, endN⟩
      have hlt : i < rs.length := by omega
      have hr : rs[i]? = some (rs[i]'hlt) := by simp
      generalize rs[i]'hlt = r at hr
      by_cases hp : Row.plain r
      · obtain ⟨e, h1, h2⟩ := ih (i + 1) (by omega) (by omega)
        exact ⟨e, .step (nxt hr hp) h1, h2⟩
      · cases r with
        | en => exact ⟨i, .refl _, by rw [at_ hr]; rfl⟩
        | go t =>
          by_cases ht : t < 0
          · have hp : (0 : Int) < ((rs.length + 1 : Nat) : Int) - i - 1 := by omega
            have e0 := Int.emod_nonneg (-1 - t) (show ((rs.length + 1 : Nat) : Int) - i - 1 ≠ 0 by omega)
            have e1 := Int.emod_lt_of_pos (-1 - t) hp
            generalize hq : (-1 - t) % (((rs.length + 1 : Nat) : Int) - i - 1) = q at e0 e1
            obtain ⟨j, hj⟩ : ∃ j : Nat, (i : Int) + 1 + q = j := ⟨((i : Int) + 1 + q).toNat, by omega⟩
            obtain ⟨e, h1, h2⟩ := ih j (by omega) (by omega)
            refine ⟨e, .step ⟨_, at_ hr, ?_, by omega⟩ h1, h2⟩
            simp only [turnRow, if_pos ht, fol, hq, hj, List.mem_singleton]
          · have h0 : 0 ≤ t := by omega
            have hm := hx.gt i t hr h0
            obtain ⟨j, ej, hj⟩ := hx.ol t hm
            subst ej
            obtain ⟨e, h1, h2⟩ := outer rs.length j (by omega) hm
            refine ⟨e, .step ⟨_, at_ hr, ?_, by omega⟩ h1, h2⟩
            simp only [turnRow, if_neg ht, fol, List.mem_singleton]
        | rk x s a b => exact absurd trivial hp
        | cp x a => exact absurd trivial hp
        | sy a => exact absurd trivial hp
        | pt a t => exact absurd trivial hp
  have frm : ∀ (d i : Nat), i ≤ d → i ≤ rs.length → Rch (turnAll (rs ++ [.en])) 0 i := by
    intro d
    induction d with
    | zero =>
      intro i hd _
      have : i = 0 := by omega
      subst this; exact .refl 0
    | succ d ih =>
      intro i hd hi
      cases i with
      | zero => exact .refl 0
      | succ i =>
        have hlt : i < rs.length := by omega
        have hr : rs[i]? = some (rs[i]'hlt) := by simp
        generalize rs[i]'hlt = r at hr
        by_cases hp : Row.plain r
        · exact (ih i (by omega) (by omega)).snoc (nxt hr hp)
        · obtain ⟨b, a, hb, h1, _⟩ := hx.s i r hr hp
          exact (ih b (by omega) (by omega)).snoc (ptb h1 (by omega) hi)
  exact ⟨fun i hi => frm i i (Nat.le_refl _) (by omega), fun i hi => all (rs.length - i) i (Nat.le_refl _) (by omega)⟩
theorem test_get {rs : List Row} {nm : Str} {i : Nat} {r : Row} (h : rs[i]? = some r) (hi : i + 1 < rs.length) : (testAll rs nm)[i + 1]? = some (bump r) := by
  simp only [testAll, List.getElem?_cons_succ]
  rw [List.getElem?_append_left (by rw [List.length_map, List.length_dropLast]; omega), List.getElem?_map, List.getElem?_dropLast, if_pos (by omega), h]
  rfl
theorem live_test {rs : List Row} {nm : Str} (g : Good rs) (h : Live rs) : Live (testAll rs nm) := by
  have hp := g.pos
  have tl : (testAll rs nm).length = rs.length + 2 := by
    simp only [testAll, List.length_cons, List.length_append, List.length_map, List.length_dropLast, List.length_nil]; omega
  have a0 : (testAll rs nm)[0]? = some (.go rs.length) := rfl
  have aM : (testAll rs nm)[rs.length]? = some (.pt (.inr nm) 1) := by
    obtain ⟨k, hk⟩ : ∃ k, rs.length = k + 1 := ⟨rs.length - 1, by omega⟩
    rw [hk]
    simp only [testAll, List.getElem?_cons_succ]
    rw [List.getElem?_append_right (by rw [List.length_map, List.length_dropLast]; omega), List.length_map, List.length_dropLast]
    rw [show k - (rs.length - 1) = 0 by omega]; rfl
  have aE : (testAll rs nm)[rs.length + 1]? = some .en := by
    simp only [testAll, List.getElem?_cons_succ]
    rw [List.getElem?_append_right (by rw [List.length_map, List.length_dropLast]; omega), List.length_map, List.length_dropLast]
    rw [show rs.length - (rs.length - 1) = 1 by omega]; rfl
  have s0 : Stp (testAll rs nm) 0 rs.length := ⟨_, a0, by simp [fol], by omega⟩
  have sM1 : Stp (testAll rs nm) rs.length 1 := ⟨_, aM, by simp [fol], by omega⟩
  have sME : Stp (testAll rs nm) rs.length (rs.length + 1) := ⟨_, aM, by simp [fol], by omega⟩
  have up : ∀ {i j : Nat}, Stp rs i j → Stp (testAll rs nm) (i + 1) (j + 1) := fun {i j} ⟨r, hr, hm, hj⟩ => by
    have hi : i < rs.length := (List.getElem?_eq_some_iff.mp hr).1
    have ne : i + 1 < rs.length := by
      rcases Nat.lt_or_ge (i + 1) rs.length with z | z
      · exact z
      · have e : i = rs.length - 1 := by omega
        rw [e, g.last] at hr
        cases hr; cases hm
    refine ⟨bump r, test_get hr ne, ?_, by omega⟩
    cases r with
    | en => cases hm
    | go t => simp only [fol, List.mem_singleton] at hm; simp only [bump, fol, List.mem_singleton]; omega
    | pt a t => simp only [fol, List.mem_cons, List.not_mem_nil, or_false] at hm; simp only [bump, fol, List.mem_cons, List.not_mem_nil, or_false]; omega
    | rk x s a b => simp only [fol, List.mem_singleton] at hm; simp only [bump, fol, List.mem_singleton]; omega
    | cp x a => simp only [fol, List.mem_singleton] at hm; simp only [bump, fol, List.mem_singleton]; omega
    | sy a => simp only [fol, List.mem_singleton] at hm; simp only [bump, fol, List.mem_singleton]; omega
  have upR : ∀ {i j : Nat}, Rch rs i j → Rch (testAll rs nm) (i + 1) (j + 1) := fun {i j} hr => by
    induction hr with
    | refl i => exact .refl _
    | step s _ ih => exact .step (up s) ih
  refine ⟨fun i hi => ?_, fun i hi => ?_⟩
  · cases i with
    | zero => exact .refl 0
    | succ i =>
      by_cases e : i < rs.length
      · exact .step s0 (.step sM1 (upR (h.to i e)))
      · have : i = rs.length := by omega
        subst this; exact .step s0 (.step sME (.refl _))
  · cases i with
    | zero => exact ⟨rs.length + 1, .step s0 (.step sME (.refl _)), aE⟩
    | succ i =>
      by_cases e : i < rs.length
      · obtain ⟨e, h1, h2⟩ := h.on i e
        by_cases z : e + 1 < rs.length
        · exact ⟨e + 1, upR h1, by rw [test_get h2 z]; rfl⟩
        · have := (List.getElem?_eq_some_iff.mp h2).1
          have q := upR h1
          rw [show e + 1 = rs.length by omega] at q
          exact ⟨rs.length + 1, q.snoc sME, aE⟩
      · have : i = rs.length := by omega
        subst this; exact ⟨rs.length + 1, .refl _, aE⟩
theorem rv_turn {rs : List Row} (h : ∀ r ∈ rs, RV r) : ∀ r ∈ turnAll rs, RV r := fun r hr => by
  obtain ⟨i, hi⟩ := List.mem_iff_getElem?.mp hr
  obtain ⟨q, hq, rfl⟩ := turn_at hi
  have := h q (List.mem_of_getElem? hq)
  cases q with
  | go t => simp only [turnRow]; split <;> exact trivial
  | pt a t => exact this
  | rk x s a b => exact this
  | cp x a => exact this
  | sy a => exact this
  | en => exact trivial
theorem rv_test {rs : List Row} {nm : Str} (h : ∀ r ∈ rs, RV r) (hn : nameS nm = true) : ∀ r ∈ testAll rs nm, RV r := fun r hr => by
  simp only [testAll, List.mem_cons, List.mem_append, List.mem_map, List.not_mem_nil, or_false] at hr
  rcases hr with rfl | ⟨q, hq, rfl⟩ | rfl | rfl
  · exact trivial
  · have := h q (by rw [List.dropLast_eq_take] at hq; exact List.mem_of_mem_take hq)
    cases q <;> first | exact this | exact trivial
  · exact opd_name hn
  · exact trivial
theorem plains_ints : ∀ ns : List Int, plains (ns.map .int) = true
  | [] => by simp only [List.map_nil, plains]
  | n :: ns => by simp only [List.map_cons, plains, J.plain, plains_ints ns, Bool.and_self]
theorem neD_nil {m n : M} (cs : List Int) : gNeD (m, .lst (cs.map .int)) (n, .lst []) = some (.fr, .bl (!cs.isEmpty)) := by
  have ok : eqOk (.lst (cs.map .int)) (.lst []) = true := by
    simp only [eqOk, J.plain, plains_ints, plains, likeB, Bool.and_self, Bool.true_and]
    have : min (toPy (.lst (cs.map .int))).depth (toPy (.lst [])).depth ≤ (toPy (.lst [])).depth := Nat.min_le_right _ _
    have h2 : (toPy (.lst [])).depth ≤ 60 := by simp [toPy, toPys, PyData.depth, PyData.depthAll]
    exact decide_eq_true (Nat.le_trans this h2)
  simp only [gNeD, ok, if_true]
  cases cs with
  | nil => simp [toPy, toPys, PyData.eqv, PyData.eqvAll]
  | cons c cs => simp [toPy, toPys, PyData.eqv, PyData.eqvAll]
theorem ints_of : ∀ {xs : List D}, (∀ x ∈ xs, ∃ i : Int, x = .int i) → ∃ is : List Int, xs = is.map D.int
  | [], _ => ⟨[], rfl⟩
  | x :: xs, h => by
    obtain ⟨is, e⟩ := ints_of fun y hy => h y (List.mem_cons_of_mem _ hy)
    obtain ⟨i, rfl⟩ := h x List.mem_cons_self
    exact ⟨i :: is, by rw [List.map_cons, e]⟩
theorem cells_ok (cs : List Int) (hc : cs.length ≤ 63) (ns : D) (more : Int) (hm : 0 ≤ more ∧ more ≤ 60) :
    ∃ ks : List Int, ks.length ≤ 130 ∧ itL (jOp gAdd (jV 0) (jComp (itR1 (jCons (jOp jMul (jV 2) (jCB gInt (jCons (jOp gNeD (jV 0) (jLst jNil)) jNil))) jNil)) [0] bYes (jOp gAdd (jOp gIx (jV 1) (jOp jMod (jV 0) (jCB gLen (jCons (jV 1) jNil)))) (jOp jMul (jC (.int 101)) (jV 0)))))
      [some (.al, .lst (cs.map .int)), some (.al, ns), some (.al, .int more), some (.bo, .lst []), some (.bo, .lst []), some (.fr, .non), none] = some (.fr, ks.map .int) := by
  generalize hN : more * (if (!cs.isEmpty) = true then 1 else 0 : Int) = N
  have n0 : 0 ≤ N ∧ N ≤ 60 := by
    cases cs with
    | nil => simp at hN; omega
    | cons c cs => simp at hN; omega
  have nz : 0 < N → 0 < cs.length := fun h => by
    cases cs with
    | nil => simp at hN; omega
    | cons c cs => simp
  obtain ⟨xs, ex, xl, xp⟩ := compL_all (fc := bYes) (fe := jOp gAdd (jOp gIx (jV 1) (jOp jMod (jV 0) (jCB gLen (jCons (jV 1) jNil)))) (jOp jMul (jC (.int 101)) (jV 0))) (m := .fr) (fr := [some (.al, .lst (cs.map .int))]) (P := fun x => ∃ i : Int, x = .int i) (ds := rng 0 N.toNat) (fun d hd => by
    obtain ⟨i, hi⟩ := List.mem_iff_getElem?.mp hd
    obtain ⟨h1, rfl⟩ := rng_at hi
    have hp : (0 : Int) < cs.length := by have := nz (by omega); omega
    obtain ⟨c, hc'⟩ := atI_ints (ns := cs) (k := (0 + (i : Int)) % cs.length) (Int.emod_nonneg _ (by omega)) (Int.emod_lt_of_pos _ hp)
    have hi60 : (i : Int) < 60 := by omega
    refine ⟨rfl, .int (c + 101 * (0 + (i : Int))), ?_, _, rfl⟩
    generalize (0 : Int) + (i : Int) = k at hc' ⊢
    walk_at "ev"
    rw [mod_ii hp]
    walk_at "ev"
    rw [hc']
    walk_at "ev"
    rw [mul_l (by decide)]
    walk_at "ev")
  obtain ⟨is, rfl⟩ := ints_of xp
  rw [rng_len, List.length_map] at xl
  refine ⟨cs ++ is, by rw [List.length_append]; omega, ?_⟩
  have eL : jLstG ((is.map D.int).map fun x => (M.fr, x)) = some (.un, .lst (is.map D.int)) := lstG_fr (by rw [List.length_map]; omega)
  have hcat : gAdd (.al, .lst (cs.map .int)) (.un, .lst (is.map .int)) = some (.un, .lst ((cs ++ is).map .int)) := by
    rw [cat_ll (by simp [elm]) (by simp [elm]) (by rw [List.length_map, List.length_map]; exact Nat.le_trans (show cs.length + is.length ≤ 1000 by omega) (by decide)), mJ_au, ← List.map_append]
    exact mkL_al (imms_ints _)
  have hr : -4611686018427387904 ≤ N ∧ N < 4611686018427387904 := by omega
  have hmul : ∀ {m n : M}, jMul (m, .int more) (n, .int (if (!cs.isEmpty) = true then 1 else 0)) = some (.fr, .int N) := fun {m n} => by
    rw [mul_l (by omega), hN]
  simp -implicitDefEqProofs only [itL, jOp, jComp, itR1, jCons, jNil, jCB, jV, jLst, jLstG, List.length_nil, szT, Nat.zero_le, List.all_nil, if_true, List.map_nil, List.getElem?_cons_zero, List.getElem?_cons_succ, Option.bind_some, id_eq, neD_nil, int_b, hmul, hr, and_self]
  show (((compL _ _ M.fr [some (.al, .lst (cs.map .int))] _).bind jLstG).bind fun y => gAdd _ y).bind _ = _
  rw [ex]
  simp -implicitDefEqProofs only [Option.bind_some, eL, hcat, itm, Option.map_some]
theorem program_ok (cs : List Int) (hc : cs.length ≤ 63) (ns : List Str) (hv : ∀ z ∈ ns, nameS z = true) (h1 : 0 < ns.length) (h2 : ns.length ≤ 50) (more : Int) (hm : 0 ≤ more ∧ more ≤ 60) :
    ∃ rs, (Good rs ∧ Live rs ∧ ∀ r ∈ rs, RV r) ∧ rs.length ≤ 140 ∧ ∃ m, (m = .un) ∧ F_law_program [.lst (cs.map .int), .lst (ns.map .str), .int more] = some (m, .lst (rs.map Row.d)) := by
  obtain ⟨ks, kl, ek⟩ := cells_ok cs hc (.lst (ns.map .str)) more hm
  have l1 := forL_inv (g := gN 6) (b := B_law_program_1) (m := .fr) (ds := ks.map D.int) (e := [some (.al, .lst (cs.map .int)), some (.al, .lst (ns.map .str)), some (.al, .int more), some (.bo, .lst []), some (.bo, .lst []), some (.fr, .non), none])
    (fun i e => ∃ (rs : List Row) (os : List Int) (bg : Option Nat) (o : Option (M × D)), PS rs os bg ∧ rs.length ≤ i ∧ os.length ≤ i ∧ e = [some (.al, .lst (cs.map .int)), some (.al, .lst (ns.map .str)), some (.al, .int more), some (.bo, .lst (rs.map Row.d)), some (.bo, .lst (os.map .int)), some (.fr, bgD bg), o])
    ⟨[], [], none, none, PS.nil, Nat.le_refl _, Nat.le_refl _, rfl⟩
    (fun i d e hd ⟨rs, os, bg, o, hp, a1, a2, he⟩ => by
      subst he
      rw [List.getElem?_map] at hd
      cases hk : ks[i]? with
      | none => rw [hk] at hd; cases hd
      | some c =>
        rw [hk] at hd
        cases hd
        have hi : i < ks.length := (List.getElem?_eq_some_iff.mp hk).1
        obtain ⟨rs', os', bg', b1, b2, b3, b4⟩ := prog_turn (some (.al, .lst (cs.map .int))) ns hv h1 h2 (some (.al, .int more)) rs os bg hp (by omega) (by omega) c .fr (.inr rfl)
        exact ⟨_, _, rfl, b4, rs', os', bg', some (.fr, .int c), b1, by omega, by omega, rfl⟩)
  obtain ⟨e', l1, rs, os, bg, o, hp, a1, a2, rfl⟩ := l1
  rw [List.length_map] at a1 a2
  have cl : ∃ rs' o5, PS rs' os none ∧ rs'.length ≤ rs.length + 1 ∧ jIf (jB (jOp gNotN (jV 5) (jC .non))) (jDropIO [0, 3] [3, 4] [(0, 3), (1, 5), (3, 4)] F_law_shut (jCons (jV 3) (jCons (jV 5) (jCons (jC (.int 0)) (jCons (jV 4) jNil))))) jPass
      [some (.al, .lst (cs.map .int)), some (.al, .lst (ns.map .str)), some (.al, .int more), some (.bo, .lst (rs.map Row.d)), some (.bo, .lst (os.map .int)), some (.fr, bgD bg), o] = some (.nx [some (.al, .lst (cs.map .int)), some (.al, .lst (ns.map .str)), some (.al, .int more), some (.bo, .lst (rs'.map Row.d)), some (.bo, .lst (os.map .int)), o5, o]) := by
    cases bg with
    | none =>
      refine ⟨rs, some (.fr, .non), hp, by omega, ?_⟩
      rw [if_f (by simp only [bgD]; walk_at "ev"; simp only [notN_n]; walk_at "ev")]
      rfl
    | some b =>
      obtain ⟨⟨a, t, hb⟩, ho⟩ := hp.b b rfl
      obtain ⟨x, hx, ex⟩ := shut_call (some (.al, .lst (cs.map .int))) (some (.al, .lst (ns.map .str))) (some (.al, .int more)) rs os b a t hb ho (by omega) 0 o (jC (.int 0)) rfl
      refine ⟨_, some (.fr, .int b), hp.shut hb hx, by simp, ?_⟩
      rw [if_t (by simp only [bgD]; walk_at "ev"; simp only [notN_i]; walk_at "ev")]
      exact ex
  obtain ⟨rs', o5, hp', a3, ec⟩ := cl
  have hl1 : (rs' ++ [Row.en]).length = rs'.length + 1 := by simp
  have et := turned_ok (rs' ++ [.en]) (by rw [hl1]; omega) (by rw [hl1]; omega) (fun i t hi => by
    rcases get_snoc hi with z | ⟨_, z⟩
    · have := (List.getElem?_eq_some_iff.mp z).1; omega
    · cases z)
  have gt : Good (turnAll (rs' ++ [.en])) ∧ Live (turnAll (rs' ++ [.en])) ∧ ∀ r ∈ turnAll (rs' ++ [.en]), RV r := ⟨good_turn hp', live_turn hp', rv_turn (rv_snoc hp'.x.v trivial)⟩
  have tl : (turnAll (rs' ++ [.en])).length = rs'.length + 1 := by rw [turn_len, hl1]
  have hcat : gAdd (.bo, .lst (rs'.map Row.d)) (.un, .lst [.tup [.str "end"]]) = some (.un, .lst ((rs' ++ [Row.en]).map Row.d)) := by
    rw [cat_ll (by simp [elm]) (by simp [elm]) (by rw [List.length_map]; exact Nat.le_trans (show rs'.length + 1 ≤ 1000 by omega) (by decide)), mJ_bu, mkL_fr, List.map_append]
    rfl
  obtain ⟨nm, enm, nmm⟩ := atI_strsM (ns := ns) (k := 0) (by decide) (by omega)
  generalize turnAll (rs' ++ [.en]) = T at et gt tl
  have s3 : jSet 3 (jCall F_law_turned_to (jCons (jOp gAdd (jV 3) (jLst (jCons (jTup (jCons (jC (.str "end")) jNil)) jNil))) jNil)) [some (.al, .lst (cs.map .int)), some (.al, .lst (ns.map .str)), some (.al, .int more), some (.bo, .lst (rs'.map Row.d)), some (.bo, .lst (os.map .int)), o5, o] = some (.nx [some (.al, .lst (cs.map .int)), some (.al, .lst (ns.map .str)), some (.al, .int more), some (.bo, .lst (T.map Row.d)), some (.bo, .lst (os.map .int)), o5, o]) := by
    walk_at "ev"
    rw [hcat]
    walk_at "ev"
    rw [et]
    walk_at "ev"
  have fin : ∀ {g : Ev → Option Fl}, F_law_program [.lst (cs.map .int), .lst (ns.map .str), .int more] = (jSeq (jIf (bAnd (jB (jOp gNeD (jV 0) (jLst jNil))) (bAnd (jB (jOp gEq (jOp jMod (jOp jDivJ (jOp gIx (jV 0) (jC (.int 0))) (jC (.int 7))) (jC (.int 6))) (jC (.int 1)))) (jB (jOp jLt (jCB gLen (jCons (jV 3) jNil)) (jC (.int 59))))))
      (jSet 3 (jCall F_law_tested (jCons (jV 3) (jCons (jOp gIx (jV 1) (jC (.int 0))) jNil)))) jPass) (jRet (jV 3)) [some (.al, .lst (cs.map .int)), some (.al, .lst (ns.map .str)), some (.al, .int more), some (.bo, .lst (T.map Row.d)), some (.bo, .lst (os.map .int)), o5, o]).bind out := by
    intro g
    unfold F_law_program fn g_law_program
    rw [show ([D.lst (cs.map .int), .lst (ns.map .str), .int more].map (fun d => some (M.al, d)) ++ List.replicate (7 - [D.lst (cs.map .int), .lst (ns.map .str), .int more].length) none : Ev) = [some (.al, .lst (cs.map .int)), some (.al, .lst (ns.map .str)), some (.al, .int more), none, none, none, none] from rfl]
    rw [seq_nx (e' := [some (.al, .lst (cs.map .int)), some (.al, .lst (ns.map .str)), some (.al, .int more), some (.bo, .lst []), none, none, none]) (by walk_at "ev")]
    rw [seq_nx (e' := [some (.al, .lst (cs.map .int)), some (.al, .lst (ns.map .str)), some (.al, .int more), some (.bo, .lst []), some (.bo, .lst []), none, none]) (by walk_at "ev")]
    rw [seq_nx (e' := [some (.al, .lst (cs.map .int)), some (.al, .lst (ns.map .str)), some (.al, .int more), some (.bo, .lst []), some (.bo, .lst []), some (.fr, .non), none]) (by walk_at "ev")]
    rw [seq_nx (e' := [some (.al, .lst (cs.map .int)), some (.al, .lst (ns.map .str)), some (.al, .int more), some (.bo, .lst (rs.map Row.d)), some (.bo, .lst (os.map .int)), some (.fr, bgD bg), o]) (by
      rw [jFor, ek, Option.bind_some]; exact l1)]
    rw [seq_nx ec, seq_nx s3]
  rw [fin (g := jPass)]
  have plain' : ∀ {cnd : Ev → Option Bool} {th : Ev → Option Fl}, cnd [some (.al, .lst (cs.map .int)), some (.al, .lst (ns.map .str)), some (.al, .int more), some (.bo, .lst (T.map Row.d)), some (.bo, .lst (os.map .int)), o5, o] = some false → ∃ rs, (Good rs ∧ Live rs ∧ ∀ r ∈ rs, RV r) ∧ rs.length ≤ 140 ∧ ∃ m, (m = .un) ∧ (jSeq (jIf cnd th jPass) (jRet (jV 3)) [some (.al, .lst (cs.map .int)), some (.al, .lst (ns.map .str)), some (.al, .int more), some (.bo, .lst (T.map Row.d)), some (.bo, .lst (os.map .int)), o5, o]).bind out = some (m, .lst (rs.map Row.d)) := fun {cnd th} hcd => by
    refine ⟨T, gt, by omega, .un, rfl, ?_⟩
    rw [seq_nx (e' := [some (.al, .lst (cs.map .int)), some (.al, .lst (ns.map .str)), some (.al, .int more), some (.bo, .lst (T.map Row.d)), some (.bo, .lst (os.map .int)), o5, o]) (by rw [if_f hcd]; rfl)]
    walk_at "ev"
  cases cs with
  | nil =>
    refine plain' ?_
    simp -implicitDefEqProofs only [bAnd, jB, jOp, jV, jLst, jNil, jLstG, List.length_nil, szT, Nat.zero_le, List.all_nil, if_true, List.map_nil, List.getElem?_cons_zero, Option.bind_some, id_eq, show gNeD (.al, .lst []) (.un, .lst []) = some (.fr, .bl false) from neD_nil [], dBl_b, Bool.false_eq_true, if_false]
  | cons c0 cs0 =>
    have hne : ∀ {m n : M}, gNeD (m, .lst ((c0 :: cs0).map .int)) (n, .lst []) = some (.fr, .bl true) := fun {m n} => neD_nil (c0 :: cs0)
    have hcd : (bAnd (jB (jOp gNeD (jV 0) (jLst jNil))) (bAnd (jB (jOp gEq (jOp jMod (jOp jDivJ (jOp gIx (jV 0) (jC (.int 0))) (jC (.int 7))) (jC (.int 6))) (jC (.int 1)))) (jB (jOp jLt (jCB gLen (jCons (jV 3) jNil)) (jC (.int 59)))))) [some (.al, .lst ((c0 :: cs0).map .int)), some (.al, .lst (ns.map .str)), some (.al, .int more), some (.bo, .lst (T.map Row.d)), some (.bo, .lst (os.map .int)), o5, o] = some (decide (c0 / 7 % 6 = 1) && decide ((T.length : Int) < 59)) := by
      have h0 : L2.atI ((c0 :: cs0).map D.int) 0 = some (.int c0) := by
        have z := atI_nat (l := (c0 :: cs0).map D.int) (k := 0) (by simp)
        simpa using z
      generalize (c0 :: cs0).map D.int = CS at hne h0
      simp -implicitDefEqProofs only [bAnd, jB, jOp, jV, jLst, jNil, jLstG, jCons, jCB, jC, List.length_nil, szT, Nat.zero_le, List.all_nil, if_true, List.map_nil, List.getElem?_cons_zero, List.getElem?_cons_succ, Option.bind_some, id_eq, hne, dBl_b, ix_li, h0, Option.map_some, elm_al]
      walk_at "ev"
      by_cases g : c0 / 7 % 6 = 1
      · simp only [g]; walk_at "ev"
      · simp only [g]; walk_at "ev"; simp
    by_cases g : (decide (c0 / 7 % 6 = 1) && decide ((T.length : Int) < 59)) = true
    · have hT : T.length < 59 := by
        simp only [Bool.and_eq_true, decide_eq_true_eq] at g; omega
      refine ⟨testAll T nm, ⟨good_test gt.1, live_test gt.1 gt.2.1, rv_test gt.2.2 (hv nm nmm)⟩, ?_, .un, rfl, ?_⟩
      · simp only [testAll, List.length_cons, List.length_append, List.length_map, List.length_dropLast, List.length_nil]; omega
      have etd := tested_ok T nm (by omega)
      rw [seq_nx (e' := [some (.al, .lst ((c0 :: cs0).map .int)), some (.al, .lst (ns.map .str)), some (.al, .int more), some (.bo, .lst ((testAll T nm).map Row.d)), some (.bo, .lst (os.map .int)), o5, o]) (by
        rw [if_t (by rw [hcd, g])]
        generalize (c0 :: cs0).map D.int = CS
        walk_at "ev"
        rw [enm]
        walk_at "ev"
        rw [etd]
        walk_at "ev")]
      generalize (c0 :: cs0).map D.int = CS
      walk_at "ev"
    · have g' : (decide (c0 / 7 % 6 = 1) && decide ((T.length : Int) < 59)) = false := by simpa using g
      exact plain' (by rw [hcd, g'])
theorem row_valid {r : Row} (h : RV r) (hg : ∀ t, r = .go t → 0 ≤ t) (hp : ∀ a t, r = .pt a t → 0 ≤ t) : F_is_row [r.d] = some (.fr, .bl true) := by
  have w : ∀ z : Str, z.length ≤ 1000 → Ok (.str z) := fun _ h => .str h
  have key : (∀ e ∈ r.ds, Ok e) ∧ rowB (.tup r.ds) = true := by
    cases r with
    | rk x s a b =>
      obtain ⟨hx, ⟨hs, hl⟩, ha, hb⟩ := h
      have := nameS_len hx
      refine ⟨fun e he => ?_, ?_⟩
      · simp only [Row.ds, List.mem_cons, List.not_mem_nil, or_false] at he
        rcases he with rfl | rfl | rfl | rfl | rfl
        · exact w _ (by decide)
        · exact w _ (by omega)
        · exact w _ hl
        · exact ha.2.1
        · exact hb.2.1
      · show (nameS _ && (signB _ && (opB _ && opB _))) = true
        rw [hx, hs, ha.1, hb.1]; rfl
    | cp x a =>
      obtain ⟨hx, ha⟩ := h
      have := nameS_len hx
      refine ⟨fun e he => ?_, ?_⟩
      · simp only [Row.ds, List.mem_cons, List.not_mem_nil, or_false] at he
        rcases he with rfl | rfl | rfl
        · exact w _ (by decide)
        · exact w _ (by omega)
        · exact ha.2.1
      · show (nameS _ && opB _) = true
        rw [hx, ha.1]; rfl
    | sy a =>
      refine ⟨fun e he => ?_, h.1⟩
      simp only [Row.ds, List.mem_cons, List.not_mem_nil, or_false] at he
      rcases he with rfl | rfl
      · exact w _ (by decide)
      · exact h.2.1
    | go t =>
      refine ⟨fun e he => ?_, decide_eq_true (hg t rfl)⟩
      simp only [Row.ds, List.mem_cons, List.not_mem_nil, or_false] at he
      rcases he with rfl | rfl
      · exact w _ (by decide)
      · exact .int
    | pt a t =>
      refine ⟨fun e he => ?_, ?_⟩
      · simp only [Row.ds, List.mem_cons, List.not_mem_nil, or_false] at he
        rcases he with rfl | rfl | rfl
        · exact w _ (by decide)
        · exact h.2.1
        · exact .int
      · show (opB _ && decide _) = true
        rw [h.1, decide_eq_true (hp a t rfl)]; rfl
    | en =>
      refine ⟨fun e he => ?_, rfl⟩
      simp only [Row.ds, List.mem_cons, List.not_mem_nil, or_false] at he
      subst he
      exact w _ (by decide)
  have := is_row_ok (d := r.d) .tup (fun ds e => by cases e; exact key.1)
  rw [this]
  exact congrArg (fun b => some (M.fr, D.bl b)) key.2
end K14
namespace K14
open PySem L2 J
local macro_rules | `(tactic| walk_at "ev") => `(tactic| simp -implicitDefEqProofs only [jSeq, jIf, jB, jOp, jUn, jV, jCB, jCons, jNil, jRet, jRetN, jSet, jPass, jC, jCall, jAnd, jOr, jNot, bAnd, bOr, bNot, jIfE, jTup, jLst, jTupG, jLstG, jApp, jSetIx, jAsg, gL, gCons', gNil', jBM, isS, jFrz, frz, jFor, itL, itR1, itm, ownL, own, gN, unfr, slm2, bYes, List.map_cons, List.map_nil, List.length_cons, List.length_nil, List.cons_append, List.nil_append, List.replicate, List.getElem?_cons_zero, List.getElem?_cons_succ, List.set_cons_zero, List.set_cons_succ, List.all_cons, List.all_nil, Option.bind_some, Option.bind_none, Option.map_some, Option.map_none, id_eq, eq_ii, eq_ss, eq_bb, ne_ii, ne_ss, add_ii, sub_ii, lt_ii, le_ii, gt_ii, ge_ii, neg_i, ix_li, ix_ti, len_l, len_t, abs_i, int_i, int_b, dBl_b, dInt_i, slot_fr, slot_al, slot_un, out_fr, out_un, out_bo, out_nx, sto_fr, sto_un, sto_al, im_i, im_s, im_b, im_n, elm_al, elm_fr, elm_un, elm_bo, if_true, if_false, Bool.and_self, Bool.and_true, Bool.true_and, Bool.false_eq_true, decide_true, decide_false, reduceIte, reduceCtorEq, List.length_map, Nat.reduceAdd, Nat.reduceSub, Bool.not_true, Bool.not_false, szT, szT', Nat.reduceLeDiff, mul_r, mod_ii, div_ii, pow64, Int.reducePow, Int.reduceNeg, Int.reduceLT, Int.reduceLE, Int.reduceToNat, and_self, and_true, true_and, Nat.reduceLT, ne_eq, not_false_eq_true, jSl, jPart, jNoP, jChain, itS, jBM0, frE_nil, len_s, sl_t, pow64, isi_str_str, isi_str_int, isi_str_bool, isi_str_tuple, isi_int_str, isi_int_int, isi_int_bool, isi_int_tuple, isi_bl_str, isi_bl_int, isi_bl_bool, isi_bl_tuple, isi_non_str, isi_non_int, isi_non_bool, isi_non_tuple, isi_tup_str, isi_tup_int, isi_tup_tuple, isi_lst_str, isi_lst_int, isi_lst_tuple, isi_dk_str, isi_dk_int, isi_dk_tuple, isi_dt_str, isi_dt_int, isi_dt_tuple, wd_reckon_reckon, wd_reckon_copy, wd_reckon_say, wd_reckon_go, wd_reckon_part, wd_reckon_end, wd_copy_reckon, wd_copy_copy, wd_copy_say, wd_copy_go, wd_copy_part, wd_copy_end, wd_say_reckon, wd_say_copy, wd_say_say, wd_say_go, wd_say_part, wd_say_end, wd_go_reckon, wd_go_copy, wd_go_say, wd_go_go, wd_go_part, wd_go_end, wd_part_reckon, wd_part_copy, wd_part_say, wd_part_go, wd_part_part, wd_part_end, wd_end_reckon, wd_end_copy, wd_end_say, wd_end_go, wd_end_part, wd_end_end, Int.reduceEq, Int.reduceSub, Int.reduceAdd])
noncomputable def sp (c : Nat) : List Nat → List (List Nat)
  | [] => [[]]
  | x :: l => if x = c then [] :: sp c l else match sp c l with
    | h :: t => (x :: h) :: t
    | [] => [[x]]
theorem sp_ne (c : Nat) : ∀ l, ∃ h t, sp c l = h :: t
  | [] => ⟨_, _, rfl⟩
  | x :: l => by
    obtain ⟨h, t, e⟩ := sp_ne c l
    by_cases q : x = c
    · exact ⟨[], sp c l, by simp only [sp, if_pos q]⟩
    · exact ⟨x :: h, t, by simp only [sp, if_neg q, e]⟩
theorem sp_cut (c : Nat) (b : List Nat) : ∀ a : List Nat, sp c (a ++ c :: b) = sp c a ++ sp c b
  | [] => by simp only [List.nil_append, sp, if_pos, List.cons_append]
  | x :: a => by
    have ih := sp_cut c b a
    obtain ⟨h, t, e⟩ := sp_ne c a
    by_cases q : x = c
    · simp only [List.cons_append, sp, if_pos q, ih]
    · simp only [List.cons_append, sp, if_neg q, ih, e]
theorem sp_free (c : Nat) : ∀ a : List Nat, c ∉ a → sp c a = [a]
  | [], _ => rfl
  | x :: a, h => by
    have q : ¬ x = c := fun z => h (z ▸ List.mem_cons_self)
    simp only [sp, if_neg q, sp_free c a (fun m => h (List.mem_cons_of_mem _ m))]
noncomputable def jn (c : Nat) : List (List Nat) → List Nat
  | [] => []
  | [x] => x
  | x :: y :: r => x ++ c :: jn c (y :: r)
theorem sp_jn (c : Nat) : ∀ ps : List (List Nat), ps ≠ [] → (∀ p ∈ ps, c ∉ p) → sp c (jn c ps) = ps
  | [], h, _ => absurd rfl h
  | [x], _, h => sp_free c x (h x List.mem_cons_self)
  | x :: y :: r, _, h => by
    rw [jn, sp_cut, sp_free c x (h x List.mem_cons_self), sp_jn c (y :: r) (List.cons_ne_nil _ _) fun p m => h p (List.mem_cons_of_mem _ m)]
    rfl
theorem sp_jns (c : Nat) : ∀ ps : List (List Nat), ps ≠ [] → sp c (jn c ps) = (ps.map (sp c)).flatten
  | [], h => absurd rfl h
  | [x], _ => by simp [jn]
  | x :: y :: r, _ => by
    rw [jn, sp_cut, sp_jns c (y :: r) (List.cons_ne_nil _ _)]
    rfl
noncomputable def ch (s : Str) : List Nat := s.cps.toList
noncomputable def mk (l : List Nat) : Str := ⟨l.toArray⟩
theorem ch_mk (l : List Nat) : ch (mk l) = l := rfl
theorem mk_ch (s : Str) : mk (ch s) = s := by
  obtain ⟨⟨l⟩⟩ := s; rfl
theorem ch_inj {a b : Str} (h : ch a = ch b) : a = b := by rw [← mk_ch a, h, mk_ch]
theorem ch_app (a b : Str) : ch (a ++ b) = ch a ++ ch b := by
  show (a.cps ++ b.cps).toList = _
  rw [Array.toList_append]; rfl
theorem ch_len (s : Str) : (ch s).length = s.length := by obtain ⟨⟨l⟩⟩ := s; rfl
theorem join_jn (c : Nat) : ∀ ps : List Str, ch (Str.join ⟨#[c]⟩ ps) = jn c (ps.map ch)
  | [] => rfl
  | [x] => rfl
  | x :: y :: r => by
    show ch (x ++ ⟨#[c]⟩ ++ Str.join ⟨#[c]⟩ (y :: r)) = ch x ++ c :: jn c ((y :: r).map ch)
    rw [ch_app, ch_app, join_jn c (y :: r), List.append_assoc]
    rfl
theorem txt_join (c : Nat) (ps : List Str) : ch (Txt.join ⟨#[c]⟩ ps) = jn c (ps.map ch) := by
  show ch (Builtin.Str.glued ⟨#[c]⟩ ps) = _
  rw [StrLaws.glued_eq_join, join_jn]
theorem split_ne (x y : Str) : Txt.split x y ≠ [] := by
  unfold Txt.split
  split
  · exact List.cons_ne_nil _ _
  · split
    · exact List.cons_ne_nil _ _
    · rw [StrLaws.partsBetween_eq]
      obtain ⟨p, r, e⟩ := StrLaws.partsFrom_ne x y.length 0 (Builtin.Str.occurrences x y 0 x.length (x.length + 1))
      rw [e]; exact List.cons_ne_nil _ _
theorem split_eq (x : Str) (c : Nat) : Txt.split x ⟨#[c]⟩ = (sp c (ch x)).map mk := by
  have h1 := StrLaws.join_split x ⟨#[c]⟩
  have h2 := StrLaws.split_free x c
  have e : ch x = jn c ((Txt.split x ⟨#[c]⟩).map ch) := by rw [← join_jn, h1]
  rw [e, sp_jn c _ (by simpa using split_ne x ⟨#[c]⟩) (fun p m => by
    obtain ⟨q, hq, rfl⟩ := List.mem_map.mp m
    exact h2 q hq), List.map_map]
  conv => lhs; rw [← List.map_id (Txt.split x ⟨#[c]⟩)]
  exact List.map_congr_left fun s _ => (mk_ch s).symm
theorem sp_len (c : Nat) : ∀ l, (sp c l).length ≤ l.length + 1
  | [] => by simp [sp]
  | x :: l => by
    have ih := sp_len c l
    obtain ⟨h, t, e⟩ := sp_ne c l
    rw [e] at ih
    by_cases q : x = c
    · simp only [sp, if_pos q, e, List.length_cons] at ih ⊢; omega
    · simp only [sp, if_neg q, e, List.length_cons] at ih ⊢; omega
theorem at_one (x : Str) (c i : Nat) : StrLaws.At x ⟨#[c]⟩ x.length i ↔ (ch x)[i]? = some c := StrLaws.subAt_one x c i
theorem take_to (c : Nat) : ∀ (l : List Nat) (i : Nat), l[i]? = some c → (∀ k, k < i → l[k]? ≠ some c) → l.take i = l.takeWhile (· ≠ c)
  | [], i, h, _ => by simp at h
  | x :: l, 0, h, _ => by
    have : x = c := by simpa using h
    simp [List.takeWhile, this]
  | x :: l, i + 1, h, hn => by
    have q : x ≠ c := fun z => hn 0 (Nat.succ_pos _) (by simp [z])
    rw [List.take_succ_cons, take_to c l i (by simpa using h) (fun k hk => by simpa using hn (k + 1) (Nat.succ_lt_succ hk)), List.takeWhile_cons_of_pos (by simpa using q)]
theorem tw_all (c : Nat) : ∀ l : List Nat, c ∉ l → l.takeWhile (· ≠ c) = l
  | [], _ => rfl
  | x :: l, h => by
    have q : x ≠ c := fun z => h (z ▸ List.mem_cons_self)
    rw [List.takeWhile_cons_of_pos (by simpa using q), tw_all c l fun m => h (List.mem_cons_of_mem _ m)]
theorem tw_app (c : Nat) (b : List Nat) : ∀ l : List Nat, c ∉ l → (l ++ b).takeWhile (· ≠ c) = l ++ b.takeWhile (· ≠ c)
  | [], _ => rfl
  | x :: l, h => by
    have q : x ≠ c := fun z => h (z ▸ List.mem_cons_self)
    rw [List.cons_append, List.takeWhile_cons_of_pos (by simpa using q), tw_app c b l fun m => h (List.mem_cons_of_mem _ m)]
    rfl
theorem part_eq (x : Str) (c : Nat) : ch (Txt.partition x ⟨#[c]⟩).1 = (ch x).takeWhile (· ≠ c) := by
  unfold Txt.partition
  rcases StrLaws.occ_head x ⟨#[c]⟩ 1 (Nat.le_refl 1) with ⟨h0, hn⟩ | ⟨i, r, h0, ha, hn⟩
  · rw [h0]
    refine (tw_all c (ch x) fun m => ?_).symm
    obtain ⟨i, hi⟩ := List.getElem?_of_mem m
    exact hn i ((at_one x c i).mpr hi)
  · rw [h0]
    show ch (Builtin.Str.strSub x 0 i) = _
    have e : ch (Builtin.Str.strSub x 0 i) = (ch x).take i := by
      show (Builtin.Str.strSub x 0 i).cps.toList = _
      rw [StrLaws.strSub_toList]; simp [ch]
    rw [e]
    exact take_to c (ch x) i ((at_one x c i).mp ha) fun k hk => fun z => hn k hk ((at_one x c k).mpr z)
noncomputable def W (l : List Nat) : List (List Nat) := (sp 32 l).filter fun w => !w.isEmpty
theorem W_cut (a b : List Nat) : W (a ++ 32 :: b) = W a ++ W b := by unfold W; rw [sp_cut, List.filter_append]
theorem W_nil : W [] = [] := rfl
theorem W_sp (l : List Nat) : W (32 :: l) = W l := W_cut [] l
theorem W_one {w : List Nat} (h : w ≠ []) (hf : 32 ∉ w) : W w = [w] := by
  unfold W
  rw [sp_free 32 w hf]
  cases w with
  | nil => exact absurd rfl h
  | cons x w => rfl
theorem W_end (a : List Nat) : ∀ n, W (a ++ List.replicate n 32) = W a
  | 0 => by simp
  | n + 1 => by
    rw [show a ++ List.replicate (n + 1) 32 = a ++ 32 :: List.replicate n 32 from rfl, W_cut]
    have : ∀ n, W (List.replicate n 32) = [] := fun n => by
      induction n with
      | zero => rfl
      | succ n ih => rw [List.replicate_succ, W_sp, ih]
    rw [this, List.append_nil]
theorem W_ahead (l : List Nat) : ∀ n, W (List.replicate n 32 ++ l) = W l
  | 0 => rfl
  | n + 1 => by rw [List.replicate_succ, List.cons_append, W_sp, W_ahead l n]
theorem W_more {a w : List Nat} {n : Nat} (h : w ≠ []) (hf : 32 ∉ w) (ha : ∀ l, W (a ++ l) = W a ++ W l) : W (a ++ w ++ List.replicate n 32) = W a ++ [w] ∧ (0 < n → ∀ l, W (a ++ w ++ List.replicate n 32 ++ l) = W (a ++ w ++ List.replicate n 32) ++ W l) := by
  have e : W (a ++ w ++ List.replicate n 32) = W a ++ [w] := by rw [W_end, ha, W_one h hf]
  refine ⟨e, fun hn l => ?_⟩
  obtain ⟨m, rfl⟩ : ∃ m, n = m + 1 := ⟨n - 1, by omega⟩
  rw [e, show a ++ w ++ List.replicate (m + 1) 32 ++ l = (a ++ w) ++ 32 :: (List.replicate m 32 ++ l) by simp [List.replicate_succ], W_cut, W_ahead, ha, W_one h hf]
theorem W_jn : ∀ ws : List (List Nat), (∀ w ∈ ws, w ≠ [] ∧ 32 ∉ w) → W (jn 32 ws) = ws
  | [], _ => rfl
  | [x], h => by
    obtain ⟨a, b⟩ := h x List.mem_cons_self
    exact W_one a b
  | x :: y :: r, h => by
    obtain ⟨a, b⟩ := h x List.mem_cons_self
    rw [jn, W_cut, W_one a b, W_jn (y :: r) fun w m => h w (List.mem_cons_of_mem _ m)]
    rfl
noncomputable def wl (l : List Nat) : List (List Nat) := W (l.takeWhile (· ≠ 35))
noncomputable def dg (n : Nat) : List Nat := if n < 10 then [48 + n] else dg (n / 10) ++ [48 + n % 10]
theorem dg_lt {n : Nat} (h : n < 10) : dg n = [48 + n] := by rw [dg, if_pos h]
theorem dg_ge {n : Nat} (h : ¬ n < 10) : dg n = dg (n / 10) ++ [48 + n % 10] := by rw [dg, if_neg h]
theorem dig_ch : ∀ n, n < 10 → (Nat.digitChar n).toNat = 48 + n := by decide
theorem digits_dg (n : Nat) : (Nat.toDigits 10 n).map Char.toNat = dg n := by
  induction n using Nat.strongRecOn with
  | ind n ih =>
    by_cases h : n < 10
    · rw [Nat.toDigits_of_lt_base h, dg_lt h]
      simp [dig_ch n h]
    · rw [Nat.toDigits_of_base_le (by decide) (by omega), dg_ge h, List.map_append, ih (n / 10) (by omega)]
      simp [dig_ch (n % 10) (by omega)]
theorem str_dg (n : Nat) : ch (Str.ofString (toString (n : Int))) = dg n := by
  rw [Str.ofString_eq_toList]
  show ((Nat.repr n).toList.map Char.toNat) = dg n
  unfold Nat.repr
  rw [String.toList_ofList, digits_dg]
theorem str_int {i : Int} (h : 0 ≤ i) : ch (Str.ofString (toString i)) = dg i.toNat := by
  obtain ⟨n, rfl⟩ := Int.eq_ofNat_of_zero_le h
  rw [str_dg]; rfl
theorem dg_dig (n : Nat) : ∀ c ∈ dg n, 48 ≤ c ∧ c < 58 := by
  induction n using Nat.strongRecOn with
  | ind n ih =>
    by_cases h : n < 10
    · rw [dg_lt h]; intro c m; have : c = 48 + n := by simpa using m
      omega
    · rw [dg_ge h]; intro c m
      rcases List.mem_append.mp m with m | m
      · exact ih (n / 10) (by omega) c m
      · have : c = 48 + n % 10 := by simpa using m
        omega
theorem dg_hd (n : Nat) : ∃ c r, dg n = c :: r ∧ (c = 48 → n = 0) := by
  induction n using Nat.strongRecOn with
  | ind n ih =>
    by_cases h : n < 10
    · exact ⟨48 + n, [], dg_lt h, by omega⟩
    · obtain ⟨c, r, e, z⟩ := ih (n / 10) (by omega)
      exact ⟨c, r ++ [48 + n % 10], by rw [dg_ge h, e]; rfl, fun q => by have := z q; omega⟩
noncomputable def nv (l : List Nat) (a : Int) : Int := l.foldl (fun (x : Int) (c : Nat) => x * 10 + ((c : Int) - 48)) a
theorem nv_dg (n : Nat) : nv (dg n) 0 = n := by
  induction n using Nat.strongRecOn with
  | ind n ih =>
    by_cases h : n < 10
    · rw [dg_lt h]; simp only [nv, List.foldl_cons, List.foldl_nil]; omega
    · have e := ih (n / 10) (by omega)
      rw [dg_ge h]
      unfold nv at e ⊢
      rw [List.foldl_append, e]
      simp only [List.foldl_cons, List.foldl_nil]; omega
theorem dg_len (n : Nat) : ∀ k, n < 10 ^ k → 0 < k → (dg n).length ≤ k := by
  induction n using Nat.strongRecOn with
  | ind n ih =>
    intro k hk h0
    by_cases h : n < 10
    · rw [dg_lt h]; exact h0
    · obtain ⟨m, rfl⟩ : ∃ m, k = m + 1 := ⟨k - 1, by omega⟩
      have hm : 0 < m := by
        rcases Nat.eq_zero_or_pos m with rfl | h
        · simp at hk; omega
        · exact h
      have := ih (n / 10) (by omega) m (by rw [Nat.pow_succ] at hk; omega) hm
      rw [dg_ge h, List.length_append]; simp; omega
theorem fig_at : ∀ d, d < 10 → Builtin.Str.occurrences FIG ⟨#[48 + d]⟩ 0 FIG.length 1 = [d] := by decide +kernel
theorem fig_ix {m n : M} {c : Nat} (h0 : 48 ≤ c) (h1 : c < 58) : gIndex (m, .str FIG) [(n, .str ⟨#[c]⟩)] = some (.fr, .int ((c : Int) - 48)) := by
  have e := fig_at (c - 48) (by omega)
  rw [show 48 + (c - 48) = c by omega] at e
  unfold gIndex
  simp only [e]
  congr 3
  omega
theorem num_loop (w : Str) : ∀ (l : List Nat) (a : Int) (o : Option (M × D)), (∀ c ∈ l, 48 ≤ c ∧ c < 58) → ∃ o', forL (gN 2) B_number_of_1 .fr (l.map fun c => .str ⟨#[c]⟩) [some (.al, .str w), some (.fr, .int a), o] = some (.nx [some (.al, .str w), some (.fr, .int (nv l a)), o'])
  | [], a, o, _ => ⟨o, rfl⟩
  | c :: l, a, o, h => by
    obtain ⟨h0, h1⟩ := h c List.mem_cons_self
    obtain ⟨o', ih⟩ := num_loop w l (a * 10 + ((c : Int) - 48)) (some (.fr, .str ⟨#[c]⟩)) fun x m => h x (List.mem_cons_of_mem _ m)
    refine ⟨o', ?_⟩
    have b : B_number_of_1 [some (.al, .str w), some (.fr, .int a), some (.fr, .str ⟨#[c]⟩)] = some (.nx [some (.al, .str w), some (.fr, .int (a * 10 + ((c : Int) - 48))), some (.fr, .str ⟨#[c]⟩)]) := by
      unfold B_number_of_1
      walk_at "ev"
      rw [show (Str.ofString "0123456789") = FIG from rfl, fig_ix h0 h1]
      walk_at "ev"
    rw [List.map_cons, forL]
    show (((gN 2) (.fr, D.str ⟨#[c]⟩) [some (.al, .str w), some (.fr, .int a), o]).bind _) = _
    simp only [gN, Option.bind_some, List.set_cons_succ, List.set_cons_zero, b]
    exact ih
theorem number_ok (n : Nat) (w : Str) (hw : ch w = dg n) : F_number_of [.str w] = some (.fr, .int n) := by
  unfold F_number_of fn g_number_of
  obtain ⟨o', h⟩ := num_loop w (dg n) 0 none (dg_dig n)
  rw [nv_dg] at h
  simp -implicitDefEqProofs only [List.map_cons, List.map_nil, List.length_cons, List.length_nil, Nat.reduceAdd, Nat.reduceSub, List.replicate, List.cons_append, List.nil_append]
  rw [seq_nx (e' := [some (.al, .str w), some (.fr, .int 0), none]) rfl, seq_nx (e' := [some (.al, .str w), some (.fr, .int n), o'])]
  · walk_at "ev"
  · show forL (gN 2) B_number_of_1 .fr (sgs w) _ = _
    rw [show sgs w = (dg n).map fun c => .str ⟨#[c]⟩ by rw [← hw]; rfl]
    exact h
theorem isF_iff (c : Nat) : isF c = true ↔ 48 ≤ c ∧ c < 58 := by
  have e : isF c = decide (c ∈ FIG.cps.toList) := StrLaws.found_one FIG c
  rw [e, decide_eq_true_eq, show FIG.cps.toList = [48, 49, 50, 51, 52, 53, 54, 55, 56, 57] by decide +kernel]
  simp only [List.mem_cons, List.not_mem_nil, or_false]
  omega
theorem isL_iff (c : Nat) : isL c = true ↔ 97 ≤ c ∧ c < 123 := by
  have e : isL c = decide (c ∈ LET.cps.toList) := StrLaws.found_one LET c
  rw [e, decide_eq_true_eq, show LET.cps.toList = [97, 98, 99, 100, 101, 102, 103, 104, 105, 106, 107, 108, 109, 110, 111, 112, 113, 114, 115, 116, 117, 118, 119, 120, 121, 122] by decide +kernel]
  simp only [List.mem_cons, List.not_mem_nil, or_false]
  omega
theorem fig_all (z : Str) : compL bYes (jOp (gInS false) (jV 0) (jC (D.str FIG))) M.fr [] (sgs z) = some (((z.cps.toList.map isF).map D.bl).map fun x => (M.fr, x)) := by
  have := compL_map (fe := jOp (gInS false) (jV 0) (jC (D.str FIG))) (m := .fr) (fr := []) (F := fun d => match d with | .str z => .bl (occB FIG z) | _ => .non) (ds := sgs z) (fun d hd => by
    obtain ⟨c, hc, rfl⟩ := List.mem_map.mp hd
    simp -implicitDefEqProofs only [jOp, jV, jC, gInS, List.getElem?_cons_zero, Option.bind_some, id_eq, if_false, Bool.false_eq_true])
  rw [this]
  congr 1
  unfold sgs
  rw [List.map_map, List.map_map, List.map_map, List.map_map]
  rfl
theorem sgn_eq {c d : Nat} : decide ((⟨#[c]⟩ : Str) = ⟨#[d]⟩) = decide (c = d) := by
  by_cases h : c = d
  · rw [h]; simp
  · rw [decide_eq_false h]
    exact decide_eq_false fun z => h (by simpa using z)
theorem writes_ok {w : Str} {c : Nat} {r : List Nat} (hw : ch w = c :: r) (hl : w.length ≤ 1000) : F_writes_number [.str w] = some (.fr, .bl (if c = 48 then decide (r = []) else (c :: r).all isF)) := by
  have hs : w.length ≤ sizeLine := Nat.le_trans hl (by decide)
  have e0 : L2.atI w.cps.toList 0 = some c := by
    rw [show w.cps.toList = c :: r from hw]; exact atI_nat (k := 0) (l := c :: r) (Nat.succ_pos _)
  unfold F_writes_number fn g_writes_number
  walk_at "ev"
  rw [ix_si hs, e0]
  walk_at "ev"
  rw [show (Str.ofString "0") = (⟨#[48]⟩ : Str) by decide +kernel, sgn_eq]
  by_cases h : c = 48
  · simp only [h]
    walk_at "ev"
    have : decide (w = (⟨#[48]⟩ : Str)) = decide (r = []) := by
      by_cases q : r = []
      · rw [decide_eq_true q]
        exact decide_eq_true (ch_inj (by rw [hw, h, q]; rfl))
      · rw [decide_eq_false q]
        exact decide_eq_false fun z => q (by rw [z] at hw; have : [48] = c :: r := hw; simp at this; exact this.2)
    rw [this]
  · simp only [h]
    walk_at "ev"
    simp -implicitDefEqProofs only [jComp]
    walk_at "ev"
    rw [show (Str.ofString "0123456789") = FIG from rfl, fig_all, Option.bind_some, lstG_fr (by rw [List.length_map, List.length_map]; exact hl), Option.bind_some]
    simp -implicitDefEqProofs only [gAll, blsD_map, Option.bind_some]
    walk_at "ev"
    rw [show w.cps.toList = c :: r from hw, List.all_map]
    rfl
theorem value_num (n : Nat) (w : Str) (hw : ch w = dg n) (hl : w.length ≤ 1000) : F_value_of [.str w] = some (.fr, .int n) := by
  obtain ⟨c, r, e, z⟩ := dg_hd n
  have t : F_writes_number [.str w] = some (.fr, .bl true) := by
    rw [writes_ok (hw.trans e) hl]
    by_cases h : c = 48
    · have hn := z h
      subst hn
      have : dg 0 = [48] := dg_lt (by decide)
      rw [this] at e
      rw [if_pos h, show r = [] by simp at e; exact e.2]; rfl
    · rw [if_neg h]
      have : (c :: r).all isF = true := List.all_eq_true.mpr fun x m => (isF_iff x).mpr (dg_dig n x (e ▸ m))
      rw [this]
  unfold F_value_of fn g_value_of
  walk_at "ev"
  rw [t]
  walk_at "ev"
  rw [number_ok n w hw]
  walk_at "ev"
theorem nameS_ch {z : Str} (h : nameS z = true) : ∃ c r, ch z = c :: r ∧ isL c = true ∧ ∀ x ∈ c :: r, (isL x || isF x) = true := by
  simp only [nameS, Bool.and_eq_true] at h
  obtain ⟨_, _, _, h1, h2⟩ := h
  have e : ch z = z.cps.toList := rfl
  cases q : z.cps.toList with
  | nil => rw [q] at h1; simp [hdL] at h1
  | cons c r =>
    rw [q] at h1 h2
    exact ⟨c, r, e.trans q, h1, fun x m => List.all_eq_true.mp h2 x m⟩
theorem value_name (z : Str) (h : nameS z = true) : F_value_of [.str z] = some (.fr, .str z) := by
  obtain ⟨c, r, e, hc, _⟩ := nameS_ch h
  have hl := nameS_len h
  have hc' := (isL_iff c).mp hc
  have t : F_writes_number [.str z] = some (.fr, .bl false) := by
    rw [writes_ok e (by omega), if_neg (by omega)]
    have : isF c = false := by
      cases q : isF c with
      | false => rfl
      | true => have := (isF_iff c).mp q; omega
    rw [List.all_cons, this]; rfl
  unfold F_value_of fn g_value_of
  walk_at "ev"
  rw [t]
  walk_at "ev"
  simp only [out, D.imm, if_true]
noncomputable def kw : Key → Str
  | .inl i => Str.ofString (toString i)
  | .inr x => x
theorem kok_int {i : Int} (h : KOk (.inl i)) : 0 ≤ i ∧ i < 18446744073709551616 := by
  have : (nameB (.int i) || worthB (.int i)) = true := h.1
  simpa [nameB, worthB] using this
theorem kok_name {x : Str} (h : KOk (.inr x)) : nameS x = true := by
  have : (nameB (.str x) || worthB (.str x)) = true := h.1
  simpa [nameB, worthB] using this
theorem int_word {i : Int} (h0 : 0 ≤ i) (h1 : i < 10 ^ 30) : ch (Str.ofString (toString i)) = dg i.toNat ∧ (Str.ofString (toString i)).length ≤ 30 := by
  refine ⟨str_int h0, ?_⟩
  rw [← ch_len, str_int h0]
  refine dg_len _ 30 ?_ (by decide)
  have e : (10 : Int) ^ 30 = ((10 ^ 30 : Nat) : Int) := by decide
  rw [e] at h1
  omega
theorem value_int {i : Int} (h0 : 0 ≤ i) (h1 : i < 10 ^ 30) : F_value_of [.str (Str.ofString (toString i))] = some (.fr, .int i) := by
  obtain ⟨a, b⟩ := int_word h0 h1
  rw [value_num i.toNat _ a (by omega), Int.toNat_of_nonneg h0]
theorem value_ok {k : Key} (h : KOk k) : F_value_of [.str (kw k)] = some (.fr, kD k) := by
  cases k with
  | inl i =>
    obtain ⟨a, b⟩ := kok_int h
    exact value_int a (Int.lt_trans b (by decide))
  | inr x => exact value_name x (kok_name h)
noncomputable def rowW : Row → List Str
  | .rk x s a b => [x, "=", kw a, s, kw b]
  | .cp x a => [x, "=", kw a]
  | .sy a => ["say", kw a]
  | .go t => ["go", Str.ofString (toString t)]
  | .pt a t => ["part", kw a, Str.ofString (toString t)]
  | .en => ["end"]
noncomputable def TOk (t : Int) : Prop := 0 ≤ t ∧ t < 10 ^ 30
noncomputable def RT : Row → Prop
  | .go t => TOk t
  | .pt _ t => TOk t
  | _ => True
theorem log_ok {i : Int} (h : TOk i) : i.natAbs.log2 < 1920 := by
  by_cases z : i.natAbs = 0
  · rw [z]; decide
  · refine (Nat.log2_lt z).mpr ?_
    have e : (10 : Int) ^ 30 = ((10 ^ 30 : Nat) : Int) := by decide
    have h2 := h.2
    rw [e] at h2
    have h1 := h.1
    exact Nat.lt_of_lt_of_le (by omega : i.natAbs < 10 ^ 30) (by decide)
theorem str_i {i : Int} {m : M} (h : TOk i) : gStr [(m, .int i)] = some (.fr, .str (Str.ofString (toString i))) := by
  unfold gStr
  simp only [log_ok h, if_true]
theorem kok_t {i : Int} (h : KOk (.inl i)) : TOk i := by
  obtain ⟨a, b⟩ := kok_int h
  exact ⟨a, Int.lt_trans b (by decide)⟩
theorem str_k {k : Key} {m : M} (h : KOk k) : gStr [(m, kD k)] = some (.fr, .str (kw k)) := by
  cases k with
  | inl i => exact str_i (kok_t h)
  | inr x => rfl
structure Wd (w : Str) : Prop where
  ne : ch w ≠ []
  no : ∀ c ∈ ch w, c ≠ 32 ∧ c ≠ 35 ∧ c ≠ 10
  ln : w.length ≤ 30
theorem wd_name {z : Str} (h : nameS z = true) : Wd z := by
  obtain ⟨c, r, e, _, ha⟩ := nameS_ch h
  have hl := nameS_len h
  refine ⟨by rw [e]; exact List.cons_ne_nil _ _, fun x m => ?_, by omega⟩
  have q := ha x (e ▸ m)
  rcases Bool.or_eq_true_iff.mp q with q | q
  · have := (isL_iff x).mp q; omega
  · have := (isF_iff x).mp q; omega
theorem wd_int {t : Int} (h : TOk t) : Wd (Str.ofString (toString t)) := by
  obtain ⟨a, b⟩ := int_word h.1 h.2
  obtain ⟨c, r, e, _⟩ := dg_hd t.toNat
  refine ⟨by rw [a, e]; exact List.cons_ne_nil _ _, fun x m => ?_, b⟩
  have := dg_dig t.toNat x (a ▸ m)
  omega
theorem wd_key {k : Key} (h : KOk k) : Wd (kw k) := by
  cases k with
  | inl i => exact wd_int (kok_t h)
  | inr x => exact wd_name (kok_name h)
theorem wd_lit {w : Str} (h : (decide (ch w ≠ []) && (ch w).all (fun c => c != 32 && c != 35 && c != 10) && decide (w.length ≤ 30)) = true) : Wd w := by
  simp only [Bool.and_eq_true, decide_eq_true_eq, List.all_eq_true, bne_iff_ne] at h
  exact ⟨h.1.1, fun c m => by have := h.1.2 c m; exact ⟨this.1.1, this.1.2, this.2⟩, h.2⟩
theorem wd_sign {s : Str} (h : signB (.str s) = true) : Wd s := by
  simp only [signB, inV, SGS] at h
  simp only [List.any_cons, List.any_nil, Bool.or_false, Bool.or_eq_true, eqV, beq_iff_eq] at h
  rcases h with rfl | rfl | rfl | rfl | rfl | rfl | rfl | rfl <;> exact wd_lit (by decide +kernel)
theorem row_wd {r : Row} (h : RV r) (ht : RT r) : ∀ w ∈ rowW r, Wd w := by
  have eq : Wd "=" := wd_lit (by decide +kernel)
  cases r with
  | rk x s a b =>
    obtain ⟨hx, ⟨hs, _⟩, ha, hb⟩ := h
    intro w m
    simp only [rowW, List.mem_cons, List.not_mem_nil, or_false] at m
    rcases m with rfl | rfl | rfl | rfl | rfl
    · exact wd_name hx
    · exact eq
    · exact wd_key ha
    · exact wd_sign hs
    · exact wd_key hb
  | cp x a =>
    obtain ⟨hx, ha⟩ := h
    intro w m
    simp only [rowW, List.mem_cons, List.not_mem_nil, or_false] at m
    rcases m with rfl | rfl | rfl
    · exact wd_name hx
    · exact eq
    · exact wd_key ha
  | sy a =>
    intro w m
    simp only [rowW, List.mem_cons, List.not_mem_nil, or_false] at m
    rcases m with rfl | rfl
    · exact wd_lit (by decide +kernel)
    · exact wd_key h
  | go t =>
    intro w m
    simp only [rowW, List.mem_cons, List.not_mem_nil, or_false] at m
    rcases m with rfl | rfl
    · exact wd_lit (by decide +kernel)
    · exact wd_int ht
  | pt a t =>
    intro w m
    simp only [rowW, List.mem_cons, List.not_mem_nil, or_false] at m
    rcases m with rfl | rfl | rfl
    · exact wd_lit (by decide +kernel)
    · exact wd_key h
    · exact wd_int ht
  | en =>
    intro w m
    simp only [rowW, List.mem_cons, List.not_mem_nil, or_false] at m
    subst m
    exact wd_lit (by decide +kernel)
theorem rowW_len (r : Row) : 1 ≤ (rowW r).length ∧ (rowW r).length ≤ 5 := by cases r <;> exact ⟨by simp [rowW], by simp [rowW]⟩
inductive Strs : List D → List Str → Prop
  | nil : Strs [] []
  | cons {d : D} {w : Str} {ds : List D} {ws : List Str} : (∀ m, gStr [(m, d)] = some (.fr, .str w)) → Strs ds ws → Strs (d :: ds) (w :: ws)
theorem comp_str {ds : List D} {ws : List Str} (m : M) (h : Strs ds ws) : compL bYes (jCB gStr (jCons (jV 0) jNil)) m [] ds = some ((ws.map D.str).map fun x => (M.fr, x)) := by
  induction h with
  | nil => rfl
  | cons a b ih =>
    rw [compL, show bYes _ = some true from rfl, Option.bind_some, if_pos rfl]
    rw [show (jCB gStr (jCons (jV 0) jNil)) (some (m, _) :: []) = gStr [(m, _)] from rfl, a m, Option.bind_some, ih, Option.bind_some]
    rfl
theorem wt {r : Row} (w : Str) : (jB (jOp gEq (jOp gIx (jV 0) (jC (.int 0))) (jC (.str w)))) [some (.al, r.d)] = some (decide (r.word = w)) := by
  have e : L2.atI r.ds 0 = some (.str r.word) := r.at0
  simp -implicitDefEqProofs only [jB, jOp, jV, jC, List.getElem?_cons_zero, Option.bind_some, id_eq, Row.d, ix_ti, e, Option.map_some, eq_ss, dBl_b]
theorem w5 {x s : Str} {a b : Key} (ha : KOk a) (hb : KOk b) : (jLst (jCons (jOp gIx (jV 0) (jC (.int 1))) (jCons (jC (.str "=")) (jCons (jCB gStr (jCons (jOp gIx (jV 0) (jC (.int 3))) jNil)) (jCons (jOp gIx (jV 0) (jC (.int 2))) (jCons (jCB gStr (jCons (jOp gIx (jV 0) (jC (.int 4))) jNil)) jNil)))))) [some (.al, Row.d (.rk x s a b))] = some (.un, .lst ((rowW (.rk x s a b)).map .str)) := by
  have a1 : L2.atI (Row.ds (.rk x s a b)) 1 = some (.str x) := rfl
  have a2 : L2.atI (Row.ds (.rk x s a b)) 2 = some (.str s) := rfl
  have a3 : L2.atI (Row.ds (.rk x s a b)) 3 = some (kD a) := rfl
  have a4 : L2.atI (Row.ds (.rk x s a b)) 4 = some (kD b) := rfl
  simp -implicitDefEqProofs only [jLst, jCons, jNil, jCB, jOp, jV, jC, List.getElem?_cons_zero, Option.bind_some, id_eq, Row.d, ix_ti, a1, a2, a3, a4, Option.map_some, str_k ha, str_k hb, elm_al]
  rfl
theorem w3 {x : Str} {a : Key} (ha : KOk a) : (jLst (jCons (jOp gIx (jV 0) (jC (.int 1))) (jCons (jC (.str "=")) (jCons (jCB gStr (jCons (jOp gIx (jV 0) (jC (.int 2))) jNil)) jNil)))) [some (.al, Row.d (.cp x a))] = some (.un, .lst ((rowW (.cp x a)).map .str)) := by
  have a1 : L2.atI (Row.ds (.cp x a)) 1 = some (.str x) := rfl
  have a2 : L2.atI (Row.ds (.cp x a)) 2 = some (kD a) := rfl
  simp -implicitDefEqProofs only [jLst, jCons, jNil, jCB, jOp, jV, jC, List.getElem?_cons_zero, Option.bind_some, id_eq, Row.d, ix_ti, a1, a2, Option.map_some, str_k ha, elm_al]
  rfl
theorem wc {r : Row} (h : Strs r.ds (rowW r)) : (jComp (itT (jV 0)) [] bYes (jCB gStr (jCons (jV 0) jNil))) [some (.al, r.d)] = some (.un, .lst ((rowW r).map .str)) := by
  show ((some (M.al, r.ds)).bind fun x => (compL bYes (jCB gStr (jCons (jV 0) jNil)) x.1 [] x.2).bind jLstG) = _
  rw [Option.bind_some, comp_str .al h, Option.bind_some, lstG_fr (by rw [List.length_map]; have := rowW_len r; omega)]
theorem wr {r : Row} (h : RV r) (ht : RT r) (h1 : r.word ≠ "reckon") (h2 : r.word ≠ "copy") : Strs r.ds (rowW r) := by
  cases r with
  | rk x s a b => exact absurd rfl h1
  | cp x a => exact absurd rfl h2
  | sy a => exact .cons (fun _ => rfl) (.cons (fun _ => str_k h) .nil)
  | go t => exact .cons (fun _ => rfl) (.cons (fun _ => str_i ht) .nil)
  | pt a t => exact .cons (fun _ => rfl) (.cons (fun _ => str_k h) (.cons (fun _ => str_i ht) .nil))
  | en => exact .cons (fun _ => rfl) .nil
@[elab_as_elim] theorem by3 {P : Row → Prop} (r : Row) (p1 : ∀ x s a b, P (.rk x s a b)) (p2 : ∀ x a, P (.cp x a)) (p3 : ∀ r : Row, r.word ≠ "reckon" → r.word ≠ "copy" → P r) : P r := by
  cases r with
  | rk x s a b => exact p1 x s a b
  | cp x a => exact p2 x a
  | sy a => exact p3 _ (by show ("say" : Str) ≠ "reckon"; decide +kernel) (by show ("say" : Str) ≠ "copy"; decide +kernel)
  | go t => exact p3 _ (by show ("go" : Str) ≠ "reckon"; decide +kernel) (by show ("go" : Str) ≠ "copy"; decide +kernel)
  | pt a t => exact p3 _ (by show ("part" : Str) ≠ "reckon"; decide +kernel) (by show ("part" : Str) ≠ "copy"; decide +kernel)
  | en => exact p3 _ (by show ("end" : Str) ≠ "reckon"; decide +kernel) (by show ("end" : Str) ≠ "copy"; decide +kernel)
theorem pass1 {e : Ev} : jPass e = some (.nx e) := rfl
theorem lw_ok {r : Row} (h : RV r) (ht : RT r) : F_law_words [r.d] = some (.un, .lst ((rowW r).map .str)) := by
  show (g_law_words [some (.al, r.d)]).bind out = _
  unfold g_law_words
  revert h ht
  refine by3 r (fun x s a b h _ => ?_) (fun x a h _ => ?_) fun r h1 h2 h ht => ?_
  · rw [seq_rt (by rw [if_t (wt _), jRet, w5 h.2.2.1 h.2.2.2]; rfl)]; rfl
  · rw [seq_nx (by rw [if_f (wt _)]; rfl), seq_rt (by rw [if_t (wt _), jRet, w3 h.2]; rfl)]; rfl
  · rw [seq_nx (by rw [if_f ((wt _).trans (by rw [decide_eq_false h1]))]; rfl), seq_nx (by rw [if_f ((wt _).trans (by rw [decide_eq_false h2]))]; rfl), jRet, wc (wr h ht h1 h2)]; rfl
noncomputable def lnW (r : Row) : Str := Txt.join " " (rowW r)
theorem sum_wd : ∀ {ws : List Str}, (∀ w ∈ ws, Wd w) → (ws.map (·.length)).sum ≤ 30 * ws.length
  | [], _ => Nat.le_refl _
  | w :: ws, h => by
    have := (h w List.mem_cons_self).ln
    have := sum_wd fun v m => h v (List.mem_cons_of_mem _ m)
    simp only [List.map_cons, List.sum_cons, List.length_cons]; omega
theorem sp_len1 : (Str.length " ") = 1 := by decide +kernel
theorem jnW {r : Row} {m n : M} (h : RV r) (ht : RT r) : gJoin (m, .str " ") [(n, .lst ((rowW r).map .str))] = some (.fr, .str (lnW r)) := by
  have l := rowW_len r
  have s := sum_wd (row_wd h ht)
  unfold gJoin
  simp only [strsD_map, Option.bind_some]
  rw [if_pos (by rw [show Str.length (Str.ofString " ") = 1 from sp_len1]; omega)]
  rfl
theorem line_ok {r : Row} (h : RV r) (ht : RT r) : F_line_of [r.d] = some (.fr, .str (lnW r)) := by
  show (g_line_of [some (.al, r.d)]).bind out = _
  unfold g_line_of
  have hj := @jnW r .fr .un h ht
  have fin : ∀ {f : Ev → Option (M × D)}, f [some (.al, r.d)] = some (.un, .lst ((rowW r).map .str)) → (jBM isS gJoin (jC (.str " ")) (jCons f jNil)) [some (.al, r.d)] = some (.fr, .str (lnW r)) := fun {f} e => by
    simp -implicitDefEqProofs only [jBM, jC, isS, jCons, jNil, e, Option.bind_some, if_true, hj]
  clear hj
  revert h ht fin
  refine by3 r (fun x s a b h _ fin => ?_) (fun x a h _ fin => ?_) fun r h1 h2 h ht fin => ?_
  · rw [seq_rt (by rw [if_t (wt _), jRet, fin (w5 h.2.2.1 h.2.2.2)]; rfl)]; rfl
  · rw [seq_nx (by rw [if_f (wt _)]; rfl), seq_rt (by rw [if_t (wt _), jRet, fin (w3 h.2)]; rfl)]; rfl
  · rw [seq_nx (by rw [if_f ((wt _).trans (by rw [decide_eq_false h1]))]; rfl), seq_nx (by rw [if_f ((wt _).trans (by rw [decide_eq_false h2]))]; rfl), jRet, fin (wc (wr h ht h1 h2))]; rfl
theorem tA {L : D} {k n : Int} {T : Ev → Option Bool} (h : k ≠ n) : bAnd (jB (jOp gEq (jV 1) (jC (.int n)))) T [some (.al, L), some (.fr, .int k)] = some false := by
  simp -implicitDefEqProofs only [bAnd, jB, jOp, jV, jC, List.getElem?_cons_zero, List.getElem?_cons_succ, Option.bind_some, id_eq, eq_ii, dBl_b, decide_eq_false h, if_false, Bool.false_eq_true]
theorem tB {L : D} {n : Int} {T : Ev → Option Bool} : bAnd (jB (jOp gEq (jV 1) (jC (.int n)))) T [some (.al, L), some (.fr, .int n)] = T [some (.al, L), some (.fr, .int n)] := by
  simp -implicitDefEqProofs only [bAnd, jB, jOp, jV, jC, List.getElem?_cons_zero, List.getElem?_cons_succ, Option.bind_some, id_eq, eq_ii, dBl_b, decide_true, if_true]
theorem ixw {ws : List Str} {o : Option (M × D)} (i : Int) {w : Str} (h : L2.atI (ws.map D.str) i = some (.str w)) : (jOp gIx (jV 0) (jC (.int i))) [some (.al, .lst (ws.map .str)), o] = some (.al, .str w) := by
  simp -implicitDefEqProofs only [jOp, jV, jC, List.getElem?_cons_zero, Option.bind_some, id_eq, ix_li, elm_al, h, Option.map_some]
theorem teq {ws : List Str} {o : Option (M × D)} (i : Int) {w : Str} (s : Str) (h : L2.atI (ws.map D.str) i = some (.str w)) : (jB (jOp gEq (jOp gIx (jV 0) (jC (.int i))) (jC (.str s)))) [some (.al, .lst (ws.map .str)), o] = some (decide (w = s)) := by
  have e := ixw (o := o) i h
  rw [jB, jOp, e]
  simp -implicitDefEqProofs only [jC, Option.bind_some, eq_ss, dBl_b]
theorem vcall {ws : List Str} {o : Option (M × D)} (i : Int) {w : Str} {d : D} (h : L2.atI (ws.map D.str) i = some (.str w)) (hv : F_value_of [.str w] = some (.fr, d)) : (jCall F_value_of (jCons (jOp gIx (jV 0) (jC (.int i))) jNil)) [some (.al, .lst (ws.map .str)), o] = some (.fr, d) := by
  have e := ixw (o := o) i h
  simp -implicitDefEqProofs only [jCall, jCons, jNil, e, Option.bind_some, List.map_cons, List.map_nil, hv]
theorem ro_start {ws : List Str} (hl : ws.length ≤ 100) : jSet 1 (jCB gLen (jCons (jV 0) jNil)) [some (.al, .lst (ws.map .str)), none] = some (.nx [some (.al, .lst (ws.map .str)), some (.fr, .int ws.length)]) := by
  simp -implicitDefEqProofs only [jSet, jCB, jCons, jNil, jV, List.getElem?_cons_zero, Option.bind_some, id_eq, len_l, List.length_map, slot_fr, List.set_cons_succ, List.set_cons_zero]
theorem kw_eq {k : Key} (h : KOk k) : kw k ≠ "=" := by
  intro z
  have e : ch (kw k) = [61] := by rw [z]; decide +kernel
  cases k with
  | inl i =>
    have := (int_word (kok_t h).1 (kok_t h).2).1
    have m := dg_dig i.toNat 61 (by rw [← this]; show 61 ∈ ch (kw (.inl i)); rw [e]; exact List.mem_cons_self)
    omega
  | inr x =>
    obtain ⟨c, r, e2, hc, _⟩ := nameS_ch (kok_name h)
    have : c :: r = [61] := e2.symm.trans e
    have hc' := (isL_iff c).mp hc
    simp at this
    omega
theorem tup_of {fs : Ev → Option (List (M × D))} {e : Ev} {mds : List (M × D)} (h : fs e = some mds) (hl : mds.length ≤ 10) (hs : (mds.all fun x => sto x.1 x.2) = true) : jRet (jTup fs) e = some (.rt e .fr (.tup (mds.map (·.2)))) := by
  simp only [jRet, jTup, h, Option.bind_some]
  unfold jTupG
  rw [if_pos (Nat.le_trans hl (by decide)), if_pos hs]
  rfl
theorem cons_of {f : Ev → Option (M × D)} {g : Ev → Option (List (M × D))} {e : Ev} {x : M × D} {l : List (M × D)} (h1 : f e = some x) (h2 : g e = some l) : jCons f g e = some (x :: l) := by simp only [jCons, h1, h2, Option.bind_some]
theorem bor_t {f g : Ev → Option Bool} {e : Ev} (h : f e = some true) : bOr f g e = some true := by simp [bOr, h]
theorem bor_f {f g : Ev → Option Bool} {e : Ev} (h : f e = some false) : bOr f g e = g e := by simp [bOr, h]
theorem row_of_ok {r : Row} (h : RV r) (ht : RT r) : F_row_of [.lst ((rowW r).map .str)] = some (.fr, r.d) := by
  show (g_row_of [some (.al, .lst ((rowW r).map .str)), none]).bind out = _
  unfold g_row_of
  rw [seq_nx (ro_start (by have := (rowW_len r).2; omega))]
  cases r with
  | rk x s a b =>
    rw [show ((rowW (.rk x s a b)).length : Int) = 5 from rfl]
    have i0 := ixw (ws := rowW (.rk x s a b)) (o := some (.fr, .int 5)) 0 rfl
    have i3 := ixw (ws := rowW (.rk x s a b)) (o := some (.fr, .int 5)) 3 rfl
    have v2 := vcall (ws := rowW (.rk x s a b)) (o := some (.fr, .int 5)) 2 rfl (value_ok h.2.2.1)
    have v4 := vcall (ws := rowW (.rk x s a b)) (o := some (.fr, .int 5)) 4 rfl (value_ok h.2.2.2)
    rw [seq_rt ((if_t (tB.trans (teq (ws := rowW (.rk x s a b)) 1 "=" rfl))).trans (tup_of (cons_of rfl (cons_of i0 (cons_of i3 (cons_of v2 (cons_of v4 rfl))))) (Nat.le_of_ble_eq_true rfl) rfl))]
    rfl
  | cp x a =>
    rw [show ((rowW (.cp x a)).length : Int) = 3 from rfl]
    have i0 := ixw (ws := rowW (.cp x a)) (o := some (.fr, .int 3)) 0 rfl
    have v2 := vcall (ws := rowW (.cp x a)) (o := some (.fr, .int 3)) 2 rfl (value_ok h.2)
    rw [seq_nx ((if_f (tA (by decide))).trans pass1), seq_rt ((if_t (tB.trans (teq (ws := rowW (.cp x a)) 1 "=" rfl))).trans (tup_of (cons_of rfl (cons_of i0 (cons_of v2 rfl))) (Nat.le_of_ble_eq_true rfl) rfl))]
    rfl
  | pt a t =>
    rw [show ((rowW (.pt a t)).length : Int) = 3 from rfl]
    have v1 := vcall (ws := rowW (.pt a t)) (o := some (.fr, .int 3)) 1 rfl (value_ok h)
    have v2 := vcall (ws := rowW (.pt a t)) (o := some (.fr, .int 3)) 2 rfl (value_int ht.1 ht.2)
    rw [seq_nx ((if_f (tA (by decide))).trans pass1), seq_nx ((if_f (tB.trans ((teq (ws := rowW (.pt a t)) 1 "=" rfl).trans (by rw [decide_eq_false (kw_eq h)])))).trans pass1), seq_rt ((if_t (tB.trans (teq (ws := rowW (.pt a t)) 0 "part" rfl))).trans (tup_of (cons_of rfl (cons_of v1 (cons_of v2 rfl))) (Nat.le_of_ble_eq_true rfl) rfl))]
    rfl
  | sy a =>
    rw [show ((rowW (.sy a)).length : Int) = 2 from rfl]
    have i0 := ixw (ws := rowW (.sy a)) (o := some (.fr, .int 2)) 0 rfl
    have v1 := vcall (ws := rowW (.sy a)) (o := some (.fr, .int 2)) 1 rfl (value_ok h)
    rw [seq_nx ((if_f (tA (by decide))).trans pass1), seq_nx ((if_f (tA (by decide))).trans pass1), seq_nx ((if_f (tA (by decide))).trans pass1), seq_rt ((if_t (tB.trans (bor_t (teq (ws := rowW (.sy a)) 0 "say" rfl)))).trans (tup_of (cons_of i0 (cons_of v1 rfl)) (Nat.le_of_ble_eq_true rfl) rfl))]
    rfl
  | go t =>
    rw [show ((rowW (.go t)).length : Int) = 2 from rfl]
    have i0 := ixw (ws := rowW (.go t)) (o := some (.fr, .int 2)) 0 rfl
    have v1 := vcall (ws := rowW (.go t)) (o := some (.fr, .int 2)) 1 rfl (value_int ht.1 ht.2)
    rw [seq_nx ((if_f (tA (by decide))).trans pass1), seq_nx ((if_f (tA (by decide))).trans pass1), seq_nx ((if_f (tA (by decide))).trans pass1), seq_rt ((if_t (tB.trans ((bor_f (teq (ws := rowW (.go t)) 0 "say" rfl)).trans (teq (ws := rowW (.go t)) 0 "go" rfl)))).trans (tup_of (cons_of i0 (cons_of v1 rfl)) (Nat.le_of_ble_eq_true rfl) rfl))]
    rfl
  | en =>
    rw [show ((rowW .en).length : Int) = 1 from rfl]
    rw [seq_nx ((if_f (tA (by decide))).trans pass1), seq_nx ((if_f (tA (by decide))).trans pass1), seq_nx ((if_f (tA (by decide))).trans pass1), seq_nx ((if_f (tA (by decide))).trans pass1), seq_rt ((if_t (tB.trans (teq (ws := rowW .en) 0 "end" rfl))).trans (tup_of (cons_of rfl rfl) (Nat.le_of_ble_eq_true rfl) rfl))]
    rfl
noncomputable def wsL (w : Str) : List Str := (wl (ch w)).map mk
theorem comp_ne (m : M) : ∀ ls : List Str, compL (jB (jOp gNe (jV 0) (jC (.str "")))) (jV 0) m [] (ls.map D.str) = some ((ls.filter fun w => !(ch w).isEmpty).map fun w => (m, D.str w))
  | [] => rfl
  | w :: ls => by
    have ih := comp_ne m ls
    have t : (jB (jOp gNe (jV 0) (jC (.str "")))) (some (m, D.str w) :: []) = some (!(ch w).isEmpty) := by
      simp -implicitDefEqProofs only [jB, jOp, jV, jC, List.getElem?_cons_zero, Option.bind_some, id_eq, ne_ss, dBl_b]
      congr 2
      cases e : ch w with
      | nil => exact decide_eq_true (ch_inj (by rw [e]; decide +kernel))
      | cons c r => exact decide_eq_false fun z => by rw [z] at e; revert e; rw [show ch (Str.ofString "") = [] by decide +kernel]; intro e; cases e
    rw [List.map_cons, compL, t, Option.bind_some, List.filter_cons]
    cases q : !(ch w).isEmpty with
    | false => simp only [Bool.false_eq_true, if_false, ih]
    | true =>
      simp only [if_true, ih, Option.bind_some, List.map_cons]
      rfl
theorem lstG_el {m : M} (hm : m = .fr ∨ m = .al) (ls : List Str) (h : ls.length ≤ 1000000) : jLstG (ls.map fun w => (m, D.str w)) = some (.un, .lst (ls.map .str)) := by
  unfold jLstG
  rw [if_pos (by rw [List.length_map]; exact Nat.le_trans h (by decide)), if_pos (by rw [List.all_map]; exact List.all_eq_true.mpr fun _ _ => by rcases hm with rfl | rfl <;> rfl), List.map_map]
  rfl
theorem hash_s : (Str.ofString "#") = ⟨#[35]⟩ := by decide +kernel
theorem blank_s : (Str.ofString " ") = ⟨#[32]⟩ := by decide +kernel
theorem nl_s : (Str.ofString "\n") = ⟨#[10]⟩ := by decide +kernel
theorem tw_len (c : Nat) (l : List Nat) : (l.takeWhile (· ≠ c)).length ≤ l.length := (List.takeWhile_sublist _).length_le
theorem filter_mk (ps : List (List Nat)) : ((ps.map mk).filter fun w => !(ch w).isEmpty) = (ps.filter fun w => !w.isEmpty).map mk := by
  rw [List.filter_map]
  rfl
theorem words_ok (w : Str) (hl : w.length ≤ 100000) : F_words_of [.str w] = some (.un, .lst ((wsL w).map .str)) := by
  have hp := part_eq w 35
  have hlp : (Txt.partition w ⟨#[35]⟩).1.length ≤ 100000 := by
    rw [← ch_len, hp]
    have := tw_len 35 (ch w)
    rw [ch_len] at this
    omega
  have hs := split_eq (Txt.partition w ⟨#[35]⟩).1 32
  have hsl : (Txt.split (Txt.partition w ⟨#[35]⟩).1 ⟨#[32]⟩).length ≤ 100001 := by
    rw [hs, List.length_map]
    have := sp_len 32 (ch (Txt.partition w ⟨#[35]⟩).1)
    rw [ch_len] at this
    omega
  have z1 : w.length ≤ sizeLine := Nat.le_trans hl (by decide)
  have z2 : (Txt.partition w ⟨#[35]⟩).1.length ≤ sizeLine := Nat.le_trans hlp (by decide)
  have z3 : (Txt.split (Txt.partition w ⟨#[35]⟩).1 ⟨#[32]⟩).length ≤ sizeLine := Nat.le_trans hsl (by decide)
  have gp : gPartition (.al, .str w) [(.fr, .str ⟨#[35]⟩)] = some (.fr, .tup [.str (Txt.partition w ⟨#[35]⟩).1, .str (Txt.partition w ⟨#[35]⟩).2.1, .str (Txt.partition w ⟨#[35]⟩).2.2]) := by
    unfold gPartition
    simp only []
    rw [if_pos ⟨rfl, z1⟩]
  have gs : gSplit (.fr, .str (Txt.partition w ⟨#[35]⟩).1) [(.fr, .str ⟨#[32]⟩)] = some (.un, .lst ((Txt.split (Txt.partition w ⟨#[35]⟩).1 ⟨#[32]⟩).map D.str)) := by
    unfold gSplit
    simp only []
    rw [if_pos ⟨rfl, z2, z3⟩]
  unfold F_words_of fn g_words_of
  simp -implicitDefEqProofs only [hash_s, blank_s, jRet, jComp, itL, jBM, jOp, jV, jC, jCons, jNil, isS, List.map_cons, List.map_nil, List.length_cons, List.length_nil, Nat.reduceAdd, Nat.reduceSub, List.replicate, List.append_nil, List.getElem?_cons_zero, Option.bind_some, id_eq, if_true, gp, ix_ti]
  rw [show L2.atI [D.str (Txt.partition w ⟨#[35]⟩).1, .str (Txt.partition w ⟨#[35]⟩).2.1, .str (Txt.partition w ⟨#[35]⟩).2.2] 0 = some (.str (Txt.partition w ⟨#[35]⟩).1) from rfl]
  simp -implicitDefEqProofs only [Option.map_some, Option.bind_some, elm_fr, isS, if_true, gs, itm]
  rw [show frE [some (M.al, D.str w)] [] = [] from rfl, comp_ne, Option.bind_some, lstG_el (.inl rfl)]
  · simp -implicitDefEqProofs only [Option.bind_some, out_un]
    rw [hs, filter_mk, hp]
    rfl
  · exact Nat.le_trans (List.length_filter_le _ _) (by omega)
noncomputable def LineOk (w : Str) (o : Option Row) : Prop := w.length ≤ 100000 ∧ match o with
  | none => wsL w = []
  | some r => wsL w = rowW r ∧ RV r ∧ RT r
theorem rt_valid {r : Row} (h : RV r) (ht : RT r) : F_is_row [r.d] = some (.fr, .bl true) := row_valid h (fun t e => by subst e; exact ht.1) (fun a t e => by subst e; exact ht.1)
theorem app_r {e : Ev} {rs : List Row} {r : Row} {m : M} (h1 : e[1]? = some (some (.bo, .lst (rs.map Row.d)))) (h5 : jV 5 e = some (m, r.d)) (hl : rs.length ≤ 100000) : jApp 1 (jV 5) e = some (.nx (e.set 1 (some (.bo, .lst ((rs ++ [r]).map Row.d))))) := by
  have hs : (rs.map Row.d).length < sizeLine := by rw [List.length_map]; exact Nat.lt_of_le_of_lt hl (by decide)
  have st : sto m r.d = true := by cases m <;> first | rfl | exact r.imm
  simp only [jApp, h5, Option.bind_some, st, if_true, ownL, h1, own, hs]
  rw [app_rows]
theorem read_body {w : Str} {o : Option Row} (h : LineOk w o) (T : D) (rs : List Row) (hl : rs.length ≤ 100000) (n : Int) (o4 o5 : Option (M × D)) : ∃ o4' o5', B_read_1 [some (.al, T), some (.bo, .lst (rs.map Row.d)), some (.fr, .int n), some (.fr, .str w), o4, o5] = some (.nx [some (.al, T), some (.bo, .lst ((rs ++ o.toList).map Row.d)), some (.fr, .int n), some (.fr, .str w), o4', o5']) := by
  have s4 : jSet 4 (jCall F_words_of (jCons (jV 3) jNil)) [some (.al, T), some (.bo, .lst (rs.map Row.d)), some (.fr, .int n), some (.fr, .str w), o4, o5] = some (.nx [some (.al, T), some (.bo, .lst (rs.map Row.d)), some (.fr, .int n), some (.fr, .str w), some (.bo, .lst ((wsL w).map .str)), o5]) := by
    simp -implicitDefEqProofs only [jSet, jCall, jCons, jNil, jV, List.getElem?_cons_zero, List.getElem?_cons_succ, Option.bind_some, id_eq, List.map_cons, List.map_nil, words_ok w h.1, slot_un, List.set_cons_succ, List.set_cons_zero]
  have t : (jB (jOp jGt (jCB gLen (jCons (jV 4) jNil)) (jC (.int 0)))) [some (.al, T), some (.bo, .lst (rs.map Row.d)), some (.fr, .int n), some (.fr, .str w), some (.bo, .lst ((wsL w).map .str)), o5] = some (decide ((0 : Int) < (wsL w).length)) := by
    simp -implicitDefEqProofs only [jB, jOp, jCB, jCons, jNil, jV, jC, List.getElem?_cons_zero, List.getElem?_cons_succ, Option.bind_some, id_eq, len_l, List.length_map, gt_ii, dBl_b]
  unfold B_read_1
  rw [seq_nx s4]
  cases o with
  | none =>
    have e : wsL w = [] := h.2
    rw [if_f (t.trans (by rw [e]; rfl))]
    exact ⟨_, _, by rw [Option.toList, List.append_nil]; rfl⟩
  | some r =>
    obtain ⟨e, rv, rt⟩ := h.2
    have hw := (rowW_len r).1
    rw [if_t (t.trans (by rw [e]; exact congrArg some (decide_eq_true (by omega))))]
    have s5 : jSet 5 (jCall F_row_of (jCons (jV 4) jNil)) [some (.al, T), some (.bo, .lst (rs.map Row.d)), some (.fr, .int n), some (.fr, .str w), some (.bo, .lst ((wsL w).map .str)), o5] = some (.nx [some (.al, T), some (.bo, .lst (rs.map Row.d)), some (.fr, .int n), some (.fr, .str w), some (.bo, .lst ((wsL w).map .str)), some (.fr, r.d)]) := by
      rw [e]
      simp -implicitDefEqProofs only [jSet, jCall, jCons, jNil, jV, List.getElem?_cons_zero, List.getElem?_cons_succ, Option.bind_some, id_eq, List.map_cons, List.map_nil, row_of_ok rv rt, slot_fr, List.set_cons_succ, List.set_cons_zero]
    have t2 : (bNot (jB (jCall F_is_row (jCons (jV 5) jNil)))) [some (.al, T), some (.bo, .lst (rs.map Row.d)), some (.fr, .int n), some (.fr, .str w), some (.bo, .lst ((wsL w).map .str)), some (.fr, r.d)] = some false := by
      simp -implicitDefEqProofs only [bNot, jB, jCall, jCons, jNil, jV, List.getElem?_cons_zero, List.getElem?_cons_succ, Option.bind_some, id_eq, List.map_cons, List.map_nil, rt_valid rv rt, dBl_b, Bool.not_true]
    rw [seq_nx s5, seq_nx ((if_f t2).trans pass1), app_r (rs := rs) (r := r) (m := .fr) rfl rfl hl]
    exact ⟨_, _, rfl⟩
theorem enum_s {ls : List Str} {i : Nat} {d : D} (h : (enumD (ls.map D.str))[i]? = some d) : ∃ w, ls[i]? = some w ∧ d = .tup [.int i, .str w] := by
  unfold enumD at h
  rw [List.getElem?_mapIdx, List.getElem?_map] at h
  cases e : ls[i]? with
  | none => rw [e] at h; cases h
  | some w => rw [e] at h; cases h; exact ⟨w, rfl, rfl⟩
noncomputable def Lines (ls : List Str) (js : List (Option Row)) : Prop := ls.length = js.length ∧ ∀ (i : Nat) w o, ls[i]? = some w → js[i]? = some o → LineOk w o
theorem read_ok {t : Str} {js : List (Option Row)} (hl : t.length ≤ 90000) (h : Lines (Txt.split t ⟨#[10]⟩) js) (hn : js.filterMap id ≠ []) : F_read [.str t] = some (.un, .lst ((js.filterMap id).map Row.d)) := by
  have hsl : (Txt.split t ⟨#[10]⟩).length ≤ 90001 := by
    rw [split_eq, List.length_map]
    have := sp_len 10 (ch t)
    rw [ch_len] at this
    omega
  have gs : gSplit (.al, .str t) [(.fr, .str ⟨#[10]⟩)] = some (.un, .lst ((Txt.split t ⟨#[10]⟩).map D.str)) := by
    unfold gSplit
    simp only []
    rw [if_pos ⟨rfl, Nat.le_trans hl (by decide), Nat.le_trans hsl (by decide)⟩]
  obtain ⟨e', l1, o2, o3, o4, o5, he⟩ := forL_inv (g := gT 2 (gCons' (gN 2) (gCons' (gN 3) gNil'))) (b := B_read_1) (m := .fr) (ds := enumD ((Txt.split t ⟨#[10]⟩).map D.str)) (e := [some (.al, .str t), some (.bo, .lst []), none, none, none, none])
    (fun i e => ∃ o2 o3 o4 o5, e = [some (.al, .str t), some (.bo, .lst (((js.take i).filterMap id).map Row.d)), o2, o3, o4, o5])
    ⟨none, none, none, none, rfl⟩
    (fun i d e hd ⟨o2, o3, o4, o5, he⟩ => by
      subst he
      obtain ⟨w, hw, rfl⟩ := enum_s hd
      have hi : i < js.length := by rw [← h.1]; exact (List.getElem?_eq_some_iff.mp hw).1
      have hj : js[i]? = some js[i] := List.getElem?_eq_getElem hi
      have ok := h.2 i w _ hw hj
      have hb : ((js.take i).filterMap id).length ≤ 100000 := by
        have := List.length_filterMap_le id (js.take i)
        rw [List.length_take] at this
        have := h.1
        omega
      obtain ⟨o4', o5', hb⟩ := read_body ok (.str t) ((js.take i).filterMap id) hb i o4 o5
      refine ⟨_, _, rfl, hb, some (.fr, .int i), some (.fr, .str w), o4', o5', ?_⟩
      have ej : js.take (i + 1) = js.take i ++ [js[i]] := by rw [List.take_succ, hj]; rfl
      rw [ej, List.filterMap_append]
      have : List.filterMap id [js[i]] = js[i].toList := by cases js[i] <;> rfl
      rw [this])
  have hlen : (enumD ((Txt.split t ⟨#[10]⟩).map D.str)).length = js.length := by rw [← h.1]; simp [enumD]
  rw [hlen, List.take_length] at he
  show (g_read [some (.al, .str t), none, none, none, none, none]).bind out = _
  unfold g_read
  rw [seq_nx (e' := [some (.al, .str t), some (.bo, .lst []), none, none, none, none]) rfl]
  have f : jFor (itE (jCons (jBM isS gSplit (jV 0) (jCons (jC (.str "\n")) jNil)) jNil)) (gT 2 (gCons' (gN 2) (gCons' (gN 3) gNil'))) B_read_1 [some (.al, .str t), some (.bo, .lst []), none, none, none, none] = some (.nx e') := by
    simp -implicitDefEqProofs only [jFor, itE, jBM, jCons, jNil, jV, jC, nl_s, List.getElem?_cons_zero, Option.bind_some, id_eq, isS, if_true, gs, itm, Option.map_some]
    exact l1
  rw [seq_nx f, he]
  have hp : 0 < ((js.filterMap id).map Row.d).length := by
    rw [List.length_map]
    cases q : js.filterMap id with
    | nil => exact absurd q hn
    | cons a b => exact Nat.succ_pos _
  have c : (jB (jOp gEq (jCB gLen (jCons (jV 1) jNil)) (jC (.int 0)))) [some (.al, .str t), some (.bo, .lst ((js.filterMap id).map Row.d)), o2, o3, o4, o5] = some false := by
    simp -implicitDefEqProofs only [jB, jOp, jCB, jCons, jNil, jV, jC, List.getElem?_cons_zero, List.getElem?_cons_succ, Option.bind_some, id_eq, len_l, eq_ii, dBl_b]
    rw [decide_eq_false (by omega)]
  rw [seq_nx ((if_f c).trans pass1)]
  rfl
theorem mul_sp : ∀ n : Nat, n ≤ 3 → ch (Txt.mul ⟨#[32]⟩ (n : Int)) = List.replicate n 32 := by decide +kernel
theorem rep_sp {m k : M} {n : Int} (h0 : 0 ≤ n) (h1 : n ≤ 3) : ∃ z : Str, gRepS (m, .str " ") (k, .int n) = some (.fr, .str z) ∧ ch z = List.replicate n.toNat 32 := by
  obtain ⟨j, rfl⟩ := Int.eq_ofNat_of_zero_le h0
  refine ⟨Txt.mul ⟨#[32]⟩ (j : Int), ?_, by rw [mul_sp j (by omega)]; rfl⟩
  rw [blank_s]
  unfold gRepS
  simp only []
  rw [if_pos ⟨by omega, by omega, by decide⟩]
noncomputable def Lo (ws : List Str) (i : Nat) (z : Str) : Prop := 35 ∉ ch z ∧ 10 ∉ ch z ∧ W (ch z) = (ws.take i).map ch ∧ (i < ws.length → ∀ l, W (ch z ++ l) = W (ch z) ++ W l) ∧ z.length ≤ 3 + 34 * i
theorem lo_start {ws : List Str} {z : Str} {n : Nat} (h : ch z = List.replicate n 32) (hn : n ≤ 3) : Lo ws 0 z := by
  have hr : W (List.replicate n 32) = [] := (W_end [] n).trans W_nil
  refine ⟨by rw [h]; simp, by rw [h]; simp, by rw [h, hr]; rfl, fun _ l => by rw [h, W_ahead, hr]; rfl, by rw [← ch_len, h]; simp; omega⟩
theorem lo_step {ws : List Str} {i : Nat} {z w b : Str} {n : Nat} (hw : Wd w) (hi : ws[i]? = some w) (h : Lo ws i z) (hb : ch b = List.replicate n 32) (hn : n ≤ 3) (h0 : i + 1 < ws.length → 0 < n) : Lo ws (i + 1) (z ++ w ++ b) := by
  obtain ⟨a1, a2, a3, a4, a5⟩ := h
  have hlt : i < ws.length := (List.getElem?_eq_some_iff.mp hi).1
  have e : ch (z ++ w ++ b) = ch z ++ ch w ++ List.replicate n 32 := by rw [ch_app, ch_app, hb]
  have nw : ∀ c ∈ ch w, c ≠ 32 ∧ c ≠ 35 ∧ c ≠ 10 := hw.no
  obtain ⟨q1, q2⟩ := W_more (a := ch z) (w := ch w) (n := n) hw.ne (fun m => (nw 32 m).1 rfl) (a4 hlt)
  refine ⟨?_, ?_, ?_, fun hl l => ?_, ?_⟩
  · rw [e]; simp only [List.mem_append, not_or]
    exact ⟨⟨a1, fun m => (nw 35 m).2.1 rfl⟩, by simp⟩
  · rw [e]; simp only [List.mem_append, not_or]
    exact ⟨⟨a2, fun m => (nw 10 m).2.2 rfl⟩, by simp⟩
  · rw [e, q1, a3, List.take_succ, hi]
    simp
  · rw [e]; exact q2 (h0 hl) l
  · rw [← ch_len, e]
    have := hw.ln
    simp only [List.length_append, ch_len, List.length_replicate]
    omega
theorem lo_body {ws : List Str} {c : Int} {i : Nat} {w z : Str} (hl : ws.length ≤ 5) (hw : Wd w) (hi : ws[i]? = some w) (h : Lo ws i z) (o5 o6 : Option (M × D)) : ∃ z' o5', Lo ws (i + 1) z' ∧
    B_law_loosened_1 [some (.al, .lst (ws.map .str)), some (.al, .int c), some (.fr, .str z), some (.al, .int i), some (.al, .str w), o5, o6] = some (.nx [some (.al, .lst (ws.map .str)), some (.al, .int c), some (.fr, .str z'), some (.al, .int i), some (.al, .str w), o5', o6]) := by
  have hlt : i < ws.length := (List.getElem?_eq_some_iff.mp hi).1
  have m0 : 0 ≤ c / (3 + 2 * (i : Int)) % 3 := Int.emod_nonneg _ (by decide)
  have m1 : c / (3 + 2 * (i : Int)) % 3 < 3 := Int.emod_lt_of_pos _ (by decide)
  generalize hk : c / (3 + 2 * (i : Int)) % 3 = k at m0 m1
  have s5 : jSet 5 (jOp jMod (jOp jDivJ (jV 1) (jOp gAdd (jC (.int 3)) (jOp jMul (jC (.int 2)) (jV 3)))) (jC (.int 3))) [some (.al, .lst (ws.map .str)), some (.al, .int c), some (.fr, .str z), some (.al, .int i), some (.al, .str w), o5, o6] = some (.nx [some (.al, .lst (ws.map .str)), some (.al, .int c), some (.fr, .str z), some (.al, .int i), some (.al, .str w), some (.fr, .int k), o6]) := by
    walk_at "ev"
    rw [mul_l (by decide)]
    walk_at "ev"
    rw [div_ii ⟨by omega, by omega⟩]
    walk_at "ev"
    rw [hk]
  have t : (jB (jOp jLt (jOp gAdd (jV 3) (jC (.int 1))) (jCB gLen (jCons (jV 0) jNil)))) [some (.al, .lst (ws.map .str)), some (.al, .int c), some (.fr, .str z), some (.al, .int i), some (.al, .str w), some (.fr, .int k), o6] = some (decide ((i : Int) + 1 < ws.length)) := by
    walk_at "ev"
  have fin : ∀ k' : Int, 0 ≤ k' → k' ≤ 3 → (i + 1 < ws.length → 0 < k') → ∃ z', Lo ws (i + 1) z' ∧ jSet 2 (jOp gAdd (jOp gAdd (jV 2) (jV 4)) (jOp gRepS (jC (.str " ")) (jV 5))) [some (.al, .lst (ws.map .str)), some (.al, .int c), some (.fr, .str z), some (.al, .int i), some (.al, .str w), some (.fr, .int k'), o6] = some (.nx [some (.al, .lst (ws.map .str)), some (.al, .int c), some (.fr, .str z'), some (.al, .int i), some (.al, .str w), some (.fr, .int k'), o6]) := fun k' h0 h1 h2 => by
    obtain ⟨b, eb, hb⟩ := @rep_sp .fr .fr k' h0 h1
    have lo := lo_step hw hi h hb (by omega) (fun q => by have := h2 q; omega)
    refine ⟨_, lo, ?_⟩
    have l1 := h.2.2.2.2
    have l2 := hw.ln
    have l3 : b.length ≤ 3 := by rw [← ch_len, hb]; simp; omega
    have hz : (1000 : Nat) ≤ sizeLine := by decide
    simp -implicitDefEqProofs only [jSet, jOp, jV, jC, List.getElem?_cons_zero, List.getElem?_cons_succ, Option.bind_some, id_eq, eb]
    rw [add_ss (by omega), Option.bind_some, add_ss (by rw [← ch_len, ch_app, List.length_append, ch_len, ch_len]; omega), Option.bind_some]
    rfl
  unfold B_law_loosened_1
  rw [seq_nx s5]
  by_cases q : i + 1 < ws.length
  · obtain ⟨z', lo, e⟩ := fin (k + 1) (by omega) (by omega) (fun _ => by omega)
    refine ⟨z', some (.fr, .int (k + 1)), lo, ?_⟩
    have s6 : jSet 5 (jOp gAdd (jV 5) (jC (.int 1))) [some (.al, .lst (ws.map .str)), some (.al, .int c), some (.fr, .str z), some (.al, .int i), some (.al, .str w), some (.fr, .int k), o6] = some (.nx [some (.al, .lst (ws.map .str)), some (.al, .int c), some (.fr, .str z), some (.al, .int i), some (.al, .str w), some (.fr, .int (k + 1)), o6]) := by walk_at "ev"
    rw [seq_nx ((if_t (t.trans (by rw [decide_eq_true (by omega)]))).trans s6)]
    exact e
  · obtain ⟨z', lo, e⟩ := fin k m0 (by omega) (fun q' => absurd q' q)
    refine ⟨z', some (.fr, .int k), lo, ?_⟩
    rw [seq_nx ((if_f (t.trans (by rw [decide_eq_false (by omega)]))).trans pass1)]
    exact e
noncomputable def Out (ws : List Str) (z : Str) : Prop := ∃ (as : List (List Nat)) (l : List Nat), ch z = jn 10 (as ++ [l]) ∧ (∀ a ∈ as, 10 ∉ a ∧ wl a = [] ∧ a.length ≤ 100) ∧ 10 ∉ l ∧ wl l = ws.map ch ∧ l.length ≤ 300 ∧ z.length ≤ 400
theorem at4 {a b c d : Str} {i : Int} (h0 : 0 ≤ i) (h1 : i < 4) : ∃ x, (x = a ∨ x = b ∨ x = c ∨ x = d) ∧ L2.atI [D.str a, .str b, .str c, .str d] i = some (.str x) := by
  have : i = 0 ∨ i = 1 ∨ i = 2 ∨ i = 3 := by omega
  rcases this with rfl | rfl | rfl | rfl
  · exact ⟨a, .inl rfl, rfl⟩
  · exact ⟨b, .inr (.inl rfl), rfl⟩
  · exact ⟨c, .inr (.inr (.inl rfl)), rfl⟩
  · exact ⟨d, .inr (.inr (.inr rfl)), rfl⟩
theorem at5 {a b c d f : Str} {i : Int} (h0 : 0 ≤ i) (h1 : i < 5) : ∃ x, (x = a ∨ x = b ∨ x = c ∨ x = d ∨ x = f) ∧ L2.atI [D.str a, .str b, .str c, .str d, .str f] i = some (.str x) := by
  have : i = 0 ∨ i = 1 ∨ i = 2 ∨ i = 3 ∨ i = 4 := by omega
  rcases this with rfl | rfl | rfl | rfl | rfl
  · exact ⟨a, .inl rfl, rfl⟩
  · exact ⟨b, .inr (.inl rfl), rfl⟩
  · exact ⟨c, .inr (.inr (.inl rfl)), rfl⟩
  · exact ⟨d, .inr (.inr (.inr (.inl rfl))), rfl⟩
  · exact ⟨f, .inr (.inr (.inr (.inr rfl))), rfl⟩
theorem cm_ok {x : Str} (h : x = "#" ∨ x = " # go 0" ∨ x = "# x = y + 1 #" ∨ x = "#end") : 10 ∉ ch x ∧ ((ch x).takeWhile (· ≠ 35) = [] ∨ (ch x).takeWhile (· ≠ 35) = [32]) ∧ x.length ≤ 20 := by
  rcases h with rfl | rfl | rfl | rfl <;> decide +kernel
theorem ah_ok {x : Str} (h : x = "" ∨ x = "   " ∨ x = "# part" ∨ x = "  #" ∨ x = "\n") : (10 ∉ ch x ∧ wl (ch x) = [] ∨ ch x = [10]) ∧ x.length ≤ 20 := by
  rcases h with rfl | rfl | rfl | rfl | rfl <;> decide +kernel
theorem wl_lo {z : List Nat} {x : Str} (h : 35 ∉ z) (hx : (ch x).takeWhile (· ≠ 35) = [] ∨ (ch x).takeWhile (· ≠ 35) = [32]) : wl (z ++ ch x) = W z := by
  unfold wl
  rw [tw_app 35 _ z h]
  rcases hx with e | e
  · rw [e, List.append_nil]
  · rw [e, show z ++ [32] = z ++ 32 :: [] from rfl, W_cut, W_nil, List.append_nil]
theorem out_line {ws : List Str} {z : Str} (h1 : 10 ∉ ch z) (h2 : wl (ch z) = ws.map ch) (h3 : z.length ≤ 300) : Out ws z := ⟨[], ch z, rfl, fun a m => (nomatch m), h1, h2, by rw [ch_len]; exact h3, by omega⟩
theorem out_ahead {ws : List Str} {z x : Str} (h1 : 10 ∉ ch z) (h2 : wl (ch z) = ws.map ch) (h3 : z.length ≤ 300) (hx : (10 ∉ ch x ∧ wl (ch x) = [] ∨ ch x = [10]) ∧ x.length ≤ 20) : Out ws (x ++ ⟨#[10]⟩ ++ z) := by
  have e : ch (x ++ ⟨#[10]⟩ ++ z) = ch x ++ 10 :: ch z := by rw [ch_app, ch_app, List.append_assoc]; rfl
  have el : (x ++ ⟨#[10]⟩ ++ z).length ≤ 400 := by
    rw [← ch_len, e, List.length_append, List.length_cons, ch_len, ch_len]
    have := hx.2
    omega
  have lx : (ch x).length ≤ 20 := by rw [ch_len]; exact hx.2
  rcases hx.1 with ⟨a, b⟩ | a
  · exact ⟨[ch x], ch z, e, fun y m => by rw [List.mem_singleton.mp m]; exact ⟨a, b, by omega⟩, h1, h2, by rw [ch_len]; exact h3, el⟩
  · refine ⟨[[], []], ch z, by rw [e, a]; rfl, fun y m => ?_, h1, h2, by rw [ch_len]; exact h3, el⟩
    have : y = [] := by simpa using m
    rw [this]; exact ⟨by simp, rfl, by simp⟩
theorem loose_ok {ws : List Str} (hl : ws.length ≤ 5) (hw : ∀ w ∈ ws, Wd w) (c : Int) : ∃ z, Out ws z ∧ F_law_loosened [.lst (ws.map .str), .int c] = some (.fr, .str z) := by
  show ∃ z, Out ws z ∧ (g_law_loosened [some (.al, .lst (ws.map .str)), some (.al, .int c), none, none, none, none, none]).bind out = some (.fr, .str z)
  unfold g_law_loosened
  have md : ∀ a b : Int, 0 < b → 0 ≤ a % b ∧ a % b < b := fun a b h => ⟨Int.emod_nonneg _ (by omega), Int.emod_lt_of_pos _ h⟩
  obtain ⟨z0, e0, hz0⟩ := @rep_sp .fr .fr (c % 3) (md c 3 (by decide)).1 (by have := (md c 3 (by decide)).2; omega)
  have s2 : jSet 2 (jOp gRepS (jC (.str " ")) (jOp jMod (jV 1) (jC (.int 3)))) [some (.al, .lst (ws.map .str)), some (.al, .int c), none, none, none, none, none] = some (.nx [some (.al, .lst (ws.map .str)), some (.al, .int c), some (.fr, .str z0), none, none, none, none]) := by
    walk_at "ev"
    rw [e0]
    walk_at "ev"
  obtain ⟨e', l1, z, o3, o4, o5, lo, he⟩ := forL_inv (g := gT 2 (gCons' (gN 3) (gCons' (gN 4) gNil'))) (b := B_law_loosened_1) (m := .al) (ds := enumD (ws.map D.str)) (e := [some (.al, .lst (ws.map .str)), some (.al, .int c), some (.fr, .str z0), none, none, none, none])
    (fun i e => ∃ z o3 o4 o5, Lo ws i z ∧ e = [some (.al, .lst (ws.map .str)), some (.al, .int c), some (.fr, .str z), o3, o4, o5, none])
    ⟨z0, none, none, none, lo_start hz0 (by have := (md c 3 (by decide)).2; omega), rfl⟩
    (fun i d e hd ⟨z, o3, o4, o5, lo, he⟩ => by
      subst he
      obtain ⟨w, hi, rfl⟩ := enum_s hd
      obtain ⟨z', o5', lo', hb⟩ := lo_body (c := c) hl (hw w (List.mem_of_getElem? hi)) hi lo o5 none
      exact ⟨_, _, rfl, hb, z', _, _, o5', lo', rfl⟩)
  have hlen : (enumD (ws.map D.str)).length = ws.length := by simp [enumD]
  rw [hlen] at lo
  have f : jFrz 0 (jFor (itE (jCons (jV 0) jNil)) (gT 2 (gCons' (gN 3) (gCons' (gN 4) gNil'))) B_law_loosened_1) [some (.al, .lst (ws.map .str)), some (.al, .int c), some (.fr, .str z0), none, none, none, none] = some (.nx [some (.al, .lst (ws.map .str)), some (.al, .int c), some (.fr, .str z), o3, o4, o5, none]) := by
    rw [← he]
    simp -implicitDefEqProofs only [jFrz, frz, List.getElem?_cons_zero, jFor, itE, jCons, jNil, jV, Option.bind_some, id_eq, itm, Option.map_some]
    exact l1
  rw [seq_nx s2, seq_nx f]
  obtain ⟨a1, a2, a3, _, a5⟩ := lo
  rw [List.take_length] at a3
  have hS : (1000 : Nat) ≤ sizeLine := by decide
  have wz : wl (ch z) = ws.map ch := by rw [← a3]; unfold wl; rw [tw_all 35 _ a1]
  have step3 : ∃ z3, 10 ∉ ch z3 ∧ wl (ch z3) = ws.map ch ∧ z3.length ≤ 300 ∧ (jIf (jB (jOp gEq (jOp jMod (jOp jDivJ (jV 1) (jC (.int 7))) (jC (.int 3))) (jC (.int 0))))
      (jSet 2 (jOp gAdd (jV 2) (jOp gIx (jLst (jCons (jC (.str "#")) (jCons (jC (.str " # go 0")) (jCons (jC (.str "# x = y + 1 #")) (jCons (jC (.str "#end")) jNil))))) (jOp jMod (jOp jDivJ (jV 1) (jC (.int 21))) (jC (.int 4))))))
      jPass) [some (.al, .lst (ws.map .str)), some (.al, .int c), some (.fr, .str z), o3, o4, o5, none] = some (.nx [some (.al, .lst (ws.map .str)), some (.al, .int c), some (.fr, .str z3), o3, o4, o5, none]) := by
    have t : (jB (jOp gEq (jOp jMod (jOp jDivJ (jV 1) (jC (.int 7))) (jC (.int 3))) (jC (.int 0)))) [some (.al, .lst (ws.map .str)), some (.al, .int c), some (.fr, .str z), o3, o4, o5, none] = some (decide (c / 7 % 3 = 0)) := by walk_at "ev"
    by_cases q : c / 7 % 3 = 0
    · obtain ⟨x, hx, ex⟩ := @at4 "#" " # go 0" "# x = y + 1 #" "#end" (c / 21 % 4) (md _ 4 (by decide)).1 (md _ 4 (by decide)).2
      obtain ⟨b1, b2, b3⟩ := cm_ok hx
      refine ⟨z ++ x, by rw [ch_app]; simp only [List.mem_append, not_or]; exact ⟨a2, b1⟩, by rw [ch_app, wl_lo a1 b2, a3], by rw [← ch_len, ch_app, List.length_append, ch_len, ch_len]; omega, ?_⟩
      rw [if_t (t.trans (by rw [decide_eq_true q]))]
      walk_at "ev"
      rw [ex]
      walk_at "ev"
      rw [add_ss (by omega)]
      walk_at "ev"
    · exact ⟨z, a2, wz, by omega, (if_f (t.trans (by rw [decide_eq_false q]))).trans pass1⟩
  obtain ⟨z3, c1, c2, c3, e3⟩ := step3
  rw [seq_nx e3]
  have t4 : (jB (jOp gEq (jOp jMod (jOp jDivJ (jV 1) (jC (.int 5))) (jC (.int 4))) (jC (.int 0)))) [some (.al, .lst (ws.map .str)), some (.al, .int c), some (.fr, .str z3), o3, o4, o5, none] = some (decide (c / 5 % 4 = 0)) := by walk_at "ev"
  by_cases q : c / 5 % 4 = 0
  · obtain ⟨x, hx, ex⟩ := @at5 "" "   " "# part" "  #" "\n" (c / 20 % 5) (md _ 5 (by decide)).1 (md _ 5 (by decide)).2
    have hx' := ah_ok hx
    refine ⟨x ++ ⟨#[10]⟩ ++ z3, out_ahead c1 c2 c3 hx', ?_⟩
    have s6 : (jSeq (jSet 6 (jOp gIx (jLst (jCons (jC (.str "")) (jCons (jC (.str "   ")) (jCons (jC (.str "# part")) (jCons (jC (.str "  #")) (jCons (jC (.str "\n")) jNil)))))) (jOp jMod (jOp jDivJ (jV 1) (jC (.int 20))) (jC (.int 5)))))
        (jSet 2 (jOp gAdd (jOp gAdd (jV 6) (jC (.str "\n"))) (jV 2)))) [some (.al, .lst (ws.map .str)), some (.al, .int c), some (.fr, .str z3), o3, o4, o5, none] = some (.nx [some (.al, .lst (ws.map .str)), some (.al, .int c), some (.fr, .str (x ++ ⟨#[10]⟩ ++ z3)), o3, o4, o5, some (.fr, .str x)]) := by
      have e6 : (jSet 6 (jOp gIx (jLst (jCons (jC (.str "")) (jCons (jC (.str "   ")) (jCons (jC (.str "# part")) (jCons (jC (.str "  #")) (jCons (jC (.str "\n")) jNil)))))) (jOp jMod (jOp jDivJ (jV 1) (jC (.int 20))) (jC (.int 5))))) [some (.al, .lst (ws.map .str)), some (.al, .int c), some (.fr, .str z3), o3, o4, o5, none] = some (.nx [some (.al, .lst (ws.map .str)), some (.al, .int c), some (.fr, .str z3), o3, o4, o5, some (.fr, .str x)]) := by
        walk_at "ev"
        rw [ex]
        walk_at "ev"
      rw [seq_nx e6, nl_s]
      have := hx'.2
      have hlx : (x ++ (⟨#[10]⟩ : Str)).length = x.length + 1 := by rw [← ch_len, ch_app, List.length_append, ch_len]; rfl
      simp -implicitDefEqProofs only [jSet, jOp, jV, jC, List.getElem?_cons_zero, List.getElem?_cons_succ, Option.bind_some, id_eq]
      rw [add_ss (by show x.length + 1 ≤ sizeLine; omega), Option.bind_some, add_ss (by rw [hlx]; omega), Option.bind_some]
      rfl
    rw [seq_nx ((if_t (t4.trans (by rw [decide_eq_true q]))).trans s6)]
    rfl
  · refine ⟨z3, out_line c1 c2 c3, ?_⟩
    rw [seq_nx ((if_f (t4.trans (by rw [decide_eq_false q]))).trans pass1)]
    rfl
mutual
theorem eqv_self : ∀ d : D, J.plain d = true → PyData.eqv (toPy d) (toPy d) = true
  | .non, _ => by simp [toPy, PyData.eqv]
  | .bl b, _ => by simp [toPy, PyData.eqv]
  | .int i, _ => by simp [toPy, PyData.eqv]
  | .str x, _ => by simp [toPy, PyData.eqv]
  | .ty n, h => by simp [J.plain] at h
  | .dk _, h => by simp [J.plain] at h
  | .dt _, h => by simp [J.plain] at h
  | .tup ds, h => by
    simp only [toPy, PyData.eqv]
    exact eqvs_self ds (by simpa only [J.plain] using h)
  | .lst ds, h => by
    simp only [toPy, PyData.eqv]
    exact eqvs_self ds (by simpa only [J.plain] using h)
theorem eqvs_self : ∀ ds : List D, J.plains ds = true → PyData.eqvAll (toPys ds) (toPys ds) = true
  | [], _ => by simp [toPys, PyData.eqvAll]
  | d :: ds, h => by
    have h' : J.plain d = true ∧ J.plains ds = true := by simpa [J.plains] using h
    simp only [toPys, PyData.eqvAll, eqv_self d h'.1, eqvs_self ds h'.2, Bool.and_self]
end
theorem depth_all {n : Nat} : ∀ {ds : List D}, (∀ d ∈ ds, (toPy d).depth ≤ n) → PyData.depthAll (toPys ds) ≤ n
  | [], _ => by simp [toPys, PyData.depthAll]
  | d :: ds, h => by
    have := depth_all (ds := ds) fun x hx => h x (List.mem_cons_of_mem _ hx)
    have h1 := h d List.mem_cons_self
    simp only [toPys, PyData.depthAll]; omega
theorem plains_all : ∀ {ds : List D}, (∀ d ∈ ds, J.plain d = true) → J.plains ds = true
  | [], _ => by simp [J.plains]
  | d :: ds, h => by simp only [J.plains, h d List.mem_cons_self, plains_all fun x hx => h x (List.mem_cons_of_mem _ hx), Bool.and_self]
theorem eqOk_lst {ds : List D} (h1 : ∀ d ∈ ds, J.plain d = true) (h2 : ∀ d ∈ ds, (toPy d).depth ≤ 10) : eqOk (.lst ds) (.lst ds) = true := by
  have hd : (toPy (.lst ds)).depth ≤ 60 := by
    simp only [toPy, PyData.depth]
    have := depth_all h2; omega
  simp only [eqOk, J.plain, plains_all h1, likeB, Bool.and_self, Bool.true_and]
  exact decide_eq_true (by omega)
theorem ne_lst {m n : M} {ds : List D} (h1 : ∀ d ∈ ds, J.plain d = true) (h2 : ∀ d ∈ ds, (toPy d).depth ≤ 10) : gNeD (m, .lst ds) (n, .lst ds) = some (.fr, .bl false) := by
  have e := eqv_self (.lst ds) (by simp only [J.plain]; exact plains_all h1)
  simp only [gNeD, eqOk_lst h1 h2, if_true, e, Bool.not_true]
theorem rows_plain (l : List Row) : ∀ d ∈ l.map Row.d, J.plain d = true := fun d hd => by
  obtain ⟨r, _, rfl⟩ := List.mem_map.mp hd
  have k : ∀ a : Key, J.plain (kD a) = true := fun a => by cases a <;> simp [kD, J.plain]
  cases r <;> simp [Row.d, Row.ds, J.plain, J.plains, k]
theorem rows_depth (l : List Row) : ∀ d ∈ l.map Row.d, (toPy d).depth ≤ 10 := fun d hd => by
  obtain ⟨r, _, rfl⟩ := List.mem_map.mp hd
  have k : ∀ a : Key, (toPy (kD a)).depth = 0 := fun a => by cases a <;> simp [kD, toPy, PyData.depth]
  cases r <;> simp [Row.d, Row.ds, toPy, toPys, PyData.depth, PyData.depthAll, k]
theorem no_bool (r : Row) (m : M) : compL bYes (jCB gIsi (jCons (jV 0) (jCons (jC (.ty "bool")) jNil))) m [] r.ds = some ((r.ds.map fun _ => D.bl false).map fun x => (M.fr, x)) := by
  have k : ∀ (a : Key) (m n : M), gIsi [(m, kD a), (n, .ty "bool")] = some (.fr, .bl false) := fun a m n => by cases a <;> rfl
  have s : ∀ (x : Str) (m n : M), gIsi [(m, .str x), (n, .ty "bool")] = some (.fr, .bl false) := fun _ _ _ => rfl
  have i : ∀ (x : Int) (m n : M), gIsi [(m, .int x), (n, .ty "bool")] = some (.fr, .bl false) := fun _ _ _ => rfl
  cases r <;> simp [Row.ds, compL, bYes, jCB, jCons, jV, jC, jNil, k, s, i]
theorem any_false : ∀ ds : List D, blsD (ds.map fun _ => D.bl false) = some (ds.map fun _ => false)
  | [] => rfl
  | d :: ds => by simp only [List.map_cons, blsD, any_false ds, Option.bind_some]
theorem same_body {r : Row} {o0 o1 : Option (M × D)} {m : M} (hm : m = .al ∨ m = .fr) : B_law_same_1 [o0, o1, some (m, r.d)] = some (.nx [o0, o1, some (m, r.d)]) := by
  have hi : ∀ k, itT (jV 2) [o0, o1, some (m, r.d)] = some (k, r.ds) ∨ True := fun _ => .inr trivial
  have e : (jComp (itT (jV 2)) [] bYes (jCB gIsi (jCons (jV 0) (jCons (jC (.ty "bool")) jNil)))) [o0, o1, some (m, r.d)] = some (.un, .lst (r.ds.map fun _ => D.bl false)) := by
    have hz : r.ds.length ≤ 1000 := by cases r <;> simp [Row.ds]
    have hc := no_bool r m
    rcases hm with rfl | rfl
    · show ((some (M.al, r.ds)).bind fun x => (compL bYes _ x.1 [] x.2).bind jLstG) = _
      rw [Option.bind_some, hc, Option.bind_some, lstG_fr (by rw [List.length_map]; exact hz)]
    · show ((some (M.fr, r.ds)).bind fun x => (compL bYes _ x.1 [] x.2).bind jLstG) = _
      rw [Option.bind_some, hc, Option.bind_some, lstG_fr (by rw [List.length_map]; exact hz)]
  have t : (bOr (bNot (jB (jCB gIsi (jCons (jV 2) (jCons (jC (.ty "tuple")) jNil))))) (jB (jCB gAny (jCons (jComp (itT (jV 2)) [] bYes (jCB gIsi (jCons (jV 0) (jCons (jC (.ty "bool")) jNil)))) jNil)))) [o0, o1, some (m, r.d)] = some false := by
    rw [bor_f (by simp only [bNot, jB, jCB, jCons, jV, jC, jNil, List.getElem?_cons_zero, List.getElem?_cons_succ, Option.bind_some, id_eq, Row.d, isi_tup_tuple, dBl_b]; rfl)]
    simp only [jB, jCB, jCons, jNil, e, Option.bind_some, gAny, any_false, dBl_b, List.any_map]
    congr 1
    induction r.ds with
    | nil => rfl
    | cons d ds ih => simpa using ih
  unfold B_law_same_1
  have z : frz 2 [o0, o1, some (m, r.d)] = [o0, o1, some (m, r.d)] := by rcases hm with rfl | rfl <;> rfl
  rw [jFrz, z, if_f t]
  rfl
theorem same_loop {o0 o1 : Option (M × D)} : ∀ (rs : List Row) (o2 : Option (M × D)), ∃ o2', forL (gN 2) B_law_same_1 .al (rs.map Row.d) [o0, o1, o2] = some (.nx [o0, o1, o2'])
  | [], o2 => ⟨o2, rfl⟩
  | r :: rs, o2 => by
    obtain ⟨o2', ih⟩ := same_loop (o0 := o0) (o1 := o1) rs (some (.al, r.d))
    refine ⟨o2', ?_⟩
    rw [List.map_cons, forL]
    simp only [gN, Option.bind_some, List.set_cons_succ, List.set_cons_zero, same_body (.inl rfl)]
    exact ih
theorem same_ok (rs : List Row) : F_law_same [.lst (rs.map Row.d), .lst (rs.map Row.d)] = some (.fr, .bl true) := by
  show (g_law_same [some (.al, .lst (rs.map Row.d)), some (.al, .lst (rs.map Row.d)), none]).bind out = _
  unfold g_law_same
  have t : (bOr (bNot (jB (jCB gIsi (jCons (jV 0) (jCons (jC (.ty "list")) jNil))))) (jB (jOp gNeD (jV 0) (jV 1)))) [some (.al, .lst (rs.map Row.d)), some (.al, .lst (rs.map Row.d)), none] = some false := by
    rw [bor_f rfl]
    simp only [jB, jOp, jV, List.getElem?_cons_zero, List.getElem?_cons_succ, Option.bind_some, id_eq, ne_lst (rows_plain rs) (rows_depth rs), dBl_b]
  obtain ⟨o2, l⟩ := same_loop (o0 := some (.al, .lst (rs.map Row.d))) (o1 := some (.al, .lst (rs.map Row.d))) rs none
  have l' : jFrz 0 (jFor (itL (jV 0)) (gN 2) B_law_same_1) [some (.al, .lst (rs.map Row.d)), some (.al, .lst (rs.map Row.d)), none] = some (.nx [some (.al, .lst (rs.map Row.d)), some (.al, .lst (rs.map Row.d)), o2]) := l
  rw [seq_nx ((if_f t).trans pass1), seq_nx l']
  rfl
theorem comp_rows {fe : Ev → Option (M × D)} {m : M} {G : Row → D} : ∀ {rs : List Row}, (∀ r ∈ rs, fe [some (m, r.d)] = some (.fr, G r)) → compL bYes fe m [] (rs.map Row.d) = some ((rs.map G).map fun x => (M.fr, x))
  | [], _ => rfl
  | r :: rs, h => by
    have ih := comp_rows (rs := rs) fun e he => h e (List.mem_cons_of_mem _ he)
    rw [List.map_cons, compL, show bYes (some (m, r.d) :: []) = some true from rfl, Option.bind_some, if_pos rfl, h r List.mem_cons_self, Option.bind_some, ih, Option.bind_some]
    rfl
noncomputable def RO (r : Row) : Prop := RV r ∧ RT r
theorem jn_len (c : Nat) : ∀ ps : List (List Nat), (jn c ps).length ≤ (ps.map List.length).sum + ps.length
  | [] => Nat.zero_le _
  | [x] => by simp [jn]
  | x :: y :: r => by
    have := jn_len c (y :: r)
    simp only [jn, List.length_append, List.length_cons, List.map_cons, List.sum_cons] at this ⊢
    omega
theorem sum_le {α : Type} {f : α → Nat} {B : Nat} : ∀ {l : List α}, (∀ x ∈ l, f x ≤ B) → (l.map f).sum ≤ B * l.length
  | [], _ => Nat.zero_le _
  | x :: l, h => by
    have h1 := h x List.mem_cons_self
    have h2 := sum_le (l := l) fun y m => h y (List.mem_cons_of_mem _ m)
    simp only [List.map_cons, List.sum_cons, List.length_cons, Nat.mul_add]
    omega
theorem ln_ch (r : Row) : ch (lnW r) = jn 32 ((rowW r).map ch) := by
  unfold lnW
  rw [show (Str.ofString " ") = (⟨#[32]⟩ : Str) from blank_s, txt_join]
theorem ln_len {r : Row} (h : RO r) : (lnW r).length ≤ 200 := by
  rw [← ch_len, ln_ch]
  have := jn_len 32 ((rowW r).map ch)
  have h2 : (((rowW r).map ch).map List.length).sum ≤ 30 * (rowW r).length := by
    rw [List.map_map]
    exact sum_le fun w m => by have := (row_wd h.1 h.2 w m).ln; show (ch w).length ≤ 30; rw [ch_len]; exact this
  have := (rowW_len r).2
  rw [List.length_map] at *
  omega
theorem jn_mem (c x : Nat) : ∀ ps : List (List Nat), x ∈ jn c ps → x = c ∨ ∃ p ∈ ps, x ∈ p
  | [], h => (nomatch h)
  | [y], h => .inr ⟨y, List.mem_cons_self, h⟩
  | y :: z :: r, h => by
    rw [jn] at h
    rcases List.mem_append.mp h with h | h
    · exact .inr ⟨y, List.mem_cons_self, h⟩
    · rcases List.mem_cons.mp h with h | h
      · exact .inl h
      · rcases jn_mem c x (z :: r) h with h | ⟨p, m, h⟩
        · exact .inl h
        · exact .inr ⟨p, List.mem_cons_of_mem _ m, h⟩
theorem ln_no {r : Row} (h : RO r) : 10 ∉ ch (lnW r) ∧ 35 ∉ ch (lnW r) := by
  have w := row_wd h.1 h.2
  rw [ln_ch]
  refine ⟨fun m => ?_, fun m => ?_⟩
  · rcases jn_mem 32 10 _ m with e | ⟨p, hp, hm⟩
    · cases e
    · obtain ⟨z, hz, rfl⟩ := List.mem_map.mp hp
      exact ((w z hz).no 10 hm).2.2 rfl
  · rcases jn_mem 32 35 _ m with e | ⟨p, hp, hm⟩
    · cases e
    · obtain ⟨z, hz, rfl⟩ := List.mem_map.mp hp
      exact ((w z hz).no 35 hm).2.1 rfl
theorem map_mk (ws : List Str) : (ws.map ch).map mk = ws := by
  rw [List.map_map]
  conv => rhs; rw [← List.map_id ws]
  exact List.map_congr_left fun s _ => mk_ch s
theorem ln_ws {r : Row} (h : RO r) : wsL (lnW r) = rowW r := by
  unfold wsL wl
  rw [tw_all 35 _ (ln_no h).2, ln_ch, W_jn _ (fun p m => by
    obtain ⟨w, hw, rfl⟩ := List.mem_map.mp m
    have q := row_wd h.1 h.2 w hw
    exact ⟨q.ne, fun m => (q.no 32 m).1 rfl⟩), map_mk]
inductive LP : List Str → List (Option Row) → Prop
  | nil : LP [] []
  | cons {w : Str} {o : Option Row} {ls : List Str} {js : List (Option Row)} : LineOk w o → LP ls js → LP (w :: ls) (o :: js)
theorem LP.lines {ls : List Str} {js : List (Option Row)} (h : LP ls js) : Lines ls js := by
  induction h with
  | nil => exact ⟨rfl, fun i w o h => by simp at h⟩
  | cons a b ih =>
    refine ⟨by simp [ih.1], fun i w o h1 h2 => ?_⟩
    cases i with
    | zero => simp at h1 h2; subst h1 h2; exact a
    | succ i => exact ih.2 i w o (by simpa using h1) (by simpa using h2)
theorem LP.app {a b : List Str} {ja jb : List (Option Row)} (h : LP a ja) (h' : LP b jb) : LP (a ++ b) (ja ++ jb) := by
  induction h with
  | nil => exact h'
  | cons p q ih => exact .cons p ih
noncomputable def tx (rs : List Row) : Str := Txt.join ⟨#[10]⟩ (rs.map lnW)
theorem lp_rows : ∀ {rs : List Row}, (∀ r ∈ rs, RO r) → LP (rs.map lnW) (rs.map some)
  | [], _ => .nil
  | r :: rs, h => by
    have hr := h r List.mem_cons_self
    exact .cons ⟨by have := ln_len hr; omega, ln_ws hr, hr.1, hr.2⟩ (lp_rows fun x m => h x (List.mem_cons_of_mem _ m))
theorem fm_some (rs : List Row) : (rs.map some).filterMap id = rs := by
  rw [List.filterMap_map]
  exact List.filterMap_some
theorem tx_len {rs : List Row} (h : ∀ r ∈ rs, RO r) (hl : rs.length ≤ 200) : (tx rs).length ≤ 50000 := by
  rw [← ch_len, tx, txt_join]
  have h1 := jn_len 10 ((rs.map lnW).map ch)
  have h2 : (((rs.map lnW).map ch).map List.length).sum ≤ 200 * rs.length := by
    rw [List.map_map, List.map_map]
    exact sum_le fun r m => by have := ln_len (h r m); show (ch (lnW r)).length ≤ 200; rw [ch_len]; exact this
  rw [List.length_map, List.length_map] at h1
  omega
theorem read_tx {rs : List Row} (h : ∀ r ∈ rs, RO r) (hn : rs ≠ []) (hl : rs.length ≤ 200) : F_read [.str (tx rs)] = some (.un, .lst (rs.map Row.d)) := by
  have e : Txt.split (tx rs) ⟨#[10]⟩ = rs.map lnW := by
    rw [split_eq, tx, txt_join, sp_jn 10 _ (by simpa using hn) (fun p m => by
      obtain ⟨s, hs, rfl⟩ := List.mem_map.mp m
      obtain ⟨r, hr, rfl⟩ := List.mem_map.mp hs
      exact (ln_no (h r hr)).1), map_mk]
  have q := read_ok (t := tx rs) (js := rs.map some) (by have := tx_len h hl; omega) (by rw [e]; exact (lp_rows h).lines) (by rw [fm_some]; exact hn)
  rw [fm_some] at q
  exact q
theorem join_nl {m n : M} {ps : List Str} (h : ∀ p ∈ ps, p.length ≤ 400) (hl : ps.length ≤ 200) : gJoin (m, .str "\n") [(n, .lst (ps.map .str))] = some (.fr, .str (Txt.join ⟨#[10]⟩ ps)) := by
  have s : (ps.map (·.length)).sum ≤ 400 * ps.length := sum_le h
  rw [nl_s]
  unfold gJoin
  simp only [strsD_map, Option.bind_some]
  rw [if_pos (by show _ + ps.length * 1 ≤ _; omega)]
theorem show_ok {rs : List Row} (h : ∀ r ∈ rs, RO r) (hl : rs.length ≤ 200) : F_show [.lst (rs.map Row.d)] = some (.fr, .str (tx rs)) := by
  show (g_show [some (.al, .lst (rs.map Row.d))]).bind out = _
  unfold g_show
  have c : (jComp (itL (jV 0)) [] bYes (jCall F_line_of (jCons (jV 0) jNil))) [some (.al, .lst (rs.map Row.d))] = some (.un, .lst ((rs.map lnW).map .str)) := by
    show ((some (M.al, rs.map Row.d)).bind fun x => (compL bYes _ x.1 [] x.2).bind jLstG) = _
    rw [Option.bind_some, comp_rows (G := fun r => .str (lnW r)) (fun r m => line_ok (h r m).1 (h r m).2), Option.bind_some, lstG_fr (by rw [List.length_map]; omega), List.map_map]
    rfl
  have j := @join_nl .fr .un (rs.map lnW) (fun p m => by
    obtain ⟨r, hr, rfl⟩ := List.mem_map.mp m
    have := ln_len (h r hr); omega) (by rw [List.length_map]; exact hl)
  simp only [jRet, jBM, jC, isS, jCons, jNil, c, j, Option.bind_some, if_true]
  rfl
theorem mkL_ints {m : M} (ws : List Int) : mkL m (ws.map .int) = some (.un, .lst (ws.map .int)) := by
  unfold mkL
  rw [if_pos (imms_ints ws), if_pos (imms_ints ws), ite_self, ite_self]
theorem cut_map (ws : List Int) (lo hi : Option Int) : J.cut (ws.map D.int) lo hi = (J.cut ws lo hi).map D.int := by
  unfold J.cut
  rw [List.length_map, List.map_take, List.map_drop]
theorem cut_len (ws : List Int) (lo hi : Option Int) : (J.cut ws lo hi).length ≤ ws.length := by
  unfold J.cut
  rw [List.length_take, List.length_drop]; omega
theorem sl_ints {m : M} (ws : List Int) (lo hi : Option Int) : gSl (m, .lst (ws.map .int)) lo hi = some (.un, .lst ((J.cut ws lo hi).map .int)) := by
  unfold gSl slOr gSlL
  simp only [cut_map, mkL_ints]
inductive OP : List Row → List Str → Prop
  | nil : OP [] []
  | snoc {os : List Row} {zs : List Str} {r : Row} {z : Str} : OP os zs → RO r → Out (rowW r) z → OP (os ++ [r]) (zs ++ [z])
theorem out_lp {r : Row} {z : Str} (h : RO r) (o : Out (rowW r) z) : ∃ js, LP ((sp 10 (ch z)).map mk) js ∧ js.filterMap id = [r] := by
  obtain ⟨as, l, e, ha, hl, hw, hb, _⟩ := o
  have q : sp 10 (ch z) = as ++ [l] := by
    rw [e, sp_jn 10 _ (by simp) fun p m => ?_]
    rcases List.mem_append.mp m with m | m
    · exact (ha p m).1
    · rw [List.mem_singleton.mp m]; exact hl
  have lm : ∀ p : List Nat, (mk p).length = p.length := fun p => by rw [← ch_len, ch_mk]
  have ga : ∀ as : List (List Nat), (∀ a ∈ as, 10 ∉ a ∧ wl a = [] ∧ a.length ≤ 100) → LP (as.map mk) (as.map fun _ => none) ∧ (as.map fun _ => (none : Option Row)).filterMap id = [] := by
    intro as
    induction as with
    | nil => exact fun _ => ⟨.nil, rfl⟩
    | cons a as ih =>
      intro h
      obtain ⟨i1, i2⟩ := ih fun x m => h x (List.mem_cons_of_mem _ m)
      obtain ⟨_, b, c⟩ := h a List.mem_cons_self
      refine ⟨.cons ⟨by rw [lm]; omega, ?_⟩ i1, by simpa using i2⟩
      show wsL (mk a) = []
      unfold wsL; rw [ch_mk, b]; rfl
  obtain ⟨g1, g2⟩ := ga as ha
  refine ⟨(as.map fun _ => none) ++ [some r], ?_, by rw [List.filterMap_append, g2]; rfl⟩
  rw [q, List.map_append]
  refine g1.app (.cons ⟨by rw [lm]; omega, ?_, h.1, h.2⟩ .nil)
  unfold wsL; rw [ch_mk, hw, map_mk]
theorem op_lp {os : List Row} {zs : List Str} (h : OP os zs) : ∃ js, LP (((zs.map ch).map (sp 10)).flatten.map mk) js ∧ js.filterMap id = os := by
  induction h with
  | nil => exact ⟨[], .nil, rfl⟩
  | snoc a b c ih =>
    obtain ⟨js, l, e⟩ := ih
    obtain ⟨js', l', e'⟩ := out_lp b c
    refine ⟨js ++ js', ?_, by rw [List.filterMap_append, e, e']⟩
    simp only [List.map_append, List.map_cons, List.map_nil, List.flatten_append, List.flatten_cons, List.flatten_nil, List.append_nil]
    exact l.app l'
theorem op_len {os : List Row} {zs : List Str} (h : OP os zs) : zs.length = os.length ∧ ∀ z ∈ zs, z.length ≤ 400 := by
  induction h with
  | nil => exact ⟨rfl, fun z m => (nomatch m)⟩
  | snoc a b c ih =>
    refine ⟨by simp [ih.1], fun z m => ?_⟩
    rcases List.mem_append.mp m with m | m
    · exact ih.2 z m
    · rw [List.mem_singleton.mp m]
      obtain ⟨_, _, _, _, _, _, _, q⟩ := c
      exact q
theorem jn_chs {zs : List Str} (h : ∀ z ∈ zs, z.length ≤ 400) (hl : zs.length ≤ 200) : (Txt.join ⟨#[10]⟩ zs).length ≤ 80200 := by
  rw [← ch_len, txt_join]
  have h1 := jn_len 10 (zs.map ch)
  have h2 : ((zs.map ch).map List.length).sum ≤ 400 * zs.length := by
    rw [List.map_map]
    exact sum_le fun z m => by have := h z m; show (ch z).length ≤ 400; rw [ch_len]; exact this
  rw [List.length_map] at h1
  omega
theorem read_loose {os : List Row} {zs : List Str} (h : OP os zs) (hn : os ≠ []) (hl : os.length ≤ 200) : F_read [.str (Txt.join ⟨#[10]⟩ zs)] = some (.un, .lst (os.map Row.d)) ∧ F_read [.str (Txt.join ⟨#[10]⟩ zs ++ ⟨#[10]⟩)] = some (.un, .lst (os.map Row.d)) := by
  obtain ⟨l1, l2⟩ := op_len h
  obtain ⟨js, l, e⟩ := op_lp h
  have hz : zs ≠ [] := fun z => hn (List.eq_nil_of_length_eq_zero (by rw [← l1, z]; rfl))
  have hb := jn_chs l2 (by omega)
  have e1 : sp 10 (ch (Txt.join ⟨#[10]⟩ zs)) = ((zs.map ch).map (sp 10)).flatten := by
    rw [txt_join, sp_jns 10 _ (by simpa using hz)]
  constructor
  · have q := read_ok (t := Txt.join ⟨#[10]⟩ zs) (js := js) (by omega) (by rw [split_eq, e1]; exact l.lines) (by rw [e]; exact hn)
    rw [e] at q; exact q
  · have e2 : ch (Txt.join ⟨#[10]⟩ zs ++ ⟨#[10]⟩) = ch (Txt.join ⟨#[10]⟩ zs) ++ 10 :: [] := ch_app _ _
    have e3 : (js ++ [none]).filterMap id = os := by rw [List.filterMap_append, e]; simp
    have q := read_ok (t := Txt.join ⟨#[10]⟩ zs ++ ⟨#[10]⟩) (js := js ++ [none]) (by rw [← ch_len, e2, List.length_append, ch_len]; simp; omega) (by
      rw [split_eq, e2, sp_cut, e1, List.map_append]
      exact (l.app (.cons ⟨by decide, rfl⟩ .nil)).lines) (by rw [e3]; exact hn)
    rw [e3] at q; exact q
theorem law_turn (ns : List Int) {os : List Row} {r : Row} {i : Nat} (hi : i ≤ 200) (hr : RO r) {zs : List Str} (h : OP os zs) (hl : os.length ≤ 200) {a b c d e f g k : Option (M × D)} : ∃ zs', OP (os ++ [r]) zs' ∧
    B_law_1 [some (.al, .lst (ns.map .int)), a, b, c, d, e, f, g, some (.bo, .lst (zs.map .str)), some (.fr, .int i), some (.fr, r.d), k] = some (.nx [some (.al, .lst (ns.map .int)), a, b, c, d, e, f, g, some (.bo, .lst (zs'.map .str)), some (.fr, .int i), some (.fr, r.d), k]) := by
  obtain ⟨cc, ec⟩ := cell_ok ns (3 + (i : Int)) (by omega) (by omega)
  obtain ⟨z, oz, ez⟩ := loose_ok (rowW_len r).2 (row_wd hr.1 hr.2) cc
  have ew := lw_ok hr.1 hr.2
  refine ⟨zs ++ [z], .snoc h hr oz, ?_⟩
  have hs : (zs.map D.str).length < sizeLine := by
    rw [List.length_map, (op_len h).1]
    exact Nat.lt_of_le_of_lt hl (by decide)
  unfold B_law_1
  simp -implicitDefEqProofs only [jApp, jCall, jCons, jNil, jV, jOp, jC, List.getElem?_cons_zero, List.getElem?_cons_succ, Option.bind_some, id_eq, List.map_cons, List.map_nil, add_ii, ew, ec, ez, sto_fr, if_true, ownL, own, hs, List.set_cons_zero, List.set_cons_succ]
  rw [List.map_append]
  rfl
noncomputable def eL (ns : List Int) (fs : List Str) (rs : List Row) (a5 o6 o7 o8 o9 o10 o11 : Option (M × D)) : Ev := [some (.al, .lst (ns.map .int)), some (.bo, .lst (fs.map .str)), some (.fr, .lst (rs.map Row.d)), some (.bo, .lst ((rs.map lnW).map .str)), some (.fr, .str (tx rs)), a5, o6, o7, o8, o9, o10, o11]
theorem set_rows (rs : List Row) (n : Nat) (r : Row) : (rs.map Row.d).set n r.d = (rs.set n r).map Row.d := by rw [List.map_set]
theorem far_ok (ns : List Int) (fs : List Str) (f0 : Str) (hf : L2.atI (fs.map D.str) 0 = some (.str f0)) (hv : nameS f0 = true) (rs : List Row) (h : ∀ r ∈ rs, RO r) (hp : 0 < rs.length) (hl : rs.length ≤ 140) {c1 c2 : Int} (e1 : F_law_cell [.lst (ns.map .int), .int 1] = some (.fr, .int c1)) (e2 : F_law_cell [.lst (ns.map .int), .int 2] = some (.fr, .int c2)) : ∃ (os : List Row) (o6 o7 : Option (M × D)), (∀ r ∈ os, RO r) ∧ os.length = rs.length ∧
    (jIf (jB (jOp gEq (jOp jMod (jOp jDivJ (jCall F_law_cell (jCons (jV 0) (jCons (jC (.int 1)) jNil))) (jC (.int 19))) (jC (.int 4))) (jC (.int 0))))
      (jSeq (jSet 6 (jOp jMod (jOp jDivJ (jCall F_law_cell (jCons (jV 0) (jCons (jC (.int 1)) jNil))) (jC (.int 76))) (jCB gLen (jCons (jV 2) jNil))))
    (jSeq (jSet 7 (jLst (jCons (jTup (jCons (jC (.str "go")) (jCons (jOp gAdd (jOp jMul (jV 6) (jOp jPow (jC (.int 10)) (jC (.int 18)))) (jC (.int 7))) jNil))) (jCons (jTup (jCons (jC (.str "part")) (jCons (jOp gIx (jV 1) (jC (.int 0))) (jCons (jOp jSub (jOp jSub (jOp jPow (jC (.int 10)) (jC (.int 20))) (jC (.int 1))) (jV 6)) jNil)))) jNil))))
    (jSetIx 5 (jV 6) (jOp gIx (jV 7) (jOp jMod (jCall F_law_cell (jCons (jV 0) (jCons (jC (.int 2)) jNil))) (jC (.int 2)))))))
      jPass) (eL ns fs rs (some (.bo, .lst (rs.map Row.d))) none none none none none none) = some (.nx (eL ns fs rs (some (.bo, .lst (os.map Row.d))) o6 o7 none none none none)) := by
  have t : (jB (jOp gEq (jOp jMod (jOp jDivJ (jCall F_law_cell (jCons (jV 0) (jCons (jC (.int 1)) jNil))) (jC (.int 19))) (jC (.int 4))) (jC (.int 0)))) (eL ns fs rs (some (.bo, .lst (rs.map Row.d))) none none none none none none) = some (decide (c1 / 19 % 4 = 0)) := by
    unfold eL
    walk_at "ev"
    rw [e1]
    walk_at "ev"
  by_cases q : c1 / 19 % 4 = 0
  · have n0 := Int.emod_nonneg (c1 / 76) (show (rs.length : Int) ≠ 0 by omega)
    have n1 := Int.emod_lt_of_pos (c1 / 76) (show (0 : Int) < rs.length by omega)
    generalize hn : c1 / 76 % (rs.length : Int) = n at n0 n1
    have s6 : jSet 6 (jOp jMod (jOp jDivJ (jCall F_law_cell (jCons (jV 0) (jCons (jC (.int 1)) jNil))) (jC (.int 76))) (jCB gLen (jCons (jV 2) jNil))) (eL ns fs rs (some (.bo, .lst (rs.map Row.d))) none none none none none none) = some (.nx (eL ns fs rs (some (.bo, .lst (rs.map Row.d))) (some (.fr, .int n)) none none none none none)) := by
      unfold eL
      walk_at "ev"
      rw [e1]
      walk_at "ev"
      rw [mod_ii (by omega), hn]
      walk_at "ev"
    have p30 : (10 : Int) ^ 30 = 1000000000000000000000000000000 := by decide
    have k1 : RO (.go (n * 1000000000000000000 + 7)) := ⟨trivial, by omega, by omega⟩
    have k2 : RO (.pt (.inr f0) (99999999999999999999 - n)) := ⟨opd_name hv, by omega, by omega⟩
    have s7 : jSet 7 (jLst (jCons (jTup (jCons (jC (.str "go")) (jCons (jOp gAdd (jOp jMul (jV 6) (jOp jPow (jC (.int 10)) (jC (.int 18)))) (jC (.int 7))) jNil))) (jCons (jTup (jCons (jC (.str "part")) (jCons (jOp gIx (jV 1) (jC (.int 0))) (jCons (jOp jSub (jOp jSub (jOp jPow (jC (.int 10)) (jC (.int 20))) (jC (.int 1))) (jV 6)) jNil)))) jNil))) (eL ns fs rs (some (.bo, .lst (rs.map Row.d))) (some (.fr, .int n)) none none none none none) = some (.nx (eL ns fs rs (some (.bo, .lst (rs.map Row.d))) (some (.fr, .int n)) (some (.bo, .lst [Row.d (.go (n * 1000000000000000000 + 7)), Row.d (.pt (.inr f0) (99999999999999999999 - n))])) none none none none)) := by
      have p18 : jPow (.fr, .int 10) (.fr, .int 18) = some (.fr, .int 1000000000000000000) := pow_ii (by decide)
      have p20 : jPow (.fr, .int 10) (.fr, .int 20) = some (.fr, .int 100000000000000000000) := pow_ii (by decide)
      unfold eL
      walk_at "ev"
      rw [p18, p20, hf]
      walk_at "ev"
      rfl
    have m0 := Int.emod_nonneg c2 (show (2 : Int) ≠ 0 by decide)
    have m1 := Int.emod_lt_of_pos c2 (show (0 : Int) < 2 by decide)
    obtain ⟨x, hx, ex⟩ : ∃ x, RO x ∧ L2.atI [Row.d (.go (n * 1000000000000000000 + 7)), Row.d (.pt (.inr f0) (99999999999999999999 - n))] (c2 % 2) = some x.d := by
      have : c2 % 2 = 0 ∨ c2 % 2 = 1 := by omega
      rcases this with z | z
      · exact ⟨_, k1, by rw [z]; rfl⟩
      · exact ⟨_, k2, by rw [z]; rfl⟩
    refine ⟨rs.set n.toNat x, some (.fr, .int n), some (.bo, .lst [Row.d (.go (n * 1000000000000000000 + 7)), Row.d (.pt (.inr f0) (99999999999999999999 - n))]), fun r m => ?_, by simp, ?_⟩
    · rcases List.mem_or_eq_of_mem_set m with m | m
      · exact h r m
      · rw [m]; exact hx
    · rw [if_t (t.trans (by rw [decide_eq_true q])), seq_nx s6, seq_nx s7]
      have hix : ixN (rs.map Row.d).length n = some n.toNat := by
        rw [List.length_map]
        unfold ixN
        rw [if_pos (by omega), if_pos (by omega)]
      unfold eL
      walk_at "ev"
      rw [e2]
      walk_at "ev"
      rw [ex]
      have st : sto .fr x.d = true := rfl
      simp -implicitDefEqProofs only [Option.map_some, Option.bind_some, dInt_i, st, if_true]
      rw [show ixN rs.length n = some n.toNat by rw [← List.length_map (f := Row.d)]; exact hix]
      simp -implicitDefEqProofs only [Option.bind_some, set_rows]
  · exact ⟨rs, none, none, h, rfl, (if_f (t.trans (by rw [decide_eq_false q]))).trans pass1⟩
theorem law_true (ns : List Int) (hn : ns.length ≤ 63) : ∃ m, F_law [.lst (ns.map .int)] = some (m, .bl true) := by
  obtain ⟨c0, e0⟩ := cell_ok ns 0 (by decide) (by decide)
  obtain ⟨c1, e1⟩ := cell_ok ns 1 (by decide) (by decide)
  obtain ⟨c2, e2⟩ := cell_ok ns 2 (by decide) (by decide)
  obtain ⟨fs, fl, fv, en⟩ := names_ok c0 4 (by decide)
  have m0 := Int.emod_nonneg c1 (show (19 : Int) ≠ 0 by decide)
  have m1 := Int.emod_lt_of_pos c1 (show (0 : Int) < 19 by decide)
  obtain ⟨rs, ⟨g, lv, rv⟩, rl, _, rfl, ep⟩ := program_ok (J.cut ns (some 2) (some 42)) (Nat.le_trans (cut_len _ _ _) hn) fs fv (by omega) (by omega) (c1 % 19) (by omega)
  have hp := g.pos
  have esl := sl_ints (m := .al) ns (some 2) (some 42)
  have hne : rs ≠ [] := fun z => by rw [z] at hp; exact absurd hp (by decide)
  have ro : ∀ r ∈ rs, RO r := fun r hr => by
    obtain ⟨i, hi⟩ := List.getElem?_of_mem hr
    refine ⟨rv r hr, ?_⟩
    have e : (10 : Int) ^ 30 = 1000000000000000000000000000000 := by decide
    cases r with
    | go t => have := g.go i t hi; exact ⟨this.1, by omega⟩
    | pt a t => have := g.pt i a t hi; exact ⟨this.1, by omega⟩
    | _ => exact trivial
  have hsh := show_ok ro (by omega)
  have hrd := read_tx ro hne (by omega)
  have hsm := same_ok rs
  obtain ⟨f0, hf0, hfm⟩ := atI_strsM (ns := fs) (k := 0) (by decide) (by omega)
  obtain ⟨os, o6, o7, roo, ol, far⟩ := far_ok ns fs f0 hf0 (fv f0 hfm) rs ro hp rl e1 e2
  obtain ⟨e', l1, zs, o9, o10, op, he⟩ := forL_inv (g := gT 2 (gCons' (gN 9) (gCons' (gN 10) gNil'))) (b := B_law_1) (m := .fr) (ds := enumD (os.map Row.d)) (e := eL ns fs rs (some (.fr, .lst (os.map Row.d))) o6 o7 (some (.bo, .lst [])) none none none)
    (fun i e => ∃ (zs : List Str) (o9 o10 : Option (M × D)), OP (os.take i) zs ∧ e = eL ns fs rs (some (.fr, .lst (os.map Row.d))) o6 o7 (some (.bo, .lst (zs.map .str))) o9 o10 none)
    ⟨[], none, none, .nil, rfl⟩
    (fun i d e hd ⟨zs, o9, o10, op, he⟩ => by
      subst he
      obtain ⟨r, hi, rfl⟩ := enum_at hd
      have hlt : i < os.length := (List.getElem?_eq_some_iff.mp hi).1
      obtain ⟨zs', op', hb⟩ := law_turn ns (r := r) (i := i) (by omega) (roo r (List.mem_of_getElem? hi)) op (by rw [List.length_take]; omega)
      refine ⟨_, _, rfl, hb, zs', _, _, ?_, rfl⟩
      rw [List.take_succ, hi]
      exact op')
  have hL : (enumD (os.map Row.d)).length = os.length := by simp [enumD]
  rw [hL, List.take_length] at op
  have ons : os ≠ [] := fun z => by rw [z] at ol; exact absurd ol (by simp; omega)
  obtain ⟨r1, r2⟩ := read_loose op ons (by omega)
  have hso := same_ok os
  obtain ⟨zl, zb⟩ := op_len op
  have hj := @join_nl .fr .bo zs zb (by omega)
  have hj1 := @join_nl .fr .bo (rs.map lnW) (fun p m => by
    obtain ⟨r, hr, rfl⟩ := List.mem_map.mp m
    have := ln_len (ro r hr); omega) (by rw [List.length_map]; omega)
  have hlz := jn_chs zb (by omega)
  refine ⟨.fr, ?_⟩
  show (g_law [some (.al, .lst (ns.map .int)), none, none, none, none, none, none, none, none, none, none, none]).bind out = _
  unfold g_law
  have s1 : jSet 1 (jCall F_law_names (jCons (jCall F_law_cell (jCons (jV 0) (jCons (jC (.int 0)) jNil))) (jCons (jC (.int 4)) jNil))) [some (.al, .lst (ns.map .int)), none, none, none, none, none, none, none, none, none, none, none] = some (.nx [some (.al, .lst (ns.map .int)), some (.bo, .lst (fs.map .str)), none, none, none, none, none, none, none, none, none, none]) := by
    walk_at "ev"
    rw [e0]
    walk_at "ev"
    rw [show ((4 : Int)) = ((4 : Nat) : Int) from rfl, en]
    walk_at "ev"
  have s2 : jSet 2 (jCall F_law_program (jCons (jSl gSl (jV 0) (jPart (jC (.int 2))) (jPart (jC (.int 42)))) (jCons (jV 1) (jCons (jOp jMod (jCall F_law_cell (jCons (jV 0) (jCons (jC (.int 1)) jNil))) (jC (.int 19))) jNil)))) [some (.al, .lst (ns.map .int)), some (.bo, .lst (fs.map .str)), none, none, none, none, none, none, none, none, none, none] = some (.nx [some (.al, .lst (ns.map .int)), some (.bo, .lst (fs.map .str)), some (.bo, .lst (rs.map Row.d)), none, none, none, none, none, none, none, none, none]) := by
    walk_at "ev"
    rw [esl]
    walk_at "ev"
    rw [e1]
    walk_at "ev"
    rw [ep]
    walk_at "ev"
  have s3 : jFrz 2 (jSet 3 (jComp (itL (jV 2)) [] bYes (jBM isS gJoin (jC (.str " ")) (jCons (jCall F_law_words (jCons (jV 0) jNil)) jNil)))) [some (.al, .lst (ns.map .int)), some (.bo, .lst (fs.map .str)), some (.bo, .lst (rs.map Row.d)), none, none, none, none, none, none, none, none, none] = some (.nx [some (.al, .lst (ns.map .int)), some (.bo, .lst (fs.map .str)), some (.fr, .lst (rs.map Row.d)), some (.bo, .lst ((rs.map lnW).map .str)), none, none, none, none, none, none, none, none]) := by
    have c : compL bYes (jBM isS gJoin (jC (.str " ")) (jCons (jCall F_law_words (jCons (jV 0) jNil)) jNil)) .fr [] (rs.map Row.d) = some ((rs.map fun r => D.str (lnW r)).map fun x => (M.fr, x)) := comp_rows fun r m => by
      have a := lw_ok (ro r m).1 (ro r m).2
      have b := @jnW r .fr .un (ro r m).1 (ro r m).2
      simp -implicitDefEqProofs only [jBM, jC, isS, jCons, jNil, jCall, jV, List.getElem?_cons_zero, Option.bind_some, id_eq, List.map_cons, List.map_nil, a, b, if_true]
    show (((compL bYes _ .fr [] (rs.map Row.d)).bind jLstG).bind fun x => (toSlot x).bind fun y => some (Fl.nx (List.set _ 3 (some y)))) = _
    rw [c, Option.bind_some, lstG_fr (by rw [List.length_map]; omega), Option.bind_some, slot_un, Option.bind_some, List.map_map]
    rfl
  have s4 : jSet 4 (jBM isS gJoin (jC (.str "\n")) (jCons (jV 3) jNil)) [some (.al, .lst (ns.map .int)), some (.bo, .lst (fs.map .str)), some (.fr, .lst (rs.map Row.d)), some (.bo, .lst ((rs.map lnW).map .str)), none, none, none, none, none, none, none, none] = some (.nx (eL ns fs rs none none none none none none none)) := by
    simp -implicitDefEqProofs only [jSet, jBM, jC, isS, jCons, jNil, jV, List.getElem?_cons_zero, List.getElem?_cons_succ, Option.bind_some, id_eq, if_true, hj1, slot_fr, List.set_cons_zero, List.set_cons_succ]
    rfl
  have cs : ∀ {e : Ev}, jV 2 e = some (.fr, .lst (rs.map Row.d)) → (jCall F_show (jCons (jV 2) jNil)) e = some (.fr, .str (tx rs)) := fun {e} h => by
    simp only [jCall, jCons, jNil, h, Option.bind_some, List.map_cons, List.map_nil, hsh]
  have cm : ∀ {e : Ev}, jV 2 e = some (.fr, .lst (rs.map Row.d)) → jV 4 e = some (.fr, .str (tx rs)) → (jCall F_law_same (jCons (jCall F_read (jCons (jV 4) jNil)) (jCons (jV 2) jNil))) e = some (.fr, .bl true) := fun {e} h h' => by
    simp only [jCall, jCons, jNil, h, h', Option.bind_some, List.map_cons, List.map_nil, hrd, hsm]
  have t5 : (bOr (jB (jOp gNe (jCall F_show (jCons (jV 2) jNil)) (jV 4))) (bNot (jB (jCall F_law_same (jCons (jCall F_read (jCons (jV 4) jNil)) (jCons (jV 2) jNil)))))) (eL ns fs rs none none none none none none none) = some false := by
    rw [bor_f]
    · simp only [bNot, jB, cm (e := eL ns fs rs none none none none none none none) rfl rfl, Option.bind_some, dBl_b, Bool.not_true]
    · simp only [jB, jOp, cs (e := eL ns fs rs none none none none none none none) rfl, show jV 4 (eL ns fs rs none none none none none none none) = some (.fr, .str (tx rs)) from rfl, Option.bind_some, ne_ss, decide_true, Bool.not_true, dBl_b]
  have s6 : jSet 5 (jCB gList (jCons (jV 2) jNil)) (eL ns fs rs none none none none none none none) = some (.nx (eL ns fs rs (some (.bo, .lst (rs.map Row.d))) none none none none none none)) := by
    have : gList [(M.fr, D.lst (rs.map Row.d))] = some (.un, .lst (rs.map Row.d)) := mkL_fr
    simp only [jSet, jCB, jCons, jNil, show jV 2 (eL ns fs rs none none none none none none none) = some (.fr, .lst (rs.map Row.d)) from rfl, Option.bind_some, this, slot_un]
    rfl
  have s8 : jSet 8 (jLst jNil) (eL ns fs rs (some (.bo, .lst (os.map Row.d))) o6 o7 none none none none) = some (.nx (eL ns fs rs (some (.bo, .lst (os.map Row.d))) o6 o7 (some (.bo, .lst [])) none none none)) := rfl
  have s9 : jFrz 5 (jFor (itE (jCons (jV 5) jNil)) (gT 2 (gCons' (gN 9) (gCons' (gN 10) gNil'))) B_law_1) (eL ns fs rs (some (.bo, .lst (os.map Row.d))) o6 o7 (some (.bo, .lst [])) none none none) = some (.nx (eL ns fs rs (some (.fr, .lst (os.map Row.d))) o6 o7 (some (.bo, .lst (zs.map .str))) o9 o10 none)) := by
    rw [← he]
    exact l1
  have s10 : jSet 11 (jBM isS gJoin (jC (.str "\n")) (jCons (jV 8) jNil)) (eL ns fs rs (some (.fr, .lst (os.map Row.d))) o6 o7 (some (.bo, .lst (zs.map .str))) o9 o10 none) = some (.nx (eL ns fs rs (some (.fr, .lst (os.map Row.d))) o6 o7 (some (.bo, .lst (zs.map .str))) o9 o10 (some (.fr, .str (Txt.join ⟨#[10]⟩ zs))))) := by
    unfold eL
    simp -implicitDefEqProofs only [jSet, jBM, jC, isS, jCons, jNil, jV, List.getElem?_cons_zero, List.getElem?_cons_succ, Option.bind_some, id_eq, if_true, hj, slot_fr, List.set_cons_zero, List.set_cons_succ]
  have t11 : (bOr (bNot (jB (jCall F_law_same (jCons (jCall F_read (jCons (jV 11) jNil)) (jCons (jV 5) jNil))))) (bNot (jB (jCall F_law_same (jCons (jCall F_read (jCons (jOp gAdd (jV 11) (jC (.str "\n"))) jNil)) (jCons (jV 5) jNil)))))) (eL ns fs rs (some (.fr, .lst (os.map Row.d))) o6 o7 (some (.bo, .lst (zs.map .str))) o9 o10 (some (.fr, .str (Txt.join ⟨#[10]⟩ zs)))) = some false := by
    have v5 : jV 5 (eL ns fs rs (some (.fr, .lst (os.map Row.d))) o6 o7 (some (.bo, .lst (zs.map .str))) o9 o10 (some (.fr, .str (Txt.join ⟨#[10]⟩ zs)))) = some (.fr, .lst (os.map Row.d)) := rfl
    have v11 : jV 11 (eL ns fs rs (some (.fr, .lst (os.map Row.d))) o6 o7 (some (.bo, .lst (zs.map .str))) o9 o10 (some (.fr, .str (Txt.join ⟨#[10]⟩ zs)))) = some (.fr, .str (Txt.join ⟨#[10]⟩ zs)) := rfl
    have hz : (100000 : Nat) ≤ sizeLine := by decide
    rw [bor_f]
    · simp only [bNot, jB, jCall, jCons, jNil, jOp, jC, nl_s, v5, v11, Option.bind_some]
      rw [add_ss (by show _ + 1 ≤ _; omega)]
      simp only [Option.bind_some, List.map_cons, List.map_nil, r2, hso, dBl_b, Bool.not_true]
    · simp only [bNot, jB, jCall, jCons, jNil, v5, v11, Option.bind_some, List.map_cons, List.map_nil, r1, hso, dBl_b, Bool.not_true]
  rw [seq_nx s1, seq_nx s2, seq_nx s3, seq_nx s4, seq_nx ((if_f t5).trans pass1), seq_nx s6, seq_nx far, seq_nx s8, seq_nx s9, seq_nx s10, seq_nx ((if_f t11).trans pass1)]
  simp only [jRet, jAnd, jOp, cs (e := eL ns fs rs (some (.fr, .lst (os.map Row.d))) o6 o7 (some (.bo, .lst (zs.map .str))) o9 o10 (some (.fr, .str (Txt.join ⟨#[10]⟩ zs)))) rfl, cm (e := eL ns fs rs (some (.fr, .lst (os.map Row.d))) o6 o7 (some (.bo, .lst (zs.map .str))) o9 o10 (some (.fr, .str (Txt.join ⟨#[10]⟩ zs)))) rfl rfl, show jV 4 (eL ns fs rs (some (.fr, .lst (os.map Row.d))) o6 o7 (some (.bo, .lst (zs.map .str))) o9 o10 (some (.fr, .str (Txt.join ⟨#[10]⟩ zs)))) = some (.fr, .str (tx rs)) from rfl, Option.bind_some, eq_ss, decide_true, dBl_b, if_true]
  rfl
end K14
namespace K14
open PySem PySem.Spec L2 My J
theorem walk {l : PySem.W.OpenLaw} {q : Program} {loose : List Str} {XP : (Str → Option Value) → Heap → Prop} {YP : World → Heap → Prop} {d : DefRec} {K : Params → PySem.W.Frag} (hn : l.most = some 63) (hdf : d.params.defaults = []) (hd : d.name = "law")
    (hY : ∀ (w : World) (h : Heap), YP w h → (K w.params).In h) (F : ∀ (w : World), C.DEs (K w.params) ds29 ∧ C.NBs (K w.params) bs ∧ C.GEs (K w.params) gs) :
    PySem.W.WalkO q loose XP YP l.row.toRowW d [] (fun f vs => PySem.call f vs) :=
  L2.walk_of (n := 63) (k := 7) (x := "_law_script") (CX := fun _ => CX0) (sp := fun w => spJ (K w.params) 1 F_law) hn (by decide) hdf ⟨rfl, by decide, by decide⟩ hY (fun w mg fa h X G hfa => C.lawOk X G (hd ▸ hfa) (F w).2.1 (F w).2.2 (F w).1 ba ok e29 fun _ _ _ _ _ _ _ _ => .of_eq rfl) (fun _ _ a ns hl _ hS => law_sp hS (law_true ns hl)) fun _ _ _ _ _ z => z
end K14
noncomputable def PySem.W.Fast.tw9051524132070791091 : Nat := 0
noncomputable def PySem.W.Fast.tw1569919725363665233 : Nat := 0
noncomputable def PySem.W.Fast.tw10017693339671245774 : Nat := 0
noncomputable def PySem.W.Fast.tw6738143639997470279 : Nat := 0
noncomputable def PySem.W.Fast.tw6528432518567323800 : Nat := 0
noncomputable def PySem.W.Fast.tw11378923983161257766 : Nat := 0
noncomputable def PySem.W.Fast.tw2717151745188983870 : Nat := 0
noncomputable def PySem.W.Fast.tw232020774140378766 : Nat := 0
noncomputable def PySem.W.Fast.tw14491018423396325292 : Nat := 0
noncomputable def PySem.W.Fast.tw15089244403525232329 : Nat := 0
noncomputable def PySem.W.Fast.tw4712702288726376437 : Nat := 0
noncomputable def PySem.W.Fast.tw12911255054849010733 : Nat := 0
noncomputable def PySem.W.Fast.tw2332543766283230861 : Nat := 0
noncomputable def PySem.W.Fast.tw18004226690813185827 : Nat := 0
noncomputable def PySem.W.Fast.tw10953044932554825685 : Nat := 0
noncomputable def PySem.W.Fast.tw9292632803496443540 : Nat := 0
noncomputable def PySem.W.Fast.tw10795995440327701815 : Nat := 0
noncomputable def PySem.W.Fast.tw4114752259509801918 : Nat := 0
noncomputable def PySem.W.Fast.tw14040061245775727897 : Nat := 0
noncomputable def PySem.W.Fast.tw13019616924400998241 : Nat := 0
noncomputable def PySem.W.Fast.tw15658713496617503302 : Nat := 0
noncomputable def PySem.W.Fast.tw9415607517285966858 : Nat := 0
noncomputable def PySem.W.Fast.tw15916618425557368269 : Nat := 0
noncomputable def PySem.W.Fast.tw6631976805399104639 : Nat := 0
noncomputable def PySem.W.Fast.tw9972342924914759936 : Nat := 0
noncomputable def PySem.W.Fast.tw9971959641056941281 : Nat := 0
noncomputable def PySem.W.Fast.tw16457395626574551742 : Nat := 0
noncomputable def PySem.W.Fast.tw14165628846806898235 : Nat := 0
noncomputable def PySem.W.Fast.tw17729271227949331614 : Nat := 0
noncomputable def PySem.W.Fast.tw13667673744261860695 : Nat := 0
noncomputable def PySem.W.Fast.tw6086988144100072112 : Nat := 0
noncomputable def PySem.W.Fast.tw17624875011168523524 : Nat := 0
noncomputable def PySem.W.Fast.tw10595653008390298647 : Nat := 0
noncomputable def PySem.W.Fast.tw13235604357099230325 : Nat := 0
noncomputable def PySem.W.Fast.tw13005398738991294037 : Nat := 0
noncomputable def PySem.W.Fast.tw11023246816060223393 : Nat := 0
noncomputable def PySem.W.Fast.tw6591873367665362389 : Nat := 0
noncomputable def PySem.W.Fast.tw6904775162437047180 : Nat := 0
noncomputable def PySem.W.Fast.tw12600706182346426496 : Nat := 0
noncomputable def PySem.W.Fast.tw10771363827389731463 : Nat := 0
noncomputable def PySem.W.Fast.tw3508423705606451095 : Nat := 0
noncomputable def PySem.W.Fast.tw4359156473681006634 : Nat := 0
noncomputable def PySem.W.Fast.tw10822790877718688126 : Nat := 0
open PySem PySem.W PyProof.Rows
set_option maxRecDepth 100000 in
set_option maxHeartbeats 0 in
theorem PySem.Challenge.cw_lazyhoist_k14_texts_there_and_back_holds : PySem.Challenge.rw_lazyhoist_k14_texts_there_and_back.Holds := by
  w_on; o_law; k_head; (case hw => w_witness2)
  k_fill
  refine K14.walk (l := PySem.Challenge.rw_lazyhoist_k14_texts_there_and_back) rfl rfl rfl (fun w h Y => PySem.W.kIn_of Y) ?F
  case F =>
    intro w
    refine ⟨⟨?qd29, ?qd28, ?qd27, ?qd26, ?qd25, ?qd24, ?qd23, ?qd22, ?qd21, ?qd20, ?qd19, ?qd18, ?qd17, ?qd16, ?qd15, ?qd14, ?qd13, ?qd12, ?qd11, ?qd10, ?qd9, ?qd8, ?qd7, ?qd6, ?qd5, ?qd4, ?qd3, ?qd2, ?qd1, trivial⟩, ⟨?qz0, ?qz1, ?qz2, ?qz3, ?qz4, ?qz5, ?qz6, ?qz7, ?qz8, ?qz9, ?qz10, ?qz11, trivial⟩, ?qg0, ?qg1, ?qg2, ?qg3, trivial⟩
    case qd29 => (show C.DE _ "law" (K14.top 38)); (refine' C.deMk ?a ?l ?c ?k); (case a => k_is); (case l => k_is); (case c => k_is); (case k => k_is)
    case qd28 => (show C.DE _ "_law_same" (K14.top 37)); (refine' C.deMk ?a ?l ?c ?k); (case a => k_is); (case l => k_is); (case c => k_is); (case k => k_is)
    case qd27 => (show C.DE _ "_law_loosened" (K14.top 36)); (refine' C.deMk ?a ?l ?c ?k); (case a => k_is); (case l => k_is); (case c => k_is); (case k => k_is)
    case qd26 => (show C.DE _ "_law_words" (K14.top 35)); (refine' C.deMk ?a ?l ?c ?k); (case a => k_is); (case l => k_is); (case c => k_is); (case k => k_is)
    case qd25 => (show C.DE _ "_law_program" (K14.top 34)); (refine' C.deMk ?a ?l ?c ?k); (case a => k_is); (case l => k_is); (case c => k_is); (case k => k_is)
    case qd24 => (show C.DE _ "_law_tested" (K14.top 33)); (refine' C.deMk ?a ?l ?c ?k); (case a => k_is); (case l => k_is); (case c => k_is); (case k => k_is)
    case qd23 => (show C.DE _ "_law_turned_to" (K14.top 32)); (refine' C.deMk ?a ?l ?c ?k); (case a => k_is); (case l => k_is); (case c => k_is); (case k => k_is)
    case qd22 => (show C.DE _ "_law_shut" (K14.top 31)); (refine' C.deMk ?a ?l ?c ?k); (case a => k_is); (case l => k_is); (case c => k_is); (case k => k_is)
    case qd21 => (show C.DE _ "_law_row" (K14.top 30)); (refine' C.deMk ?a ?l ?c ?k); (case a => k_is); (case l => k_is); (case c => k_is); (case k => k_is)
    case qd20 => (show C.DE _ "_law_operand" (K14.top 29)); (refine' C.deMk ?a ?l ?c ?k); (case a => k_is); (case l => k_is); (case c => k_is); (case k => k_is)
    case qd19 => (show C.DE _ "_law_digits" (K14.top 28)); (refine' C.deMk ?a ?l ?c ?k); (case a => k_is); (case l => k_is); (case c => k_is); (case k => k_is)
    case qd18 => (show C.DE _ "_law_names" (K14.top 27)); (refine' C.deMk ?a ?l ?c ?k); (case a => k_is); (case l => k_is); (case c => k_is); (case k => k_is)
    case qd17 => (show C.DE _ "_law_cell" (K14.top 26)); (refine' C.deMk ?a ?l ?c ?k); (case a => k_is); (case l => k_is); (case c => k_is); (case k => k_is)
    case qd16 => (show C.DE _ "show" (K14.top 23)); (refine' C.deMk ?a ?l ?c ?k); (case a => k_is); (case l => k_is); (case c => k_is); (case k => k_is)
    case qd15 => (show C.DE _ "line_of" (K14.top 24)); (refine' C.deMk ?a ?l ?c ?k); (case a => k_is); (case l => k_is); (case c => k_is); (case k => k_is)
    case qd14 => (show C.DE _ "read" (K14.top 17)); (refine' C.deMk ?a ?l ?c ?k); (case a => k_is); (case l => k_is); (case c => k_is); (case k => k_is)
    case qd13 => (show C.DE _ "words_of" (K14.top 18)); (refine' C.deMk ?a ?l ?c ?k); (case a => k_is); (case l => k_is); (case c => k_is); (case k => k_is)
    case qd12 => (show C.DE _ "row_of" (K14.top 19)); (refine' C.deMk ?a ?l ?c ?k); (case a => k_is); (case l => k_is); (case c => k_is); (case k => k_is)
    case qd11 => (show C.DE _ "value_of" (K14.top 20)); (refine' C.deMk ?a ?l ?c ?k); (case a => k_is); (case l => k_is); (case c => k_is); (case k => k_is)
    case qd10 => (show C.DE _ "writes_number" (K14.top 21)); (refine' C.deMk ?a ?l ?c ?k); (case a => k_is); (case l => k_is); (case c => k_is); (case k => k_is)
    case qd9 => (show C.DE _ "number_of" (K14.top 22)); (refine' C.deMk ?a ?l ?c ?k); (case a => k_is); (case l => k_is); (case c => k_is); (case k => k_is)
    case qd8 => (show C.DE _ "is_row" (K14.top 14)); (refine' C.deMk ?a ?l ?c ?k); (case a => k_is); (case l => k_is); (case c => k_is); (case k => k_is)
    case qd7 => (show C.DE _ "is_reckoning" (K14.top 15)); (refine' C.deMk ?a ?l ?c ?k); (case a => k_is); (case l => k_is); (case c => k_is); (case k => k_is)
    case qd6 => (show C.DE _ "is_target" (K14.top 13)); (refine' C.deMk ?a ?l ?c ?k); (case a => k_is); (case l => k_is); (case c => k_is); (case k => k_is)
    case qd5 => (show C.DE _ "is_sign" (K14.top 12)); (refine' C.deMk ?a ?l ?c ?k); (case a => k_is); (case l => k_is); (case c => k_is); (case k => k_is)
    case qd4 => (show C.DE _ "is_operand" (K14.top 11)); (refine' C.deMk ?a ?l ?c ?k); (case a => k_is); (case l => k_is); (case c => k_is); (case k => k_is)
    case qd3 => (show C.DE _ "is_worth" (K14.top 10)); (refine' C.deMk ?a ?l ?c ?k); (case a => k_is); (case l => k_is); (case c => k_is); (case k => k_is)
    case qd2 => (show C.DE _ "is_number" (K14.top 9)); (refine' C.deMk ?a ?l ?c ?k); (case a => k_is); (case l => k_is); (case c => k_is); (case k => k_is)
    case qd1 => (show C.DE _ "is_name" (K14.top 8)); (refine' C.deMk ?a ?l ?c ?k); (case a => k_is); (case l => k_is); (case c => k_is); (case k => k_is)
    case qz0 => (show PySem.W.nsIn _ mainGlobals "abs" = some none); k_is
    case qz1 => (show PySem.W.nsIn _ mainGlobals "all" = some none); k_is
    case qz2 => (show PySem.W.nsIn _ mainGlobals "any" = some none); k_is
    case qz3 => (show PySem.W.nsIn _ mainGlobals "bool" = some none); k_is
    case qz4 => (show PySem.W.nsIn _ mainGlobals "enumerate" = some none); k_is
    case qz5 => (show PySem.W.nsIn _ mainGlobals "int" = some none); k_is
    case qz6 => (show PySem.W.nsIn _ mainGlobals "isinstance" = some none); k_is
    case qz7 => (show PySem.W.nsIn _ mainGlobals "len" = some none); k_is
    case qz8 => (show PySem.W.nsIn _ mainGlobals "list" = some none); k_is
    case qz9 => (show PySem.W.nsIn _ mainGlobals "range" = some none); k_is
    case qz10 => (show PySem.W.nsIn _ mainGlobals "str" = some none); k_is
    case qz11 => (show PySem.W.nsIn _ mainGlobals "tuple" = some none); k_is
    case qg0 => (show C.GE _ "SIGNS" (.t ["+", "-", "*", "&", "|", "^", "<", "="])); (refine' C.geT ?a ?l ?v (by decide)); (case a => k_is); (case l => k_is); (case v => exact rfl)
    case qg1 => (show C.GE _ "ROW_WORDS" (.t ["say", "go", "part", "end"])); (refine' C.geT ?a ?l ?v (by decide)); (case a => k_is); (case l => k_is); (case v => exact rfl)
    case qg2 => (show C.GE _ "LETTERS" (.s "abcdefghijklmnopqrstuvwxyz")); (refine' C.geS ?a); (case a => k_is)
    case qg3 => (show C.GE _ "FIGURES" (.s "0123456789")); (refine' C.geS ?a); (case a => k_is)
